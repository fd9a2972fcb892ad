import PyProof.Rows.All
import Wide.All
import OpenK.AllK
import Wide.FinOn
import Lean
import PyProof.EqAt
import PyProof.EqKinds
import PyProof.TupleCall
import PyProof.NeKinds
import PyProof.ListMulRoad
import PyProof.AttrMissHeap
import KE.KDictOf
import KE.KRevIter
import PyProof.ListRange
import PySem.Challenge.RW_turnweave_k31_least_road_over_both
set_option Elab.async false
set_option compiler.extract_closed false
set_option linter.all false
set_option maxRecDepth 100000
set_option maxHeartbeats 4000000
section
namespace L2
open PySem PySem.Spec PyProof.Rows
noncomputable abbrev Key:=Sum Int Str
noncomputable def zoy:Key→Value→Bool
 | .inl k,v=>Value.isInt k v
 | .inr x,v=>Value.isStrOf x v
noncomputable def zBe (w:World):Key→Int
 | .inl k=>hashInt k
 | .inr x=>hashStr w x
theorem zbl:∀{k:Key}{v:Value},zoy k v=true→(∃i t,k=Sum.inl i∧v=Value.int i t)∨(∃x t,k=Sum.inr x∧v=Value.str x t)
 | .inl i,v,h=>by
  obtain⟨t,e⟩:=Value.isInt_shape (k:=i) (v:=v) h;exact .inl ⟨i,t,rfl,e⟩
 | .inr x,v,h=>by
  obtain⟨t,e⟩:=Value.isStrOf_shape (x:=x) (v:=v) h;exact .inr ⟨x,t,rfl,e⟩
theorem zpZ (i:Int) (t:Tok):zoy (.inl i) (.int i t)=true:=by simp [zoy,Value.isInt]
theorem zoQ (x:Str) (t:Tok):zoy (.inr x) (.str x t)=true:=by simp [zoy,Value.isStrOf]
theorem zxr (a b:Int):decide ((Sum.inl a:Key)=Sum.inl b)=(a == b):=by
 by_cases e:a=b
 ·subst e;simp
 ·have h:¬(Sum.inl a:Key)=Sum.inl b:=fun q=>e (Sum.inl.inj q);rw [decide_eq_false h];exact(beq_eq_false_iff_ne.mpr e).symm
theorem zxI (a b:Str):decide ((Sum.inr a:Key)=Sum.inr b)=decide (a=b):=by
 by_cases e:a=b
 ·subst e;simp
 ·have h:¬(Sum.inr a:Key)=Sum.inr b:=fun q=>e (Sum.inr.inj q);rw [decide_eq_false h,decide_eq_false e]
theorem zxY (a:Int) (b:Str):decide ((Sum.inl a:Key)=Sum.inr b)=false:=decide_eq_false (fun q=>nomatch q)
theorem zxD (a:Str) (b:Int):decide ((Sum.inr a:Key)=Sum.inl b)=false:=decide_eq_false (fun q=>nomatch q)
noncomputable def zbw (prog:Program) (w:World):PySem.KeyKind prog w Key where
  is:=zoy
  hash:=zBe w
  inj:=fun v a b ha hb=>by
    rcases zbl ha with⟨i,t,rfl,rfl⟩ |⟨x,t,rfl,rfl⟩
    · rcases zbl hb with⟨j,u,rfl,e⟩ |⟨y,u,rfl,e⟩
      · injection e with e1 _;rw [e1]
      · exact nomatch e
    · rcases zbl hb with⟨j,u,rfl,e⟩ |⟨y,u,rfl,e⟩
      · exact nomatch e
      · injection e with e1 _;rw [e1]
  byValue:=fun k v h=>by
    rcases zbl h with⟨i,t,rfl,rfl⟩ |⟨x,t,rfl,rfl⟩<;>rfl
  pyHash:=fun hv h=>by
    rcases zbl hv with⟨i,t,rfl,rfl⟩ |⟨x,t,rfl,rfl⟩
    · exact wpAny_pyHash_int h
    · exact wpAny_pyHash_str h
  eqBool:=fun hu hv h=>by
    rcases zbl hu with⟨i,t,rfl,rfl⟩ |⟨x,t,rfl,rfl⟩
    · rcases zbl hv with⟨j,u,rfl,rfl⟩ |⟨y,u,rfl,rfl⟩
      · rw [zxr]at h;exact wpAny_eqBool_int h
      · rw [zxY]at h;exact SeqAt.EqAt.int_str i t y u _ _ _ _ h
    · rcases zbl hv with⟨j,u,rfl,rfl⟩ |⟨y,u,rfl,rfl⟩
      · rw [zxD]at h;exact SeqAt.EqAt.str_int x t j u _ _ _ _ h
      · rw [zxI]at h;exact wpAny_eqBool_str h
  «strs» :=fun k x t v h=>by
    rcases zbl h with⟨i,u,rfl,e⟩ |⟨y,u,rfl,e⟩
    · exact nomatch e
    · injection e with e1 _;subst e1;cases v<;>rfl
theorem zly (prog:Program) (w:World) (i:Int) (t:Tok):(zbw prog w).is (.inl i) (.int i t)=true:=zpZ i t
theorem zlu (prog:Program) (w:World) (x:Str) (t:Tok):(zbw prog w).is (.inr x) (.str x t)=true:=zoQ x t
inductive V where
  |non |bl (b:Bool) |int (i:Int) |str (x:Str) |byt (b:Array UInt8) |flt (b:UInt64) |ref (a:Addr) |ty (n:String)
  deriving DecidableEq
noncomputable def RelV:V→Value→Prop
 | .non,u=>u=Value.none
 | .bl b,u=>u=Value.bool b
 | .int i,u=>∃t,u=Value.int i t
 | .str x,u=>∃t,u=Value.str x t
 | .byt b,u=>∃t,u=Value.bytes b t
 | .flt b,u=>∃t,u=Value.float b t
 | .ref a,u=>u=Value.ref a
 | .ty n,u=>u=Value.type n
noncomputable abbrev Vals:List V→List Value→Prop:=Paired RelV
theorem Vals.length{xs:List V}{us:List Value}(r:Vals xs us):xs.length=us.length:=Paired.length r
theorem Vals.get:∀{xs:List V}{us:List Value}{i:Nat}{x:V},Vals xs us→xs[i]? =some x→ ∃u,us[i]? =some u∧RelV x u
 |_,_,_,_, .nil,e=>by simp at e
 |_,_,0,_, .cons r _,e=>by simp at e;subst e;exact⟨_,rfl,r⟩
 |_,_,i+1,x, .cons _ t,e=>by
  obtain⟨u,h1,h2⟩:=Vals.get (i:=i) (x:=x) t (by simpa using e);exact⟨u,by simpa using h1,h2⟩
theorem Vals.append:∀{xs ys:List V}{us ws:List Value},Vals xs us→Vals ys ws→Vals (xs++ys) (us++ws)
 |_,_,_,_, .nil,s=>s
 |_,_,_,_, .cons r t,s=> .cons r (Vals.append t s)
theorem Vals.take:∀{xs:List V}{us:List Value}(n:Nat),Vals xs us→Vals (xs.take n) (us.take n)
 |_,_,0,_=> .nil
 |_,_,_+1, .nil=> .nil
 |_,_,n+1, .cons r t=> .cons r (Vals.take n t)
theorem Vals.drop:∀{xs:List V}{us:List Value}(n:Nat),Vals xs us→Vals (xs.drop n) (us.drop n)
 |_,_,0,r=>r
 |_,_,_+1, .nil=> .nil
 |_,_,n+1, .cons _ t=>Vals.drop n t
noncomputable def RelO:Option V→Option Value→Prop
 |some v,some u=>RelV v u
 |none,none=>True
 |_,_=>False
noncomputable def KV {κ:Type}:List (κ×V)→List (κ×Value)→Prop:=Paired fun(p:κ×V) (q:κ×Value)=>p.1=q.1∧RelV p.2 q.2
noncomputable def kV:Key→V
 | .inl i=> .int i
 | .inr x=> .str x
inductive HO where
    |lst (xs:List V)
    |tup (xs:List V)
    |dK (kvs:List (Key×V)) |dT (kvs:List (List Key×V))
    |set (S:Int→Bool) (n:Nat)
    |ins (C dx:Addr) (fs:List (Str×V))
    |own (x:Addr)
    |xd (fs:List (Str×V))
    |met (f x:Addr)
    |rng (lo hi:Int)
    |frz (o:Obj) (u:HO)
    |tbl (ps:Array Value)
    |ext (φ:Heap→Prop)
noncomputable abbrev Hp:=Addr→Option HO
noncomputable def upd (H:Hp) (a:Addr) (o:HO):Hp:=fun b=>if b=a then some o else H b
theorem zaz{H:Hp}{a:Addr}{o:HO}:upd H a o a=some o:=by unfold upd;rw [if_pos rfl]
theorem zaw{H:Hp}{a b:Addr}{o:HO}(h:b≠a):upd H a o b=H b:=by unfold upd;rw [if_neg h]
theorem zrE{H:Hp}{a b:Addr}{o u:HO}(h:H a=some o) (h':H b=some u) (d:o≠u):a≠b:=by
 intro e;subst e;rw [h]at h';exact d (Option.some.inj h')
theorem zar{H:Hp}{a b:Addr}{o:HO}(h:H a=some o) (h':H b=none):a≠b:=by
 intro e;subst e;rw [h]at h';cases h'
section
variable (P:Program) (w:World)
noncomputable def ObjOk (H:Hp) (h:Heap) (a:Addr):HO→Prop
 | .lst xs=>xs.length≤sizeLine∧ ∃(its:List Value) (n:Nat),Vals xs its∧h.get? a=some { cls:= .type "list",data:= .seq its.toArray n }
 | .tup xs=>xs.length≤sizeLine∧ ∃its:List Value,Vals xs its∧IsTup h a its.toArray
 | .dK kvs=>kvs.length≤sizeLine∧(a == sysModules)=false∧ ∃vs,KV kvs vs∧h.DictOf (zbw P w) a vs
 | .dT kvs=>kvs.length≤sizeLine∧(a == sysModules)=false∧ ∃xs:List (List Key×Addr×Value),
   Paired (fun(p:List Key×V) (q:List Key×Addr×Value)=>p.1=q.1∧H q.2.1=some (.tup (p.1.map kV))∧RelV p.2 q.2.2) kvs xs∧
   ∃o es ep,h.get? a=some o∧o.ExactDict∧o.data= .dict es ep∧es.toList=xs.map (entryOfKey (tupleKind (zbw P w)))∧(xs.map (·.1)).Nodup
 | .set S n=>h.SetOf (intKind P w) a S n
 | .ins C dx fs=>H dx=some (.own a)∧fs.length≤1000∧dx≠a∧h.get? a=some (PySem.W.instObj C dx)∧
   ∃mA,h.Ns1 dx mA∧(∀f,RelO (fs.lookup f) (mA f))∧PySem.Within mA (fs.map (·.1))
 | .own _=>∃o,h.get? a=some o
 | .xd fs=>∃mA,h.Ns1 a mA∧ ∀f,RelO (fs.lookup f) (mA f)
 | .rng lo hi=>∃t u v,h.get? a=some { cls:= .type "range",data:= .fields #[.int lo t, .int hi u, .int 1 v] }
 | .frz o u=>h.get? a=some o∧ObjOk H h a u
 | .tbl ps=>h.get? a=some { cls:= .none,data:= .fields ps }
 | .met f x=>h.get? a=some (PySem.W.methodObj (.ref f) (.ref x))
 | .ext φ=>φ h∧(∃o,h.get? a=some o)∧ ∀h1 h2:Heap,φ h1→(∀o,h1.get? a=some o→h2.get? a=some o)→φ h2
noncomputable def HOk (H:Hp) (h:Heap):Prop:=∀a o,H a=some o→ObjOk P w H h a o
end
section
variable {P:Program}{w:World}{H H':Hp}{h h':Heap}{a:Addr}{o:HO}
theorem ObjOk.lt (x:ObjOk P w H h a o):a<h.objs.size:=by
 cases o with
 |lst xs=>obtain⟨_,_,_,_,e⟩:=x;exact Heap.lt_size e
 |tup xs=>obtain⟨_,_,_,p⟩:=x;exact p.lt
 |dK kvs=>obtain⟨_,_,_,_,o,_,_,e,_⟩:=x;exact Heap.lt_size e
 |dT kvs=>obtain⟨_,_,_,_,o,_,_,e,_⟩:=x;exact Heap.lt_size e
 |set S n=>obtain⟨o,_,_,_,e,_⟩:=x;exact Heap.lt_size e
 |ins C dx fs=>obtain⟨_,_,_,e,_⟩:=x;exact Heap.lt_size e
 |own y=>obtain⟨_,e⟩:=x;exact Heap.lt_size e
 |xd fs=>obtain⟨_,⟨_,_,_,e,_⟩,_⟩:=x;exact Heap.lt_size e
 |rng lo hi=>obtain⟨_,_,_,e⟩:=x;exact Heap.lt_size e
 |frz ob u=>obtain⟨e,_⟩:=x;exact Heap.lt_size e
 |tbl ps=>exact Heap.lt_size (show h.get? a=some _ from x)
 |met f y=>exact Heap.lt_size (show h.get? a=some _ from x)
 |ext φ=>obtain⟨_,⟨_,e⟩,_⟩:=x;exact Heap.lt_size e
theorem Paired.mapP{α β:Type}{F G:α→β→Prop}:∀{l₁:List α}{l₂:List β},Paired F l₁ l₂→(∀a b,F a b→G a b)→Paired G l₁ l₂
 |_,_, .nil,_=> .nil
 |_,_, .cons r t,f=> .cons (f _ _ r) (Paired.mapP t f)
theorem ObjOk.stay (x:ObjOk P w H h a o) (k:∀b u,(b=a∨H b=some (.own a))→h.get? b=some u→h'.get? b=some u)
  (ho:∀b,H b=some (.own a)→H' b=some (.own a)) (ht:∀b xs,H b=some (.tup xs)→H' b=some (.tup xs)):ObjOk P w H' h' a o:=by
 induction o with
 |lst xs=>obtain⟨z,its,n,r,e⟩:=x;exact⟨z,its,n,r,k _ _ (.inl rfl) e⟩
 |tup xs=>obtain⟨z,its,r,ob,e,c⟩:=x;exact⟨z,its,r,ob,k _ _ (.inl rfl) e,c⟩
 |dK kvs=>obtain⟨z,y,vs,r,ob,es,ep,e,c⟩:=x;exact⟨z,y,vs,r,ob,es,ep,k _ _ (.inl rfl) e,c⟩
 |dT kvs=>
  obtain⟨z,y,xs,r,ob,es,ep,e,c⟩:=x;exact⟨z,y,xs,Paired.mapP r fun p q z=>⟨z.1,ht _ _ z.2.1,z.2.2⟩,ob,es,ep,k _ _ (.inl rfl) e,c⟩
 |set S n=>obtain⟨ob,es,ep,t,e,c⟩:=x;exact⟨ob,es,ep,t,k _ _ (.inl rfl) e,c⟩
 |ins C dx fs=>
  obtain⟨d,z,ne,e,mA,⟨od,es,ep,e2,c⟩,r⟩:=x;exact⟨ho _ d,z,ne,k _ _ (.inl rfl) e,mA,⟨od,es,ep,k _ _ (.inr d) e2,c⟩,r⟩
 |own y=>obtain⟨ob,e⟩:=x;exact⟨ob,k _ _ (.inl rfl) e⟩
 |xd fs=>obtain⟨mA,⟨od,es,ep,e,c⟩,r⟩:=x;exact⟨mA,⟨od,es,ep,k _ _ (.inl rfl) e,c⟩,r⟩
 |rng lo hi=>obtain⟨t,u,v,e⟩:=x;exact⟨t,u,v,k _ _ (.inl rfl) e⟩
 |frz ob u ih=>obtain⟨e,q⟩:=x;exact⟨k _ _ (.inl rfl) e,ih q⟩
 |tbl ps=>
  have e:h.get? a=some { cls:= .none,data:= .fields ps }:=x;show h'.get? a=some { cls:= .none,data:= .fields ps };exact k a _ (.inl rfl) e
 |met f y=>
  have e:h.get? a=some (PySem.W.methodObj (.ref f) (.ref y)):=x;show h'.get? a=some (PySem.W.methodObj (.ref f) (.ref y));exact k a _ (.inl rfl) e
 |ext φ=>obtain⟨p,⟨o,e⟩,st⟩:=x;exact⟨st _ _ p fun o q=>k _ _ (.inl rfl) q,⟨o,k _ _ (.inl rfl) e⟩,st⟩
theorem HOk.lt (x:HOk P w H h) (e:H a=some o):a<h.objs.size:=(x a o e).lt
theorem HOk.fresh (x:HOk P w H h) (e:h.objs.size≤a):H a=none:=by
 cases q:H a with
 |none=>rfl
 |some u=>exact absurd (Nat.lt_of_lt_of_le (x.lt q) e) (Nat.lt_irrefl _)
theorem HOk.kept (x:HOk P w H h) (k:∀b u,h.get? b=some u→h'.get? b=some u):HOk P w H h':=fun a o e=>
 (x a o e).stay (fun b u _ q=>k b u q) (fun _ q=>q) fun _ _ q=>q
theorem HOk.laid (x:HOk P w H h) (k:∀b u,h.get? b=some u→h'.get? b=some u) (hp:h.objs.size≤a) (new:ObjOk P w (upd H a o) h' a o):HOk P w (upd H a o) h':=fun b u e=>by
 have hn:=x.fresh hp;by_cases hb:b=a
 ·subst hb;rw [zaz]at e;cases e;exact new
 ·rw [zaw hb]at e;exact(x b u e).stay (fun c v _ q=>k c v q) (fun c q=>by rw [zaw (zar q hn)];exact q) fun c xs q=>by rw [zaw (zar q hn)];exact q
end
noncomputable def Rd (H:Hp) (a:Addr) (u:HO):Prop:=H a=some u∨ ∃o,H a=some (.frz o u)
theorem Rd.ok{P:Program}{w:World}{H:Hp}{h:Heap}{a:Addr}{u:HO}(r:Rd H a u) (x:HOk P w H h):ObjOk P w H h a u:=by
 rcases r with r |⟨o,r⟩
 ·exact x a u r
 ·obtain⟨_,q⟩:=x a _ r;exact q
noncomputable def Mut:Option HO→Prop
 |some (.lst _)=>True
 |some (.dK _)=>True
 |some (.dT _)=>True
 |some (.set _ _)=>True
 |some (.ins _ _ _)=>True
 |some (.ext _)=>True
 |_=>False
section
variable {P:Program}{w:World}{H:Hp}{h h':Heap}{x e:Addr}{o':HO}
theorem HOk.write (ok:HOk P w H h) (mu:Mut (H x)) (he:e=x∨H e=some (.own x)) (k:∀b u,b≠e→h.get? b=some u→h'.get? b=some u) (heo:∃u,h'.get? e=some u)
  (new:ObjOk P w (upd H x o') h' x o'):HOk P w (upd H x o') h':=fun b u q=>by
 have nown:∀c y,H c=some (.own y)→c≠x:=fun c y r z=>by subst z;rw [r]at mu;exact mu
 have ntup:∀c xs,H c=some (.tup xs)→c≠x:=fun c xs r z=>by subst z;rw [r]at mu;exact mu
 by_cases hb:b=x
 ·subst hb;rw [zaz]at q;cases q;exact new
 ·rw [zaw hb]at q;by_cases hbe:b=e
  ·have q':H b=some (.own x):=by
    rcases he with z |z
    ·exact absurd (hbe.trans z) hb
    ·rw [hbe];exact z
   rw [q]at q';cases q';obtain⟨v,hv⟩:=heo;exact⟨v,by rw [hbe];exact hv⟩
  ·refine(ok b u q).stay (fun c v hc r=>k c v ?_ r) (fun c r=>by rw [zaw (nown c b r)];exact r) fun c xs r=>by rw [zaw (ntup c xs r)];exact r
   rcases hc with rfl |hc
   ·exact hbe
   ·rintro rfl;rcases he with z |z
    ·exact nown c b hc z
    ·rw [hc]at z;cases z;exact hb rfl
end
structure Un (fs ex:List Addr) (H H':Hp) (h h':Heap):Prop where
  keep:∀b o,h.get? b=some o→H b=none→b∉fs→b∉ex→h'.get? b=some o
  slot:∀b o,h.get? b=some o→H b=none→b∈fs→b∉ex→ ∃sl,h'.get? b=some { o with slots:=sl }
  free:∀b o,h.get? b=some o→H b=none→b∉ex→H' b=none
  there:∀b o,h.get? b=some o→b∉ex→ ∃o',h'.get? b=some o'
  tups:∀b xs,H b=some (.tup xs)→H' b=some (.tup xs)
  frzs:∀b o u,H b=some (.frz o u)→H' b=some (.frz o u)
  tbls:∀b ps,H b=some (.tbl ps)→ ∃more,H' b=some (.tbl (ps++more))
section
variable {fs ex:List Addr}{H H1 H2:Hp}{h h1 h2 h':Heap}{a x e:Addr}{o:HO}
theorem Un.any (u:Un fs ex H H1 h h1) {b:Addr}{ob:Obj}(q:h.get? b=some ob) (n:H b=none) (hx:b∉ex):∃sl,h1.get? b=some { ob with slots:=sl }:=by
 by_cases hb:b∈fs
 ·exact u.slot b ob q n hb hx
 ·exact⟨ob.slots,u.keep b ob q n hb hx⟩
theorem Un.trans (a:Un fs ex H H1 h h1) (b:Un fs ex H1 H2 h1 h2):Un fs ex H H2 h h2 where
  keep:=fun c ob q n hc hx=>b.keep c ob (a.keep c ob q n hc hx) (a.free c ob q n hx) hc hx
  slot:=fun c ob q n hc hx=>by
    obtain⟨sl,e1⟩:=a.slot c ob q n hc hx;obtain⟨sl',e2⟩:=b.slot c _ e1 (a.free c ob q n hx) hc hx;exact⟨sl',e2⟩
  free:=fun c ob q n hx=>by
    obtain⟨o',e1⟩:=a.there c ob q hx;exact b.free c o' e1 (a.free c ob q n hx) hx
  there:=fun c ob q hx=>by
    obtain⟨o',e1⟩:=a.there c ob q hx;exact b.there c o' e1 hx
  tups:=fun c xs q=>b.tups c xs (a.tups c xs q)
  frzs:=fun c ob xs q=>b.frzs c ob xs (a.frzs c ob xs q)
  tbls:=fun c ps q=>by
    obtain⟨m1,e1⟩:=a.tbls c ps q;obtain⟨m2,e2⟩:=b.tbls c _ e1;exact⟨m1++m2,by rw [e2,Array.append_assoc]⟩
theorem Un.kept (k:∀b u,h.get? b=some u→h'.get? b=some u):Un fs ex H H h h':=
 ⟨fun b ob q _ _ _=>k b ob q,fun b ob q _ _ _=>⟨ob.slots,k b ob q⟩,fun _ _ _ n _=>n,fun b ob q _=>⟨ob,k b ob q⟩,fun _ _ q=>q,fun _ _ _ q=>q,fun _ ps q=>⟨#[],by rw [q];simp⟩⟩
theorem Un.refl:Un fs ex H H h h:=Un.kept fun _ _ q=>q
theorem Un.laid (k:∀b u,h.get? b=some u→h'.get? b=some u) (hp:h.objs.size≤a) (hn:H a=none):Un fs ex H (upd H a o) h h' where
  keep:=fun b u q _ _ _=>k b u q
  slot:=fun b u q _ _ _=>⟨u.slots,k b u q⟩
  free:=fun b u q n _=>by rw [zaw (Nat.ne_of_lt (Nat.lt_of_lt_of_le (Heap.lt_size q) hp))];exact n
  there:=fun b u q _=>⟨u,k b u q⟩
  tups:=fun b xs q=>by rw [zaw (zar q hn)];exact q
  frzs:=fun b u xs q=>by rw [zaw (zar q hn)];exact q
  tbls:=fun b ps q=>⟨#[],by rw [zaw (zar q hn),q];simp⟩
theorem Un.write (mu:Mut (H x)) (he:e=x∨H e=some (.own x)) (k:∀b u,b≠e→h.get? b=some u→h'.get? b=some u) (heo:∃u,h'.get? e=some u):Un fs ex H (upd H x o) h h':=by
 have hx:∀b,H b=none→b≠x:=fun b n z=>by subst z;rw [n]at mu;exact mu
 have hb:∀b,H b=none→b≠e:=fun b n z=>by
  subst z;rcases he with r |r
  ·exact hx b n r
  ·rw [n]at r;cases r
 have hm:∀b u,H b=some u→ ¬Mut (some u)→b≠x:=fun b u q nm z=>by subst z;rw [q]at mu;exact nm mu
 refine⟨fun b u q n _ _=>k b u (hb b n) q,fun b u q n _ _=>⟨u.slots,k b u (hb b n) q⟩,fun b u q n _=>by rw [zaw (hx b n)];exact n,fun b u q _=>?_,
  fun b xs q=>by rw [zaw (hm b _ q fun z=>z)];exact q,fun b u xs q=>by rw [zaw (hm b _ q fun z=>z)];exact q,fun b ps q=>⟨#[],by rw [zaw (hm b _ q fun z=>z),q];simp⟩⟩
 by_cases hbe:b=e
 ·subst hbe;exact heo
 ·exact⟨u,k b u hbe q⟩
end
noncomputable def trk (h:Heap) (H:Hp):List Addr:=(List.range h.objs.size).filter fun a=>(H a).isSome
noncomputable def zrz (h:Heap) (H:Hp):Heap:=PySem.W.hideAll h (trk h H)
theorem zqr (h:Heap) (H:Hp):(zrz h H).objs.size=h.objs.size:=PySem.W.hideAll_size _ _
theorem zrw{h:Heap}{H:Hp}{b:Addr}{o:Obj}(e:h.get? b=some o) (n:H b=none):(zrz h H).get? b=some o:=
 PySem.W.hideAll_get _ e fun hm=>by
  have q:(H b).isSome=true:=(List.mem_filter.mp hm).2;rw [n]at q;simp at q
theorem zuD{h:Heap}{H:Hp}{b:Addr}{o:Obj}(e:(zrz h H).get? b=some o):h.get? b=some o∧H b=none:=by
 have e':h.get? b=some o:=PySem.W.of_hideAll (trk h H) e;refine⟨e',?_⟩;cases q:H b with
 |none=>rfl
 |some x=>
  have hm:b∈trk h H:=List.mem_filter.mpr ⟨List.mem_range.mpr (Heap.lt_size e'),by simp [q]⟩
  have z:(zrz h H).get? b=none:=PySem.W.hideAll_none (trk h H) hm;rw [z]at e;cases e
noncomputable def zvh (g h:Heap) (L:Addr):List (Addr×Obj):=(List.range h.objs.size).filterMap fun a=>if a=L∨(g.get? a).isSome=true then none else(h.get? a).map fun o=>(a,o)
noncomputable def rest (g h:Heap) (L d:Addr):List (Addr×Obj):=(zvh g h L).filter fun p=>decide (p.1≠d)
structure Mod (K:PySem.W.Frag) (mg:Str→Option Value) (base:Heap):Prop where
  kin:K.In base
  glob:base.Ns mainGlobals mg
  blt:∃mb,base.Ns builtinsNs mb∧ ∀x:Str,x≠ "__name__" →mb x=bootBuiltins x
  nolimit:base.NoLimit
structure Cx where
  prog:Program
  w:World
  K:PySem.W.Frag
  mg:Str→Option Value
  base:Heap
  A:Around
  N:List Str
  s₀:Shared
  H₀:Hp
  env:Env
  outer:List Env
  stack:List Env
  ex:List Addr
  fn:Str→Bool
  calm:Bool
  pn:List (Addr×Obj)
  xe:Value→Shared→Prop
noncomputable def frs (l:List Env):List Addr:=l.filterMap (·.frame)
noncomputable abbrev Cx.fs (X:Cx):List Addr:=frs X.outer
noncomputable def Vis (sc:Scope) (x:Str):Prop:=sc.names.lookup x=some .local∨sc.names.lookup x=some .cell∨sc.names.lookup x=some .free
noncomputable def Loc (sc:Scope) (x:Str):Prop:=sc.names.lookup x=some .local∨sc.names.lookup x=some .cell
noncomputable def zAP (env:Env) (h:Heap) (m:Str→Option Value) (x:Str) (u:Value):Prop:=
 (env.kindOf x=some .local∧m x=some u)∨((env.kindOf x=some .cell∨env.kindOf x=some .free)∧ ∃c,env.cells.lookup x=some c∧h.IsCell c (some u))
structure Cx.Ok (X:Cx):Prop where
  mod:Mod X.K X.mg X.base
  kind:X.env.scope.kind= .function
  glob:X.env.globals=mainGlobals
  blt:X.env.builtins=builtinsNs
  above:X.s₀.heap.objs.size≤X.env.locals
  inj:∀x y c,X.env.cells.lookup x=some c→X.env.cells.lookup y=some c→x=y
  has:∀x,(X.env.kindOf x=some .cell∨X.env.kindOf x=some .free)→ ∃c,X.env.cells.lookup x=some c
  cab:∀x c,X.fn x=true→X.env.cells.lookup x=some c→X.s₀.heap.objs.size≤c
  hd:X.calm=true→X.A.handled=none
  frames:X.A.frames=some X.stack
  stk:X.stack=X.outer∨(X.stack=X.env::X.outer∧X.env.frame=some X.env.locals)
  exf:∀b∈X.ex,b≠X.env.locals∧ ∀x c,X.env.cells.lookup x=some c→c≠b
  bs:∀b o,X.base.get? b=some o→X.s₀.heap.get? b=some o∧X.H₀ b=none
  bsz:X.base.objs.size≤X.s₀.heap.objs.size
  noex:∀b o,X.base.get? b=some o→b∉X.ex
  exfs:∀b∈X.ex,b∉X.fs
  funs:X.s₀.heap.FunFrames X.base X.outer
  frf:∀b∈X.fs,X.H₀ b=none
structure Inv (X:Cx) (pins:List (Addr×Obj)) (σ:List (Option V)) (H:Hp) (s:Shared):Prop where
  ok:X.Ok
  os:s.os=X.s₀.os
  bare:AllBare s.gens
  base:Un X.fs X.ex X.H₀ H X.s₀.heap s.heap
  loc:∃m,s.heap.Ns X.env.locals m∧ ∀(i:Nat) (x:Str) (v:V),X.N[i]? =some x→σ[i]? =some (some v)→Vis X.env.scope x→ ∃u,RelV v u∧zAP X.env s.heap m x u
  cell:∀x c,X.env.cells.lookup x=some c→ ∃v,s.heap.IsCell c v
  free:H X.env.locals=none
  freeC:∀x c,X.env.cells.lookup x=some c→H c=none
  pin:∀p∈X.pn++pins,s.heap.get? p.1=some p.2∧H p.1=none∧p.1≠X.env.locals∧p.1∉X.fs∧ ∀v,p.2.data≠ .cell v
  hok:HOk X.prog X.w H s.heap
  len:σ.length=X.N.length
section
variable {X:Cx}{pins:List (Addr×Obj)}{σ:List (Option V)}{H H':Hp}{s:Shared}{h':Heap}
theorem Cx.Ok.nofr (ok:X.Ok) {b:Addr}{o:Obj}(e:X.base.get? b=some o):b∉X.fs:=fun hb=>by
 have:=(ok.funs.mem hb).1;rw [e]at this;cases this
theorem Inv.bs (I:Inv X pins σ H s):∀b o,X.base.get? b=some o→s.heap.get? b=some o∧H b=none:=fun b o e=>
 ⟨I.base.keep b o (I.ok.bs b o e).1 (I.ok.bs b o e).2 (I.ok.nofr e) (I.ok.noex b o e),I.base.free b o (I.ok.bs b o e).1 (I.ok.bs b o e).2 (I.ok.noex b o e)⟩
theorem Inv.bk (I:Inv X pins σ H s):∀b o,X.base.get? b=some o→s.heap.get? b=some o:=fun b o e=>(I.bs b o e).1
theorem Inv.mod (I:Inv X pins σ H s):Mod X.K X.mg X.base:=I.ok.mod
theorem Inv.kIn (I:Inv X pins σ H s):X.K.In s.heap:=I.ok.mod.kin.keeps I.bk
theorem Inv.lt (I:Inv X pins σ H s):X.env.locals<s.heap.objs.size:=let ⟨_,hn,_⟩:=I.loc;hn.lt
theorem Inv.sz (I:Inv X pins σ H s):X.s₀.heap.objs.size≤s.heap.objs.size:=Nat.le_trans I.ok.above (Nat.le_of_lt I.lt)
theorem Inv.nofs (I:Inv X pins σ H s) {a:Addr}(h:s.heap.objs.size≤a):a∉X.fs:=fun hb=>by
 obtain⟨_,o,ho,_⟩:=I.ok.funs.mem hb;exact absurd (Nat.lt_of_lt_of_le (Heap.lt_size ho) (Nat.le_trans I.sz h)) (Nat.lt_irrefl _)
theorem Inv.cne (I:Inv X pins σ H s):∀x c,X.env.cells.lookup x=some c→c≠X.env.locals:=fun x c e z=>by
 obtain⟨v,o,ho,hd⟩:=I.cell x c e;obtain⟨m,⟨o',es,ep,ho',hd',_⟩,_⟩:=I.loc;rw [z,ho']at ho;cases ho;rw [hd']at hd;cases hd
theorem Inv.funs (I:Inv X pins σ H s):s.heap.FunFrames X.base X.outer:=by
 have all:∀(l:List Env),(∀b∈frs l,b∈X.fs)→X.s₀.heap.FunFrames X.base l→s.heap.FunFrames X.base l:=by
  intro l
  induction l with
  |nil=>intro _ _;trivial
  |cons env r ih=>
   intro hs hl;obtain⟨hk,⟨L,o,hf,hn,ho,hd⟩,hr⟩:=hl;have hL:L∈X.fs:=hs L (by unfold frs;rw [List.filterMap_cons,hf];exact List.mem_cons_self);obtain⟨sl,e⟩:=I.base.slot L o ho (I.ok.frf L hL) hL fun z=>I.ok.exfs L z hL;exact⟨hk,⟨L,_,hf,hn,e,hd⟩,ih (fun b hb=>hs b (by unfold frs;rw [List.filterMap_cons,hf];exact List.mem_cons_of_mem _ hb)) hr⟩
 exact all X.outer (fun _ hb=>hb) I.ok.funs
theorem Inv.stack (I:Inv X pins σ H s):s.heap.FunFrames X.base X.stack:=by
 rcases I.ok.stk with e |⟨e,hf⟩
 ·rw [e];exact I.funs
 ·rw [e];obtain⟨m,hn,_⟩:=I.loc;refine .cons (by rw [I.ok.kind];decide) hf hn ?_ I.funs;exact Heap.get?_none_of_le (Nat.le_trans I.ok.bsz I.ok.above)
theorem Inv.stkSub (I:Inv X pins σ H s):∀b∈frs X.stack,b∈X.env.locals::X.fs:=fun b hb=>by
 rcases I.ok.stk with e |⟨e,hf⟩
 ·rw [e]at hb;exact List.mem_cons_of_mem _ hb
 ·rw [e]at hb;unfold frs at hb;rw [List.filterMap_cons,hf]at hb;exact hb
theorem Inv.stkFree (I:Inv X pins σ H s):∀b∈frs X.stack,H b=none:=fun b hb=>by
 rcases List.mem_cons.mp (I.stkSub b hb) with e |hb
 ·rw [e];exact I.free
 ·obtain⟨_,o,ho,_⟩:=I.ok.funs.mem hb;exact I.base.free b o ho (I.ok.frf b hb) fun z=>I.ok.exfs b z hb
theorem Inv.step{g':Array GenState}{t':Nat}{d':Drawn}{ch:List Addr}(I:Inv X pins σ H s)
  (hch:∀b∈ch,(b∈X.ex∨X.s₀.heap.objs.size≤b)∧b≠X.env.locals∧(∀x c,X.env.cells.lookup x=some c→c≠b)∧ ∀p∈X.pn++pins,p.1≠b)
  (keep:∀b o,b≠X.env.locals→b∉X.fs→b∉ch→s.heap.get? b=some o→H b=none→h'.get? b=some o)
  (slot:∀b o,b≠X.env.locals→b∈X.fs→b∉ch→s.heap.get? b=some o→H b=none→ ∃sl,h'.get? b=some { o with slots:=sl }) (free:∀b o,b∉ch→s.heap.get? b=some o→H b=none→H' b=none)
  (there:∀b o,b∉ch→s.heap.get? b=some o→ ∃o',h'.get? b=some o')
  (tups:∀b xs,H b=some (.tup xs)→H' b=some (.tup xs)) (frzs:∀b o u,H b=some (.frz o u)→H' b=some (.frz o u)) (tbls:∀b ps,H b=some (.tbl ps)→ ∃more,H' b=some (.tbl (ps++more)))
  (ns:∀m,s.heap.Ns X.env.locals m→h'.Ns X.env.locals m) (hok:HOk X.prog X.w H' h') (hg:AllBare g') :
  Inv X pins σ H' { s with heap:=h',gens:=g',drawn:=d',toks:=t' }:=by
 have neL:∀b o,X.s₀.heap.get? b=some o→b≠X.env.locals:=fun b o e=>Nat.ne_of_lt (Nat.lt_of_lt_of_le (Heap.lt_size e) I.ok.above);have neC:∀b o,X.s₀.heap.get? b=some o→b∉X.ex→b∉ch:=fun b o e hx hb=>by
  rcases(hch b hb).1 with z |z
  ·exact hx z
  ·exact absurd (Nat.lt_of_lt_of_le (Heap.lt_size e) z) (Nat.lt_irrefl _)
 have cellK:∀x c,X.env.cells.lookup x=some c→ ∀v,s.heap.IsCell c v→h'.IsCell c v:=fun x c e v ⟨o,ho,hd⟩=>by
  have nch:c∉ch:=fun z=>(hch c z).2.2.1 x c e rfl;by_cases hc:c∈X.fs
  ·obtain⟨sl,q⟩:=slot c o (I.cne x c e) hc nch ho (I.freeC x c e);exact⟨_,q,hd⟩
  ·exact⟨o,keep c o (I.cne x c e) hc nch ho (I.freeC x c e),hd⟩
 refine⟨I.ok,I.os,hg,⟨fun b o e n hb hx=>?_,fun b o e n hb hx=>?_,fun b o e n hx=>?_,fun b o e hx=>?_,fun b xs e=>tups b xs (I.base.tups b xs e),fun b o xs e=>frzs b o xs (I.base.frzs b o xs e),fun b ps e=>?_⟩,?_,fun x c e=>?_,?_,fun x c e=>?_,fun p hp=>?_,hok,I.len⟩
 ·exact keep b o (neL b o e) hb (neC b o e hx) (I.base.keep b o e n hb hx) (I.base.free b o e n hx)
 ·obtain⟨sl,e1⟩:=I.base.slot b o e n hb hx;obtain⟨sl',e2⟩:=slot b _ (neL b o e) hb (neC b o e hx) e1 (I.base.free b o e n hx);exact⟨sl',e2⟩
 ·obtain⟨o',e1⟩:=I.base.there b o e hx;exact free b o' (neC b o e hx) e1 (I.base.free b o e n hx)
 ·obtain⟨o',e1⟩:=I.base.there b o e hx;exact there b o' (neC b o e hx) e1
 ·obtain⟨m1,e1⟩:=I.base.tbls b ps e;obtain⟨m2,e2⟩:=tbls b _ e1;exact⟨m1++m2,by rw [e2,Array.append_assoc]⟩
 ·obtain⟨m,hn,hl⟩:=I.loc;refine⟨m,ns m hn,fun i x v e1 e2 e3=>?_⟩;obtain⟨u,r,l⟩:=hl i x v e1 e2 e3;refine⟨u,r,?_⟩;rcases l with l |⟨k,c,e,z⟩
  ·exact .inl l
  ·exact .inr ⟨k,c,e,cellK x c e _ z⟩
 ·obtain⟨v,z⟩:=I.cell x c e;exact⟨v,cellK x c e v z⟩
 ·obtain⟨m,⟨o,_,_,ho,_⟩,_⟩:=I.loc;exact free _ o (fun z=>(hch _ z).2.1 rfl) ho I.free
 ·obtain⟨v,o,ho,hd⟩:=I.cell x c e;exact free c o (fun z=>(hch c z).2.2.1 x c e rfl) ho (I.freeC x c e)
 ·obtain⟨e,n,ne,nf,d⟩:=I.pin p hp;have nch:p.1∉ch:=fun z=>(hch p.1 z).2.2.2 p hp rfl;exact⟨keep p.1 p.2 ne nf nch e n,free p.1 p.2 nch e n,ne,nf,d⟩
theorem Inv.un{t':Nat}(I:Inv X pins σ H s) (u:Un X.fs [] H H' s.heap h') (hok:HOk X.prog X.w H' h'):Inv X pins σ H' { s with heap:=h',toks:=t' }:=by
 obtain⟨m,⟨o,es,ep,ho,r⟩,_⟩:=id I.loc;obtain⟨sl,hL⟩:=u.any ho I.free (by simp);exact I.step (g':=s.gens) (d':=s.drawn) (ch:=[]) (fun _ z=>nomatch z) (fun b o _ hb _ e n=>u.keep b o e n hb (by simp)) (fun b o _ hb _ e n=>u.slot b o e n hb (by simp)) (fun b o _ e n=>u.free b o e n (by simp)) (fun b o _ e=>u.there b o e (by simp)) u.tups u.frzs u.tbls (fun m' hm=>by
  obtain⟨o',es',ep',ho',r'⟩:=hm;rw [ho]at ho';cases ho';exact⟨_,es',ep',hL,r'⟩) hok I.bare
theorem Inv.call{g':Array GenState}{t':Nat}{d':Drawn}{ch:List Addr}(I:Inv X pins σ H s) (u:Un (frs X.stack) ch H H' s.heap h') (hok:HOk X.prog X.w H' h') (hg:AllBare g')
  (hch:∀b∈ch,(b∈X.ex∨X.s₀.heap.objs.size≤b)∧b≠X.env.locals∧(∀x c,X.env.cells.lookup x=some c→c≠b)∧ ∀p∈X.pn++pins,p.1≠b) :
  Inv X pins σ H' { s with heap:=h',gens:=g',drawn:=d',toks:=t' }:=by
 obtain⟨m,⟨o,es,ep,ho,r⟩,_⟩:=id I.loc;obtain⟨sl,hL⟩:=u.any ho I.free fun z=>(hch _ z).2.1 rfl;exact I.step (ch:=ch) hch (fun b o hL hb hc e n=>u.keep b o e n (fun z=>(List.mem_cons.mp (I.stkSub b z)).elim hL hb) hc) (fun b o _ _ hc e n=>u.any e n hc) (fun b o hc e n=>u.free b o e n hc) (fun b o hc e=>u.there b o e hc) u.tups u.frzs u.tbls (fun m' hm=>by
  obtain⟨o',es',ep',ho',r'⟩:=hm;rw [ho]at ho';cases ho';exact⟨_,es',ep',hL,r'⟩) hok hg
theorem Inv.turned{t':Nat}{it:Addr}(I:Inv X pins σ H s) (k:∀b o,b≠it→s.heap.get? b=some o→h'.get? b=some o) (hn:H it=none) (hL:it≠X.env.locals)
  (h1:it∈X.ex∨X.s₀.heap.objs.size≤it) (h2:∀x c,X.env.cells.lookup x=some c→c≠it) (h3:∀p∈X.pn++pins,p.1≠it):Inv X pins σ H { s with heap:=h',toks:=t' }:=by
 have nit:∀b u,H b=some u→b≠it:=fun b u e z=>by rw [z,hn]at e;cases e
 refine I.step (g':=s.gens) (d':=s.drawn) (ch:=[it]) (fun b hb=>?_) (fun b o _ _ hc e _=>k b o (fun z=>hc (by simp [z])) e) (fun b o _ _ hc e _=>⟨o.slots,k b o (fun z=>hc (by simp [z])) e⟩) (fun _ _ _ _ n=>n)
  (fun b o hc e=>⟨o,k b o (fun z=>hc (by simp [z])) e⟩) (fun _ _ e=>e) (fun _ _ _ e=>e) (fun b ps e=>⟨#[],by rw [e];simp⟩) (fun m hm=>?_) (fun b u e=>?_) I.bare
 ·have e:b=it:=by simpa using hb
  subst e;exact⟨h1,hL,h2,h3⟩
 ·obtain⟨o,es,ep,ho,r⟩:=hm;exact⟨o,es,ep,k _ o (Ne.symm hL) ho,r⟩
 ·refine(I.hok b u e).stay (fun c v hc q=>k c v ?_ q) (fun _ q=>q) fun _ _ q=>q;rcases hc with z |z
  ·rw [z];exact nit b u e
  ·exact nit c _ z
theorem Inv.tok (I:Inv X pins σ H s) (t:Nat):Inv X pins σ H { s with toks:=t }:=I.un (h':=s.heap) (t':=t) Un.refl I.hok
theorem Inv.kept{t':Nat}(I:Inv X pins σ H s) (k:∀b u,s.heap.get? b=some u→h'.get? b=some u):Inv X pins σ H { s with heap:=h',toks:=t' }:=I.un (Un.kept k) (I.hok.kept k)
theorem Inv.laid{a:Addr}{o:HO}{t':Nat}(I:Inv X pins σ H s) (k:∀b u,s.heap.get? b=some u→h'.get? b=some u) (hp:s.heap.objs.size≤a) (new:ObjOk X.prog X.w (upd H a o) h' a o) :
  Inv X pins σ (upd H a o) { s with heap:=h',toks:=t' }:=I.un (Un.laid k hp (I.hok.fresh hp)) (I.hok.laid k hp new)
theorem Inv.write{x e:Addr}{o:HO}{t':Nat}(I:Inv X pins σ H s) (mu:Mut (H x)) (he:e=x∨H e=some (.own x)) (k:∀b u,b≠e→s.heap.get? b=some u→h'.get? b=some u) (heo:∃u,h'.get? e=some u)
  (new:ObjOk X.prog X.w (upd H x o) h' x o):Inv X pins σ (upd H x o) { s with heap:=h',toks:=t' }:=I.un (Un.write mu he k heo) (I.hok.write mu he k heo new)
theorem Inv.pins_of{pins':List (Addr×Obj)}(I:Inv X pins σ H s) (h:∀p∈pins',s.heap.get? p.1=some p.2∧H p.1=none∧p.1≠X.env.locals∧p.1∉X.fs∧ ∀v,p.2.data≠ .cell v):Inv X pins' σ H s:=
 ⟨I.ok,I.os,I.bare,I.base,I.loc,I.cell,I.free,I.freeC,fun p hp=>(List.mem_append.mp hp).elim (fun z=>I.pin p (List.mem_append_left _ z)) (h p),I.hok,I.len⟩
theorem zmZ{N:List Str}(hN:N.Nodup) {i j:Nat}{x:Str}(a:N[i]? =some x) (b:N[j]? =some x):i=j:=by
 obtain⟨h1,e1⟩:=List.getElem?_eq_some_iff.mp a;obtain⟨h2,e2⟩:=List.getElem?_eq_some_iff.mp b;exact(List.getElem_inj hN).mp (e1.trans e2.symm)
theorem zki{M:Model}{A:Around}{E:Value→Shared→Prop}{i:Nat}{x:Str}{v:V}{u:Value}{Q:Unit→Shared→Prop}(I:Inv X pins σ H s) (hN:X.N.Nodup) (hi:X.N[i]? =some x) (hx:Loc X.env.scope x) (r:RelV v u)
  (h:∀s',Inv X pins (σ.set i (some v)) H s'→(∃a,Heap.SameBut a s.heap s'.heap∧(a=X.env.locals∨X.env.cells.lookup x=some a))→Q () s') (hf:X.fn x=true∨X.env.scope.names.lookup x=some .local:=by first |exact .inl rfl |exact .inr rfl |assumption):wpAny M A (storeName X.env x u) Q E s:=by
 obtain⟨m,hn,hl⟩:=id I.loc;have hcls:(X.env.scope.kind == .class || (X.env.scope.kind == .module&&X.env.locals != X.env.globals))=false:=by rw [I.ok.kind];rfl
 have hiσ:i<σ.length:=by rw [I.len];exact(List.getElem?_eq_some_iff.mp hi).1
 have cne:=I.cne;have tracked:∀{a:Addr}{h':Heap},(∃o,s.heap.get? a=some o∧H a=none)→Heap.SameBut a s.heap h'→HOk X.prog X.w H h':=fun {a h'} ha hs b ob e=>by
  obtain⟨_,_,hfree⟩:=ha;refine(I.hok b ob e).stay (fun c w' hc q=>(hs.2 c ?_).trans q) (fun _ q=>q) fun _ _ q=>q;rintro rfl;rcases hc with rfl |hc
  ·rw [hfree]at e;cases e
  ·rw [hfree]at hc;cases hc
 rcases hx with hk |hk
 ·refine wpAny_storeName_local hk hn (fun h' hn' hs=>?_) hcls;obtain⟨oL,_,_,hoL,_⟩:=id hn;refine h _ ⟨I.ok,I.os,I.bare,⟨fun b o e n hb hx=>?_,fun b o e n hb hx=>?_,I.base.free,fun b o e hx=>?_,I.base.tups,I.base.frzs,I.base.tbls⟩,⟨_,hn',fun j y v' e1 e2 e3=>?_⟩,fun y c e=>?_,I.free,I.freeC,fun p hp=>?_,tracked ⟨oL,hoL,I.free⟩ hs,by simpa using I.len⟩ ⟨_,hs, .inl rfl⟩
  ·exact(hs.2 b (Nat.ne_of_lt (Nat.lt_of_lt_of_le (Heap.lt_size e) I.ok.above))).trans (I.base.keep b o e n hb hx)
  ·obtain⟨sl,e1⟩:=I.base.slot b o e n hb hx;exact⟨sl,(hs.2 b (Nat.ne_of_lt (Nat.lt_of_lt_of_le (Heap.lt_size e) I.ok.above))).trans e1⟩
  ·obtain⟨o',e1⟩:=I.base.there b o e hx;exact⟨o',(hs.2 b (Nat.ne_of_lt (Nat.lt_of_lt_of_le (Heap.lt_size e) I.ok.above))).trans e1⟩
  ·by_cases hj:j=i
   ·subst hj;rw [hi]at e1;cases e1;rw [List.getElem?_set_self hiσ]at e2;cases e2;exact⟨u,r, .inl ⟨hk,by simp⟩⟩
   ·rw [List.getElem?_set_ne (Ne.symm hj)]at e2;obtain⟨u',r',q⟩:=hl j y v' e1 e2 e3;refine⟨u',r',?_⟩;rcases q with⟨k,e⟩ |⟨k,c,e,z⟩
    ·refine .inl ⟨k,?_⟩;have:y≠x:=fun e=>hj (zmZ hN e1 (e▸hi));simp [this,e]
    ·exact .inr ⟨k,c,e,z.sameBut hs (cne y c e)⟩
  ·obtain⟨w',z⟩:=I.cell y c e;exact⟨w',z.sameBut hs (cne y c e)⟩
  ·obtain⟨e,n,ne,nf,d⟩:=I.pin p hp;exact⟨(hs.2 p.1 ne).trans e,n,ne,nf,d⟩
 ·have hfn:X.fn x=true:=by
   rcases hf with z |z
   ·exact z
   ·rw [z]at hk;cases hk
  obtain⟨c,hc⟩:=I.ok.has x (.inl hk);obtain⟨w',z⟩:=I.cell x c hc;refine wpAny_storeName_cell I.ok.kind hk hc z (fun h' hc' hs=>?_);obtain⟨oc,hoc,hocd⟩:=id z;refine h { s with heap:=h' } ⟨I.ok,I.os,I.bare,⟨fun b o e n hb hx=>?_,fun b o e n hb hx=>?_,I.base.free,fun b o e hx=>?_,I.base.tups,I.base.frzs,I.base.tbls⟩,⟨m,hn.sameBut hs (Ne.symm (cne x c hc)),fun j y v' e1 e2 e3=>?_⟩,fun y c' e=>?_,I.free,I.freeC,fun p hp=>?_,tracked ⟨oc,hoc,I.freeC x c hc⟩ hs,by simpa using I.len⟩ ⟨c,hs, .inr hc⟩
  ·exact(hs.2 b (Nat.ne_of_lt (Nat.lt_of_lt_of_le (Heap.lt_size e) (I.ok.cab x c hfn hc)))).trans (I.base.keep b o e n hb hx)
  ·obtain⟨sl,e1⟩:=I.base.slot b o e n hb hx;exact⟨sl,(hs.2 b (Nat.ne_of_lt (Nat.lt_of_lt_of_le (Heap.lt_size e) (I.ok.cab x c hfn hc)))).trans e1⟩
  ·obtain⟨o',e1⟩:=I.base.there b o e hx;exact⟨o',(hs.2 b (Nat.ne_of_lt (Nat.lt_of_lt_of_le (Heap.lt_size e) (I.ok.cab x c hfn hc)))).trans e1⟩
  ·by_cases hj:j=i
   ·subst hj;rw [hi]at e1;cases e1;rw [List.getElem?_set_self hiσ]at e2;cases e2;exact⟨u,r, .inr ⟨.inl hk,c,hc,hc'⟩⟩
   ·rw [List.getElem?_set_ne (Ne.symm hj)]at e2;obtain⟨u',r',q⟩:=hl j y v' e1 e2 e3;refine⟨u',r',?_⟩;rcases q with q |⟨k,c',e,z'⟩
    ·exact .inl q
    ·refine .inr ⟨k,c',e,z'.sameBut hs ?_⟩;rintro rfl;exact hj (zmZ hN e1 (I.ok.inj _ _ _ e hc▸hi))
  ·by_cases hcc:c'=c
   ·subst hcc;exact⟨_,hc'⟩
   ·obtain⟨w2,z2⟩:=I.cell y c' e;exact⟨w2,z2.sameBut hs hcc⟩
  ·obtain⟨e,n,ne,nf,d⟩:=I.pin p hp;refine⟨(hs.2 p.1 ?_).trans e,n,ne,nf,d⟩;intro q;rw [q,hoc]at e;have q':oc=p.2:=Option.some.inj e;exact d w' (by rw [←q'];exact hocd)
theorem zjy{M:Model}{A:Around}{E:Value→Shared→Prop}{i:Nat}{x:Str}{v:V}{u:Value}{Q:Unit→Shared→Prop}(I:Inv X pins σ H s) (hN:X.N.Nodup) (hi:X.N[i]? =some x) (hx:Loc X.env.scope x) (r:RelV v u)
  (h:∀s',Inv X pins (σ.set i (some v)) H s'→Q () s') (hf:X.fn x=true∨X.env.scope.names.lookup x=some .local:=by first |exact .inl rfl |exact .inr rfl |assumption):wpAny M A (storeName X.env x u) Q E s:=
 zki I hN hi hx r (fun s' I' _=>h s' I') hf
theorem Inv.call'{s':Shared}{ch:List Addr}(I:Inv X pins σ H s) (ho:s'.os=s.os) (u:Un (frs X.stack) ch H H' s.heap s'.heap) (hok:HOk X.prog X.w H' s'.heap) (hg:AllBare s'.gens)
  (hch:∀b∈ch,(b∈X.ex∨X.s₀.heap.objs.size≤b)∧b≠X.env.locals∧(∀x c,X.env.cells.lookup x=some c→c≠b)∧ ∀p∈X.pn++pins,p.1≠b):Inv X pins σ H' s':=by
 obtain⟨h',g',d',t',o'⟩:=s';have e:o'=s.os:=ho;subst e;exact I.call (g':=g') (t':=t') (d':=d') u hok hg hch
end
noncomputable abbrev XK:=Value→Option Addr→Hp→Prop
noncomputable abbrev St:=List (Option V)
noncomputable abbrev VK:=V→Hp→Prop
noncomputable abbrev TE:=St→Hp→VK→Prop
noncomputable abbrev TT:=St→Hp→(Bool→Hp→Prop)→Prop
noncomputable abbrev TA:=St→Hp→(List V→Hp→Prop)→Prop
structure Ends where
  nx:St→Hp→Prop
  rt:VK
  bk:St→Hp→Prop:=fun _ _=>False
  ct:St→Hp→Prop:=fun _ _=>False
noncomputable abbrev TS:=Ends→St→Hp→Prop
noncomputable def EP (X:Cx) (pins:List (Addr×Obj)) (σ:St) (Q:VK) (u:Value) (s':Shared):Prop:=∃v H',Inv X pins σ H' s'∧RelV v u∧Q v H'
noncomputable def TP (X:Cx) (pins:List (Addr×Obj)) (σ:St) (Q:Bool→Hp→Prop) (b:Bool) (s':Shared):Prop:=∃H',Inv X pins σ H' s'∧Q b H'
noncomputable def AP (X:Cx) (pins:List (Addr×Obj)) (σ:St) (Q:List V→Hp→Prop) (us:List Value) (s':Shared):Prop:=∃vs H',Inv X pins σ H' s'∧Vals vs us∧Q vs H'
noncomputable def SP (X:Cx) (pins:List (Addr×Obj)) (D:Ends) (f:Flow) (s':Shared):Prop:=
 match f with
 | .next=>∃σ' H',Inv X pins σ' H' s'∧D.nx σ' H'
 | .brk=>∃σ' H',Inv X pins σ' H' s'∧D.bk σ' H'
 | .cont=>∃σ' H',Inv X pins σ' H' s'∧D.ct σ' H'
 | .ret u=>∃v σ' H',Inv X pins σ' H' s'∧RelV v u∧D.rt v H'
noncomputable def PE (X:Cx) (e:Expr) (t:TE):Prop:=
 ∀(pins:List (Addr×Obj)) (s:Shared) (σ:St) (H:Hp) (Q:VK),Inv X pins σ H s→t σ H Q→wpAny (model X.prog X.w) X.A (eval e X.env) (EP X pins σ Q) X.xe s
noncomputable def PT (X:Cx) (e:Expr) (t:TT):Prop:=
 ∀(pins:List (Addr×Obj)) (s:Shared) (σ:St) (H:Hp) (Q:Bool→Hp→Prop),Inv X pins σ H s→t σ H Q→wpAny (model X.prog X.w) X.A (isTrue e X.env (eval e X.env)) (TP X pins σ Q) X.xe s
noncomputable def PW (X:Cx) (e:Expr) (t:TT):Prop:=
 ∀(whole:Sem Value) (pins:List (Addr×Obj)) (s:Shared) (σ:St) (H:Hp) (Q:Bool→Hp→Prop),Inv X pins σ H s→t σ H Q→wpAny (model X.prog X.w) X.A (isTrue e X.env whole) (TP X pins σ Q) X.xe s
theorem PW.pt{X:Cx}{e:Expr}{t:TT}(h:PW X e t):PT X e t:=h _
noncomputable def PA (X:Cx) (es:List Expr) (t:TA):Prop:=
 ∀(pos:Pos) (pins:List (Addr×Obj)) (s:Shared) (σ:St) (H:Hp) (Q:List V→Hp→Prop),Inv X pins σ H s→t σ H Q→wpAny (model X.prog X.w) X.A (spliced (backTo pos (starEach es X.env))) (AP X pins σ Q) X.xe s
noncomputable def PS (X:Cx) (st:Stmt) (t:TS):Prop:=
 ∀(pins:List (Addr×Obj)) (s:Shared) (σ:St) (H:Hp) (D:Ends),Inv X pins σ H s→t D σ H→wpAny (model X.prog X.w) X.A (exec st X.env) (SP X pins D) X.xe s
noncomputable def PSs (X:Cx) (st:List Stmt) (t:TS):Prop:=
 ∀(pins:List (Addr×Obj)) (s:Shared) (σ:St) (H:Hp) (D:Ends),Inv X pins σ H s→t D σ H→wpAny (model X.prog X.w) X.A (execs st X.env) (SP X pins D) X.xe s
theorem thn{α:Type}{t:Sem α}{Q Q':α→Shared→Prop}{M:Model}{A:Around}{E:Value→Shared→Prop}{s:Shared}(h:wpAny M A t Q E s) (hQ:∀a s,Q a s→Q' a s):wpAny M A t Q' E s:=wpAny_mono h hQ fun _ _ x=>x
section
variable {X:Cx}
noncomputable def zBl (i:Nat):TE:=fun σ H Q=>∃v,σ[i]? =some (some v)∧Q v H
noncomputable def tC (v:V):TE:=fun _ H Q=>Q v H
theorem zwM{i:Nat}{x:Str}{pos:Pos}(hN:X.N[i]? =some x) (hv:Vis X.env.scope x) (hd:(x == ("__debug__" :Str))=false:=by decide) (hcd:(x == ("__classdict__" :Str))=false:=by decide):PE X (.Name x pos) (zBl i):=by
 intro pins s σ H Q I h;obtain⟨v,e,h⟩:=h;obtain⟨m,hn,hl⟩:=I.loc;obtain⟨u,r,l⟩:=hl i x v hN e hv;have fin:EP X pins σ Q u s:=⟨v,H,I,r,h⟩;rcases l with⟨hk,hm⟩ |⟨hk,c,hc,hcell⟩
 ·exact wpAny_Name (wpAny_loadName_local I.ok.kind hk hn hm fin) hd
 ·rcases hk with hk |hk
  ·exact wpAny_Name (wpAny_loadName_cell I.ok.kind hk hc hcell fin) hd
  ·exact wpAny_Name (wpAny_loadName_free I.ok.kind hk hc hcell fin hcd) hd
theorem zwE{i j pos}:PE X (.Constant (.int i) j pos) (tC (.int i)):=fun _ _ _ H _ I h=>wpAny_Constant_int ⟨.int i,H,I.tok _,⟨_,rfl⟩,h⟩
theorem zzW{b j pos}:PE X (.Constant (.bool b) j pos) (tC (.bl b)):=fun _ _ _ H _ I h=>Constant_bool ⟨.bl b,H,I,rfl,h⟩
theorem zwX{j pos}:PE X (.Constant .none j pos) (tC .non):=fun _ _ _ H _ I h=>Constant_none ⟨.non,H,I,rfl,h⟩
theorem zvT{x j pos}:PE X (.Constant (.str x) j pos) (tC (.str x)):=fun _ _ _ H _ I h=>Calls.Constant_str ⟨.str x,H,I.tok _,⟨_,rfl⟩,h⟩
noncomputable def Gl (X:Cx) (x:Str):Prop:=X.env.kindOf x=some .globalImplicit
theorem zqs{E:Value→Shared→Prop}{pins:List (Addr×Obj)}{s:Shared}{σ:St}{H:Hp}{x:Str}{u:Value}{pos:Pos}{Q:Value→Shared→Prop}(I:Inv X pins σ H s) (hg:Gl X x) (hm:X.mg x=some u) (h:Q u s)
  (hd:(x == ("__debug__" :Str))=false:=by decide):wpAny (model X.prog X.w) X.A (eval (.Name x pos) X.env) Q E s:=
 Calls.Name_function_global I.ok.kind hg (Calls.loadGlobal_global (by rw [I.ok.glob];exact I.mod.glob.keeps I.bk) hm h) hd
theorem ziE{E:Value→Shared→Prop}{pins:List (Addr×Obj)}{s:Shared}{σ:St}{H:Hp}{x:Str}{u:Value}{pos:Pos}{Q:Value→Shared→Prop}(I:Inv X pins σ H s) (hg:Gl X x) (hm:X.mg x=none) (hv:bootBuiltins x=some u) (h:Q u s)
  (hn:x≠ "__name__" :=by decide) (hd:(x == ("__debug__" :Str))=false:=by decide):wpAny (model X.prog X.w) X.A (eval (.Name x pos) X.env) Q E s:=by
 obtain⟨mb,h1,h2⟩:=I.mod.blt;exact Calls.Name_function_global I.ok.kind hg (Calls.loadGlobal_builtin (by rw [I.ok.glob];exact I.mod.glob.keeps I.bk) hm (by rw [I.ok.blt];exact h1.keeps I.bk) ((h2 x hn).trans hv) h) hd
theorem zvn{x:Str}{v:V}{u:Value}{pos:Pos}(hg:Gl X x) (hm:X.mg x=some u) (r:RelV v u) (hd:(x == ("__debug__" :Str))=false:=by decide):PE X (.Name x pos) (tC v):=
 fun _ _ _ H _ I h=>zqs I hg hm ⟨v,H,I,r,h⟩ hd
theorem zvB{x:Str}{v:V}{u:Value}{pos:Pos}(hg:Gl X x) (hm:X.mg x=none) (hv:bootBuiltins x=some u) (r:RelV v u) (hn:x≠ "__name__" :=by decide) (hd:(x == ("__debug__" :Str))=false:=by decide):PE X (.Name x pos) (tC v):=
 fun _ _ _ H _ I h=>ziE I hg hm hv ⟨v,H,I,r,h⟩ hn hd
variable {a b:Expr}{ta tb:TE}{pos:Pos}
variable {tA tB':TT}{rest:List Expr}
noncomputable def zAv (t u:TT):TT:=fun σ H Q=>t σ H fun c H1=>if c=true then u σ H1 Q else Q false H1
noncomputable def tOr (t u:TT):TT:=fun σ H Q=>t σ H fun c H1=>if c=true then Q true H1 else u σ H1 Q
noncomputable def zBf (t:TT):TT:=fun σ H Q=>t σ H fun c H1=>Q (!c) H1
theorem zul (ha:PT X a tA):PW X (.BoolOp .And [a] pos) tA:=by
 intro wh pins s σ H Q I h;refine isTrue_and (thn (ha pins s σ H Q I h) fun c s1 e=>?_);cases c with
 |true=>exact isTrue_and_nil e
 |false=>exact e
theorem zwl (ha:PT X a tA):PW X (.BoolOp .Or [a] pos) tA:=by
 intro wh pins s σ H Q I h;refine isTrue_or (thn (ha pins s σ H Q I h) fun c s1 e=>?_);cases c with
 |false=>exact isTrue_or_nil e
 |true=>exact e
theorem zwd (ha:PT X a tA) (hb:PW X (.BoolOp .And (b::rest) pos) tB'):PW X (.BoolOp .And (a::b::rest) pos) (zAv tA tB'):=by
 intro wh pins s σ H Q I h;refine isTrue_and (thn (ha pins s σ H _ I h) fun c s1 ⟨H1,I1,q1⟩=>?_);cases c with
 |true=>exact hb wh pins s1 σ H1 Q I1 q1
 |false=>exact⟨H1,I1,q1⟩
theorem zzF (ha:PT X a tA) (hb:PW X (.BoolOp .Or (b::rest) pos) tB'):PW X (.BoolOp .Or (a::b::rest) pos) (tOr tA tB'):=by
 intro wh pins s σ H Q I h;refine isTrue_or (thn (ha pins s σ H _ I h) fun c s1 ⟨H1,I1,q1⟩=>?_);cases c with
 |true=>exact⟨H1,I1,q1⟩
 |false=>exact hb wh pins s1 σ H1 Q I1 q1
theorem zxv (ha:PT X a tA):PT X (.UnaryOp .Not a pos) (zBf tA):=by
 intro pins s σ H Q I h;exact isTrue_not (ha pins s σ H (fun c H1=>Q (!c) H1) I h)
noncomputable def zzk (ta tb:TE):TE:=fun σ H Q=>ta σ H fun x H1=>∃c,x= .bl c∧if c=true then tb σ H1 Q else Q (.bl false) H1
noncomputable def zAI (ta tb:TE):TE:=fun σ H Q=>ta σ H fun x H1=>∃c,x= .bl c∧if c=true then Q (.bl true) H1 else tb σ H1 Q
noncomputable def zzK (ta:TE):TE:=fun σ H Q=>ta σ H fun x H1=>∃c,x= .bl c∧Q (.bl (!c)) H1
theorem zwb{op}{t:TE}(h:PE X a t):PE X (.BoolOp op [a] pos) t:=fun pins s σ H Q I hw=>BoolOp_one (h pins s σ H Q I hw)
theorem zxy (ha:PE X a ta) (hb:PE X (.BoolOp .And (b::rest) pos) tb):PE X (.BoolOp .And (a::b::rest) pos) (zzk ta tb):=by
 intro pins s σ H Q I h;refine BoolOp_and (thn (ha pins s σ H _ I h) fun v s1 ⟨x,H1,I1,r1,q1⟩=>?_);obtain⟨c,rfl,q1⟩:=q1;cases r1;refine wpAny_truthy_bool ?_;cases c with
 |true=>exact hb pins s1 σ H1 Q I1 q1
 |false=>exact⟨.bl false,H1,I1,rfl,q1⟩
theorem zAa (ha:PE X a ta) (hb:PE X (.BoolOp .Or (b::rest) pos) tb):PE X (.BoolOp .Or (a::b::rest) pos) (zAI ta tb):=by
 intro pins s σ H Q I h;refine BoolOp_or (thn (ha pins s σ H _ I h) fun v s1 ⟨x,H1,I1,r1,q1⟩=>?_);obtain⟨c,rfl,q1⟩:=q1;cases r1;refine wpAny_truthy_bool ?_;cases c with
 |false=>exact hb pins s1 σ H1 Q I1 q1
 |true=>exact⟨.bl true,H1,I1,rfl,q1⟩
theorem zvR (ha:PE X a ta):PE X (.UnaryOp .Not a pos) (zzK ta):=by
 intro pins s σ H Q I h;refine UnaryOp_ (thn (ha pins s σ H _ I h) fun v s1 ⟨x,H1,I1,r1,q1⟩=>?_);obtain⟨c,rfl,q1⟩:=q1;cases r1;exact not_of (wpAny_truthy_bool ⟨.bl (!c),H1,I1,rfl,q1⟩)
noncomputable def tIf (t:TT) (ta tb:TE):TE:=fun σ H Q=>t σ H fun c H1=>if c=true then ta σ H1 Q else tb σ H1 Q
theorem zrS{c:Expr}(hc:PT X c tA) (ha:PE X a ta) (hb:PE X b tb):PE X (.IfExp c a b pos) (tIf tA ta tb):=by
 intro pins s σ H Q I h;refine wpAny_IfExp (thn (hc pins s σ H _ I h) fun d s1 ⟨H1,I1,q1⟩=>?_);cases d with
 |true=>exact ha pins s1 σ H1 Q I1 q1
 |false=>exact hb pins s1 σ H1 Q I1 q1
end
noncomputable def SqL (K:PySem.W.Frag) (H:Hp) (a:Addr) (xs:List V):Prop:=
 Rd H a (.lst xs)∨
  ∃(o:Obj) (its:Array Value) (n:Nat),K.lookup a=some o∧o.cls= .type "list" ∧o.dict=none∧o.data= .seq its n∧its.size≤sizeLine∧Vals xs its.toList
noncomputable def SqT (K:PySem.W.Frag) (H:Hp) (a:Addr) (xs:List V):Prop:=
 Rd H a (.tup xs)∨
  ∃(o:Obj) (its:Array Value) (n:Nat),K.lookup a=some o∧o.cls= .type "tuple" ∧o.data= .seq its n∧its.size≤sizeLine∧Vals xs its.toList
noncomputable def zAE:Value→Option V
 | .none=>some .non
 | .bool b=>some (.bl b)
 | .int i _=>some (.int i)
 | .str x _=>some (.str x)
 | .bytes b _=>some (.byt b)
 | .float b _=>some (.flt b)
 | .ref a=>some (.ref a)
 | .type n=>some (.ty n)
 |_=>none
theorem RelV.abs{x:V}{u:Value}(r:RelV x u):zAE u=some x:=by
 cases x with
 |non=>cases r;rfl
 |bl _=>cases r;rfl
 |int _=>obtain⟨t,rfl⟩:=r;rfl
 |str _=>obtain⟨t,rfl⟩:=r;rfl
 |byt _=>obtain⟨t,rfl⟩:=r;rfl
 |flt _=>obtain⟨t,rfl⟩:=r;rfl
 |ref _=>cases r;rfl
 |ty _=>cases r;rfl
theorem RelV.inj{x y:V}{u:Value}(r:RelV x u) (q:RelV y u):x=y:=Option.some.inj (r.abs.symm.trans q.abs)
theorem Vals.inj:∀{xs ys:List V}{us:List Value},Vals xs us→Vals ys us→xs=ys
 |_,_,_, .nil, .nil=>rfl
 |_,_,_, .cons r t, .cons r' t'=>by rw [r.inj r',Vals.inj t t']
section
variable {X:Cx}{pins:List (Addr×Obj)}{σ:St}{H:Hp}{s:Shared}{a:Addr}{xs ys:List V}
theorem SqL.of{K:PySem.W.Frag}(h:H a=some (.lst xs)):SqL K H a xs:= .inl (.inl h)
theorem SqT.of{K:PySem.W.Frag}(h:H a=some (.tup xs)):SqT K H a xs:= .inl (.inl h)
theorem Inv.list (I:Inv X pins σ H s) (h:SqL X.K H a xs):∃its:List Value,Vals xs its∧PlainL s.heap a its.toArray∧xs.length≤sizeLine:=by
 rcases h with h |⟨o,its,n,hk,hc,hd,hs,hz,r⟩
 ·obtain⟨z,its,n,r,e⟩:=h.ok I.hok;exact⟨its,r,⟨_,n,e,rfl,rfl,rfl⟩,z⟩
 ·refine⟨its.toList,r,⟨o,n,I.kIn a o hk,hc,hd,by simpa using hs⟩,?_⟩
  have e:=r.length;simp only[Array.length_toList]at e;omega
theorem Inv.tuple (I:Inv X pins σ H s) (h:SqT X.K H a xs):∃its:List Value,Vals xs its∧IsTup s.heap a its.toArray∧xs.length≤sizeLine:=by
 rcases h with h |⟨o,its,n,hk,hc,hs,hz,r⟩
 ·obtain⟨z,its,r,p⟩:=h.ok I.hok;exact⟨its,r,p,z⟩
 ·refine⟨its.toList,r,⟨o,I.kIn a o hk,hc,n,by simpa using hs⟩,?_⟩
  have e:=r.length;simp only[Array.length_toList]at e;omega
theorem Inv.list_inj (I:Inv X pins σ H s) (h:SqL X.K H a xs) (h':SqL X.K H a ys):xs=ys:=by
 obtain⟨its,r,⟨o,n,e,_,_,d⟩,_⟩:=I.list h;obtain⟨its',r',⟨o',n',e',_,_,d'⟩,_⟩:=I.list h';rw [e]at e';cases e';rw [d]at d';injection d' with d1 _;have:its=its':=by simpa using congrArg Array.toList d1
 subst this;exact r.inj r'
theorem Inv.tuple_inj (I:Inv X pins σ H s) (h:SqT X.K H a xs) (h':SqT X.K H a ys):xs=ys:=by
 obtain⟨its,r,⟨o,e,_,n,d⟩,_⟩:=I.tuple h;obtain⟨its',r',⟨o',e',_,n',d'⟩,_⟩:=I.tuple h';rw [e]at e';cases e';rw [d]at d';injection d' with d1 _;have:its=its':=by simpa using congrArg Array.toList d1
 subst this;exact r.inj r'
end
noncomputable abbrev Cx.wish (X:Cx) (E:Value→Shared→Prop):Cx:={ X with xe:=E }
noncomputable abbrev Cx.nox (X:Cx):Cx:=X.wish fun _ _=>False
theorem Cx.Ok.wish{X:Cx}(ok:X.Ok) (E:Value→Shared→Prop):(X.wish E).Ok:=
 ⟨ok.mod,ok.kind,ok.glob,ok.blt,ok.above,ok.inj,ok.has,ok.cab,ok.hd,ok.frames,ok.stk,ok.exf,ok.bs,ok.bsz,ok.noex,ok.exfs,ok.funs,ok.frf⟩
theorem Cx.Ok.unwish{X:Cx}{E:Value→Shared→Prop}(ok:(X.wish E).Ok):X.Ok:=
 ⟨ok.mod,ok.kind,ok.glob,ok.blt,ok.above,ok.inj,ok.has,ok.cab,ok.hd,ok.frames,ok.stk,ok.exf,ok.bs,ok.bsz,ok.noex,ok.exfs,ok.funs,ok.frf⟩
section
variable {X:Cx}{pins:List (Addr×Obj)}{σ:St}{H:Hp}{s:Shared}{E:Value→Shared→Prop}
theorem Inv.wish (I:Inv X pins σ H s) (E:Value→Shared→Prop):Inv (X.wish E) pins σ H s:=⟨I.ok.wish E,I.os,I.bare,I.base,I.loc,I.cell,I.free,I.freeC,I.pin,I.hok,I.len⟩
theorem Inv.unwish (I:Inv (X.wish E) pins σ H s):Inv X pins σ H s:=⟨I.ok.unwish,I.os,I.bare,I.base,I.loc,I.cell,I.free,I.freeC,I.pin,I.hok,I.len⟩
theorem SP.unwish{D:Ends}{f:Flow}{s':Shared}(h:SP (X.wish E) pins D f s'):SP X pins D f s':=by
 cases f with
 |next=>obtain⟨σ',H',I,q⟩:=h;exact⟨σ',H',I.unwish,q⟩
 |brk=>obtain⟨σ',H',I,q⟩:=h;exact⟨σ',H',I.unwish,q⟩
 |cont=>obtain⟨σ',H',I,q⟩:=h;exact⟨σ',H',I.unwish,q⟩
 |ret u=>obtain⟨v,σ',H',I,r,q⟩:=h;exact⟨v,σ',H',I.unwish,r,q⟩
theorem PSs.nox{st:List Stmt}{t:TS}(h:PSs X.nox st t):PSs X st t:=fun pins s σ H D I hw=>
 wpAny_mono (h pins s σ H D (I.wish _) hw) (fun _ _ q=>q.unwish) fun _ _ z=>False.elim z
end
section
variable {X:Cx}{st:Stmt}{rest:List Stmt}{t u:TS}{e:Expr}{te:TE}{pos:Pos}
noncomputable def zzm:TS:=fun D σ H=>D.nx σ H
noncomputable def zAF (t u:TS):TS:=fun D σ H=>t { D with nx:=u D } σ H
theorem pss_nil:PSs X [] zzm:=fun _ _ σ H _ I h=>wpAny_execs_nil ⟨σ,H,I,h⟩
theorem zrQ (h1:PS X st t) (h2:PSs X rest u):PSs X (st::rest) (zAF t u):=by
 intro pins s σ H D I h;refine wpAny_execs_cons (thn (h1 pins s σ H { D with nx:=u D } I h) fun f s1 q=>?_);cases f with
 |next=>
  obtain⟨σ',H',I',q⟩:=q;exact h2 pins s1 σ' H' D I' q
 |ret v=>exact q
 |brk=>exact q
 |cont=>exact q
theorem zun (h1:PS X st t):PSs X [st] t:=by
 intro pins s σ H D I h;refine wpAny_execs_cons (thn (h1 pins s σ H D I h) fun f s1 q=>?_);cases f with
 |next=>exact wpAny_execs_nil q
 |ret v=>exact q
 |brk=>exact q
 |cont=>exact q
theorem Inv.quiet{pins:List (Addr×Obj)}{σ:St}{H:Hp}{s:Shared}(I:Inv X pins σ H s):interactive X.env=false:=by simp [interactive,I.ok.kind]
noncomputable def zzr (te:TE):TS:=fun D σ H=>te σ H fun _ H1=>D.nx σ H1
theorem ztV (he:PE X e te) (hs:swapsWith e none pos.line X.env=pure false:=by rfl):PS X (.Expr e pos) (zzr te):=by
 intro pins s σ H D I h;exact wpAny_Expr_any (thn (he pins s σ H _ I h) fun v s1 ⟨x,H1,I1,r1,q1⟩=>⟨σ,H1,I1,q1⟩) I.quiet hs
noncomputable def zBo (te:TE):TS:=fun D σ H=>te σ H D.rt
theorem zvU (he:PE X e te):PS X (.Return (some e) pos) (zBo te):=by
 intro pins s σ H D I h;exact wpAny_Return_some (thn (he pins s σ H _ I h) fun v s1 ⟨x,H1,I1,r1,q1⟩=>⟨x,σ,H1,I1,r1,q1⟩)
noncomputable def zAK (c:TT) (t u:TS):TS:=fun D σ H=>c σ H fun b H1=>if b=true then t D σ H1 else u D σ H1
theorem zzY{c:Expr}{a b:List Stmt}{tc:TT}(hc:PT X c tc) (ha:PSs X a t) (hb:PSs X b u):PS X (.If c a b pos) (zAK tc t u):=by
 intro pins s σ H D I h;refine wpAny_If (thn (hc pins s σ H _ I h) fun d s1 ⟨H1,I1,q1⟩=>?_);cases d with
 |true=>exact ha pins s1 σ H1 D I1 q1
 |false=>exact hb pins s1 σ H1 D I1 q1
noncomputable def zxZ:TS:=fun _ _ _=>False
theorem ps_never:PS X st zxZ:=fun _ _ _ _ _ _ h=>h.elim
end
noncomputable abbrev TG:=V→St→Hp→(St→Hp→Prop)→Prop
noncomputable abbrev TGs:=List V→St→Hp→(St→Hp→Prop)→Prop
noncomputable def PG (X:Cx) (target:Expr) (t:TG):Prop:=
 ∀(pins:List (Addr×Obj)) (s:Shared) (σ:St) (H:Hp) (v:V) (u:Value) (Q:St→Hp→Prop),Inv X pins σ H s→RelV v u→t v σ H Q→
  wpAny (model X.prog X.w) X.A (assign target X.env u) (fun _ s'=>∃σ' H',Inv X pins σ' H' s'∧Q σ' H') X.xe s
noncomputable def PGs (X:Cx) (ts:List Expr) (t:TGs):Prop:=
 ∀(pins:List (Addr×Obj)) (s:Shared) (σ:St) (H:Hp) (vs:List V) (us:List Value) (Q:St→Hp→Prop),Inv X pins σ H s→Vals vs us→t vs σ H Q→
  wpAny (model X.prog X.w) X.A (assignInOrder ((assignEach ts X.env).map (·.2)) us) (fun _ s'=>∃σ' H',Inv X pins σ' H' s'∧Q σ' H') X.xe s
noncomputable abbrev TIp:=V→V→Hp→VK→Prop
noncomputable def PIp (X:Cx) (op:Operator) (t:TIp):Prop:=
 ∀(pins:List (Addr×Obj)) (s:Shared) (σ:St) (H:Hp) (x y:V) (v u:Value) (Q:VK),Inv X pins σ H s→RelV x v→RelV y u→t x y H Q→
  wpAny (model X.prog X.w) X.A (inplaceOp op v u) (EP X pins σ Q) X.xe s
section
variable {X:Cx}{pos:Pos}
noncomputable def zuz (i:Nat):TG:=fun v σ H Q=>Q (σ.set i (some v)) H
theorem zuW{i:Nat}{x:Str}(hN:X.N.Nodup) (hi:X.N[i]? =some x) (hx:Loc X.env.scope x) (hf:X.fn x=true∨X.env.scope.names.lookup x=some .local:=by first |exact .inl rfl |exact .inr rfl |assumption):PG X (.Name x pos) (zuz i):=by
 intro pins s σ H v u Q I r h;exact wpAny_assign_Name (zjy I hN hi hx r (fun s' I'=>⟨_,H,I',h⟩) hf)
noncomputable def zAV:TGs:=fun vs σ H Q=>vs=[]∧Q σ H
noncomputable def zzL (t:TG) (u:TGs):TGs:=fun vs σ H Q=>∃v r,vs=v::r∧t v σ H fun σ' H'=>u r σ' H' Q
theorem zup:PGs X [] zAV:=by
 intro pins s σ H vs us Q I r h;obtain⟨e,h⟩:=h;subst e;cases r;exact assignInOrder_nil ⟨σ,H,I,h⟩
theorem zsb{e:Expr}{es:List Expr}{t:TG}{u:TGs}(h1:PG X e t) (h2:PGs X es u)
  (hs:(assignEach (e::es) X.env).map (·.2)=assign e X.env::(assignEach es X.env).map (·.2):=by rfl):PGs X (e::es) (zzL t u):=by
 intro pins s σ H vs us Q I r h;obtain⟨v,vr,e1,h⟩:=h;subst e1;cases r with
 |cons r rr=>
  rw [hs];refine assignInOrder_cons (thn (h1 pins s σ H _ _ _ I r h) fun _ s1 ⟨σ1,H1,I1,q1⟩=>?_);exact h2 pins s1 σ1 H1 _ _ Q I1 rr q1
noncomputable def zAW (K:PySem.W.Frag) (n:Nat) (t:TGs):TG:=fun v σ H Q=>∃a xs,v= .ref a∧SqT K H a xs∧xs.length=n∧t xs σ H Q
theorem zwh{es:List Expr}{k:Nat}{t:TGs}{n:Nat}(hc:X.calm=true) (h:PGs X es t)
  (hn:(assignEach es X.env).length=n:=by rfl) (hst:(assignEach es X.env).findIdx? (·.1)=none:=by rfl):PG X (.Tuple es k pos) (zAW X.K n t):=by
 intro pins s σ H v u Q I r hw;obtain⟨a,xs,e1,hq,hl,hw⟩:=hw;subst e1;cases r;obtain⟨its,rv,ht,hz⟩:=I.tuple hq;refine assign_Tuple_tuple (I.ok.hd hc) ht (by simp [hn,←hl,rv.length]) hst fun h' hx=>?_;have I1:Inv X pins σ H { s with heap:=h' }:=I.kept (t':=s.toks) fun b o e=>hx b o (Nat.ne_of_lt (Heap.lt_size e)) e;exact h pins _ σ H xs _ Q I1 (by simpa using rv) hw
noncomputable def zyH (te:TE) (g:TG):TS:=fun D σ H=>te σ H fun x H1=>g x σ H1 D.nx
theorem zwW{tg e:Expr}{te:TE}{g:TG}(he:PE X e te) (hg:PG X tg g) (hs:swapsWithSole [tg] e pos.line X.env=pure false:=by rfl) (hw:swappedStores [tg] e X.env=pure none:=by rfl)
  (h1:(assignEach [tg] X.env).map (·.2)=[assign tg X.env]:=by rfl):PS X (.Assign [tg] e pos) (zyH te g):=by
 intro pins s σ H D I h;refine wpAny_Assign_stores (thn (he pins s σ H _ I h) fun v s1 ⟨x,H1,I1,r1,q1⟩=>?_) hs hw;rw [h1];exact thn (hg pins s1 σ H1 x v _ I1 r1 q1) fun _ s2 q=>q
theorem zxc{i:Nat}{x:Str}{e:Expr}{te:TE}{pos':Pos}(hN:X.N.Nodup) (hi:X.N[i]? =some x) (hx:Loc X.env.scope x) (he:PE X e te) (hs:swapsWith e (some (.Name x pos')) pos.line X.env=pure false:=by rfl) (hf:X.fn x=true∨X.env.scope.names.lookup x=some .local:=by first |exact .inl rfl |exact .inr rfl |assumption) :
  PS X (.Assign [.Name x pos'] e pos) (zyH te (zuz i)):=by
 intro pins s σ H D I h;refine wpAny_Assign_Name (thn (he pins s σ H _ I h) fun v s1 ⟨y,H1,I1,r1,q1⟩=>?_) hs;exact zjy I1 hN hi hx r1 (fun s2 I2=>⟨_,H1,I2,q1⟩) hf
noncomputable def zAO (i:Nat) (te:TE) (ti:TIp):TS:=fun D σ H=>∃x,σ[i]? =some (some x)∧te σ H fun y H1=>ti x y H1 fun z H2=>D.nx (σ.set i (some z)) H2
theorem zws{i:Nat}{x:Str}{e:Expr}{te:TE}{op:Operator}{ti:TIp}{pos':Pos}(hN:X.N.Nodup) (hi:X.N[i]? =some x) (hx:Loc X.env.scope x) (he:PE X e te) (ho:PIp X op ti) (hf:X.fn x=true∨X.env.scope.names.lookup x=some .local:=by first |exact .inl rfl |exact .inr rfl |assumption) :
  PS X (.AugAssign (.Name x pos') op e pos) (zAO i te ti):=by
 intro pins s σ H D I h;obtain⟨v,e1,h⟩:=h;obtain⟨m,hn,hl⟩:=I.loc;have vis:Vis X.env.scope x:=by rcases hx with k |k;exact .inl k;exact .inr (.inl k)
 obtain⟨u,r,l⟩:=hl i x v hi e1 vis;refine wpAny_AugAssign_Name ?_;have go:wpAny (model X.prog X.w) X.A (eval e X.env) (fun w s₂=>wpAny (model X.prog X.w) X.A (inplaceOp op u w) (fun r s₃=>wpAny (model X.prog X.w) X.A (storeName X.env x r) (fun _=>SP X pins D .next) X.xe s₃) X.xe s₂) X.xe s:=by
  refine thn (he pins s σ H _ I h) fun w s1 ⟨y,H1,I1,r1,q1⟩=>?_;refine thn (ho pins s1 σ H1 v y u w _ I1 r r1 q1) fun z s2 ⟨zv,H2,I2,r2,q2⟩=>?_;exact zjy I2 hN hi hx r2 (fun s3 I3=>⟨_,H2,I3,q2⟩) hf
 rcases l with⟨hk,hm⟩ |⟨hk,c,hc,hcell⟩
 ·exact wpAny_loadName_local I.ok.kind hk hn hm go
 ·rcases hk with hk |hk
  ·exact wpAny_loadName_cell I.ok.kind hk hc hcell go
  ·rcases hx with k |k
   ·have:X.env.scope.names.lookup x=some .free:=hk;rw [k]at this;cases this
   ·have:X.env.scope.names.lookup x=some .free:=hk;rw [k]at this;cases this
noncomputable def ipI (f:Int→Int→Int):TIp:=fun x y H Q=>∃i j,x= .int i∧y= .int j∧Q (.int (f i j)) H
theorem zvO:PIp X .Add (ipI fun i j=>i+j):=by
 intro pins s σ H x y v u Q I r1 r2 h;obtain⟨i,j,e1,e2,q⟩:=h;subst e1;subst e2;obtain⟨t,rfl⟩:=r1;obtain⟨t',rfl⟩:=r2;exact iadd_int ⟨.int _,H,I.tok _,⟨_,rfl⟩,q⟩
end
section
variable {X:Cx}{pos:Pos}
noncomputable def zvS (c:TT) (tb:TS):TS:=fun D σ H=>∃W:Nat→St→Hp→Prop,(∃m,W m σ H)∧ ∀m σ H,W m σ H→
 c σ H fun b H1=>if b=true then ∃N:St→Hp→Prop,(∀σ' H',N σ' H'→ ∃m',m'<m∧W m' σ' H')∧tb { D with nx:=N,ct:=N,bk:=D.nx } σ H1 else D.nx σ H1
theorem zso{c:Expr}{body:List Stmt}{tc:TT}{tb:TS}(hp:PassesOwn (model X.prog X.w) X.A X.env X.xe) (hc:PT X c tc) (hb:PSs X body tb):PS X (.While c body [] pos) (zvS tc tb):=by
 intro pins s σ H D I h;obtain⟨W,⟨m0,w0⟩,turn⟩:=h;refine wpAny_While (codeAny_whileLoop (fun n s'=>∃σ' H',Inv X pins σ' H' s'∧W n σ' H') ?_ m0 ⟨σ,H,I,w0⟩);rintro n s1 ⟨σ1,H1,I1,w1⟩;refine wpAny_passesOwn hp (thn (hc pins s1 σ1 H1 _ I1 (turn n σ1 H1 w1)) fun b s2 ⟨H2,I2,q2⟩=>?_);cases b with
 |true=>
  obtain⟨N,hN,q2⟩:=q2;rw [if_pos rfl];refine wpAny_passesOwn hp (thn (hb pins s2 σ1 H2 _ I2 q2) fun f s3 q3=>?_);cases f with
  |next=>
   obtain⟨σ3,H3,I3,n3⟩:=q3;obtain⟨m',hm,w3⟩:=hN σ3 H3 n3;exact⟨m',hm,σ3,H3,I3,w3⟩
  |cont=>
   obtain⟨σ3,H3,I3,n3⟩:=q3;obtain⟨m',hm,w3⟩:=hN σ3 H3 n3;exact⟨m',hm,σ3,H3,I3,w3⟩
  |brk=>exact q3
  |ret v=>exact q3
 |false=>
  rw [if_neg Bool.false_ne_true];exact wpAny_execs_nil ⟨σ1,H2,I2,q2⟩
end
structure It where
  go:Nat→Hp→Prop
  yld:Nat→Hp→V→Hp→Prop
  stop:Nat→Hp→Prop
noncomputable def zjC (X:Cx) (pins:List (Addr×Obj)) (H:Hp) (b:Addr):Prop:=
 H b=none∧b≠X.env.locals∧b∉X.fs∧(b∈X.ex∨X.s₀.heap.objs.size≤b)∧(∀x c,X.env.cells.lookup x=some c→c≠b)∧ ∀p∈X.pn++pins,p.1≠b
theorem Inv.fpOk{X:Cx}{pins:List (Addr×Obj)}{σ:St}{H H':Hp}{s:Shared}{b:Addr}(I:Inv X pins σ H s) (hb:s.heap.objs.size≤b) (hn:H' b=none):zjC X pins H' b:=by
 refine⟨hn,Nat.ne_of_gt (Nat.lt_of_lt_of_le I.lt hb),I.nofs hb, .inr (Nat.le_trans I.sz hb),fun x c e z=>?_,fun p hp z=>?_⟩
 ·obtain⟨v,q⟩:=I.cell x c e;exact absurd (Nat.lt_of_lt_of_le q.lt (by rw [z];exact hb)) (Nat.lt_irrefl _)
 ·exact absurd (Nat.lt_of_lt_of_le (Heap.lt_size (I.pin p hp).1) (by rw [z];exact hb)) (Nat.lt_irrefl _)
structure Turn (P:Program) (w:World) (K:PySem.W.Frag) (tg:Expr) (J:It) (fp:List Addr) (it:Addr) (tn:Nat→Heap→Prop):Prop where
  mem:it∈fp
  obj:∀i h,tn i h→ ∀b∈fp,∃o,h.get? b=some o∧ ∀v,o.data≠ .cell v
  keep:∀i h h',tn i h→(∀b∈fp,∀o,h.get? b=some o→h'.get? b=some o)→tn i h'
  item:∀(X:Cx),X.prog=P→X.w=w→X.K=K→X.calm=true→ ∀(i:Nat) (pins:List (Addr×Obj)) (s:Shared) (σ:St) (H:Hp) (E:Value→Shared→Prop),Inv X pins σ H s→(∀b∈fp,zjC X pins H b)→tn i s.heap→J.go i H→
    wpAny (model P w) X.A (pyNext (.ref it)) (fun r s1=>∃u,r=some u∧
      wpAny (model P w) X.A (letOwnedTupleGo tg (.ref it) u) (fun _ s2=>∃x H',Inv X pins σ H' s2∧RelV x u∧J.yld i H x H'∧tn (i+1) s2.heap∧ ∀b∈fp,H' b=none) E s1) E s
  done:∀(X:Cx),X.prog=P→X.w=w→X.K=K→X.calm=true→ ∀(i:Nat) (pins:List (Addr×Obj)) (s:Shared) (σ:St) (H:Hp) (E:Value→Shared→Prop),Inv X pins σ H s→(∀b∈fp,zjC X pins H b)→tn i s.heap→J.stop i H→
    wpAny (model P w) X.A (pyNext (.ref it)) (fun r s1=>r=none∧Inv X pins σ H s1) E s
  self:∀(A:Around) (i:Nat) (s:Shared) (Q:Value→Shared→Prop) (E:Value→Shared→Prop),tn i s.heap→Q (.ref it) s→wpAny (model P w) A (pyIter (.ref it)) Q E s
noncomputable abbrev TI:=St→Hp→(It→Hp→Prop)→Prop
noncomputable def PIE (X:Cx) (pins:List (Addr×Obj)) (σ:St) (tg:Expr) (R:It→Hp→Prop) (itv:Value) (s2:Shared):Prop:=
 ∃(it:Addr) (fp:List Addr) (tn:Nat→Heap→Prop) (J:It) (H':Hp),itv= .ref it∧Inv X pins σ H' s2∧Turn X.prog X.w X.K tg J fp it tn∧tn 0 s2.heap∧(∀b∈fp,zjC X pins H' b)∧R J H'
noncomputable def PI (X:Cx) (tg iter:Expr) (wi:TI):Prop:=
 ∀(pins:List (Addr×Obj)) (s:Shared) (σ:St) (H:Hp) (R:It→Hp→Prop),Inv X pins σ H s→wi σ H R→
  wpAny (model X.prog X.w) X.A (eval iter X.env) (fun v s1=>wpAny (model X.prog X.w) X.A (pyIter v) (PIE X pins σ tg R) X.xe s1) X.xe s
theorem zry{M:Model}{A:Around}{E:Value→Shared→Prop}{s:Shared}{tg:Expr}{it:Addr}{u:Value}{o:Obj}{n:String}{vs:Array Value}{Q:Unit→Shared→Prop}(ho:s.heap.get? it=some o) (hc:o.cls= .type n) (hd:o.data= .fields vs)
    (hn: ["enumerate", "zip", "dict_itemiterator", "dict_reverseitemiterator", "odict_iterator", "itertools.zip_longest", "itertools.pairwise"].contains n=false) (hQ:Q () s):wpAny M A (letOwnedTupleGo tg (.ref it) u) Q E s:=by
  unfold letOwnedTupleGo;cases tg<;>first
    |exact wpAny_pure hQ
    | (cases u<;>first
        |exact wpAny_pure hQ
        | (refine wpAny_bind (wpAny_load ho ?_)
           rw [hc,hd];show wpAny M A (if(["enumerate", "zip", "dict_itemiterator", "dict_reverseitemiterator", "odict_iterator", "itertools.zip_longest", "itertools.pairwise"].contains n&&vs[0]? == some (rawInt _))=true then _ else _) Q E s;rw [if_neg (by intro h;rw [hn,Bool.false_and]at h;cases h)];exact wpAny_pure hQ))
noncomputable def Itl (K:PySem.W.Frag) (a:Addr):It:=
 ⟨fun i H=>∃xs x,SqL K H a xs∧xs[i]? =some x,fun i H x H'=>H'=H∧ ∀xs,SqL K H a xs→xs[i]? =some x,fun i H=>∃xs,SqL K H a xs∧xs.length≤i⟩
noncomputable def Itt (K:PySem.W.Frag) (a:Addr):It:=
 ⟨fun i H=>∃xs x,SqT K H a xs∧xs[i]? =some x,fun i H x H'=>H'=H∧ ∀xs,SqT K H a xs→xs[i]? =some x,fun i H=>∃xs,SqT K H a xs∧xs.length≤i⟩
noncomputable def Itr (lo:Int) (n:Nat):It:=⟨fun i _=>i<n,fun i H x H'=>H'=H∧x= .int (lo+i),fun i _=>n≤i⟩
theorem zpC{P:Program}{w:World}{K:PySem.W.Frag}{tg:Expr}(a it:Addr):Turn P w K tg (Itl K a) [it] it (fun i h=>h.IsListIter it a i) where
  mem:=by simp
  obj:=fun i h st b hb=>by
    have e:b=it:=by simpa using hb
    subst e;obtain⟨o,e,c,d⟩:=st;exact⟨o,e,fun v z=>by rw [d]at z;cases z⟩
  keep:=fun i h h' st k=>st.at fun o e=>k it (by simp) o e
  item:=by
    intro X hP hw hK hc i pins s σ H E I hf st hg;subst hP hw hK;obtain⟨xs,x,hq,hx⟩:=hg;obtain⟨its,rv,p,hz⟩:=I.list hq;obtain⟨u,hu,ru⟩:=rv.get hx;obtain⟨f0,f1,f2,f3,f4,f5⟩:=hf it (by simp);refine wpAny_pyNext_list_item st p.isList (x:=u) (by simpa using hu) fun h' st' sb=>?_;have I1:Inv X pins σ H { s with heap:=h' }:=I.turned (t':=s.toks) (fun b o hb e=>(sb.2 b hb).trans e) f0 f1 f3 f4 f5;obtain⟨o,e,c,d⟩:=id st';exact⟨u,rfl,zry (s:={ s with heap:=h' }) e c d (by decide) ⟨x,H,I1,ru,⟨rfl,fun ys hy=>by rw [I.list_inj hy hq];exact hx⟩,st',fun b hb=>(hf b hb).1⟩⟩
  done:=by
    intro X hP hw hK hc i pins s σ H E I hf st hg;subst hP hw hK;obtain⟨xs,hq,hx⟩:=hg;obtain⟨its,rv,p,hz⟩:=I.list hq;obtain⟨f0,f1,f2,f3,f4,f5⟩:=hf it (by simp);have hl:=rv.length;exact wpAny_pyNext_list_end (I.ok.hd hc) st p.isList (by simp;omega) fun h' eb=>⟨rfl,I.turned (t':=s.toks) (fun b o hb e=>eb b o hb e) f0 f1 f3 f4 f5⟩
  self:=fun _ _ _ _ _ st h=>wpAny_pyIter_listiter st h
theorem zor{P:Program}{w:World}{K:PySem.W.Frag}{tg:Expr}(a it:Addr):Turn P w K tg (Itt K a) [it] it (fun i h=>h.IsTupleIter it a i) where
  mem:=by simp
  obj:=fun i h st b hb=>by
    have e:b=it:=by simpa using hb
    subst e;obtain⟨o,e,c,d⟩:=st;exact⟨o,e,fun v z=>by rw [d]at z;cases z⟩
  keep:=fun i h h' st k=>st.at fun o e=>k it (by simp) o e
  item:=by
    intro X hP hw hK hc i pins s σ H E I hf st hg;subst hP hw hK;obtain⟨xs,x,hq,hx⟩:=hg;obtain⟨its,rv,p,hz⟩:=I.tuple hq;obtain⟨u,hu,ru⟩:=rv.get hx;obtain⟨f0,f1,f2,f3,f4,f5⟩:=hf it (by simp);refine wpAny_pyNext_tuple_item st (show s.heap.IsTuple a its.toArray from p) (x:=u) (by simpa using hu) fun h' st' sb=>?_;have I1:Inv X pins σ H { s with heap:=h' }:=I.turned (t':=s.toks) (fun b o hb e=>(sb.2 b hb).trans e) f0 f1 f3 f4 f5;obtain⟨o,e,c,d⟩:=id st';exact⟨u,rfl,zry (s:={ s with heap:=h' }) e c d (by decide) ⟨x,H,I1,ru,⟨rfl,fun ys hy=>by rw [I.tuple_inj hy hq];exact hx⟩,st',fun b hb=>(hf b hb).1⟩⟩
  done:=by
    intro X hP hw hK hc i pins s σ H E I hf st hg;subst hP hw hK;obtain⟨xs,hq,hx⟩:=hg;obtain⟨its,rv,p,hz⟩:=I.tuple hq;obtain⟨f0,f1,f2,f3,f4,f5⟩:=hf it (by simp);have hl:=rv.length;exact wpAny_pyNext_tuple_end (I.ok.hd hc) st (show s.heap.IsTuple a its.toArray from p) (by simp;omega) fun h' eb=>⟨rfl,I.turned (t':=s.toks) (fun b o hb e=>eb b o hb e) f0 f1 f3 f4 f5⟩
  self:=fun _ _ _ _ _ st h=>wpAny_pyIter_tupleiter st h
theorem zoi{P:Program}{w:World}{K:PySem.W.Frag}{tg:Expr}(it:Addr) (lo:Int) (n:Nat):Turn P w K tg (Itr lo n) [it] it (fun i h=>IsRangeIter h it (lo+(i:Nat)*1) ((n:Int) - (i:Nat)) 1) where
  mem:=by simp
  obj:=fun i h st b hb=>by
    have e:b=it:=by simpa using hb
    subst e;exact⟨_,st,fun v z=>by
      have z':Data.fields _=Data.cell v:=z;cases z'⟩
  keep:=fun i h h' st k=>k it (by simp) _ st
  item:=by
    intro X hP hw hK hc i pins s σ H E I hf st hg;subst hP hw hK;obtain⟨f0,f1,f2,f3,f4,f5⟩:=hf it (by simp);have W:=Walks.range (prog:=X.prog) (w:=X.w) (I.ok.hd hc) it lo 1 n;refine W.item i s _ _ hg st fun v h' tk hv st' kk=>?_;obtain⟨t,rfl⟩:=hv;have I1:Inv X pins σ H { s with heap:=h',toks:=tk }:=I.turned (fun b o hb e=>kk b o (by simpa using hb) e) f0 f1 f3 f4 f5;refine⟨_,rfl,zry (s:={ s with heap:=h',toks:=tk }) (n:= "range_iterator") st' rfl rfl (by decide) ⟨.int (lo+i),H,I1,⟨t,?_⟩,⟨rfl,rfl⟩,st',fun b hb=>(hf b hb).1⟩⟩;rw [Int.mul_one]
  done:=by
    intro X hP hw hK hc i pins s σ H E I hf st hg;subst hP hw hK;obtain⟨f0,f1,f2,f3,f4,f5⟩:=hf it (by simp);exact wpAny_pyNext_range_end (I.ok.hd hc) st (by have:n≤i:=hg;omega) fun h' eb=>⟨rfl,I.turned (t':=s.toks) (fun b o hb e=>eb b o hb e) f0 f1 f3 f4 f5⟩
  self:=fun _ _ _ _ _ st h=>wpAny_pyIter_rangeiter st h
section
variable {X:Cx}{tg:Expr}
theorem zsK{pins:List (Addr×Obj)}{σ:St}{H:Hp}{s:Shared}{R:It→Hp→Prop}{E:Value→Shared→Prop}{lo hi:Int}{t u v:Tok}{tk:Nat}(I:Inv X pins σ H s) (h1: -(2 ^ 62)≤lo) (h2:lo<2 ^ 62) (h3: -(2 ^ 62)≤hi) (h4:hi<2 ^ 62)
  (q:R (Itr lo (hi - lo).toNat) H):wpAny (model X.prog X.w) X.A (pyIter (.ref s.heap.objs.size)) (PIE X pins σ tg R) E { s with heap:=s.heap.push { cls:= .type "range",data:= .fields #[.int lo t, .int hi u, .int 1 v] },toks:=tk }:=by
 refine wpAny_pyIter_range (IsRange.new ..) (small_one h1 h2 h3 h4) ?_;have I1:Inv X pins σ H { s with heap:=s.heap.push { cls:= .type "range",data:= .fields #[.int lo t, .int hi u, .int 1 v] },toks:=tk }:=I.kept fun b o e=>Heap.get?_push_of_some _ e;refine⟨(s.heap.push { cls:= .type "range",data:= .fields #[.int lo t, .int hi u, .int 1 v] }).objs.size,[(s.heap.push { cls:= .type "range",data:= .fields #[.int lo t, .int hi u, .int 1 v] }).objs.size],_,_,H,rfl,
  I1.kept (t':=tk) fun b o e=>Heap.get?_push_of_some _ e,zoi _ lo (hi - lo).toNat,?_,fun b hb=>?_,q⟩
 ·have e1:lo+((0:Nat):Int)*1=lo:=by simp
  have e2:(((hi - lo).toNat:Nat):Int) - ((0:Nat):Int)=Builtin.Range.rangeSize lo hi 1:=by rw [rangeSize_one];split<;>omega
  show IsRangeIter _ _ (lo+((0:Nat):Int)*1) ((((hi - lo).toNat:Nat):Int) - ((0:Nat):Int)) 1;rw [e1,e2];exact Heap.get?_push_size _ rfl
 ·have e:b=(s.heap.push { cls:= .type "range",data:= .fields #[.int lo t, .int hi u, .int 1 v] }).objs.size:=by simpa using hb
  subst e;exact I1.fpOk (Nat.le_refl _) (I1.hok.fresh (Nat.le_refl _))
noncomputable def zze (ta:TA):TI:=fun σ H R=>ta σ H fun vs H1=>∃j:Int,vs=[.int j]∧ -(2 ^ 62)≤j∧j<2 ^ 62∧R (Itr 0 j.toNat) H1
theorem zpF{a:Expr}{ta:TA}{p pos:Pos}(hg:Gl X "range") (hm:X.mg "range" =none) (ha:PA X [a] ta) (hs:starEach [a] X.env=[(false,eval a X.env)]:=by rfl):PI X tg (.Call (.Name "range" p) [a] [] pos) (zze ta):=by
 intro pins s σ H R I h;refine Call_ (ziE I hg hm boot_range (PyProof.Rows.callWith_type1 (thn (ha pos pins s σ H _ I h) fun us s1 ⟨vs,H1,I1,r1,q1⟩=>?_) hs rfl));obtain⟨j,e,q1,q2,q⟩:=q1;subst e;cases r1 with
 |cons r rr=>
  cases rr;obtain⟨t,rfl⟩:=r;exact call_range_1 (zsK I1 (by omega) (by omega) q1 q2 (by simpa using q))
noncomputable def zBc (wi:TI) (g:TG) (tb:TS):TS:=fun D σ H=>wi σ H fun J H1=>∃W:Nat→Nat→St→Hp→Prop,(∃m,W 0 m σ H1)∧ ∀i m σ H,W i m σ H→
 (J.stop i H∧D.nx σ H)∨(J.go i H∧ ∃N:St→Hp→Prop,(∀σ' H',N σ' H'→ ∃m',m'<m∧W (i+1) m' σ' H')∧ ∀x H',J.yld i H x H'→g x σ H' fun σ2 H2=>tb { D with nx:=N,ct:=N,bk:=D.nx } σ2 H2)
noncomputable def zjN (fp:List Addr) (h:Heap):List (Addr×Obj):=fp.filterMap fun b=>(h.get? b).map fun o=>(b,o)
theorem zeG{fp:List Addr}{h:Heap}{b:Addr}{o:Obj}(hb:b∈fp) (e:h.get? b=some o):(b,o)∈zjN fp h:=List.mem_filterMap.mpr ⟨b,hb,by rw [e];rfl⟩
theorem zrh{fp:List Addr}{h:Heap}{p:Addr×Obj}(hp:p∈zjN fp h):p.1∈fp∧h.get? p.1=some p.2:=by
 obtain⟨b,hb,e⟩:=List.mem_filterMap.mp hp;cases q:h.get? b with
 |none=>rw [q]at e;cases e
 |some o=>
  rw [q]at e;have e':(b,o)=p:=Option.some.inj e;subst e';exact⟨hb,q⟩
theorem Inv.pinned{pins:List (Addr×Obj)}{σ:St}{H:Hp}{s:Shared}{fp:List Addr}(I:Inv X pins σ H s) (hf:∀b∈fp,zjC X pins H b) (ho:∀b∈fp,∃o,s.heap.get? b=some o∧ ∀v,o.data≠ .cell v):Inv X (pins++zjN fp s.heap) σ H s:=
 I.pins_of fun p hp=>(List.mem_append.mp hp).elim (fun z=>I.pin p (List.mem_append_right _ z)) fun z=>by
  obtain⟨hb,e⟩:=zrh z;obtain⟨f0,f1,f2,_⟩:=hf p.1 hb;obtain⟨o,e',d⟩:=ho p.1 hb;rw [e]at e';cases e';exact⟨e,f0,f1,f2,d⟩
theorem Inv.unpinned{pins pl:List (Addr×Obj)}{σ:St}{H:Hp}{s:Shared}(I:Inv X (pins++pl) σ H s):Inv X pins σ H s:=I.pins_of fun p hp=>I.pin p (List.mem_append_right _ (List.mem_append_left _ hp))
theorem zxP{iter:Expr}{body:List Stmt}{wi:TI}{g:TG}{tb:TS}{pos:Pos}(hp:PassesOwn (model X.prog X.w) X.A X.env X.xe) (hc:X.calm=true) (hi:PI X tg iter wi) (hg:PG X tg g) (hb:PSs X body tb)
  (hs:∀x,foldedSetIterable iter X.env x=pure x:=by intro _;rfl):PS X (.For tg iter body [] pos) (zBc wi g tb):=by
 intro pins s σ H D I h;refine wpAny_For (thn (hi pins s σ H _ I h) fun v s1 h1=>thn h1 fun itv s2 h2=>?_) hs;obtain⟨it,fp,tn,J,H2,e,I2,T,st2,f2,W,⟨m0,w0⟩,turn⟩:=h2;subst e;have stat:∀{H':Hp},(∀b∈fp,H' b=none)→ ∀b∈fp,zjC X pins H' b:=fun hn b hb=>⟨hn b hb,(f2 b hb).2⟩;refine codeAny_forLoop_any (fun n s'=>∃i σ' H',Inv X pins σ' H' s'∧tn i s'.heap∧(∀b∈fp,H' b=none)∧W i n σ' H') ?_ m0 ⟨0,σ,H2,I2,st2,fun b hb=>(f2 b hb).1,w0⟩;rintro n s3 ⟨i,σ3,H3,I3,st3,fr3,w3⟩;rcases turn i n σ3 H3 w3 with⟨stop,qn⟩ |⟨go,N,hN,step⟩
 ·refine wpAny_passesOwn hp (thn (T.done X rfl rfl rfl hc i pins s3 σ3 H3 X.xe I3 (stat fr3) st3 stop) fun r s4 ⟨hr,I4⟩=>?_);subst hr;exact wpAny_execs_nil ⟨σ3,H3,I4,qn⟩
 ·refine wpAny_passesOwn hp (thn (T.item X rfl rfl rfl hc i pins s3 σ3 H3 X.xe I3 (stat fr3) st3 go) fun r s4 ⟨u,hr,h4⟩=>?_);subst hr;refine wpAny_passesOwn hp (thn h4 fun _ s5 ⟨x,H5,I5,r5,y5,st5,fr5⟩=>?_);have I5':=I5.pinned (stat fr5) (T.obj _ _ st5);refine wpAny_passesOwn hp (thn (hg _ s5 σ3 H5 x u _ I5' r5 (step x H5 y5)) fun _ s6 ⟨σ6,H6,I6,q6⟩=>?_);refine wpAny_passesOwn hp (thn (hb _ s6 σ6 H6 _ I6 q6) fun f s7 q7=>?_);have again:∀{σ7:St}{H7:Hp},Inv X (pins++zjN fp s5.heap) σ7 H7 s7→N σ7 H7→ ∃m,m<n∧ ∃i σ' H',Inv X pins σ' H' s7∧tn i s7.heap∧(∀b∈fp,H' b=none)∧W i m σ' H':=fun {σ7 H7} I7 n7=>by
   obtain⟨m',hm,w7⟩:=hN σ7 H7 n7;refine⟨m',hm,i+1,σ7,H7,I7.unpinned,T.keep _ _ _ st5 fun b hb o e=>(I7.pin (b,o) (List.mem_append_right _ (List.mem_append_right _ (zeG hb e)))).1,fun b hb=>?_,w7⟩;obtain⟨o,e,d⟩:=T.obj _ _ st5 b hb;exact(I7.pin (b,o) (List.mem_append_right _ (List.mem_append_right _ (zeG hb e)))).2.1
  cases f with
  |next=>obtain⟨σ7,H7,I7,n7⟩:=q7;exact again I7 n7
  |cont=>obtain⟨σ7,H7,I7,n7⟩:=q7;exact again I7 n7
  |brk=>obtain⟨σ7,H7,I7,q7⟩:=q7;exact⟨σ7,H7,I7.unpinned,q7⟩
  |ret v=>obtain⟨x7,σ7,H7,I7,r7,q7⟩:=q7;exact⟨x7,σ7,H7,I7.unpinned,r7,q7⟩
end
noncomputable abbrev R2:=V→V→Hp→VK→Prop
noncomputable def OpR (X:Cx) (f:Value→Value→Sem Value) (r:R2):Prop:=
 ∀(pins:List (Addr×Obj)) (s:Shared) (σ:St) (H:Hp) (x y:V) (v u:Value) (Q:VK),Inv X pins σ H s→RelV x v→RelV y u→r x y H Q→
  wpAny (model X.prog X.w) X.A (f v u) (EP X pins σ Q) X.xe s
noncomputable def UnR (X:Cx) (f:Value→Sem Value) (r:V→Hp→VK→Prop):Prop:=
 ∀(pins:List (Addr×Obj)) (s:Shared) (σ:St) (H:Hp) (x:V) (v:Value) (Q:VK),Inv X pins σ H s→RelV x v→r x H Q→
  wpAny (model X.prog X.w) X.A (f v) (EP X pins σ Q) X.xe s
noncomputable def CallR (X:Cx) (f:Value) (r:List V→Hp→VK→Prop):Prop:=
 ∀(pins:List (Addr×Obj)) (s:Shared) (σ:St) (H:Hp) (xs:List V) (us:List Value) (Q:VK),Inv X pins σ H s→Vals xs us→r xs H Q→
  wpAny (model X.prog X.w) X.A (call f us) (EP X pins σ Q) X.xe s
noncomputable def zAC (X:Cx) (r:V→Hp→(Bool→Hp→Prop)→Prop):Prop:=
 ∀(pins:List (Addr×Obj)) (s:Shared) (σ:St) (H:Hp) (x:V) (v:Value) (Q:Bool→Hp→Prop),Inv X pins σ H s→RelV x v→r x H Q→
  wpAny (model X.prog X.w) X.A (truthy v) (TP X pins σ Q) X.xe s
noncomputable def tOp (r:R2) (ta tb:TE):TE:=fun σ H Q=>ta σ H fun x H1=>tb σ H1 fun y H2=>r x y H2 Q
noncomputable def tUn (r:V→Hp→VK→Prop) (ta:TE):TE:=fun σ H Q=>ta σ H fun x H1=>r x H1 Q
noncomputable def rI (C:Int→Int→Prop) (g:Int→Int→V):R2:=fun x y H Q=>∃i j,x= .int i∧y= .int j∧C i j∧Q (g i j) H
noncomputable def rI0 (g:Int→Int→V):R2:=fun x y H Q=>∃i j,x= .int i∧y= .int j∧Q (g i j) H
noncomputable def rU (g:Int→V):V→Hp→VK→Prop:=fun x H Q=>∃i,x= .int i∧Q (g i) H
section
variable {X:Cx}{a b:Expr}{ta tb:TE}{pos:Pos}
theorem zyJ (ha:PE X a ta) (hb:PE X b tb) {pins:List (Addr×Obj)}{s:Shared}{σ:St}{H:Hp}{R:V→V→Hp→Prop}(I:Inv X pins σ H s)
  (h:ta σ H fun x H1=>tb σ H1 fun y H2=>R x y H2) {Q:Value→Shared→Prop}{f:Value→Value→Sem Value}
  (hf:∀v u s2 x y H2,Inv X pins σ H2 s2→RelV x v→RelV y u→R x y H2→wpAny (model X.prog X.w) X.A (f v u) Q X.xe s2) :
  wpAny (model X.prog X.w) X.A (eval a X.env) (fun v s₁=>wpAny (model X.prog X.w) X.A (eval b X.env) (fun u s₂=>wpAny (model X.prog X.w) X.A (f v u) Q X.xe s₂) X.xe s₁) X.xe s:=by
 refine thn (ha pins s σ H _ I h) fun v s1 ⟨x,H1,I1,r1,q1⟩=>?_;refine thn (hb pins s1 σ H1 _ I1 q1) fun u s2 ⟨y,H2,I2,r2,q2⟩=>?_;exact hf v u s2 x y H2 I2 r1 r2 q2
theorem zpJ{op:Operator}{r:R2}(ho:OpR X (binaryOp op) r) (ha:PE X a ta) (hb:PE X b tb):PE X (.BinOp a op b pos) (tOp r ta tb):=by
 intro pins s σ H Q I h;exact wpAny_BinOp (zyJ ha hb I h fun v u s2 x y H2 I2 rx ry q=>ho pins s2 σ H2 x y v u Q I2 rx ry q)
theorem zzu{op:UnaryOp}{r:V→Hp→VK→Prop}(ho:UnR X (unaryOp op) r) (ha:PE X a ta):PE X (.UnaryOp op a pos) (tUn r ta):=by
 intro pins s σ H Q I h;exact UnaryOp_ (thn (ha pins s σ H _ I h) fun v s1 ⟨x,H1,I1,r1,q1⟩=>ho pins s1 σ H1 x v Q I1 r1 q1)
theorem opI{f:Value→Value→Sem Value}{C:Int→Int→Prop}{g:Int→Int→Int}
  (rule:∀(i j:Int) (t u:Tok) (s:Shared) (Q:Value→Shared→Prop) (E:Value→Shared→Prop),C i j→Q (.int (g i j) s.toks) { s with toks:=s.toks+1 }→wpAny (model X.prog X.w) X.A (f (.int i t) (.int j u)) Q E s) :
  OpR X f (rI C fun i j=> .int (g i j)):=by
 intro pins s σ H x y v u Q I rx ry h;obtain⟨i,j,rfl,rfl,hc,q⟩:=h;obtain⟨t,rfl⟩:=rx;obtain⟨t',rfl⟩:=ry;exact rule i j t t' s _ _ hc ⟨.int (g i j),H,I.tok _,⟨_,rfl⟩,q⟩
theorem zAd{f:Value→Value→Sem Value}{g:Int→Int→Int}
  (rule:∀(i j:Int) (t u:Tok) (s:Shared) (Q:Value→Shared→Prop) (E:Value→Shared→Prop),Q (.int (g i j) s.toks) { s with toks:=s.toks+1 }→wpAny (model X.prog X.w) X.A (f (.int i t) (.int j u)) Q E s) :
  OpR X f (rI0 fun i j=> .int (g i j)):=by
 intro pins s σ H x y v u Q I rx ry h;obtain⟨i,j,rfl,rfl,q⟩:=h;obtain⟨t,rfl⟩:=rx;obtain⟨t',rfl⟩:=ry;exact rule i j t t' s _ _ ⟨.int (g i j),H,I.tok _,⟨_,rfl⟩,q⟩
theorem zyn{f:Value→Value→Sem Value}{g:Int→Int→Bool}
  (rule:∀(i j:Int) (t u:Tok) (s:Shared) (Q:Value→Shared→Prop) (E:Value→Shared→Prop),Q (.bool (g i j)) s→wpAny (model X.prog X.w) X.A (f (.int i t) (.int j u)) Q E s) :
  OpR X f (rI0 fun i j=> .bl (g i j)):=by
 intro pins s σ H x y v u Q I rx ry h;obtain⟨i,j,rfl,rfl,q⟩:=h;obtain⟨t,rfl⟩:=rx;obtain⟨t',rfl⟩:=ry;exact rule i j t t' s _ _ ⟨.bl (g i j),H,I,rfl,q⟩
noncomputable def zjD (i j:Int):Prop:=0<j∧j<1073741824
noncomputable def zzf (i j:Int):Prop:=0≤j∧j≤1000000∧i.natAbs<2 ^ 64
noncomputable def CMul (i j:Int):Prop:=(-(2 ^ 64)<i∧i<2 ^ 64)∨(-(2 ^ 64)<j∧j<2 ^ 64)
theorem CMul.ok{i j:Int}(h:CMul i j):IntMulOk i j:=by
 rcases h with⟨h1,h2⟩ |⟨h1,h2⟩
 ·exact .of_left (intBits_le_64 h1 h2)
 ·exact .of_right (intBits_le_64 h1 h2)
theorem op_add:OpR X (binaryOp .Add) (rI0 fun i j=> .int (i+j)):=zAd fun _ _ _ _ _ _ _ q=>add_int q
theorem zxL:OpR X (binaryOp .Sub) (rI0 fun i j=> .int (i - j)):=zAd fun _ _ _ _ _ _ _ q=>sub_int q
theorem zwa:OpR X (binaryOp .Mult) (rI CMul fun i j=> .int (i*j)):=opI fun _ _ _ _ _ _ _ hc q=>mul_int q hc.ok
theorem zuX:OpR X (binaryOp .FloorDiv) (rI zjD fun i j=> .int (i / j)):=opI fun i j _ _ _ _ _ hc q=>by
 have h1:(0:Int)<j:=hc.1;have h2:j<1073741824:=hc.2;exact floordiv_int (by omega) (by rw [Int.fdiv_eq_ediv_of_nonneg i (by omega)];exact q) (.inl (PyProof.noPylong_small (by omega)))
theorem zwJ:OpR X (binaryOp .Mod) (rI (fun _ j=>0<j) fun i j=> .int (i % j)):=opI fun i j _ _ _ _ _ hc q=>by
 have h1:(0:Int)<j:=hc;exact mod_int' (by omega) (by rw [Int.fmod_eq_emod_of_nonneg i (by omega)];exact q)
theorem zxR:OpR X (binaryOp .Pow) (rI zzf fun i j=> .int (i ^ j.toNat)):=opI fun _ _ _ _ _ _ _ hc q=>pow_int_small hc.1 hc.2.1 hc.2.2 q
theorem unI{f:Value→Sem Value}{g:Int→Int}
  (rule:∀(i:Int) (t:Tok) (s:Shared) (Q:Value→Shared→Prop) (E:Value→Shared→Prop),Q (.int (g i) s.toks) { s with toks:=s.toks+1 }→wpAny (model X.prog X.w) X.A (f (.int i t)) Q E s) :
  UnR X f (rU fun i=> .int (g i)):=by
 intro pins s σ H x v Q I rx h;obtain⟨i,rfl,q⟩:=h;obtain⟨t,rfl⟩:=rx;exact rule i t s _ _ ⟨.int (g i),H,I.tok _,⟨_,rfl⟩,q⟩
theorem zwA:UnR X (unaryOp .USub) (rU fun i=> .int (-i)):=unI fun _ _ _ _ _ q=>neg_int q
end
section
variable {X:Cx}{a b c:Expr}{ta tb tc:TE}{pos:Pos}
theorem zmL{pins:List (Addr×Obj)}{σ:St}{H:Hp}{s:Shared}{Q:VK}{k k':Bool}(I:Inv X pins σ H s) (q:Q (.bl k) H) (e:k=k'):EP X pins σ Q (.bool k') s:=by
 subst e;exact⟨.bl k,H,I,rfl,q⟩
theorem zzs:OpR X (compareOp .Lt) (rI0 fun i j=> .bl (decide (i<j))):=zyn fun _ _ _ _ _ _ _ q=>lt_int q
theorem op_le:OpR X (compareOp .LtE) (rI0 fun i j=> .bl (decide (i≤j))):=zyn fun _ _ _ _ _ _ _ q=>le_int q
theorem zzx:OpR X (compareOp .Gt) (rI0 fun i j=> .bl (decide (j<i))):=zyn fun _ _ _ _ _ _ _ q=>gt_int q
theorem zyy:OpR X (compareOp .GtE) (rI0 fun i j=> .bl (decide (j≤i))):=zyn fun _ _ _ _ _ _ _ q=>ge_int q
theorem op_isN:OpR X (compareOp .Is) (fun x y H Q=>y= .non∧Q (.bl (decide (x= .non))) H):=by
 intro pins s σ H x y v u Q I rx ry h;obtain⟨rfl,q⟩:=h;cases ry;refine is_none_gen (zmL I q ?_);cases x<;>first
  | (cases rx;rfl)
  | (obtain⟨t,rfl⟩:=rx;rfl)
theorem op_notN:OpR X (compareOp .IsNot) (fun x y H Q=>y= .non∧Q (.bl (!decide (x= .non))) H):=by
 intro pins s σ H x y v u Q I rx ry h;obtain⟨rfl,q⟩:=h;cases ry;refine isnot_none_gen (zmL I q ?_);cases x<;>first
  | (cases rx;rfl)
  | (obtain⟨t,rfl⟩:=rx;rfl)
theorem op_notin_str:OpR X (compareOp .NotIn) (fun x y H Q=>∃i j,x= .str i∧y= .str j∧Q (.bl (!(!(Builtin.Str.occurrences j i 0 j.length 1).isEmpty))) H):=by
 intro pins s σ H x y v u Q I rx ry h;obtain⟨i,j,rfl,rfl,q⟩:=h;obtain⟨t,rfl⟩:=rx;obtain⟨t',rfl⟩:=ry;exact notIn_str (zmL I q rfl)
theorem OpR.or{f:Value→Value→Sem Value}{r r':R2}(h:OpR X f r) (h':OpR X f r'):OpR X f (fun x y H Q=>r x y H Q∨r' x y H Q):=by
 intro pins s σ H x y v u Q I rx ry q;rcases q with q |q
 ·exact h pins s σ H x y v u Q I rx ry q
 ·exact h' pins s σ H x y v u Q I rx ry q
theorem nomark (b:Expr) {op:CmpOp}(h:op≠ .In:=by decide) (h2:op≠ .NotIn:=by decide):behindInMarks op b=false:=by
 have e1:(op == CmpOp.In)=false:=by cases op<;>first |rfl |exact absurd rfl h
 have e2:(op == CmpOp.NotIn)=false:=by cases op<;>first |rfl |exact absurd rfl h2
 cases b<;>simp [behindInMarks,e1,e2]
theorem zvo{op:CmpOp}{r:R2}(ho:OpR X (compareOp op) r) (ha:PE X a ta) (hb:PE X b tb) (hm:behindInMarks op b=false):PE X (.Compare a [op] [b] pos) (tOp r ta tb):=by
 intro pins s σ H Q I h;exact wpAny_Compare1 (zyJ ha hb I h fun v u s2 x y H2 I2 rx ry q=>ho pins s2 σ H2 x y v u Q I2 rx ry q) hm
noncomputable def zzh (t:TE):TT:=fun σ H Q=>t σ H fun x H'=>∃k,x= .bl k∧Q k H'
theorem zvm{op:CmpOp}{r:R2}(ho:OpR X (compareOp op) r) (ha:PE X a ta) (hb:PE X b tb) (hm:behindInMarks op b=false):PT X (.Compare a [op] [b] pos) (zzh (tOp r ta tb)):=by
 intro pins s σ H Q I h;refine wpAny_isTrue_Compare1 (thn (ha pins s σ H _ I h) fun v s1 ⟨x,H1,I1,r1,q1⟩=>thn (hb pins s1 σ H1 _ I1 q1) fun u s2 ⟨y,H2,I2,r2,q2⟩=>
  thn (ho pins s2 σ H2 x y v u _ I2 r1 r2 q2) fun c s3 ⟨z,H3,I3,r3,k,e,q3⟩=>?_) hm
 subst e;cases r3;exact wpAny_truthy_bool ⟨H3,I3,q3⟩
noncomputable def zxG (r r':R2) (ta tb tc:TE):TE:=fun σ H Q=>ta σ H fun x H1=>tb σ H1 fun y H2=>r x y H2 fun z H3=>∃k,z= .bl k∧
 (if k=true then tc σ H3 fun w' H4=>r' y w' H4 Q else Q (.bl false) H3)
theorem zrx{op op':CmpOp}{r r':R2}(ho:OpR X (compareOp op) r) (ho':OpR X (compareOp op') r') (ha:PE X a ta) (hb:PE X b tb) (hc:PE X c tc)
  (hm:lastMarks [op,op'] [b,c]=false:=by with_unfolding_all rfl):PE X (.Compare a [op,op'] [b,c] pos) (zxG r r' ta tb tc):=by
 intro pins s σ H Q I h;refine Compare_chain (thn (ha pins s σ H _ I h) fun v s1 ⟨x,H1,I1,r1,q1⟩=>chain_link (thn (hb pins s1 σ H1 _ I1 q1) fun u s2 ⟨y,H2,I2,r2,q2⟩=>
  thn (ho pins s2 σ H2 x y v u _ I2 r1 r2 q2) fun d s3 ⟨z,H3,I3,r3,k,e,q3⟩=>?_)) hm
 subst e;cases r3;refine wpAny_truthy_bool ?_;cases k with
 |false=>exact ite_ff ⟨.bl false,H3,I3,rfl,q3⟩
 |true=>exact ite_tt (chain_last (thn (hc pins s3 σ H3 _ I3 q3) fun w' s4 ⟨z',H4,I4,r4,q4⟩=>ho' pins s4 σ H4 y z' u w' Q I4 r2 r4 q4))
noncomputable def zzP (K:PySem.W.Frag) (x:V) (H:Hp) (k:Bool):Prop:=
 match x with
 | .non=>k=false
 | .bl b=>k=b
 | .int i=>k=(i != 0)
 | .str y=>y.length≤sizeLine∧k=((y.length:Int) != 0)
 | .byt y=>y.size≤sizeLine∧k=((y.size:Int) != 0)
 | .ref p=>(∃xs,SqL K H p xs∧k= !xs.isEmpty)∨(∃xs,SqT K H p xs∧k= !xs.isEmpty)∨ ∃kvs,H p=some (.dK kvs)∧k= !kvs.isEmpty
 |_=>False
theorem zof{κ:Type}{kvs:List (κ×V)}{vs:List (κ×Value)}(r:KV kvs vs):(!vs.isEmpty)= !kvs.isEmpty:=by
 cases r<;>rfl
theorem zir{xs:List V}{its:List Value}(r:Vals xs its):(!its.toArray.isEmpty)= !xs.isEmpty:=by
 cases r<;>simp
theorem zit:(sizeLine:Nat)<2 ^ 63:=by rw [sizeLine_eq];decide
theorem zxt:zAC X (fun x H Q=>∃k,zzP X.K x H k∧Q k H):=by
 intro pins s σ H x v Q I rx h;obtain⟨k,e,q⟩:=h;have hl:=zit;have hs:sizeLine=16777216:=sizeLine_eq;cases x with
 |non=>
  cases rx;have e':k=false:=e;subst e';exact truthy_none ⟨H,I,q⟩
 |bl b=>
  cases rx;have e':k=b:=e;subst e';exact wpAny_truthy_bool ⟨H,I,q⟩
 |int i=>
  obtain⟨t,rfl⟩:=rx;have e':k=(i != 0):=e;subst e';exact PySem.P.truthy_int ⟨H,I,q⟩
 |str y=>
  obtain⟨t,rfl⟩:=rx;obtain⟨hy,e'⟩:y.length≤sizeLine∧k=((y.length:Int) != 0):=e;subst e';exact PySem.P.truthy_str (by omega) ⟨H,I.tok _,q⟩
 |byt y=>
  obtain⟨t,rfl⟩:=rx;obtain⟨hy,e'⟩:y.size≤sizeLine∧k=((y.size:Int) != 0):=e;subst e';exact PySem.W.truthy_bytes (by omega) ⟨H,I.tok _,q⟩
 |ref p=>
  cases rx;have e':(∃xs,SqL X.K H p xs∧k= !xs.isEmpty)∨(∃xs,SqT X.K H p xs∧k= !xs.isEmpty)∨ ∃kvs,H p=some (.dK kvs)∧k= !kvs.isEmpty:=e;rcases e' with⟨xs,hx,e'⟩ |⟨xs,hx,e'⟩ |⟨kvs,hx,e'⟩
  ·subst e';obtain⟨its,r,pl,hz⟩:=I.list hx;have hlen:=r.length;exact wpAny_truthy_list pl.isList (by simp only[List.size_toArray];omega) ⟨H,I.tok _,by rw [zir r];exact q⟩
  ·subst e';obtain⟨its,r,pl,hz⟩:=I.tuple hx;have hlen:=r.length;exact truthy_tuple pl (by simp only[List.size_toArray];omega) ⟨H,I.tok _,by rw [zir r];exact q⟩
  ·subst e';obtain⟨hz,hS,vs,r,m⟩:kvs.length≤sizeLine∧(p == sysModules)=false∧ ∃vs,KV kvs vs∧s.heap.DictOf (zbw X.prog X.w) p vs:=I.hok p _ hx;have hlen:kvs.length=vs.length:=Paired.length r;exact wpAny_truthy_dict hS m (by omega) ⟨H,I.tok _,by rw [zof r];exact q⟩
 |_=>exact(show False from e).elim
theorem zrT (ha:PE X a ta) (he:∀whole,isTrue a X.env whole=(do let v ←whole;standAt a.pos;holding [v] (truthy v))) :
  PT X a (fun σ H Q=>ta σ H fun x H'=>∃k,zzP X.K x H' k∧Q k H'):=by
 intro pins s σ H Q I h;exact isTrue_plain (thn (ha pins s σ H _ I h) fun v s1 ⟨x,H1,I1,r1,q1⟩=>zxt pins s1 σ H1 x v Q I1 r1 q1) (he _)
theorem op_add_str:OpR X (binaryOp .Add) (fun x y H Q=>∃i j,x= .str i∧y= .str j∧i.length+j.length≤sizeLine∧Q (.str (i++j)) H):=by
 intro pins s σ H x y v u Q I rx ry h;obtain⟨i,j,rfl,rfl,hz,q⟩:=h;obtain⟨t,rfl⟩:=rx;obtain⟨t',rfl⟩:=ry;exact add_str (fun t' tk=>⟨.str (i++j),H,I.tok _,⟨_,rfl⟩,q⟩) hz
theorem ziN{x:V}{us:List Value}(r:Vals [x] us):∃u,us=[u]∧RelV x u:=by
 cases r with
 |cons r1 r2=>cases r2;exact⟨_,rfl,r1⟩
theorem zxC{x y:V}{us:List Value}(r:Vals [x,y] us):∃u w',us=[u,w']∧RelV x u∧RelV y w':=by
 cases r with
 |cons r1 r2=>
  cases r2 with
  |cons r3 r4=>cases r4;exact⟨_,_,rfl,r1,r3⟩
theorem zqJ (hc:X.calm=true):CallR X (.builtin "min") (fun xs H Q=>∃i j,xs=[.int i, .int j]∧Q (.int (if j<i then j else i)) H):=by
 intro pins s σ H xs us Q I r h;obtain⟨i,j,rfl,q⟩:=h;obtain⟨u,w',rfl,⟨t,rfl⟩,⟨t',rfl⟩⟩:=zxC r;refine min_two_ints (I.ok.hd hc) fun h' tk k=>⟨_,H,I.kept k,?_,q⟩;by_cases hj:j<i
 ·rw [if_pos hj,if_pos hj];exact⟨_,rfl⟩
 ·rw [if_neg hj,if_neg hj];exact⟨_,rfl⟩
theorem zqT:CallR X (.type "int") (fun xs H Q=>(∃i,xs=[.int i]∧Q (.int i) H)∨ ∃k,xs=[.bl k]∧Q (.int (if k then 1 else 0)) H):=by
 intro pins s σ H xs us Q I r h;rcases h with⟨i,rfl,q⟩ |⟨k,rfl,q⟩
 ·obtain⟨u,rfl,t,rfl⟩:=ziN r;exact call_int_int ⟨.int i,H,I,⟨_,rfl⟩,q⟩
 ·obtain⟨u,rfl,r1⟩:=ziN r;cases r1;exact call_int_bool ⟨.int (if k then 1 else 0),H,I.tok _,⟨_,rfl⟩,q⟩
end
structure ObjM (h:Heap) (x dx C:Addr) (mA:Str→Option Value):Prop where
  obj:h.get? x=some (PySem.W.instObj C dx)
  ns:h.Ns1 dx mA
  ne:dx≠x
theorem zoN{h:Heap}{dx:Addr}{mA:Str→Option Value}(n:h.Ns1 dx mA):∃od,h.get? dx=some od∧ ∀name,PySem.W.lookIn name od=some (mA name):=by
 obtain⟨o,es,ep,ho,hd,hk,_,hm⟩:=n;refine⟨o,ho,fun name=>?_⟩;have e:=hm name;unfold nsFind findBy at e;rw [←Array.find?_toList]at e;unfold PySem.W.lookIn;rw [hd];dsimp only;split
 ·rename_i y q;rw [q]at e;exact congrArg some e
 ·rename_i q;rw [q]at e;have a:es.toList.any (·.refKey)=false:=by
   rw [List.any_eq_false];intro y hy;obtain⟨z,t,hkey⟩:=hk y (Array.mem_toList_iff.mp hy);simp [DictEntry.refKey,hkey]
  have a':¬es.toList.any (·.refKey)=true:=by rw [a];exact Bool.false_ne_true
  rw [if_neg a'];exact congrArg some e
theorem ObjM.look{h:Heap}{x dx C:Addr}{mA:Str→Option Value}(I:ObjM h x dx C mA):∃od,PySem.W.InstAt h x (PySem.W.instObj C dx) C (some od)∧ ∀name,PySem.W.lookIn name od=some (mA name):=
 let ⟨od,ho,hl⟩:=zoN I.ns
 ⟨od,⟨I.obj,rfl,rfl,ho⟩,hl⟩
section
variable {P:Program}{w:World}{H:Hp}{h:Heap}{a C dx:Addr}{fs:List (Str×V)}
theorem zuq (hok:HOk P w H h) (e:H a=some (.ins C dx fs)):∃mA,ObjM h a dx C mA∧(∀f,RelO (fs.lookup f) (mA f))∧PySem.Within mA (fs.map (·.1))∧fs.length≤1000∧H dx=some (.own a):=by
 obtain⟨d,z,ne,ob,mA,n,r,q⟩:=(show ObjOk P w H h a (.ins C dx fs) from hok a _ e);exact⟨mA,⟨ob,n,ne⟩,r,q,z,d⟩
end
structure Cls (K:PySem.W.Frag) (C:Addr):Prop where
  pg:PySem.W.plainGet K C Str.empty=true
  hd:PySem.W.hasDictIn K C=true
  po:PySem.W.plainOver K C=true
  sa:PySem.W.findIn K (.ref C) "__setattr__" =some (some (.builtin "object.__setattr__"))
theorem Cls.get{K:PySem.W.Frag}{C:Addr}(c:Cls K C) (f:Str):PySem.W.plainGet K C f=true:=c.pg
section
variable {X:Cx}{pins:List (Addr×Obj)}{σ:St}{H:Hp}{s:Shared}{A:Around}{E:Value→Shared→Prop}{Q:Value→Shared→Prop}{c:Value}{b:Bool}
inductive TyOf (K:PySem.W.Frag) (H:Hp):V→Value→Prop where
  |non:TyOf K H .non (.type "NoneType")
  |bl (x:Bool):TyOf K H (.bl x) (.type "bool")
  |int (i:Int):TyOf K H (.int i) (.type "int")
  |str (x:Str):TyOf K H (.str x) (.type "str")
  |flt (x:UInt64):TyOf K H (.flt x) (.type "float")
  |lst {a:Addr}{xs:List V}(e:H a=some (.lst xs)):TyOf K H (.ref a) (.type "list")
  |frz {a:Addr}{o:Obj}{xs:List V}(e:H a=some (.frz o (.lst xs))):TyOf K H (.ref a) (.type "list")
  |tup {a:Addr}{xs:List V}(e:H a=some (.tup xs)):TyOf K H (.ref a) (.type "tuple")
  |dK {a:Addr}{kvs:List (Key×V)}(e:H a=some (.dK kvs)):TyOf K H (.ref a) (.type "dict")
  |dT {a:Addr}{kvs:List (List Key×V)}(e:H a=some (.dT kvs)):TyOf K H (.ref a) (.type "dict")
  |ins {a C dx:Addr}{fs:List (Str×V)}(e:H a=some (.ins C dx fs)) (cl:Cls K C) (ha:PySem.W.findIn K (.ref C) "__class__" =some (some (.builtin "object.__class__")))
      (hn:PySem.W.specialIn K (.builtin "object.__class__") "__get__" =some (some (.builtin "getset_descriptor.__get__"))) (htk:PySem.W.takesIn K (.builtin "object.__class__")=some true)
      (hm:PySem.W.mroIn K C (.type "object")=some true):TyOf K H (.ref a) (.ref C)
theorem zqX{x:V}{u t:Value}(I:Inv X pins σ H s) (rx:RelV x u) (ty:TyOf X.K H x t) (e:PySem.W.kitOne X.K t c=some b) (h:∀tk,Q (.bool b) { s with toks:=tk }) :
  wpAny (model X.prog X.w) A (call (.builtin "isinstance") [u,c]) Q E s:=by
 cases ty with
 |non=>cases(show u=Value.none from rx);exact PySem.W.kia_one PySem.W.kitx_none I.kIn True.intro e (fun z=>nomatch z) h
 |bl y=>cases(show u=Value.bool y from rx);exact PySem.W.kia_one PySem.W.kitx_bool I.kIn True.intro e (fun z=>nomatch z) h
 |int i=>obtain⟨t,q⟩:=(show ∃t,u=Value.int i t from rx);cases q;exact PySem.W.kia_one PySem.W.kitx_int I.kIn True.intro e (fun z=>nomatch z) h
 |str y=>obtain⟨t,q⟩:=(show ∃t,u=Value.str y t from rx);cases q;exact PySem.W.kia_one PySem.W.kitx_str I.kIn True.intro e (fun z=>nomatch z) h
 |flt y=>obtain⟨t,q⟩:=(show ∃t,u=Value.float y t from rx);cases q;exact PySem.W.kia_one PySem.W.kitx_float I.kIn True.intro e (fun z=>nomatch z) h
 | @lst a xs ea=>
  cases(show u=Value.ref a from rx);obtain⟨_,_,n,_,h1⟩:=(show ObjOk X.prog X.w H s.heap a (.lst xs) from I.hok a _ ea);exact PySem.W.kia_one PySem.W.kitx_list I.kIn ⟨_,h1,rfl⟩ e (fun z=>nomatch z) h
 | @frz a ob xs ea=>
  cases(show u=Value.ref a from rx);obtain⟨_,_,_,n,_,h1⟩:=(show ObjOk X.prog X.w H s.heap a (.frz ob (.lst xs)) from I.hok a _ ea);exact PySem.W.kia_one PySem.W.kitx_list I.kIn ⟨_,h1,rfl⟩ e (fun z=>nomatch z) h
 | @tup a xs ea=>
  cases(show u=Value.ref a from rx);obtain⟨_,_,_,p⟩:=(show ObjOk X.prog X.w H s.heap a (.tup xs) from I.hok a _ ea);obtain⟨o,h1,h2,_⟩:=p;exact PySem.W.kia_one PySem.W.kitx_tuple I.kIn ⟨o,h1,h2⟩ e (fun z=>nomatch z) h
 | @dK a kvs ea=>
  cases(show u=Value.ref a from rx);obtain⟨_,_,vs,_,p⟩:=(show ObjOk X.prog X.w H s.heap a (.dK kvs) from I.hok a _ ea);obtain⟨o,es,ep,h1,h2,_⟩:=p;exact PySem.W.kia_one PySem.W.kitx_dict I.kIn ⟨o,h1,h2.1⟩ e (fun z=>nomatch z) h
 | @dT a kvs ea=>
  cases(show u=Value.ref a from rx);obtain⟨_,_,xs,_,o,es,ep,h1,h2,_⟩:=(show ObjOk X.prog X.w H s.heap a (.dT kvs) from I.hok a _ ea);exact PySem.W.kia_one PySem.W.kitx_dict I.kIn ⟨o,h1,h2.1⟩ e (fun z=>nomatch z) h
 | @ins a C dx fs ea cl ha hn htk hm=>
  cases(show u=Value.ref a from rx);obtain⟨mA,O,_⟩:=zuq I.hok ea;obtain⟨od,J,_⟩:=O.look;exact PySem.W.kia_one (PySem.W.kitx_own (cl.get _) cl.hd ha hn htk hm) I.kIn J e (fun z=>nomatch z) h
end
structure Room (k:Nat) (A:Around):Prop where
  hd:A.handled=none
  dp:A.depth+3*k+5<recursionLimit
  un:A.units+16*k+200<cLine
theorem Room.deeper{k:Nat}{A:Around}(r:Room (k+1) A) (env:Env):Room k (A.deeper env):=
 ⟨r.hd,by have:=r.dp;show A.depth+1+3*k+5<_;omega,by have:=r.un;show A.units+3+16*k+200<_;omega⟩
theorem Room.depth{k:Nat}{A:Around}(r:Room k A):A.depth<recursionLimit:=by have:=r.dp;omega
theorem Room.units{k:Nat}{A:Around}(r:Room k A):A.units+64<cLine:=by have:=r.un;omega
noncomputable def zAY:TA:=fun _ H Q=>Q [] H
noncomputable def zzq (ta:TE) (tr:TA):TA:=fun σ H Q=>ta σ H fun x H1=>tr σ H1 fun xs H2=>Q (x::xs) H2
section
variable {X:Cx}{e:Expr}{es:List Expr}{te:TE}{t:TA}{pos:Pos}
theorem pa_nil:PA X [] zAY:=fun _ _ _ _ H Q I h=>Calls.spliced_nil ⟨[],H,I, .nil,h⟩
theorem zdG (ha:PE X e te) (hr:PA X es t) (hs:starEach (e::es) X.env=(false,eval e X.env)::starEach es X.env:=by rfl):PA X (e::es) (zzq te t):=by
 intro pos pins s σ H Q I h;rw [hs];show wpAny _ _ (spliced ((false,eval e X.env)::backTo pos (starEach es X.env))) _ _ s;refine Calls.spliced_cons (thn (ha pins s σ H _ I h) fun u s1 ⟨x,H1,I1,r1,q1⟩=>?_);exact thn (hr pos pins s1 σ H1 _ I1 q1) fun us s2 ⟨xs,H2,I2,r2,q2⟩=>⟨x::xs,H2,I2, .cons r1 r2,q2⟩
noncomputable def zAu (t:TA):TE:=fun σ H Q=>t σ H fun xs H1=>xs.length≤sizeLine∧ ∀p,H1 p=none→Q (.ref p) (upd H1 p (.tup xs))
noncomputable def zAN (t:TA):TE:=fun σ H Q=>t σ H fun xs H1=>xs.length≤sizeLine∧ ∀p,H1 p=none→Q (.ref p) (upd H1 p (.lst xs))
theorem zxM{x1}(h:PA X es t):PE X (.Tuple es x1 pos) (zAu t):=by
 intro pins s σ H Q I hq;refine wpAny_Tuple_spliced (thn (h pos pins s σ H _ I hq) fun us s1 ⟨xs,H1,I1,r,z,q⟩=>⟨by rw [←r.length];exact z,?_⟩);have hf:H1 s1.heap.objs.size=none:=I1.hok.fresh (Nat.le_refl _);refine⟨.ref s1.heap.objs.size,upd H1 s1.heap.objs.size (.tup xs),I1.laid (t':=s1.toks) (fun b u e=>Heap.get?_push_of_some _ e) (Nat.le_refl _) ?_,rfl,q _ hf⟩;exact⟨z,us,r,⟨_,Heap.get?_push_size _ rfl,rfl,_,rfl⟩⟩
theorem zwy (h:PA X es t):PE X (.List es pos) (zAN t):=by
 intro pins s σ H Q I hq;refine wpAny_List_spliced (thn (h pos pins s σ H _ I hq) fun us s1 ⟨xs,H1,I1,r,z,q⟩=>⟨by rw [←r.length];exact z,?_⟩);have hf:H1 s1.heap.objs.size=none:=I1.hok.fresh (Nat.le_refl _);refine⟨.ref s1.heap.objs.size,upd H1 s1.heap.objs.size (.lst xs),I1.laid (t':=s1.toks) (fun b u e=>Heap.get?_push_of_some _ e) (Nat.le_refl _) ?_,rfl,q _ hf⟩;exact⟨z,us,0,r,Heap.get?_push_size _ rfl⟩
end
noncomputable abbrev Sp:=List V→Hp→VK→XK→Prop
noncomputable abbrev CXT:=List Env→Hp→Shared→XK→Value→Shared→Prop
structure Env0 (P:Program) (w:World) (K:PySem.W.Frag) (mg:Str→Option Value) (base:Heap) (A:Around) (outer:List Env) (s:Shared) (H:Hp):Prop where
  frames:A.frames=some outer
  mod:Mod K mg base
  bs:∀b o,base.get? b=some o→s.heap.get? b=some o∧H b=none
  bsz:base.objs.size≤s.heap.objs.size
  funs:s.heap.FunFrames base outer
  frf:∀b∈frs outer,H b=none
  hok:HOk P w H s.heap
  bare:AllBare s.gens
noncomputable def CE (outer:List Env) (P:Program) (w:World) (H:Hp) (s:Shared) (Q:VK) (u:Value) (s':Shared):Prop:=
 ∃v H',s'.os=s.os∧AllBare s'.gens∧Un (frs outer) [] H H' s.heap s'.heap∧HOk P w H' s'.heap∧RelV v u∧Q v H'
noncomputable def CR (CX:CXT) (outer:List Env) (P:Program) (w:World) (H:Hp) (s:Shared) (Q:VK) (E:XK) (r:Result) (s':Shared):Prop:=
 match r with
 | .ok (.ret u)=>CE outer P w H s Q u s'
 | .ok _=>False
 | .error e=>CX outer H s E e s'
structure FnOk (P:Program) (w:World) (K:PySem.W.Frag) (mg:Str→Option Value) (base:Heap) (CX:CXT) (k:Nat) (f:Addr) (fd:FuncData) (ps:List Str) (sp:Sp):Prop where
  len:∀vs H Q E,sp vs H Q E→vs.length=ps.length
  run:∀(A:Around) (outer:List Env) (s:Shared) (H:Hp) (args:Args) (us:List Value) (vs:List V) (Q:VK) (E:XK),Room k A→Env0 P w K mg base A outer s H→BindsTo s fd args (ps.zip us)→Vals vs us→sp vs H Q E→
    codeAny (model P w) A (.call (.ref f) args) (CR CX outer P w H s Q E) s
section
variable {X:Cx}{pins:List (Addr×Obj)}{σ:St}{H:Hp}{s s':Shared}
theorem Inv.env0 (I:Inv X pins σ H s):Env0 X.prog X.w X.K X.mg X.base X.A X.stack s H:=
 ⟨I.ok.frames,I.ok.mod,I.bs,Nat.le_trans I.ok.bsz I.sz,I.stack,I.stkFree,I.hok,I.bare⟩
theorem Inv.after{Q:VK}{u:Value}(I:Inv X pins σ H s) (h:CE X.stack X.prog X.w H s Q u s'):EP X pins σ Q u s':=by
 obtain⟨v,H',os,bare,un,hok,r,q⟩:=h;obtain⟨hh,g,d,t,os'⟩:=s';obtain rfl:os'=s.os:=os;exact⟨v,H',I.call (h':=hh) (g':=g) (d':=d) (t':=t) (ch:=[]) un hok bare (fun b z=>absurd z (by simp)),r,q⟩
end
noncomputable def zyu (sp:Sp) (dvs:List V) (E:XK) (t:TA):TE:=fun σ H Q=>t σ H fun vs H1=>sp (vs++dvs) H1 Q E
noncomputable def Binds (K:PySem.W.Frag) (fd:FuncData) (ps:List Str) (ds:List Value):Prop:=
 ∀(s:Shared) (us:List Value),K.In s.heap→(us++ds).length=ps.length→BindsTo s fd ⟨us,[]⟩ (ps.zip (us++ds))
theorem Binds.all{K:PySem.W.Frag}{fd:FuncData}{ps:List Str}(h:∀us:List Value,us.length=ps.length→bindArgs fd ⟨us,[]⟩=pure (ps.zip us)):Binds K fd ps []:=fun s us _ hl=>by
 rw [List.append_nil]at hl⊢;exact .of_eq (h us hl)
noncomputable def zpm (CX:CXT) (X:Cx) (E:XK):Prop:=∀(pins:List (Addr×Obj)) (σ:St) (H:Hp) (s:Shared) (e:Value) (s':Shared),Inv X pins σ H s→CX X.stack H s E e s'→X.xe e s'
section
variable {X:Cx}{CX:CXT}{k:Nat}{f:Addr}{fd:FuncData}{ps:List Str}{sp:Sp}{dvs:List V}{ds:List Value}{E:XK}{x:Str}{p pos:Pos}{e:Expr}{es:List Expr}{t:TA}
theorem zwL{pins:List (Addr×Obj)}{σ:St}{H:Hp}{s:Shared}{Q:VK}{us:List Value}{vs:List V}(F:FnOk X.prog X.w X.K X.mg X.base CX k f fd ps sp) (hr:Room k X.A) (hb:Binds X.K fd ps ds) (hd:Vals dvs ds) (hx:zpm CX X E)
  (I:Inv X pins σ H s) (r:Vals vs us) (h:sp (vs++dvs) H Q E):wpAny (model X.prog X.w) X.A (call (.ref f) us) (EP X pins σ Q) X.xe s:=by
 have r2:Vals (vs++dvs) (us++ds):=r.append hd;have hl:(us++ds).length=ps.length:=by rw [←r2.length];exact F.len _ _ _ _ h
 refine wpAny_call (codeAny_mono (F.run X.A X.stack s H ⟨us,[]⟩ (us++ds) (vs++dvs) Q E hr I.env0 (hb s us I.kIn hl) r2 h) fun r s' hq=>?_);cases r with
 |error e=>exact hx pins σ H s e s' I hq
 |ok fl=>
  cases fl with
  |ret u=>exact I.after hq
  |next=>exact False.elim hq
  |brk=>exact False.elim hq
  |cont=>exact False.elim hq
theorem zvq (F:FnOk X.prog X.w X.K X.mg X.base CX k f fd ps sp) (hr:Room k X.A) (hg:Gl X x) (hm:X.mg x=some (.ref f)) (hk:PySem.W.keepIn X.K (.ref f)=true) (hb:Binds X.K fd ps ds) (hd:Vals dvs ds) (hx:zpm CX X E)
  (ha:PA X (e::es) t) (hdb:(x == ("__debug__" :Str))=false:=by decide) (he:starEach (e::es) X.env=(false,eval e X.env)::starEach es X.env:=by rfl) (hpl:(backTo pos (starEach es X.env)).any (·.1)=false:=by rfl) :
  PE X (.Call (.Name x p) (e::es) [] pos) (zyu sp dvs E t):=by
 intro pins s σ H Q I h;refine wpAny_Call_Name_kw (zqs I hg hm ?_ hdb);refine PySem.W.callWith_K (h₀:=X.base) I.ok.mod.kin hk (thn (ha pos pins s σ H _ I h) fun us s1 ⟨vs,H1,I1,r,q⟩=>⟨I1.kIn,?_⟩) he hpl;exact zwL F hr hb hd hx I1 r q
end
structure FnScope (N P:List Str) (sc:Scope):Prop where
  kind:sc.kind= .function
  co:sc.isCoroutine=false
  gen:sc.isGenerator=false
  nd:N.Nodup
  pre:N.take P.length=P
  par:∀x∈P,sc.names.lookup x=some .local∨sc.names.lookup x=some .cell
  nofree:∀y∈sc.names,y.2≠ .free
theorem zkh{kindOf:Str→Option NameKind}{x:Str}:∀{binds:List (Str×Value)}{m:Str→Option Value},(∀v,(x,v)∉binds)→bindL kindOf binds m x=m x
 | [],_,_=>rfl
 | (n,v)::r,m,h=>by
  unfold bindL;rw [zkh fun w hw=>h w (List.mem_cons_of_mem _ hw)];split
  ·have:x≠n:=by rintro rfl;exact h v List.mem_cons_self
   simp [this]
  ·rfl
theorem zlg{kindOf:Str→Option NameKind}{x:Str}:∀{binds:List (Str×Value)}{m:Str→Option Value},(∀v,(x,v)∉binds)→bindC kindOf binds m x=m x
 | [],_,_=>rfl
 | (n,v)::r,m,h=>by
  unfold bindC;rw [zlg fun w hw=>h w (List.mem_cons_of_mem _ hw)];split
  ·rfl
  ·have:x≠n:=by rintro rfl;exact h v List.mem_cons_self
   simp [this]
theorem zkp{kindOf:Str→Option NameKind}{x:Str}{v:Value}:∀{P:List Str}{vs:List Value}{i:Nat}{m:Str→Option Value},P.Nodup→P[i]? =some x→vs[i]? =some v→kindOf x=some .local→
  bindL kindOf (P.zip vs) m x=some v
 | [],_,_,_,_,h,_,_=>by simp at h
 |_::_,[],_,_,_,_,h,_=>by simp at h
 |p::P,w::vs,0,m,nd,h1,h2,hk=>by
  simp at h1 h2;subst h1;subst h2;show bindL kindOf ((p,w)::P.zip vs) m p=_;unfold bindL;rw [zkh fun v hv=>(List.nodup_cons.mp nd).1 (List.of_mem_zip hv).1,if_pos hk];simp
 |p::P,w::vs,i+1,m,nd,h1,h2,hk=>by
  show bindL kindOf ((p,w)::P.zip vs) m x=_;unfold bindL;exact zkp (i:=i) (List.nodup_cons.mp nd).2 (by simpa using h1) (by simpa using h2) hk
theorem zjL{kindOf:Str→Option NameKind}{x:Str}{v:Value}:∀{P:List Str}{vs:List Value}{i:Nat}{m:Str→Option Value},P.Nodup→P[i]? =some x→vs[i]? =some v→kindOf x≠some .local→
  bindC kindOf (P.zip vs) m x=some v
 | [],_,_,_,_,h,_,_=>by simp at h
 |_::_,[],_,_,_,_,h,_=>by simp at h
 |p::P,w::vs,0,m,nd,h1,h2,hk=>by
  simp at h1 h2;subst h1;subst h2;show bindC kindOf ((p,w)::P.zip vs) m p=_;unfold bindC;rw [zlg fun v hv=>(List.nodup_cons.mp nd).1 (List.of_mem_zip hv).1,if_neg hk];simp
 |p::P,w::vs,i+1,m,nd,h1,h2,hk=>by
  show bindC kindOf ((p,w)::P.zip vs) m x=_;unfold bindC;exact zjL (i:=i) (List.nodup_cons.mp nd).2 (by simpa using h1) (by simpa using h2) hk
noncomputable def start (N:List Str) (vs:List V):St:=vs.map some++List.replicate (N.length - vs.length) none
noncomputable def zuY (CX:CXT) (P:Program) (w:World) (K:PySem.W.Frag) (mg:Str→Option Value) (base:Heap) (N:List Str) (qual:Str) (scope:Scope) (f:Addr) (cd:Value) (A:Around) (outer:List Env) (s:Shared) (H:Hp) (E:XK):Cx where
  prog:=P
  w:=w
  K:=K
  mg:=mg
  base:=base
  A:=A.deeper (envOfC qual scope s.heap.objs.size f cd)
  N:=N
  s₀:=s
  H₀:=H
  env:=envOfC qual scope s.heap.objs.size f cd
  outer:=outer
  stack:=envOfC qual scope s.heap.objs.size f cd::outer
  ex:=[]
  calm:=true
  fn:=fun _=>true
  pn:=[]
  xe:=fun e s'=>wpAny (model P w) (A.deeper (envOfC qual scope s.heap.objs.size f cd)) (leaving (envOfC qual scope s.heap.objs.size f cd) e) (fun _ s''=>CX outer H s E e s'') (fun e' s''=>CX outer H s E e' s'') s'
theorem zmo{sc:Scope}{n:Nat}{x:Str}(h:sc.names.lookup x=some .cell):∃c,(cellsFrom n sc.names []).lookup x=some c:=by
 have q:=PySem.W.cellsFrom_some sc.names n [] (.inl h);exact Option.isSome_iff_exists.mp q
theorem zqq{CX:CXT}{P:Program}{w:World}{K:PySem.W.Frag}{mg:Str→Option Value}{base:Heap}{N ps:List Str}{qual:Str}{scope:Scope}{f:Addr}{cd:Value}{A:Around}{outer:List Env}{s s1:Shared}{H:Hp}{E:XK}{us:List Value}{vs:List V}
  (S:FnScope N ps scope) (hd:A.handled=none) (e0:Env0 P w K mg base A outer s H) (hl:vs.length=ps.length) (r:Vals vs us)
  (x:InCallC s s.heap.objs.size (bindL (envOfC qual scope s.heap.objs.size f cd).kindOf (ps.zip us) fun _=>none) (cellsFrom (s.heap.objs.size+1) scope.names []) (bindC (envOfC qual scope s.heap.objs.size f cd).kindOf (ps.zip us) fun _=>none) s1) :
  Inv (zuY CX P w K mg base N qual scope f cd A outer s H E) [] (start N vs) H s1:=by
 have hpl:ps.length≤N.length:=by have:=congrArg List.length S.pre;rw [List.length_take]at this;omega
 obtain⟨h1,tk,rfl,hk⟩:=x.done;have noA:∀b:Addr,b∉(zuY CX P w K mg base N qual scope f cd A outer s H E).ex:=fun b z=>absurd (show b∈([]:List Addr) from z) (by simp);refine⟨⟨e0.mod,S.kind,rfl,rfl,Nat.le_refl _,fun y z c h1 h2=>?_,fun y hy=>?_,fun y c _ h=>?_,fun _=>hd,Around.frames_deeper e0.frames, .inr ⟨rfl,rfl⟩,fun b z=>absurd z (noA b),e0.bs,e0.bsz,fun b _ _=>noA b,fun b z=>absurd z (noA b),e0.funs,e0.frf⟩,
  rfl,e0.bare,Un.kept hk,⟨_,x.toInCall.ns,fun i y v h1 h2 h3=>?_⟩,fun y c h=>⟨_,x.cell y c h⟩,e0.hok.fresh (Nat.le_refl _),fun y c h=>?_,fun p hp=>absurd (show p∈([]:List (Addr×Obj)) from hp) (by simp),e0.hok.kept hk,?_⟩
 ·exact name_of_addr x.apart (PySem.mem_of_lookup h1) (PySem.mem_of_lookup h2)
 ·have hy:scope.names.lookup y=some .cell∨scope.names.lookup y=some .free:=hy;rcases hy with hy |hy
  ·exact zmo hy
  ·exact absurd rfl (S.nofree _ (PySem.mem_of_lookup hy))
 ·exact Nat.le_of_lt (x.above y c (PySem.mem_of_lookup h))
 ·have hi:i<vs.length:=by
   unfold start at h2;by_cases hi:i<vs.length
   ·exact hi
   ·rw [List.getElem?_append_right (by simpa using hi)]at h2;rw [List.getElem?_replicate]at h2;split at h2<;>cases h2
  have ha:vs[i]? =some v:=by
   unfold start at h2;rw [List.getElem?_append_left (by simpa using hi),List.getElem?_map]at h2;cases e:vs[i]? with
   |none=>rw [e]at h2;cases h2
   |some a=>rw [e]at h2;cases h2;rfl
  obtain⟨u,hu,rv⟩:=r.get ha;have hp:ps[i]? =some y:=by
   rw [←S.pre,List.getElem?_take_of_lt (by omega)];exact h1
  have ndP:ps.Nodup:=by rw [←S.pre];exact S.nd.sublist (List.take_sublist _ _)
  refine⟨u,rv,?_⟩;rcases S.par y (List.mem_of_getElem? hp) with k |k
  ·exact .inl ⟨k,zkp ndP hp hu k⟩
  ·obtain⟨c,e⟩:=zmo (n:=s.heap.objs.size+1) k;refine .inr ⟨.inl k,c,e,?_⟩;have q:=x.cell y c e;rw [zjL ndP hp hu (by show scope.names.lookup y≠_;rw [k];decide)]at q;exact q
 ·exact e0.hok.fresh (Nat.le_of_lt (x.above y c (PySem.mem_of_lookup h)))
 ·unfold start;show _=N.length;rw [List.length_append,List.length_map,List.length_replicate];omega
theorem zyP{CX:CXT}{P:Program}{w:World}{K:PySem.W.Frag}{mg:Str→Option Value}{base:Heap}{k:Nat}{f:Addr}{name qual:Str}{params:Arguments}{body:List Stmt}{scope:Scope}{dV kV doc pm cdv ct oc:Value}{an od:Option Addr}
  {osl:Array (Option Value)}{N ps:List Str}{sp:Sp}(lk:K.lookup f=some ⟨oc,od, .func (PySem.W.fnOf name qual params body scope dV kV doc pm an cdv ct),osl⟩) (hcd:PySem.W.codeIn K cdv qual=true) (S:FnScope N ps scope)
  (len:∀vs H Q E,sp vs H Q E→vs.length=ps.length)
  (hbody:∀(A:Around) (outer:List Env) (s:Shared) (H:Hp) (vs:List V) (Q:VK) (E:XK),Room k (A.deeper (envOfC qual scope s.heap.objs.size f cdv))→sp vs H Q E→
   ∃t,PSs (zuY CX P w K mg base N qual scope f cdv A outer s H E) body t∧t { nx:=fun _ H'=>Q .non H',rt:=Q } (start N vs) H) :
  FnOk P w K mg base CX (k+1) f (PySem.W.fnOf name qual params body scope dV kV doc pm an cdv ct) ps sp:=by
 refine⟨len,fun A outer s H args us vs Q E hr e0 hb r hsp=>?_⟩;have hl:=len _ _ _ _ hsp;have KX:K.In s.heap:=e0.mod.kin.keeps fun b o e=>(e0.bs b o e).1;have lim:s.heap.NoLimit:=e0.mod.nolimit.keeps fun b o e=>(e0.bs b o e).1;have hkind:∀y∈ps.zip us,scope.names.lookup y.1=some .local∨(scope.names.lookup y.1=some .cell∧((cellsFrom (s.heap.objs.size+1) scope.names []).lookup y.1).isSome=true):=fun⟨n,v⟩ hy=>by
  rcases S.par n (List.of_mem_zip hy).1 with q |q
  ·exact .inl q
  ·exact .inr ⟨q,PySem.W.cellsFrom_some _ _ _ (.inl q)⟩
 refine codeAny_call_function hr.depth (KX _ _ lk) rfl S.co S.gen rfl (PySem.W.codeRec_of KX hcd) (hb _ _ _ _ ?_);refine wpAny_newFunctionEnv_cells S.kind hkind fun env he s1 x=>?_;subst he;refine⟨lim.keeps x.toInCall.keep,codeAny_func ?_⟩;obtain⟨t,ht,hq⟩:=hbody A outer s H vs Q E (hr.deeper _) hsp;have I:Inv (zuY CX P w K mg base N qual scope f cdv A outer s H E) [] (start N vs) H s1:=zqq S hr.hd e0 hl r x;refine wpAny_mono (ht [] s1 (start N vs) H _ I hq) (fun fl s' hs=>?_) fun e s' hs=>hs;have fin:∀{σ':St}{H':Hp}{v:V}{u:Value},Inv (zuY CX P w K mg base N qual scope f cdv A outer s H E) [] σ' H' s'→RelV v u→Q v H'→CE outer P w H s Q u s':=
  fun {σ' H' v u} J rv q=>⟨v,H',J.os,J.bare,J.base,J.hok,rv,q⟩
 cases fl with
 |ret u=>
  obtain⟨v,σ',H',J,rv,q⟩:=hs;exact fin J rv q
 |next=>
  obtain⟨σ',H',J,q⟩:=hs;exact fin (v:=V.non) (u:=Value.none) J rfl q
 |brk=>
  obtain⟨_,_,_,q⟩:=hs;exact False.elim q
 |cont=>
  obtain⟨_,_,_,q⟩:=hs;exact False.elim q
section
variable {X:Cx}{x:Str}{p pos:Pos}{e:Expr}{es:List Expr}{t:TA}{id T:String}{r:List V→Hp→VK→Prop}
noncomputable def tCB (r:List V→Hp→VK→Prop) (t:TA):TE:=fun σ H Q=>t σ H fun vs H1=>r vs H1 Q
theorem ziP (hc:CallR X (.builtin id) r) (hg:Gl X x) (hm:X.mg x=none) (hv:bootBuiltins x=some (.builtin id)) (ha:PA X (e::es) t) (hn:x≠ "__name__" :=by decide) (hdb:(x == ("__debug__" :Str))=false:=by decide)
  (he:starEach (e::es) X.env=(false,eval e X.env)::starEach es X.env:=by rfl) (hpl:(backTo pos (starEach es X.env)).any (·.1)=false:=by rfl):PE X (.Call (.Name x p) (e::es) [] pos) (tCB r t):=by
 intro pins s σ H Q I h;refine wpAny_Call_Name_kw (ziE I hg hm hv ?_ hn hdb);exact PyProof.Rows.callWith_builtin1 (thn (ha pos pins s σ H _ I h) fun us s1 ⟨vs,H1,I1,r1,q1⟩=>hc pins s1 σ H1 vs us Q I1 r1 q1) he hpl
theorem zhT (hc:CallR X (.type T) r) (hg:Gl X x) (hm:X.mg x=none) (hv:bootBuiltins x=some (.type T)) (ha:PA X (e::es) t) (hn:x≠ "__name__" :=by decide) (hdb:(x == ("__debug__" :Str))=false:=by decide)
  (he:starEach (e::es) X.env=(false,eval e X.env)::starEach es X.env:=by rfl) (hpl:(backTo pos (starEach es X.env)).any (·.1)=false:=by rfl):PE X (.Call (.Name x p) (e::es) [] pos) (tCB r t):=by
 intro pins s σ H Q I h;refine wpAny_Call_Name_kw (ziE I hg hm hv ?_ hn hdb);exact PyProof.Rows.callWith_type1 (thn (ha pos pins s σ H _ I h) fun us s1 ⟨vs,H1,I1,r1,q1⟩=>hc pins s1 σ H1 vs us Q I1 r1 q1) he hpl
end
end L2
namespace HT
open PySem PyProof.Rows
section
variable {prog:Program}{w:World}{A:Around}{E:Value→Shared→Prop}{s:Shared}
theorem cat_tup{t b:Addr}{vs ws:List Value}{Q:Value→Shared→Prop}(ht:IsTup s.heap t vs.toArray) (hb:IsTup s.heap b ws.toArray) (hv:vs≠ [])
  (h1:ws=[]→Q (.ref t) s) (h2:ws≠ []→Q (.ref s.heap.objs.size) { s with heap:=s.heap.push { cls:= .type "tuple",data:= .seq (vs++ws).toArray } })
  (hsz:vs.length+ws.length≤sizeLine):wpAny (model prog w) A (binaryOp .Add (.ref t) (.ref b)) Q E s:=by
 obtain⟨⟨cls,dd,data,sl⟩,ho,hc,n,hd⟩:=id ht;obtain⟨⟨cls2,dd2,data2,sl2⟩,ho2,hc2,n2,hd2⟩:=id hb;simp only at hc hd hc2 hd2;subst hc hd hc2 hd2;have e:vs.toArray++ws.toArray=(vs++ws).toArray:=by simp
 by_cases hw:ws=[]
 ·exact concat_meets ⟨_,ho,rfl⟩ ⟨_,ho2,rfl⟩ noFill_tuple_add seq_tuple_add PySem.F.slot_tuple_add PySem.F.entry_tuple_add (PySem.F.args_tuple_add_2 _ _)
   (tuple_addW1 t b vs.toArray ws.toArray n n2 dd dd2 sl sl2 (by simpa using hv) (by simp [hw])) ⟨ho,ho2,h1 hw⟩
 ·refine concat_meets ⟨_,ho,rfl⟩ ⟨_,ho2,rfl⟩ noFill_tuple_add seq_tuple_add PySem.F.slot_tuple_add PySem.F.entry_tuple_add (PySem.F.args_tuple_add_2 _ _)
   (tuple_addW2 t b vs.toArray ws.toArray n n2 dd dd2 sl sl2 (by simpa using hv) (by simpa using hw) (by rw [List.size_toArray,List.size_toArray];exact hsz)) ⟨ho,ho2,?_⟩
  rw [e];exact h2 hw
noncomputable def sIx (n d:Nat):Option Int→Nat
 |none=>d
 |some v=>if v<0 then(v+(n:Int)).toNat else min v.toNat n
theorem sIx_none (n d:Nat):sIx n d none=d:=rfl
theorem sIx_nat (n d k:Nat):sIx n d (some (k:Int))=min k n:=by
 show(if(k:Int)<0 then((k:Int)+(n:Int)).toNat else min (k:Int).toNat n)=min k n;rw [if_neg (by omega),Int.toNat_natCast]
theorem sIx_le (n d:Nat) (hd:d≤n) (o:Option Int):sIx n d o≤n:=by
 cases o with
 |none=>exact hd
 |some v=>
  show(if v<0 then(v+(n:Int)).toNat else min v.toNat n)≤n;by_cases hv:v<0
  ·rw [if_pos hv];omega
  ·rw [if_neg hv];exact Nat.min_le_right _ _
theorem zro (v:Int) (n d:Nat):(if v<0 then max (v+(n:Int)) 0 else min v (n:Int))=((sIx n d (some v):Nat):Int):=by
 show(if v<0 then max (v+(n:Int)) 0 else min v (n:Int))=(((if v<0 then(v+(n:Int)).toNat else min v.toNat n):Nat):Int);by_cases hv:v<0
 ·simp only[if_pos hv];omega
 ·simp only[if_neg hv];omega
theorem znU (lo hi:Option Int) (n:Nat):Builtin.Slice.sliceAdjust lo hi 1 (n:Int)=(((sIx n 0 lo:Nat):Int),((sIx n n hi:Nat):Int)):=by
 have h1:¬((1:Int)<0):=by omega
 unfold Builtin.Slice.sliceAdjust;simp only[h1,if_false];refine Prod.ext ?_ ?_
 ·cases lo with
  |none=>rfl
  |some v=>exact zro v n 0
 ·cases hi with
  |none=>rfl
  |some v=>exact zro v n n
theorem zow (i j:Nat):Builtin.Slice.slicePlaces (i:Int) (j:Int) 1=j - i:=by
 unfold Builtin.Slice.slicePlaces;have h1:(1:Int) > 0:=by omega
 simp only[h1,if_true,Int.ediv_one];split<;>omega
theorem ziI{v:Value}{o:Option Int}{Q:Option Int→Shared→Prop}(p:IsPart v o) (h:Q o s):wpAny (model prog w) A (Builtin.Slice.slicePartIndex v) Q E s:=by
 cases p with
 |none=>exact slicePart_none h
 |int i t=>exact slicePart_int h
theorem sliceApplied_gen{sl:Addr}{vl vu:Value}{lo hi:Option Int}{n:Nat}{Q:Int×Int×Nat→Shared→Prop}(hs:s.heap.IsSliceOf sl vl vu .none) (pl:IsPart vl lo) (pu:IsPart vu hi)
  (h:Q (((sIx n 0 lo:Nat):Int),1,sIx n n hi - sIx n 0 lo) s):wpAny (model prog w) A (Builtin.Slice.sliceApplied (.ref sl) (pure (n:Int))) Q E s:=by
 obtain⟨os,hos,hcs,hds⟩:=id hs;unfold Builtin.Slice.sliceApplied Builtin.Slice.sliceFields;refine wpAny_bind (wpAny_bind (wpAny_field hos hds (x:=vl) rfl (wpAny_bind (wpAny_field hos hds (x:=vu) rfl (wpAny_bind (wpAny_field hos hds (x:= .none) rfl (wpAny_pure ?_)))))));refine wpAny_bind (slicePart_none ?_);show wpAny _ _ (if((1:Int) == 0)=true then _ else _) _ _ s;rw [if_neg (by decide)];refine wpAny_bind (ziI pl (wpAny_bind (ziI pu (wpAny_bind (wpAny_pure ?_)))));show wpAny _ _ (match Builtin.Slice.sliceAdjust lo hi 1 (n:Int) with | (lo,hi)=>pure (lo,(1:Int),Builtin.Slice.slicePlaces lo hi 1)) _ _ s;rw [znU lo hi n];show wpAny _ _ (pure (((sIx n 0 lo:Nat):Int),(1:Int),Builtin.Slice.slicePlaces ((sIx n 0 lo:Nat):Int) ((sIx n n hi:Nat):Int) 1)) _ _ s;rw [zow];exact wpAny_pure h
theorem zrY (xs:Array Value) (i k:Nat):((List.range k).filterMap fun(m:Nat)=>xs[((i:Int)+(m:Int)*1).toNat]?).toArray=((xs.toList.drop i).take k).toArray:=by
 have e:(fun(m:Nat)=>xs[((i:Int)+(m:Int)*1).toNat]?)=fun m=>xs[i+m]? :=by
  funext m;have:((i:Int)+(m:Int)*1).toNat=i+m:=by omega
  rw [this]
 rw [e];have:=pick_run xs i k;rw [List.filterMap_map]at this;have e2:((fun x=>xs[x]?)∘fun x=>i+x)=fun m=>xs[i+m]? :=rfl;rw [e2]at this;rw [this]
theorem getItem_tuple_cut{t sl:Addr}{items:Array Value}{vl vu:Value}{lo hi:Option Int}{Q:Value→Shared→Prop}(ht:IsTup s.heap t items) (hs:s.heap.IsSliceOf sl vl vu .none) (pl:IsPart vl lo) (pu:IsPart vu hi)
  (hw:¬(sIx items.size 0 lo=0∧sIx items.size items.size hi=items.size))
  (h:Q (.ref s.heap.objs.size) { s with heap:=s.heap.push { cls:= .type "tuple",data:= .seq ((items.toList.drop (sIx items.size 0 lo)).take (sIx items.size items.size hi - sIx items.size 0 lo)).toArray } })
  (hsz:items.size≤sizeLine):wpAny (model prog w) A (getItem (.ref t) (.ref sl)) Q E s:=by
 have htake:sizeOk (.seq ((items.toList.drop (sIx items.size 0 lo)).take (sIx items.size items.size hi - sIx items.size 0 lo)).toArray):=by
  show((items.toList.drop (sIx items.size 0 lo)).take (sIx items.size items.size hi - sIx items.size 0 lo)).toArray.size≤sizeLine;rw [List.size_toArray,List.length_take,List.length_drop,Array.length_toList];omega
 have hj:sIx items.size items.size hi≤items.size:=sIx_le _ _ (Nat.le_refl _) hi;obtain⟨os,hos,hcs,hds⟩:=id hs;have hTs:s.TypeIs (.ref sl) "slice" :=⟨os,hos,hcs⟩;unfold getItem
 try with_reducible refine wpAny_holding ?_
 first |refine wpAny_bind (wpAny_pure ?_) |skip
 refine wpAny_bind (wpAny_sequenceKey ht.typeIs (by decide) ?_);refine wpAny_bind (wpAny_callSpecial?_slot (name:=Str.ofString "__getitem__") ht.typeIs PyProof.Rows.slot_tuple_getitem
  (wpAny_call_entry PyProof.Rows.slot_tuple_getitem ht.typeIs entry_tuple_getitem ?_ (args_tuple_getitem _ _)))
 show wpAny _ _ (Builtin.Tuple.tupleItemsOf (.ref t) >>= _) _ _ s;refine wpAny_bind (tupleItemsOf_ ht ?_);refine wpAny_bind (wpAny_typeOf hTs ?_);rw [if_pos (by decide)];refine wpAny_bind (sliceApplied_gen hs pl pu ?_);have hno:¬((((sIx items.size 0 lo:Nat):Int) == 0&&(1:Int) == 1&&(sIx items.size items.size hi - sIx items.size 0 lo) == items.size)=true):=by
  intro q;rw [Bool.and_eq_true,Bool.and_eq_true]at q;have q1:((sIx items.size 0 lo:Nat):Int)=0:=eq_of_beq q.1.1;have q2:sIx items.size items.size hi - sIx items.size 0 lo=items.size:=eq_of_beq q.2;exact hw ⟨by omega,by omega⟩
 show wpAny _ _ (if(((sIx items.size 0 lo:Nat):Int) == 0&&(1:Int) == 1&&(sIx items.size items.size hi - sIx items.size 0 lo) == items.size)=true then _ else _) _ _ s;rw [if_neg hno,zrY]
 first
  |exact wpAny_bind (m:=Builtin.Tuple.tupleExact _) (wpAny_newObj_type (wpAny_pure ⟨_,rfl,wpAny_pure h⟩) htake)
  |exact wpAny_bind (m:=Builtin.Tuple.tupleExact _) (wpAny_newObj_type (wpAny_bind (wpAny_pure (wpAny_pure ⟨_,rfl,wpAny_pure h⟩))) htake)
  |exact wpAny_bind (wpAny_bind (m:=Builtin.Tuple.tupleExact _) (wpAny_newObj_type (wpAny_pure (wpAny_pure ⟨_,rfl,wpAny_pure h⟩)) htake))
  |exact wpAny_bind (wpAny_bind (m:=Builtin.Tuple.tupleExact _) (wpAny_newObj_type (wpAny_pure ⟨_,rfl,wpAny_pure h⟩) htake))
end
end HT
namespace L2
open PySem PySem.Spec PyProof.Rows
noncomputable abbrev TO:=St→Hp→(Option Int→Hp→Prop)→Prop
noncomputable def PO (X:Cx) (e:Option Expr) (t:TO):Prop:=
 ∀(pins:List (Addr×Obj)) (s:Shared) (σ:St) (H:Hp) (Q:Option Int→Hp→Prop),Inv X pins σ H s→t σ H Q→
  wpAny (model X.prog X.w) X.A (evalPart e X.env) (fun u s'=>∃o H',Inv X pins σ H' s'∧IsPart u o∧Q o H') X.xe s
noncomputable def ztP:TO:=fun _ H Q=>Q none H
noncomputable def zzw (t:TE):TO:=fun σ H Q=>t σ H fun x H1=>∃i,x= .int i∧Q (some i) H1
section
variable {X:Cx}{e:Expr}{te:TE}{lo hi:Option Expr}{tl th:TO}{pos p2:Pos}
theorem po_none:PO X none ztP:=by
 intro pins s σ H Q I h;rw [evalPart_none];exact wpAny_pure ⟨none,H,I, .none,h⟩
theorem ztB (h:PE X e te):PO X (some e) (zzw te):=by
 intro pins s σ H Q I hw;rw [evalPart_some];refine thn (h pins s σ H _ I hw) fun u s1 ⟨x,H1,I1,r1,q1⟩=>?_;obtain⟨i,rfl,q⟩:=q1;obtain⟨t,rfl⟩:=r1;exact⟨some i,H1,I1, .int i t,q⟩
noncomputable def SlR (X:Cx) (r:V→Option Int→Option Int→Hp→VK→Prop):Prop:=
 ∀(pins:List (Addr×Obj)) (s:Shared) (σ:St) (H:Hp) (x:V) (v vl vu:Value) (lo hi:Option Int) (sl:Addr) (Q:VK),Inv X pins σ H s→RelV x v→s.heap.IsSliceOf sl vl vu .none→IsPart vl lo→IsPart vu hi→r x lo hi H Q→
  ∃T id,typeLookup (.type T) "__getitem__" =pure (some (.builtin id))∧s.TypeIs v T∧wpAny (model X.prog X.w) X.A (getItem v (.ref sl)) (EP X pins σ Q) X.xe s
theorem SlR.or{r r':V→Option Int→Option Int→Hp→VK→Prop}(h:SlR X r) (h':SlR X r'):SlR X (fun x lo hi H Q=>r x lo hi H Q∨r' x lo hi H Q):=by
 intro pins s σ H x v vl vu lo hi sl Q I rx hs pl pu q;rcases q with q |q
 ·exact h pins s σ H x v vl vu lo hi sl Q I rx hs pl pu q
 ·exact h' pins s σ H x v vl vu lo hi sl Q I rx hs pl pu q
noncomputable def tSl (r:V→Option Int→Option Int→Hp→VK→Prop) (te:TE) (tl th:TO):TE:=fun σ H Q=>te σ H fun x H1=>tl σ H1 fun l H2=>th σ H2 fun u H3=>r x l u H3 Q
theorem zmu{r:V→Option Int→Option Int→Hp→VK→Prop}(hr:SlR X r) (he:PE X e te) (hl:PO X lo tl) (hu:PO X hi th):PE X (.Subscript e (.Slice lo hi none p2) pos) (tSl r te tl th):=by
 intro pins s σ H Q I h;refine Subscript_ (thn (he pins s σ H _ I h) fun v s1 ⟨x,H1,I1,r1,q1⟩=>?_);refine wpAny_Slice (thn (hl pins s1 σ H1 _ I1 q1) fun vl s2 ⟨l,H2,I2,pl,q2⟩=>thn (hu pins s2 σ H2 _ I2 q2) fun vu s3 ⟨u,H3,I3,pu,q3⟩=>?_);rw [evalPart_none];refine wpAny_pure ?_;have I4:Inv X pins σ H3 { s3 with heap:=s3.heap.push { cls:= .type "slice",data:= .fields #[vl,vu, .none] } }:=I3.kept (t':=s3.toks) fun b ob q=>Heap.get?_push_of_some _ q;obtain⟨T,id,hT,ht,hg⟩:=hr pins { s3 with heap:=s3.heap.push { cls:= .type "slice",data:= .fields #[vl,vu, .none] } } σ H3 x v vl vu l u s3.heap.objs.size Q I4 r1 (Heap.IsSliceOf.new ..) pl pu q3;show wpAny (model X.prog X.w) X.A (subscriptTail e (.Slice lo hi none p2) v (.ref s3.heap.objs.size)) (EP X pins σ Q) X.xe { s3 with heap:=s3.heap.push { cls:= .type "slice",data:= .fields #[vl,vu, .none] } };exact tail_any (ops:=[.ref s3.heap.objs.size,v]) ht hT hg (by with_unfolding_all rfl)
noncomputable def zqS (xs:List V) (lo hi:Option Int):List V:=(xs.drop (HT.sIx xs.length 0 lo)).take (HT.sIx xs.length xs.length hi - HT.sIx xs.length 0 lo)
theorem zhQ (xs:List V) (lo hi:Option Int):(zqS xs lo hi).length≤xs.length:=by
 unfold zqS;rw [List.length_take,List.length_drop];omega
noncomputable def zAM (K:PySem.W.Frag):V→Option Int→Option Int→Hp→VK→Prop:=fun x lo hi H Q=>∃a xs,x= .ref a∧SqT K H a xs∧
 ¬(HT.sIx xs.length 0 lo=0∧HT.sIx xs.length xs.length hi=xs.length)∧ ∀p,H p=none→Q (.ref p) (upd H p (.tup (zqS xs lo hi)))
theorem zxn:SlR X (zAM X.K):=by
 intro pins s σ H x v vl vu lo hi sl Q I rx hs pl pu h;obtain⟨a,xs,rfl,hx,hw,q⟩:=h;cases rx;obtain⟨its,r,ht,hz⟩:=I.tuple hx;have hlen:its.toArray.size=xs.length:=by rw [List.size_toArray];exact r.length.symm
 refine⟨"tuple",_,PyProof.Rows.slot_tuple_getitem.lookup,ht.typeIs,?_⟩;refine HT.getItem_tuple_cut ht hs pl pu (by rw [hlen];exact hw) ?_ (by rw [hlen];exact hz);rw [hlen];refine⟨.ref s.heap.objs.size,_,I.laid (t':=s.toks) (o:= .tup (zqS xs lo hi)) (fun b ob q=>Heap.get?_push_of_some _ q) (Nat.le_refl _) ?_,rfl,q _ (I.hok.fresh (Nat.le_refl _))⟩;exact⟨Nat.le_trans (zhQ xs lo hi) hz,_,(r.drop (HT.sIx xs.length 0 lo)).take (HT.sIx xs.length xs.length hi - HT.sIx xs.length 0 lo),IsTup.new _ _⟩
noncomputable def zuO (K:PySem.W.Frag):R2:=fun x y H Q=>∃a b xs ys,x= .ref a∧y= .ref b∧SqT K H a xs∧SqT K H b ys∧xs≠ []∧xs.length+ys.length≤sizeLine∧
 (ys=[]→Q (.ref a) H)∧(ys≠ []→ ∀p,H p=none→Q (.ref p) (upd H p (.tup (xs++ys))))
theorem Vals.nil_iff{xs:List V}{us:List Value}(r:Vals xs us):us=[]↔xs=[]:=by
 cases r with
 |nil=>simp
 |cons _ _=>simp
theorem op_catT:OpR X (binaryOp .Add) (zuO X.K):=by
 intro pins s σ H x y v u Q I rx ry h;obtain⟨a,b,xs,ys,rfl,rfl,ha,hb,hx,hz,q1,q2⟩:=h;cases rx;cases ry;obtain⟨its,r1,p1,_⟩:=I.tuple ha;obtain⟨its2,r2,p2,_⟩:=I.tuple hb;refine HT.cat_tup p1 p2 (fun z=>hx (r1.nil_iff.mp z)) (fun z=>⟨.ref a,H,I,rfl,q1 (r2.nil_iff.mp z)⟩) (fun z=>?_) (by rw [←r1.length,←r2.length];exact hz);refine⟨.ref s.heap.objs.size,_,I.laid (t':=s.toks) (o:= .tup (xs++ys)) (fun b ob q=>Heap.get?_push_of_some _ q) (Nat.le_refl _) ?_,rfl,q2 (fun w=>z (r2.nil_iff.mpr w)) _ (I.hok.fresh (Nat.le_refl _))⟩;exact⟨by rw [List.length_append];exact hz,_,r1.append r2,IsTup.new _ _⟩
end
noncomputable def ixN (n:Nat) (i:Int):Option Nat:=if 0≤i then(if i<n then some i.toNat else none) else if -(n:Int)≤i then some (i+n).toNat else none
noncomputable def atI {α:Type}(xs:List α) (i:Int):Option α:=(ixN xs.length i).bind fun j=>xs[j]?
theorem ztZ{n:Nat}{i:Int}{j:Nat}(h:ixN n i=some j):seqIndex? i n=some j∧j<n∧ -(n:Int)≤i∧i<n:=by
 unfold ixN at h;by_cases h0:0≤i
 ·rw [if_pos h0]at h;by_cases h1:i<n
  ·rw [if_pos h1]at h;have e:i.toNat=j:=Option.some.inj h;exact⟨by rw [seqIndex_of h0 h1,e],by omega,by omega,h1⟩
  ·rw [if_neg h1]at h;cases h
 ·rw [if_neg h0]at h;by_cases h1: -(n:Int)≤i
  ·rw [if_pos h1]at h;have e:(i+n).toNat=j:=Option.some.inj h;exact⟨by rw [seqIndex_neg (by omega) h1,e],by omega,h1,by omega⟩
  ·rw [if_neg h1]at h;cases h
theorem zlS{α:Type}{xs:List α}{i:Int}{v:α}(h:atI xs i=some v):∃j,seqIndex? i xs.length=some j∧xs[j]? =some v∧j<xs.length∧ -(xs.length:Int)≤i∧i<xs.length:=by
 unfold atI at h;cases e:ixN xs.length i with
 |none=>rw [e]at h;cases h
 |some j=>
  rw [e]at h;obtain⟨h1,h2,h3,h4⟩:=ztZ e;exact⟨j,h1,h,h2,h3,h4⟩
theorem zpa{α:Type}{xs:List α}{j:Nat}{v:α}(h:xs[j]? =some v):atI xs (j:Int)=some v:=by
 have hj:j<xs.length:=(List.getElem?_eq_some_iff.mp h).1;have e:ixN xs.length (j:Int)=some j:=by
  unfold ixN;rw [if_pos (by omega),if_pos (by omega)];simp
 unfold atI;rw [e];exact h
noncomputable def zlE (b:Expr):Prop:=∀o i,subscripted b false o i=operate [o,i] (getItem o i)
noncomputable def IxR (X:Cx) (r:R2):Prop:=
 ∀(value slice:Expr) (pins:List (Addr×Obj)) (s:Shared) (σ:St) (H:Hp) (x y:V) (v u:Value) (Q:VK),Inv X pins σ H s→RelV x v→RelV y u→r x y H Q→
  subscripted slice false v u=operate [v,u] (getItem v u)→wpAny (model X.prog X.w) X.A (subscriptTail value slice v u) (EP X pins σ Q) X.xe s
noncomputable def MtR (X:Cx) (id:String) (r:V→List V→Hp→VK→Prop):Prop:=
 ∀(pins:List (Addr×Obj)) (s:Shared) (σ:St) (H:Hp) (x:V) (xs:List V) (v:Value) (us:List Value) (Q:VK),Inv X pins σ H s→RelV x v→Vals xs us→r x xs H Q→
  wpAny (model X.prog X.w) X.A (call (.builtin id) (v::us)) (EP X pins σ Q) X.xe s
section
variable {X:Cx}{a b:Expr}{ta tb:TE}{pos:Pos}
theorem IxR.or{r r':R2}(h:IxR X r) (h':IxR X r'):IxR X (fun x y H Q=>r x y H Q∨r' x y H Q):=by
 intro value slice pins s σ H x y v u Q I rx ry q hs;rcases q with q |q
 ·exact h value slice pins s σ H x y v u Q I rx ry q hs
 ·exact h' value slice pins s σ H x y v u Q I rx ry q hs
theorem MtR.or{id:String}{r r':V→List V→Hp→VK→Prop}(h:MtR X id r) (h':MtR X id r'):MtR X id (fun x xs H Q=>r x xs H Q∨r' x xs H Q):=by
 intro pins s σ H x xs v us Q I rx rs q;rcases q with q |q
 ·exact h pins s σ H x xs v us Q I rx rs q
 ·exact h' pins s σ H x xs v us Q I rx rs q
theorem zxE{r:R2}(hr:IxR X r) (ha:PE X a ta) (hb:PE X b tb) (hs:zlE b):PE X (.Subscript a b pos) (tOp r ta tb):=by
 intro pins s σ H Q I h;exact Subscript_ (zyJ ha hb I h fun v u s2 x y H2 I2 rx ry q=>hr a b pins s2 σ H2 x y v u Q I2 rx ry q (hs _ _))
noncomputable def zAg (K:PySem.W.Frag):R2:=fun x y H Q=>∃p xs i v,x= .ref p∧y= .int i∧SqL K H p xs∧atI xs i=some v∧Q v H
noncomputable def zAi (K:PySem.W.Frag):R2:=fun x y H Q=>∃p xs i v,x= .ref p∧y= .int i∧SqT K H p xs∧atI xs i=some v∧Q v H
noncomputable def zAc:R2:=fun x y H Q=>∃z i c,x= .str z∧y= .int i∧z.length≤sizeLine∧atI z.cps.toList i=some c∧Q (.str ⟨#[c]⟩) H
theorem ix_list:IxR X (zAg X.K):=by
 intro value slice pins s σ H x y v u Q I rx ry h hs;obtain⟨p,xs,i,z,rfl,rfl,hq,he,q⟩:=h;cases rx;obtain⟨t,rfl⟩:=ry;obtain⟨its,r,pl,hz⟩:=I.list hq;obtain⟨j,h1,h2,h3,h4,h5⟩:=zlS he;obtain⟨w,ew,rw'⟩:=r.get h2;have hl:=r.length;have hn:=zit;have fin:EP X pins σ Q w s:=⟨z,H,I,rw',q⟩;by_cases h0:0≤i
 ·have hj:i.toNat=j:=by
   rw [seqIndex_of h0 h5]at h1;exact Option.some.inj h1
  exact item_listR pl.isList h0 (by omega) (by rw [hj];simpa using ew) fin hs
 ·have hj:(i+(its.toArray.size:Int)).toNat=j:=by
   rw [seqIndex_neg (by omega) h4]at h1;rw [List.size_toArray,←hl];exact Option.some.inj h1
  exact subscriptTail_builtinR (x:=w) pl.isList.typeIs slot_list_getitem.lookup
   (wpAny_getItem_list_neg (Q:=fun r s'=>r=w∧EP X pins σ Q r s') pl.isList (by omega) (by rw [List.size_toArray]<;>omega) (by omega) (by rw [hj];simpa using ew) ⟨rfl,fin⟩) hs
theorem ix_tup:IxR X (zAi X.K):=by
 intro value slice pins s σ H x y v u Q I rx ry h hs;obtain⟨p,xs,i,z,rfl,rfl,hq,he,q⟩:=h;cases rx;obtain⟨t,rfl⟩:=ry;obtain⟨its,r,pl,hz⟩:=I.tuple hq;obtain⟨j,h1,h2,h3,h4,h5⟩:=zlS he;obtain⟨w,ew,rw'⟩:=r.get h2;have hl:=r.length;have hn:=zit;have fin:EP X pins σ Q w s:=⟨z,H,I,rw',q⟩;exact subscriptTail_builtinR (x:=w) pl.typeIs slot_tuple_getitem.lookup
  (getItem_tuple (j:=j) (Q:=fun r s'=>r=w∧EP X pins σ Q r s') pl (by omega) (by omega) (by rw [List.size_toArray,←hl];exact h1) (by simpa using ew) ⟨rfl,fin⟩) hs
theorem zxu:IxR X zAc:=by
 intro value slice pins s σ H x y v u Q I rx ry h hs;obtain⟨z,i,c,rfl,rfl,hz,he,q⟩:=h;obtain⟨t,rfl⟩:=rx;obtain⟨t',rfl⟩:=ry;obtain⟨j,h1,h2,h3,h4,h5⟩:=zlS he;have hl:z.cps.toList.length=z.length:=by simp [Str.length]
 rw [hl]at h1 h4 h5;have hn:=zit;exact tail_any (typeIs_str s z t) slot_str_getitem.lookup (getItem_str (c:=c) (by
  have e1:decide (i< -(2 ^ 63:Int))=false:=decide_eq_false (by omega);have e2:decide (i≥2 ^ 63)=false:=decide_eq_false (by omega);rw [e1,e2,Bool.or_false]) (by rw [h1];simpa using h2) ⟨.str ⟨#[c]⟩,H,I.tok _,⟨_,rfl⟩,q⟩) hs
noncomputable def rIx (K:PySem.W.Frag):R2:=fun x y H Q=>zAg K x y H Q∨zAi K x y H Q∨zAc x y H Q
theorem zta:IxR X (rIx X.K):=ix_list.or (ix_tup.or zxu)
theorem zko (lo hi:Option Int) (n:Nat):(sliceBounds lo hi none n).1=((HT.sIx n 0 lo:Nat):Int)∧(sliceBounds lo hi none n).2.1=((HT.sIx n n hi:Nat):Int)∧(sliceBounds lo hi none n).2.2=1:=by
 refine⟨?_,?_,rfl⟩
 ·cases lo with
  |none=>simp [sliceBounds,HT.sIx]
  |some i=>
   simp only[sliceBounds,HT.sIx,Option.getD_none,show(1:Int) > 0 by decide,if_true]
   by_cases h:i<0
   ·simp only[h,if_true]<;>omega
   ·simp only[h,if_false]<;>omega
 ·cases hi with
  |none=>simp [sliceBounds,HT.sIx]
  |some i=>
   simp only[sliceBounds,HT.sIx,Option.getD_none,show(1:Int) > 0 by decide,if_true]
   by_cases h:i<0
   ·simp only[h,if_true]<;>omega
   ·simp only[h,if_false]<;>omega
theorem zjq (its:List Value) (lo hi:Option Int):slicePick its.toArray lo hi none=((its.drop (HT.sIx its.length 0 lo)).take (HT.sIx its.length its.length hi - HT.sIx its.length 0 lo)).toArray:=by
 obtain⟨h1,h2,h3⟩:=zko lo hi its.toArray.size;unfold slicePick;rw [h1,h2,h3];simp only[sliceRange_one,pick_run,List.size_toArray]<;>rfl
noncomputable def zAH (K:PySem.W.Frag):V→Option Int→Option Int→Hp→VK→Prop:=fun x lo hi H Q=>∃a xs,x= .ref a∧SqL K H a xs∧ ∀p,H p=none→Q (.ref p) (upd H p (.lst (zqS xs lo hi)))
theorem zpe:SlR X (zAH X.K):=by
 intro pins s σ H x v vl vu lo hi sl Q I rx hs pl pu h;obtain⟨a,xs,rfl,hx,q⟩:=h;cases rx;obtain⟨its,r,ht,hz⟩:=I.list hx;have hlen:=r.length;refine⟨"list",_,slot_list_getitem.lookup,ht.isList.typeIs,?_⟩;refine wpAny_getItem_list_slice ht.isList hs pl pu .none (by simp) ?_ (by rw [List.size_toArray]<;>omega);rw [zjq,←hlen];refine⟨.ref s.heap.objs.size,_,I.laid (t':=s.toks) (o:= .lst (zqS xs lo hi)) (fun b ob q=>Heap.get?_push_of_some _ q) (Nat.le_refl _) ?_,rfl,q _ (I.hok.fresh (Nat.le_refl _))⟩;exact⟨Nat.le_trans (zhQ xs lo hi) hz,_,0,(r.drop (HT.sIx xs.length 0 lo)).take (HT.sIx xs.length xs.length hi - HT.sIx xs.length 0 lo),Heap.get?_push_size _ rfl⟩
theorem call_len_seq:CallR X (.builtin "len") (fun xs H Q=>∃p ys,xs=[.ref p]∧(SqL X.K H p ys∨SqT X.K H p ys)∧Q (.int ys.length) H):=by
 intro pins s σ H xs us Q I r h;obtain⟨p,ys,rfl,hq,q⟩:=h;obtain⟨u,rfl,rx⟩:=ziN r;cases rx;have hn:=zit;rcases hq with hq |hq
 ·obtain⟨its,r',pl,hz⟩:=I.list hq;have hlen:=r'.length;exact Calls.call_len_list pl.isList (by simp only[List.size_toArray]<;>omega) ⟨.int ys.length,H,I.tok _,⟨s.toks+1,by rw [List.size_toArray,hlen]⟩,q⟩
 ·obtain⟨its,r',pl,hz⟩:=I.tuple hq;have hlen:=r'.length;exact len_tuple pl (by simp only[List.size_toArray]<;>omega) ⟨.int ys.length,H,I.tok _,⟨s.toks+1,by rw [List.size_toArray,hlen]⟩,q⟩
theorem zlf:CallR X (.builtin "len") (fun xs H Q=>∃z,xs=[.str z]∧z.length≤sizeLine∧Q (.int z.length) H):=by
 intro pins s σ H xs us Q I r h;obtain⟨z,rfl,hz,q⟩:=h;obtain⟨u,rfl,t,rfl⟩:=ziN r;have hn:=zit;exact len_str (by omega) ⟨.int z.length,H,I.tok _,⟨_,rfl⟩,q⟩
theorem CallR.or{f:Value}{r r':List V→Hp→VK→Prop}(h:CallR X f r) (h':CallR X f r'):CallR X f (fun xs H Q=>r xs H Q∨r' xs H Q):=by
 intro pins s σ H xs us Q I rs q;rcases q with q |q
 ·exact h pins s σ H xs us Q I rs q
 ·exact h' pins s σ H xs us Q I rs q
theorem zjF:CallR X (.type "list") (fun xs H Q=>∃p ys,xs=[.ref p]∧(SqL X.K H p ys∨SqT X.K H p ys)∧ ∀l,H l=none→Q (.ref l) (upd H l (.lst ys))):=by
 intro pins s σ H xs us Q I r h;obtain⟨p,ys,rfl,hq,q⟩:=h;obtain⟨u,rfl,rx⟩:=ziN r;cases rx;have fin:∀(its:List Value),Vals ys its→ys.length≤sizeLine→ ∀(h':Heap) (c':Nat),(∀b o',s.heap.get? b=some o'→h'.get? b=some o')→
   h'.get? s.heap.objs.size=some { cls:= .type "list",dict:=none,data:= .seq its.toArray c',slots:= #[] }→EP X pins σ Q (.ref s.heap.objs.size) { s with heap:=h' }:=fun its r' hz h' c' kp e=>
  ⟨.ref s.heap.objs.size,_,I.laid (t':=s.toks) kp (Nat.le_refl _) (show ObjOk X.prog X.w _ h' _ (.lst ys) from⟨hz,its,c',r',e⟩),rfl,q _ (I.hok.fresh (Nat.le_refl _))⟩
 rcases hq with hq |hq
 ·obtain⟨its,r',pl,hz⟩:=I.list hq;have hlen:=r'.length;obtain⟨o,ho,hc,n,hd⟩:=pl.isList;exact call_list_seq p (.inl rfl) ho hc hd (fun h' c' kp e=>fin its r' hz h' c' kp e) (by simp only[List.size_toArray]<;>omega)
 ·obtain⟨its,r',pl,hz⟩:=I.tuple hq;have hlen:=r'.length;obtain⟨o,ho,hc,n,hd⟩:=pl;exact call_list_seq p (.inr rfl) ho hc hd (fun h' c' kp e=>fin its r' hz h' c' kp e) (by simp only[List.size_toArray]<;>omega)
theorem zfv:CallR X (.type "tuple") (fun xs H Q=>∃p ys,xs=[.ref p]∧((SqL X.K H p ys∧ ∀l,H l=none→Q (.ref l) (upd H l (.tup ys)))∨(SqT X.K H p ys∧Q (.ref p) H))):=by
 intro pins s σ H xs us Q I r h;obtain⟨p,ys,rfl,h⟩:=h;obtain⟨u,rfl,rx⟩:=ziN r;cases rx;rcases h with⟨hq,q⟩ |⟨hq,q⟩
 ·obtain⟨its,r',pl,hz⟩:=I.list hq;have hlen:=r'.length;refine call_tuple_list pl.isList (fun h' kp=>?_) (by simp only[List.size_toArray]<;>omega);have I1:Inv X pins σ H { s with heap:=h' }:=I.kept (t':=s.toks) kp;have I2:Inv X pins σ (upd H h'.objs.size (.tup ys)) { s with heap:=h'.push { cls:= .type "tuple",data:= .seq its.toArray } }:=
   I1.laid (t':=s.toks) (fun b o e=>Heap.get?_push_of_some _ e) (Nat.le_refl _) (show ObjOk X.prog X.w _ _ _ (.tup ys) from⟨hz,its,r',IsTup.new _ _⟩)
  exact⟨.ref h'.objs.size,_,I2,rfl,q _ (I1.hok.fresh (Nat.le_refl _))⟩
 ·obtain⟨its,r',pl,hz⟩:=I.tuple hq;exact call_tuple_same pl ⟨.ref p,H,I,rfl,q⟩
noncomputable def tyV (K:PySem.W.Frag) (T:String) (x:V) (H:Hp):Prop:=match x with
 | .str _=>T= "str"
 | .int _=>T= "int"
 | .ref p=>(T= "list" ∧ ∃xs,SqL K H p xs)∨(T= "tuple" ∧ ∃o,K.lookup p=some o∧o.cls= .type "tuple" ∧o.dict=none)∨
   (T= "dict" ∧((∃kvs,H p=some (.dK kvs))∨ ∃kvs,H p=some (.dT kvs)))∨(T= "set" ∧ ∃S n,H p=some (.set S n))
 |_=>False
theorem ztv{pins:List (Addr×Obj)}{σ:St}{H:Hp}{s:Shared}{T:String}{x:V}{v:Value}(I:Inv X pins σ H s) (r:RelV x v) (ty:tyV X.K T x H) :
  s.TypeIs v T∧ ∀a,v= .ref a→ ∃ob,s.heap.get? a=some ob∧ob.dict=none:=by
 cases x with
 |str z=>
  obtain⟨t,rfl⟩:=r;cases(show T= "str" from ty);exact⟨typeIs_str s z t,fun _ e=>nomatch e⟩
 |int i=>
  obtain⟨t,rfl⟩:=r;cases(show T= "int" from ty);exact⟨typeIs_int s i t,fun _ e=>nomatch e⟩
 |ref p=>
  cases r;rcases ty with⟨rfl,xs,hq⟩ |⟨rfl,o,hk,hc,hd⟩ |⟨rfl,hk⟩ |⟨rfl,S,n,hk⟩
  ·obtain⟨its,_,pl,_⟩:=I.list hq;refine⟨pl.isList.typeIs,fun a e=>?_⟩;cases e;obtain⟨o,n,e,c,hd,_⟩:=pl;exact⟨o,e,hd⟩
  ·refine⟨⟨o,I.kIn p o hk,hc⟩,fun a e=>?_⟩;cases e;exact⟨o,I.kIn _ o hk,hd⟩
  ·have z:∃o,s.heap.get? p=some o∧o.ExactDict:=by
    rcases hk with⟨kvs,hk⟩ |⟨kvs,hk⟩
    ·obtain⟨_,_,_,_,o,_,_,e,ex,_⟩:=I.hok p _ hk;exact⟨o,e,ex⟩
    ·obtain⟨_,_,_,_,o,_,_,e,ex,_⟩:=I.hok p _ hk;exact⟨o,e,ex⟩
   obtain⟨o,e,ex⟩:=z;refine⟨⟨o,e,ex.1⟩,fun a e2=>?_⟩;cases e2;exact⟨o,e,ex.2.1⟩
  ·obtain⟨o,_,_,_,e,ex,_⟩:=I.hok p _ hk;refine⟨⟨o,e,ex.1⟩,fun a e2=>?_⟩;cases e2;exact⟨o,e,ex.2.1⟩
 |_=>exact False.elim ty
noncomputable def zAU (K:PySem.W.Frag) (T:String) (r:V→List V→Hp→VK→Prop) (to:TE):TE:=fun σ H Q=>to σ H fun x H1=>tyV K T x H1∧r x [] H1 Q
noncomputable def tBM (K:PySem.W.Frag) (T:String) (r:V→List V→Hp→VK→Prop) (to:TE) (t:TA):TE:=fun σ H Q=>to σ H fun x H1=>tyV K T x H1∧t σ H1 fun xs H2=>r x xs H2 Q
variable {o e:Expr}{es:List Expr}{to:TE}{t:TA}{name:Str}{apos cpos:Pos}{T id:String}{r:V→List V→Hp→VK→Prop}
theorem zyc (pa:PlainAttrs T) (slot:Slot T name id) (hty:typeOf (.builtin id)=pure (.type "method_descriptor")) (hm:MtR X id r) (ho:PE X o to)
  (hbase:attributeBase o name X.env (eval o X.env)=eval o X.env:=by rfl) (hline:(apos.endLine == cpos.line)=true:=by rfl):PE X (.Call (.Attribute o name apos) [] [] cpos) (zAU X.K T r to):=by
 intro pins s σ H Q I h;refine wpAny_Call_method0_late hbase hline (thn (ho pins s σ H _ I h) fun v s1 ⟨x,H1,I1,r1,ty,q1⟩=>?_);obtain⟨h1,h2⟩:=ztv I1 r1 ty;exact⟨T,id,pa,slot,hty,h1,h2,Calls.callWith_builtin rfl (PySem.evalArgs_none (hm pins s1 σ H1 x [] v [] Q I1 r1 .nil q1))⟩
theorem zxp (pa:PlainAttrs T) (slot:Slot T name id) (hty:typeOf (.builtin id)=pure (.type "method_descriptor")) (hm:MtR X id r) (ho:PE X o to) (ha:PA X (e::es) t)
  (hbase:attributeBase o name X.env (eval o X.env)=eval o X.env:=by rfl)
  (hfew:((backTo cpos (starEach (e::es) X.env)).all (fun x=> !x.1)&&(backToKw cpos (keywordEach [] X.env)).all (fun x=>x.1.isSome)
   &&decide ((e::es).length+([]:List Keyword).length+(if([]:List Keyword).isEmpty then 0 else 1)<30))=true:=by rfl)
  (hline:(apos.endLine == cpos.line)=true:=by rfl) (hs:starEach (e::es) X.env=(false,eval e X.env)::starEach es X.env:=by rfl) (hplain:(backTo cpos (starEach es X.env)).any (·.1)=false:=by rfl) :
  PE X (.Call (.Attribute o name apos) (e::es) [] cpos) (tBM X.K T r to t):=by
 intro pins s σ H Q I h;refine wpAny_Call_method_late hbase hfew hline rfl (thn (ho pins s σ H _ I h) fun v s1 ⟨x,H1,I1,r1,ty,q1⟩=>?_);obtain⟨h1,h2⟩:=ztv I1 r1 ty;refine⟨T,id,pa,slot,hty,h1,h2,?_⟩;have hA:=ha cpos pins s1 σ H1 _ I1 q1;rw [hs]at hA⊢;refine Calls.callWith_builtin (by show(false || (backTo cpos (starEach es X.env)).any (·.1))=false;rw [hplain]<;>rfl) (Calls.evalArgs_plain ?_)
 exact thn hA fun us s2 ⟨vs,H2,I2,r2,q2⟩=>hm pins s2 σ H2 x vs v us Q I2 r1 r2 q2
end
noncomputable def MtM (X:Cx) (id:String) (r:V→List V→Hp→VK→Prop):Prop:=
 ∀(pins:List (Addr×Obj)) (s:Shared) (σ:St) (H:Hp) (x:V) (xs:List V) (v:Value) (us:List Value) (Q:VK),Inv X pins σ H s→RelV x v→Vals xs us→r x xs H Q→
  wpAny (model X.prog X.w) X.A (call (.builtin id) (v::us)) (EP X pins σ Q) X.xe s
theorem Vals.one:∀{x:V}{us:List Value},Vals [x] us→ ∃u,us=[u]∧RelV x u
 |_,_, .cons r .nil=>⟨_,rfl,r⟩
theorem Vals.rep{xs:List V}{us:List Value}(h:Vals xs us):∀k:Nat,Vals (List.replicate k xs).flatten (List.replicate k us).flatten
 |0=> .nil
 |k+1=>by
  rw [List.replicate_succ,List.replicate_succ,List.flatten_cons,List.flatten_cons];exact Vals.append h (Vals.rep h k)
theorem zkf (its:List Value):∀(k:Nat) (acc:List Value),
  List.foldl (fun x1 x2=>x1++x2) acc.toArray (List.replicate k its.toArray)=(acc++(List.replicate k its).flatten).toArray
 |0,acc=>by simp
 |k+1,acc=>by
  have e:acc.toArray++its.toArray=(acc++its).toArray:=by simp
  have e2:(acc++its)++(List.replicate k its).flatten=acc++(List.replicate (k+1) its).flatten:=by
   rw [List.replicate_succ,List.flatten_cons,List.append_assoc]
  rw [←e2,←zkf its k (acc++its),←e,List.replicate_succ,List.foldl_cons]
section
variable {X:Cx}{pins:List (Addr×Obj)}{σ:St}{H:Hp}{s:Shared}{l:Addr}{xs ys:List V}
theorem Inv.lset{its its':List Value}{n:Nat}{f:Array Value→Array Value}{t':Nat}(I:Inv X pins σ H s) (hH:H l=some (.lst xs))
  (e:s.heap.get? l=some { cls:= .type "list",data:= .seq its.toArray n }) (hf:f its.toArray=its'.toArray) (hv:Vals ys its') (hz:ys.length≤sizeLine) :
  Inv X pins σ (upd H l (.lst ys)) { s with heap:=s.heap.update l (Obj.mapSeq f),toks:=t' }:=by
 have q:=PySem.IsL.update e f;rw [hf]at q;refine I.write (x:=l) (e:=l) (by rw [hH];exact trivial) (.inl rfl) (fun b' u hb hu=>(Heap.get?_update_other s.heap (Obj.mapSeq f) (Ne.symm hb)).trans hu) ⟨_,q⟩ ?_;exact⟨hz,its',_,hv,q⟩
theorem Inv.lnew{its:List Value}{t':Nat}(I:Inv X pins σ H s) (hv:Vals ys its) (hz:ys.length≤sizeLine) :
  Inv X pins σ (upd H s.heap.objs.size (.lst ys)) { s with heap:=s.heap.push { cls:= .type "list",data:= .seq its.toArray },toks:=t' }:=
 I.laid (fun _ _ q=>Heap.get?_push_of_some _ q) (Nat.le_refl _) ⟨hz,its,0,hv,Heap.get?_push_size _ rfl⟩
theorem Inv.fresh (I:Inv X pins σ H s):H s.heap.objs.size=none:=I.hok.fresh (Nat.le_refl _)
theorem Inv.lstM (I:Inv X pins σ H s) (hH:H l=some (.lst xs)):xs.length≤sizeLine∧ ∃(its:List Value) (n:Nat),Vals xs its∧xs.length=its.length∧s.heap.get? l=some { cls:= .type "list",data:= .seq its.toArray n }:=by
 obtain⟨z,its,n,r,e⟩:=I.hok l _ hH;exact⟨z,its,n,r,r.length,e⟩
theorem ziV{n:Nat}(h:n≤sizeLine):Builtin.List.listTooLong n=false:=by
 unfold Builtin.List.listTooLong;exact decide_eq_false (by omega)
end
section
variable {X:Cx}
noncomputable def zpk:V→List V→Hp→VK→Prop:=fun x vs H Q=>∃l xs y,x= .ref l∧vs=[y]∧H l=some (.lst xs)∧xs.length<sizeLine∧Q .non (upd H l (.lst (xs++[y])))
theorem zjO:MtM X "list.append" zpk:=by
 intro pins s σ H x vs v us Q I rx rv h;obtain⟨l,xs,y,rfl,rfl,hH,hz,q⟩:=h;cases rx;obtain⟨u,rfl,ru⟩:=rv.one;obtain⟨z,its,n,r,hl,e⟩:=I.lstM hH;refine call_meets F.slot_list_append ⟨_,e,rfl⟩ F.entry_list_append (F.args_list_append_2 _ _) (PySem.list_append l its.toArray n u (by rw [List.size_toArray];omega)) ⟨e,?_⟩;refine⟨.non,_,I.lset (its':=its++[u]) hH e (by simp) (r.append (.cons ru .nil)) ?_,rfl,q⟩;rw [List.length_append,List.length_singleton];omega
noncomputable def zoT:V→List V→Hp→VK→Prop:=fun x vs H Q=>∃l b xs zs,x= .ref l∧vs=[.ref b]∧H l=some (.lst xs)∧H b=some (.lst zs)∧xs.length+zs.length≤sizeLine∧Q .non (upd H l (.lst (xs++zs)))
theorem zoX:MtM X "list.extend" zoT:=by
 intro pins s σ H x vs v us Q I rx rv h;obtain⟨l,b,xs,zs,rfl,rfl,hH,hB,hz,q⟩:=h;cases rx;obtain⟨u,rfl,ru⟩:=rv.one;cases ru;obtain⟨z,its,n,r,hl,e⟩:=I.lstM hH;obtain⟨z2,its2,n2,r2,hl2,e2⟩:=I.lstM hB;have hsz:its.toArray.size+its2.toArray.size≤sizeLine:=by rw [List.size_toArray,List.size_toArray];omega
 have hlong:¬(!its.toArray.isEmpty&&Builtin.List.listTooLong (its.toArray.size+its2.toArray.size))=true:=by
  rw [ziV hsz,Bool.and_false];exact Bool.false_ne_true
 refine call_meets F.slot_list_extend ⟨_,e,rfl⟩ F.entry_list_extend (F.args_list_extend_2 _ _)
  (AutoSeq1.list_extend_list_list_0 l its.toArray n b its2.toArray n2 hlong (by rw [List.size_toArray];omega) (by omega)) ⟨e,e2,?_⟩
 refine⟨.non,_,I.lset (its':=its++its2) hH e (by simp) (r.append r2) ?_,rfl,q⟩;rw [List.length_append];omega
noncomputable def zyO:R2:=fun x y H Q=>∃l b xs zs,x= .ref l∧y= .ref b∧H l=some (.lst xs)∧H b=some (.lst zs)∧xs.length+zs.length≤sizeLine∧ ∀p,H p=none→Q (.ref p) (upd H p (.lst (xs++zs)))
theorem znx:OpR X (binaryOp .Add) zyO:=by
 intro pins s σ H x y v u Q I rx ry h;obtain⟨l,b,xs,zs,rfl,rfl,hH,hB,hz,q⟩:=h;cases rx;cases ry;obtain⟨z,its,n,r,hl,e⟩:=I.lstM hH;obtain⟨z2,its2,n2,r2,hl2,e2⟩:=I.lstM hB;refine PySem.P.add_list e e2 ?_ (by rw [List.size_toArray,List.size_toArray];omega);have ea:its.toArray++its2.toArray=(its++its2).toArray:=by simp
 rw [ea];exact⟨.ref _,_,I.lnew (t':=s.toks) (r.append r2) (by rw [List.length_append];omega),rfl,q _ I.fresh⟩
noncomputable def zAB:R2:=fun x y H Q=>∃l k xs,x= .ref l∧y= .int k∧H l=some (.lst xs)∧ -(2 ^ 63)≤k∧k<2 ^ 63∧xs.length*k.toNat≤sizeLine∧
 ∀p,H p=none→Q (.ref p) (upd H p (.lst (List.replicate k.toNat xs).flatten))
theorem ztQ{α:Type}(xs:List α) (k:Nat):(List.replicate k xs).flatten.length=k*xs.length:=by
 induction k with
 |zero=>simp
 |succ k ih=>rw [List.replicate_succ,List.flatten_cons,List.length_append,ih,Nat.succ_mul,Nat.add_comm]
theorem zwe:OpR X (binaryOp .Mult) zAB:=by
 intro pins s σ H x y v u Q I rx ry h;obtain⟨l,k,xs,rfl,rfl,hH,h1,h2,hz,q⟩:=h;cases rx;obtain⟨t,rfl⟩:=ry;obtain⟨z,its,n,r,hl,e⟩:=I.lstM hH;have hlen:its.toArray.size*k.toNat≤sizeLine:=by rw [List.size_toArray,←hl];exact hz
 have hcap:¬its.toArray.size*k.toNat > (2 ^ 63 - 1) / 8:=by
  have:(sizeLine:Nat)≤(2 ^ 63 - 1) / 8:=by decide
  omega
 have hfit:¬(!Builtin.List.listFitsIndex k)=true:=by
  rw [fitsIndex_both h1 h2];exact Bool.false_ne_true
 have hlong:¬Builtin.List.listTooLong (its.toArray.size*k.toNat)=true:=by
  rw [ziV hlen];exact Bool.false_ne_true
 have hnew:List.foldl (fun x1 x2=>x1++x2) #[] (List.replicate (if its.toArray.isEmpty=true then 0 else k.toNat) its.toArray)=(List.replicate k.toNat its).flatten.toArray:=by
  have f0:∀m:Nat,List.foldl (fun x1 x2=>x1++x2) #[] (List.replicate m its.toArray)=(List.replicate m its).flatten.toArray:=fun m=>by
   have:=zkf its m [];rw [List.nil_append]at this;exact this
  rw [f0];cases its with
  |nil=>simp
  |cons a r'=>rw [if_neg (by simp)]
 refine wpAny_binaryOp_repeat_ref (T:= "list") (U:= "int") (by decide) ⟨_,e,rfl⟩ (fun s'=>typeIs_int s' k t) noFill_list_mul F.fills_int_mul F.slot_int_rmul repeat_list F.slot_int_index.lookup
  (call_meets F.slot_int_rmul (typeIs_int s k t) F.entry_int_rmul (F.args_int_rmul_2 _ _) (int___rmul___int_list k t l its.toArray n)
   ⟨e,rfl,⟨_,e,rfl⟩,call_meets F.slot_list_mul ⟨_,e,rfl⟩ F.entry_list_mul (F.args_list_mul_2 _ _) (AutoListH.list___mul___list_int_3 l its.toArray n k t hfit hcap hlong) ⟨e,?_⟩⟩)
 rw [hnew];exact⟨.ref _,_,I.lnew (t':=s.toks) (r.rep k.toNat) (by rw [ztQ,Nat.mul_comm];exact hz),rfl,q _ I.fresh⟩
end
end L2
namespace Att
open PySem PySem.W PySem.Calls PyProof.Rows
theorem zht{P:Params}{h:Heap}:∀(ns:List Int) (vs:List Value),WellAll P h vs (ns.map WData.int)→IntsAre vs ns:=by
 intro ns
 induction ns with
 |nil=>
  intro vs w;rw [List.map_nil]at w;cases w;exact .nil
 |cons n ns ih=>
  intro vs w;rw [List.map_cons]at w;cases w with
  |cons a b=>
   cases a;exact .cons _ _ (ih _ b)
theorem zrd{l:OpenLaw}{n:Nat}(hn:l.most=some n) {P:Params}{h:Heap}{args:List WData}{vals:List Value}
  (hpre:l.row.toRowW.claim.pre args=true) (hwl:WellAll P h vals args) :
  ∃a vs ns,vals=[Value.ref a]∧args=[WData.list (ns.map WData.int)]∧h.get? a=some { cls:= .type "list",data:= .seq vs.toArray }∧IntsAre vs ns∧ns.length≤n:=by
 have hsh:WShape.hasAll [] args [.list .int]=true:=(pre_splitW hpre).1;have hc:l.pre.holds [] { args:=args }=true:=(pre_splitW hpre).2;obtain⟨d,r,rfl,h1,h2⟩:=hasAllW_cons hsh;obtain rfl:=hasAllW_nil h2;obtain⟨xs,rfl,h3⟩:=hasW_list h1;obtain⟨ns,rfl⟩:=items_int h3;have hlen:ns.length≤n:=by
  unfold OpenLaw.pre at hc;have h4:(WTm.not (.lt (.lit (.int (n:Int))) (.len (.arg 0)))).holds [] { args:=[.list (ns.map .int)] }=true:=by
   have h4:=(holds_andW hc).1;rw [hn]at h4;exact h4
  have h5:=condW_of h4 (w_not (w_lt w_lit (w_len_list (w_arg rfl))));rw [List.length_map]at h5;refine Nat.le_of_not_lt fun q=>?_;have q':(n:Int)<((ns.length:Nat):Int):=by omega
  first
   | (rw [decide_eq_true q']at h5;exact absurd h5 (by decide))
   | (simp at h5;omega)
 cases hwl with
 |cons w1 w2=>
  cases w2;cases w1 with
  |list ho hall=>exact⟨_,_,ns,rfl,rfl,ho,zht ns _ hall,hlen⟩
theorem zpY (l:OpenLaw) (args:List WData):l.row.toRowW.claim.post args (.bool true) args=true:=
 postW_of (r:=l.row.toRowW) (X:=(true == true))
  (show WShape.has [] (.bool true) .bool=true by first |rfl |decide |simp [WShape.has,WShape.arms,WShape.armsAll])
  (show(WTm.eq .res (.lit (.bool true))).value [] { args:=args,res:=some (.bool true),after:=args }=some (.bool (true == true)) from w_eq_bool (w_res rfl) w_lit) rfl
theorem attach_call{l:OpenLaw}{n:Nat}{q:Program}{loose:List Str}{XP:(Str→Option Value)→Heap→Prop}{YP:World→Heap→Prop}{d:DefRec}
  (hn:l.most=some n) (hdf:d.params.defaults=[])
  (call:∀(w:World) (s₀ s₁:Shared) (mg mb:Str→Option Value) (fa:Addr) (o:Obj) (pm cd doc:Value) (a:Addr) (vs:List Value) (ns:List Int),
   Ground q loose [] XP w s₀ mg mb s₁.heap→YP w s₁.heap→
   s₁.heap.get? fa=some o→o.data= .func (docDef d.name d.params d.body d.scope pm cd doc)→s₁.heap.CodeRec cd d.name→mg d.name=some (.ref fa)→
   s₁.heap.get? a=some { cls:= .type "list",data:= .seq vs.toArray }→IntsAre vs ns→ns.length≤n→s₁.gens= #[]→
   codeAny (model l.prog w) callerA (.call (.ref fa) ⟨[.ref a],[]⟩) (fun r s'=>r= .ok (.ret (.bool true))∧OldK s₁.heap s'.heap∧s'.os=s₁.os∧AllBare s'.gens) s₁) :
  WalkO q loose XP YP l.row.toRowW d [] (fun f vs=>PySem.call f vs):=by
 intro w s₀ s₁ mg mb G Y fa o pm cd doc dV kV ho hd hcd hD hmg hg args vals as hpre hlay hrd hwl hlo;obtain rfl:dV= .none:=Dflts.none hD hdf;obtain rfl:kV= .none:=Dflts.noKw hD;obtain⟨a,vs,ns,rfl,rfl,hobj,hints,hlen⟩:=zrd hn hpre hwl;refine enter_call (codeAny_mono (call w s₀ s₁ mg mb fa o pm cd doc a vs ns G Y ho (fd_plain hd) hcd hmg hobj hints hlen hg) fun r s' hq=>?_);obtain⟨rfl,h2,h3,h4⟩:=hq;exact⟨.inl ⟨.bool true, .bool true,[],rfl,fun _=>rfl, .bool true,zpY l _,fun _=>⟨List.Pairwise.nil,fun _ hm=>(nomatch hm)⟩⟩,h2,h3,h4⟩
end Att
namespace L2
open PySem PySem.Spec PyProof.Rows
theorem zkH:∀{vs:List Value}{ns:List Int},IntsAre vs ns→Vals (ns.map V.int) vs
 |_,_, .nil=> .nil
 |_,_, .cons n t h=> .cons ⟨t,rfl⟩ (zkH h)
noncomputable def zyi (H:Hp):Prop:=∀b,H b=none∨ ∃o xs,H b=some (.frz o (.lst xs))
theorem zrB{P:Program}{w:World}{K:PySem.W.Frag}{mg mb:Str→Option Value}{CX:CXT}{k:Nat}{fa a:Addr}{fd:FuncData}{x:Str}{sp:Sp}{s₁:Shared}{vs:List Value}{ns:List Int}
  (KX:K.In s₁.heap) (hns:s₁.heap.Ns mainGlobals mg) (hb:s₁.heap.Ns builtinsNs mb) (hbb:∀x:Str,x≠ "__name__" →mb x=bootBuiltins x) (hlim:s₁.heap.NoLimit) (hg:s₁.gens= #[])
  (ha:s₁.heap.get? a=some { cls:= .type "list",data:= .seq vs.toArray }) (hi:IntsAre vs ns) (hl:ns.length≤sizeLine) (hr:Room k callerA)
  (F:∀base:Heap,K.In base→base.Ns mainGlobals mg→FnOk P w K mg base CX k fa fd [x] sp) (hbind:∀(s:Shared) (u:Value),BindsTo s fd ⟨[u],[]⟩ [(x,u)])
  (hsp:∀H:Hp,zyi H→SqL K H a (ns.map V.int)→sp [.ref a] H (fun v _=>v= .bl true) fun _ _ _=>False)
  (hCX:∀H e s',CX [] H s₁ (fun _ _ _=>False) e s'→False) :
  codeAny (model P w) callerA (.call (.ref fa) ⟨[.ref a],[]⟩) (fun r s'=>r= .ok (.ret (.bool true))∧OldK s₁.heap s'.heap∧s'.os=s₁.os∧AllBare s'.gens) s₁:=by
 have rv:=zkH hi;have lenV:=hi.length;have core:∀H:Hp,zyi H→SqL K H a (ns.map V.int)→HOk P w H s₁.heap→(∀b,H b≠none→b=a)→(H a≠none→K.lookup a=none)→
   codeAny (model P w) callerA (.call (.ref fa) ⟨[.ref a],[]⟩) (fun r s'=>r= .ok (.ret (.bool true))∧OldK s₁.heap s'.heap∧s'.os=s₁.os∧AllBare s'.gens) s₁:=by
  intro H hO hS hok hA hK;have base_of:∀{b:Addr}{o:Obj},s₁.heap.get? b=some o→H b=none→(zrz s₁.heap H).get? b=some o:=fun e n=>zrw e n;have noA:∀{b:Addr}{o:Obj}{es:Array DictEntry}{ep:Nat},s₁.heap.get? b=some o→o.data= .dict es ep→H b=none:=fun {b o es ep} e d=>by
   cases q:H b with
   |none=>rfl
   |some u=>
    have e':b=a:=hA b (by rw [q];simp);subst e';rw [ha]at e;cases e;have d':Data.seq vs.toArray _=Data.dict es ep:=d;cases d'
  have nsK:∀{b:Addr}{m:Str→Option Value},s₁.heap.Ns b m→(zrz s₁.heap H).Ns b m:=fun {b m} ⟨o,es,ep,e,d,r⟩=>⟨o,es,ep,base_of e (noA e d),d,r⟩;have hKb:K.In (zrz s₁.heap H):=fun b o e=>base_of (KX b o e) (by
   cases q:H b with
   |none=>rfl
   |some u=>
    have e':b=a:=hA b (by rw [q];simp);subst e';rw [hK (by rw [q];simp)]at e;cases e)
  have hM:Mod K mg (zrz s₁.heap H):=⟨hKb,nsK hns,⟨mb,nsK hb,hbb⟩,let ⟨mc,h1,h2⟩:=hlim;⟨mc,nsK h1,h2⟩⟩;have e0:Env0 P w K mg (zrz s₁.heap H) callerA [] s₁ H:=⟨rfl,hM,fun b o e=>zuD e,Nat.le_of_eq (zqr _ _),trivial,fun b hb=>absurd (show b∈([]:List Addr) from hb) (by simp),hok, .of_eq hg⟩;refine codeAny_mono ((F _ hKb (nsK hns)).run callerA [] s₁ H ⟨[.ref a],[]⟩ [.ref a] [.ref a] _ _ hr e0 (hbind s₁ (.ref a)) (.cons rfl .nil) (hsp H hO hS)) fun r s' h=>?_;cases r with
  |error e=>exact(hCX H e s' h).elim
  |ok fl=>
   cases fl with
   |next=>exact False.elim h
   |brk=>exact False.elim h
   |cont=>exact False.elim h
   |ret u=>
    obtain⟨v,H',os,bare,un,hok',r',q⟩:=h;have q':v= .bl true:=q;subst q';obtain rfl:u=Value.bool true:=r';refine⟨rfl,OldK.of_keep fun b o e=>?_,os,bare⟩;cases q:H b with
    |none=>exact un.keep b o e q (by intro z;exact absurd (show b∈([]:List Addr) from z) (by simp)) (by simp)
    |some u=>
     rcases hO b with z |⟨ob,xs,z⟩
     ·rw [q]at z;cases z
     ·have z2:=un.frzs b ob _ z;obtain⟨e1,_⟩:=hok b _ z;obtain⟨e2,_⟩:=hok' b _ z2;rw [e]at e1;cases e1;exact e2
 cases hk:K.lookup a with
 |some o=>
  have e:=KX a o hk;rw [ha]at e;cases e;refine core (fun _=>none) (fun _=> .inl rfl) (.inr ⟨_,vs.toArray,_,hk,rfl,rfl,rfl,by rw [List.size_toArray,lenV];exact hl,by simpa using rv⟩) (fun b u z=>by have z':(none:Option HO)=some u:=z;cases z') (fun b z=>absurd rfl z) fun z=>absurd rfl z
 |none=>
  refine core (fun b=>if b=a then some (.frz { cls:= .type "list",data:= .seq vs.toArray } (.lst (ns.map V.int))) else none) (fun b=>?_) (.inl (.inr ⟨{ cls:= .type "list",data:= .seq vs.toArray },if_pos rfl⟩)) (fun b u z=>?_) (fun b z=>?_) fun _=>hk
  ·by_cases hb:b=a
   ·exact .inr ⟨_,_,if_pos hb⟩
   ·exact .inl (if_neg hb)
  ·by_cases hb:b=a
   ·have z':=(if_pos hb).symm.trans z;cases z';subst hb;exact⟨ha,by rw [List.length_map];exact hl,vs,_,rv,ha⟩
   ·have z':=(if_neg hb).symm.trans z;cases z'
  ·by_cases hb:b=a
   ·exact hb
   ·exact absurd (if_neg hb) z
theorem ztO{l:PySem.W.OpenLaw}{n k:Nat}{q:Program}{loose:List Str}{XP:(Str→Option Value)→Heap→Prop}{YP:World→Heap→Prop}{d:DefRec}{K:Params→PySem.W.Frag}{CX:World→CXT}{sp:World→Sp}{x:Str}
  (hn:l.most=some n) (hn2:n≤sizeLine) (hdf:d.params.defaults=[]) (hr:Room k callerA)
  (hY:∀(w:World) (h:Heap),YP w h→(K w.params).In h)
  (F:∀(w:World) (mg:Str→Option Value) (fa:Addr) (h:Heap),(K w.params).In h→h.Ns mainGlobals mg→mg d.name=some (.ref fa)→
   ∃fd:FuncData,(∀(s:Shared) (u:Value),BindsTo s fd ⟨[u],[]⟩ [(x,u)])∧
    ∀base:Heap,(K w.params).In base→base.Ns mainGlobals mg→FnOk l.prog w (K w.params) mg base (CX w) k fa fd [x] (sp w))
  (hsp:∀(w:World) (H:Hp) (a:Addr) (ns:List Int),ns.length≤n→zyi H→SqL (K w.params) H a (ns.map V.int)→sp w [.ref a] H (fun v _=>v= .bl true) fun _ _ _=>False)
  (hCX:∀(w:World) (H:Hp) (s:Shared) (e:Value) (s':Shared),CX w [] H s (fun _ _ _=>False) e s'→False) :
  PySem.W.WalkO q loose XP YP l.row.toRowW d [] (fun f vs=>PySem.call f vs):=by
 refine Att.attach_call hn hdf fun w s₀ s₁ mg mb fa o pm cd doc a vs ns G Y ho hd hcd hmg hobj hints hlen hg=>?_;have KX:=hY w _ Y;obtain⟨fd,hb,hF⟩:=F w mg fa _ KX G.T.g hmg;exact zrB KX G.T.g G.T.b G.T.builtins G.T.nolimit hg hobj hints (Nat.le_trans hlen hn2) hr hF hb (fun H hO hS=>hsp w H a ns hlen hO hS) fun H e s'=>hCX w H s₁ e s'
noncomputable def zhw (s:Stmt):Arguments:=match s with
 | .FunctionDef _ a _ _ _ _ _ _ _ _=>a
 |_=>{ posonlyargs:=[],args:=[],vararg:=none,kwonlyargs:=[],kw_defaults:=[],kwarg:=none,defaults:=[] }
noncomputable def zfb (s:Stmt):List Stmt:=match s with
 | .FunctionDef _ _ b _ _ _ _ _ _ _=>b
 |_=>[]
noncomputable def zal (s:Stmt):Scope:=match s with
 | .FunctionDef _ _ _ _ _ _ sc _ _ _=>sc
 |_=>{ kind:= .function,names:=[],isGenerator:=false,isCoroutine:=false }
noncomputable abbrev CX0:CXT:=fun _ _ _ _ _ _=>False
noncomputable abbrev E0:XK:=fun _ _ _=>False
theorem zzJ{X:Cx}:zpm CX0 X E0:=fun _ _ _ _ _ _ _ h=>h.elim
structure Fun (K:PySem.W.Frag) (x qual:Str) (st:Stmt) (f:Addr) (fd:FuncData):Prop where
  ex:∃(oc:Value) (od:Option Addr) (kV doc pm:Value) (an:Option Addr) (cdv ct:Value) (osl:Array (Option Value)),
    fd=PySem.W.fnOf x qual (zhw st) (zfb st) (zal st) .none kV doc pm an cdv ct∧K.lookup f=some ⟨oc,od, .func fd,osl⟩∧PySem.W.codeIn K cdv qual=true
  kp:PySem.W.keepIn K (.ref f)=true
section
variable {P:Program}{w:World}{K:PySem.W.Frag}{mg:Str→Option Value}{base:Heap}
theorem Fun.ok{x qual:Str}{st:Stmt}{f:Addr}{fd:FuncData}{N ps:List Str}{k:Nat}{sp:Sp}(F:Fun K x qual st f fd) (S:FnScope N ps (zal st)) (len:∀vs H Q E,sp vs H Q E→vs.length=ps.length)
  (hbody:∀(cdv:Value) (A:Around) (outer:List Env) (s:Shared) (H:Hp) (vs:List V) (Q:VK) (E:XK),Room k (A.deeper (envOfC qual (zal st) s.heap.objs.size f cdv))→sp vs H Q E→
   ∃t,PSs (zuY CX0 P w K mg base N qual (zal st) f cdv A outer s H E).nox (zfb st) t∧t { nx:=fun _ H'=>Q .non H',rt:=Q } (start N vs) H):FnOk P w K mg base CX0 (k+1) f fd ps sp:=by
 obtain⟨oc,od,kV,doc,pm,an,cdv,ct,osl,rfl,lk,hcd⟩:=F.ex;refine zyP lk hcd S len fun A outer s H vs Q E hr hsp=>?_;obtain⟨t,h,q⟩:=hbody cdv A outer s H vs Q E hr hsp;exact⟨t,h.nox,q⟩
theorem Fun.binds{x qual:Str}{st:Stmt}{f:Addr}{fd:FuncData}{ps:List Str}(F:Fun K x qual st f fd)
  (h:∀(kV doc pm:Value) (an:Option Addr) (cdv ct:Value) (us:List Value),us.length=ps.length→bindArgs (PySem.W.fnOf x qual (zhw st) (zfb st) (zal st) .none kV doc pm an cdv ct) ⟨us,[]⟩=pure (ps.zip us)):Binds K fd ps []:=by
 obtain⟨oc,od,kV,doc,pm,an,cdv,ct,osl,rfl,lk,hcd⟩:=F.ex;exact .all (h kV doc pm an cdv ct)
theorem zwD{x qual:Str}{st:Stmt}{f:Addr}{oc:Value}{od an:Option Addr}{osl:Array (Option Value)}{kV doc pm cdv ct:Value}(l:K.lookup f=some ⟨oc,od, .func (PySem.W.fnOf x qual (zhw st) (zfb st) (zal st) .none kV doc pm an cdv ct),osl⟩)
  (c:PySem.W.codeIn K cdv qual=true) (k:PySem.W.keepIn K (.ref f)=true):Fun K x qual st f (PySem.W.fnOf x qual (zhw st) (zfb st) (zal st) .none kV doc pm an cdv ct):=⟨⟨oc,od,kV,doc,pm,an,cdv,ct,osl,rfl,l,c⟩,k⟩
end
theorem zAD{A B:Prop}(h:B):if false=true then A else B:=by
 rw [if_neg Bool.false_ne_true];exact h
theorem zAZ{A B:Prop}(h:A):if true=true then A else B:=by
 rw [if_pos rfl];exact h
noncomputable def Same (H H':Hp):Prop:=∀b o,H b=some o→H' b=some o
theorem Same.trans{H H1 H2:Hp}(a:Same H H1) (b:Same H1 H2):Same H H2:=fun c o h=>b c o (a c o h)
section
variable {κ:Type} [DecidableEq κ]
noncomputable def zmN (kvs:List (κ×V)) (k:κ):Option V:=(kvs.find? fun kv=>decide (kv.1=k)).map (·.2)
noncomputable def zoP (kvs:List (κ×V)) (k:κ) (v:V):List (κ×V):=
 if(kvs.any fun kv=>decide (kv.1=k))=true then kvs.map (fun kv=>if kv.1=k then(kv.1,v) else kv) else kvs++[(k,v)]
theorem zgU{p:κ×V}{r:List (κ×V)}{k:κ}(e:p.1=k):zmN (p::r) k=some p.2:=by simp [zmN,List.find?_cons,e]
theorem zgW{p:κ×V}{r:List (κ×V)}{k:κ}(e:¬p.1=k):zmN (p::r) k=zmN r k:=by simp [zmN,List.find?_cons,e]
theorem zmX (k:κ):∀kvs:List (κ×V),(kvs.any fun kv=>decide (kv.1=k))=(zmN kvs k).isSome
 | []=>rfl
 |p::r=>by
  rw [List.any_cons];by_cases e:p.1=k
  ·simp only[zgU e,decide_eq_true e,Bool.true_or,Option.isSome_some]
  ·rw [zgW e,decide_eq_false e,Bool.false_or];exact zmX k r
theorem zlL (kvs:List (κ×V)) (k:κ) (v:V):(zoP kvs k v).length≤kvs.length+1:=by
 unfold zoP;split
 ·rw [List.length_map];omega
 ·rw [List.length_append,List.length_cons,List.length_nil];omega
theorem RelO.isSome_eq{o:Option V}{u:Option Value}(r:RelO o u):o.isSome=u.isSome:=by
 cases o with
 |none=>cases u with
  |none=>rfl
  |some _=>exact(show False from r).elim
 |some _=>cases u with
  |none=>exact(show False from r).elim
  |some _=>rfl
theorem RelO.getD{o:Option V}{u:Option Value}{d:V}{d':Value}(r:RelO o u) (rd:RelV d d'):RelV (o.getD d) (u.getD d'):=by
 cases o with
 |none=>cases u with
  |none=>exact rd
  |some _=>exact(show False from r).elim
 |some _=>cases u with
  |none=>exact(show False from r).elim
  |some _=>exact r
theorem KV.val{kvs:List (κ×V)}{vs:List (κ×Value)}(r:KV kvs vs) (k:κ):RelO (zmN kvs k) (valueAt vs k):=by
 unfold KV at r
 induction r with
 |nil=>exact True.intro
 | @cons p q ps qs h t ih=>
  obtain⟨h1,h2⟩:=h;by_cases e:p.1=k
  ·have e':q.1=k:=h1.symm.trans e;have b:valueAt (q::qs) k=some q.2:=by simp [valueAt,List.find?_cons,e']
   rw [zgU e,b];exact h2
  ·have e':¬q.1=k:=fun z=>e (h1.trans z);have b:valueAt (q::qs) k=valueAt qs k:=by simp [valueAt,List.find?_cons,e']
   rw [zgW e,b];exact ih
theorem KV.length{kvs:List (κ×V)}{vs:List (κ×Value)}(r:KV kvs vs):kvs.length=vs.length:=Paired.length r
end
theorem zxB{P:Program}{w:World}{k:Key}{u:Value}(r:RelV (kV k) u):(zbw P w).is k u=true:=by
 cases k with
 |inl i=>obtain⟨t,e⟩:=(show ∃t,u=Value.int i t from r);subst e;exact zly P w i t
 |inr x=>obtain⟨t,e⟩:=(show ∃t,u=Value.str x t from r);subst e;exact zlu P w x t
theorem zkD{P:Program}{w:World}:∀{ks:List Key}{us:List Value},Vals (ks.map kV) us→ItemsAre (zbw P w) ks us
 | [],_,r=>by rw [List.map_nil]at r;cases r;exact .nil
 |k::ks,_,r=>by
  rw [List.map_cons]at r;cases r with
  |cons h t=>exact .cons (zxB h) (zkD t)
noncomputable abbrev KT (H:Hp):List (List Key×V)→List (List Key×Addr×Value)→Prop:=Paired fun p q=>p.1=q.1∧H q.2.1=some (.tup (p.1.map kV))∧RelV p.2 q.2.2
theorem KT.val{H:Hp}{kvs:List (List Key×V)}{xs:List (List Key×Addr×Value)}(r:KT H kvs xs) (k:List Key):RelO (zmN kvs k) ((atKey xs k).map (·.2)):=by
 induction r with
 |nil=>exact True.intro
 | @cons p q ps qs h t ih=>
  obtain⟨h1,_,h2⟩:=h;by_cases e:p.1=k
  ·have e':q.1=k:=h1.symm.trans e;have b:atKey (q::qs) k=some q.2:=by simp [atKey,List.find?_cons,e']
   rw [zgU e,b];exact h2
  ·have e':¬q.1=k:=fun z=>e (h1.trans z);have b:atKey (q::qs) k=atKey qs k:=by simp [atKey,List.find?_cons,e']
   rw [zgW e,b];exact ih
theorem KT.repl{H:Hp}{kvs:List (List Key×V)}{xs:List (List Key×Addr×Value)}(r:KT H kvs xs) (k:List Key) {y:V}{u:Value}(ry:RelV y u) :
  KT H (kvs.map fun kv=>if kv.1=k then(kv.1,y) else kv) (xs.map (putAt k u)):=by
 induction r with
 |nil=>exact .nil
 | @cons p q ps qs h t ih=>
  rw [List.map_cons,List.map_cons];refine .cons ?_ ih;obtain⟨h1,h2,h3⟩:=h;unfold putAt;by_cases e:p.1=k
  ·rw [if_pos e,if_pos (h1.symm.trans e)];exact⟨h1,h2,ry⟩
  ·rw [if_neg e,if_neg (fun z=>e (h1.trans z))];exact⟨h1,h2,h3⟩
theorem KT.put{H:Hp}{kvs:List (List Key×V)}{xs:List (List Key×Addr×Value)}(r:KT H kvs xs) (k:List Key) {b:Addr}{y:V}{u:Value}(hb:H b=some (.tup (k.map kV))) (ry:RelV y u) :
  KT H (zoP kvs k y) (storedH xs k b u):=by
 have e:(kvs.any fun kv=>decide (kv.1=k))=(atKey xs k).isSome:=by
  rw [zmX,(r.val k).isSome_eq,Option.isSome_map]
 unfold zoP storedH;rw [e];by_cases q:(atKey xs k).isSome=true
 ·rw [if_pos q,if_pos q];exact r.repl k ry
 ·rw [if_neg q,if_neg q];exact Paired.snoc r ⟨rfl,hb,ry⟩
theorem KT.keeps{H H':Hp}{kvs:List (List Key×V)}{xs:List (List Key×Addr×Value)}(r:KT H kvs xs) (ht:∀b ys,H b=some (.tup ys)→H' b=some (.tup ys)):KT H' kvs xs:=
 Paired.mapP r fun _ _ z=>⟨z.1,ht _ _ z.2.1,z.2.2⟩
section
variable {P:Program}{w:World}{H:Hp}{h:Heap}{a:Addr}
theorem zyf{u:HO}(ok:HOk P w H h) (e:Rd H a u):ObjOk P w H h a u:=e.ok ok
theorem zyG{kvs:List (Key×V)}(ok:HOk P w H h) (e:Rd H a (.dK kvs)):kvs.length≤sizeLine∧(a == sysModules)=false∧ ∃vs,KV kvs vs∧h.DictOf (zbw P w) a vs:=
 show ObjOk P w H h a (.dK kvs) from zyf ok e
theorem zqR{ks:List Key}(ok:HOk P w H h) (e:H a=some (.tup (ks.map kV))):(tupleKind (zbw P w)).is h ks a:=by
 obtain⟨_,its,r,o,h1,h2,n,h3⟩:=(show ObjOk P w H h a (.tup (ks.map kV)) from ok a _ e);exact⟨o,its.toArray,n,h1,h2,h3,by simpa using zkD r⟩
theorem zzo{kvs:List (List Key×V)}(ok:HOk P w H h) (e:Rd H a (.dT kvs)):kvs.length≤sizeLine∧(a == sysModules)=false∧
  ∃xs,KT H kvs xs∧h.DictOfH (tupleKind (zbw P w)) a xs:=by
 obtain⟨z,y,xs,r,o,es,ep,h1,h2,h3,h4,h5⟩:=(show ObjOk P w H h a (.dT kvs) from zyf ok e);refine⟨z,y,xs,r,o,es,ep,h1,h2,h3,h4,fun x hx=>?_,h5⟩;have all:∀{l:List (List Key×V)}{m:List (List Key×Addr×Value)},KT H l m→ ∀x∈m,(tupleKind (zbw P w)).is h x.1 x.2.1:=by
  intro l m q
  induction q with
  |nil=>intro x hx;exact nomatch hx
  | @cons p q ps qs hq t ih=>
   intro x hx;rcases List.mem_cons.mp hx with e |hx
   ·subst e;exact zqR ok (by rw [←hq.1];exact hq.2.1)
   ·exact ih x hx
 exact all r x hx
end
noncomputable def DGet (H:Hp) (a:Addr) (y:V) (r:Option V):Prop:=
 (∃kvs k,Rd H a (.dK kvs)∧y=kV k∧r=zmN kvs k)∨ ∃kvs k b,Rd H a (.dT kvs)∧y= .ref b∧H b=some (.tup (k.map kV))∧r=zmN kvs k
theorem DGet.t{H:Hp}{a b:Addr}{kvs:List (List Key×V)}{k:List Key}(e:H a=some (.dT kvs)) (eb:H b=some (.tup (k.map kV))):DGet H a (.ref b) (zmN kvs k):= .inr ⟨kvs,k,b, .inl e,rfl,eb,rfl⟩
section
variable {X:Cx}{pins:List (Addr×Obj)}{σ:St}{H:Hp}{s:Shared}{a:Addr}{y:V}{u:Value}{o:Option V}{A:Around}{E:Value→Shared→Prop}
theorem Inv.big (I:Inv X pins σ H s):sysModules<s.heap.objs.size:=by
 have h:mainGlobals<s.heap.objs.size:=(I.mod.glob.keeps I.bk).lt;exact Nat.lt_trans (by decide) h
theorem zAT{Q:Value→Shared→Prop}(hu:A.units+1<cLine) (I:Inv X pins σ H s) (g:DGet H a y o) (ry:RelV y u) (h:∀s',Inv X pins σ H s'→Q (.bool o.isSome) s') :
  wpAny (model X.prog X.w) A (compareOp .In u (.ref a)) Q E s:=by
 rcases g with⟨kvs,k,e,ey,l⟩ |⟨kvs,k,b,e,ey,eb,l⟩
 ·subst ey;obtain⟨z,hd,vs,rel,dd⟩:=zyG I.hok e;refine wpAny_in_of (zxB ry) hd dd.mapOf ?_;rw [←(rel.val k).isSome_eq,←l];exact h _ (I.tok _)
 ·subst ey;cases(show u=Value.ref b from ry);obtain⟨z,hd,xs,rel,dd⟩:=zzo I.hok e;refine wpAny_in_heap (tupleKind_room_in1 hu) (zqR I.hok eb) hd dd ?_;have q:=(rel.val k).isSome_eq;rw [Option.isSome_map]at q;rw [←q,←l];exact h _ (I.tok _)
end
end L2
namespace Att
open PySem PySem.W PySem.Calls PyProof.Rows
end Att
namespace L2
open PySem PySem.Spec PyProof.Rows
section
variable {prog:Program}{w:World}{A:Around}{R:Result→Shared→Prop}{s:Shared}
theorem zkS{elt target iter:Expr}{ifs:List Expr}{scope:Scope}{pos:Pos}{it acc:Value}{env:Env}(I:Nat→Shared→Prop)
  (turn:∀n s,I n s→wpAny (model prog w) A (pyNext it) (fun r s₁=>match r with
   |none=>R (.ok .next) s₁
   |some v=>wpAny (model prog w) A (letOwnedTupleGo target it v) (fun _ s₀=>wpAny (model prog w) A (assign target env v) (fun _ s₂=>
     wpAny (model prog w) A (forIn ifs true fun c r=>if r=true then do let ok ←isTrue c env (eval c env);pure (ForInStep.yield ok) else pure (ForInStep.yield r)) (fun ok s₃=>
      if ok=true then wpAny (model prog w) A (eval elt env) (fun x s₄=>
       wpAny (model prog w) A (call (.builtin "list.append") [acc,x]) (fun _ s₅=>∃m,m<n∧I m s₅) (fun _ _=>False) s₄) (fun _ _=>False) s₃
      else ∃m,m<n∧I m s₃) (fun _ _=>False) s₂) (fun _ _=>False) s₀) (fun _ _=>False) s₁) (fun _ _=>False) s)
  (n:Nat) (h:I n s) :
  codeAny (model prog w) A (.compLoop (.ListComp elt [⟨target,iter,ifs,0⟩] scope pos) 0 it acc env) R s:=by
 refine codeAny_loop rfl I (fun n s hI=>?_) n h;show wpAny _ A ((compTurn (.ListComp elt [⟨target,iter,ifs,0⟩] scope pos) 0 it acc env).onRaise (fun x=>do noteFrame x env;theTreesLotGoes x)) _ _ s;refine wpAny_noted ?_;rw [compTurn_list];refine wpAny_bind (wpAny_standAt (wpAny_bind (wpAny_mono (turn n s hI) (fun r s₁ h₁=>?_) fun _ _ h'=>h'.elim)));cases r with
 |none=>exact wpAny_pure h₁
 |some v=>
  refine wpAny_bind (wpAny_mono h₁ (fun _ s₀ h₀=>?_) fun _ _ h'=>h'.elim);refine wpAny_bind (wpAny_mono h₀ (fun _ s₂ h₂=>wpAny_bind (wpAny_mono h₂ (fun ok s₃ h₃=>?_) fun _ _ h'=>h'.elim)) fun _ _ h'=>h'.elim);cases ok with
  |false=>exact wpAny_pure ⟨rfl,h₃⟩
  |true=>
   exact wpAny_bind (wpAny_bind (wpAny_mono h₃ (fun x s₄ h₄=>wpAny_bind (wpAny_mono h₄ (fun _ s₅ h₅=>wpAny_pure (wpAny_pure ⟨rfl,h₅⟩)) fun _ _ h'=>h'.elim)) fun _ _ h'=>h'.elim))
end
noncomputable def zia (cells:List (Str×Addr)):List (Str×NameKind)→List (Str×Addr)→List (Str×Addr)
 | [],acc=>acc
 | (n,k)::r,acc=>if(k == NameKind.free)=true then zia cells r ((n,(cells.lookup n).getD 0)::acc) else zia cells r acc
theorem zod{scope:Scope}{env:Env}(h:∀y∈scope.names,y.2= .free→ ∃c,env.cells.lookup y.1=some c) :
  closureFor scope env=pure (zia env.cells scope.names []):=by
 have go:∀(l:List (Str×NameKind)) (acc:List (Str×Addr)),(∀y∈l,y.2= .free→ ∃c,env.cells.lookup y.1=some c)→
   (forIn l acc fun(x:Str×NameKind) (cs:List (Str×Addr))=>(if(x.2 == NameKind.free)=true then(do let a ←cellOf env x.1;pure (ForInStep.yield ((x.1,a)::cs))) else pure (ForInStep.yield cs):Sem (ForInStep (List (Str×Addr)))))=(pure (zia env.cells l acc):Sem (List (Str×Addr))):=by
  intro l
  induction l with
  |nil=>intro acc _;rfl
  |cons x l ih=>
   intro acc hl;obtain⟨n,k⟩:=x;have hr:=fun y hy=>hl y (List.mem_cons_of_mem _ hy);rw [List.forIn_cons];by_cases hk:k= .free
   ·subst hk;obtain⟨c,hc⟩:=hl (n, .free) List.mem_cons_self rfl;have hc':env.cells.lookup n=some c:=hc;have e:cellOf env n=pure c:=by unfold cellOf;rw [hc']
    have e2:zia env.cells ((n,NameKind.free)::l) acc=zia env.cells l ((n,c)::acc):=by
     show(if(NameKind.free == NameKind.free)=true then zia env.cells l ((n,(env.cells.lookup n).getD 0)::acc) else zia env.cells l acc)=_;rw [if_pos (by rfl),hc'];rfl
    dsimp only;rw [if_pos (by rfl),e,pure_bind,pure_bind,e2];exact ih _ hr
   ·have hb:¬(k == NameKind.free)=true:=by simpa using hk
    have e2:zia env.cells ((n,k)::l) acc=zia env.cells l acc:=by
     show(if(k == NameKind.free)=true then zia env.cells l ((n,(env.cells.lookup n).getD 0)::acc) else zia env.cells l acc)=_;rw [if_neg hb]
    dsimp only;rw [if_neg hb,pure_bind,e2];exact ih _ hr
 have q:=go scope.names [] h;unfold closureFor
 first
  |exact(bind_pure _).trans q
  | (simp only[bind_pure];exact q)
  | (simp only[pure_bind,bind_assoc,bind_pure];exact q)
theorem zji{cells:List (Str×Addr)}{x:Str}{c:Addr}:∀(l:List (Str×NameKind)) (acc:List (Str×Addr)),(∀y∈l,y.2= .free→ ∃c,cells.lookup y.1=some c)→
  (zia cells l acc).lookup x=some c→acc.lookup x=some c∨cells.lookup x=some c
 | [],acc,_,h=> .inl h
 | (n,k)::r,acc,hl,h=>by
  have hr:=fun y hy=>hl y (List.mem_cons_of_mem (n,k) hy);by_cases hk:k= .free
  ·subst hk;have h':(zia cells r ((n,(cells.lookup n).getD 0)::acc)).lookup x=some c:=h;rcases zji r _ hr h' with q |q
   ·rw [List.lookup_cons]at q;cases e:x == n with
    |true=>
     rw [e]at q;obtain⟨d,hd⟩:=hl (n, .free) List.mem_cons_self rfl;have hd':cells.lookup n=some d:=hd;have e1:x=n:=eq_of_beq e;rw [hd']at q;have q':d=c:=Option.some.inj q;exact .inr (by rw [e1,hd',q'])
    |false=>
     rw [e]at q;exact .inl q
   ·exact .inr q
  ·have hb:¬(k == NameKind.free)=true:=by simpa using hk
   have h':(if(k == NameKind.free)=true then zia cells r ((n,(cells.lookup n).getD 0)::acc) else zia cells r acc).lookup x=some c:=h;rw [if_neg hb]at h';exact zji r acc hr h'
theorem zgQ{cells:List (Str×Addr)}{x:Str}:∀(l:List (Str×NameKind)) (acc:List (Str×Addr)),((x,NameKind.free)∈l∨ ∃c,acc.lookup x=some c)→ ∃c,(zia cells l acc).lookup x=some c
 | [],acc,h=>by
  rcases h with h |h
  ·cases h
  ·exact h
 | (n,k)::r,acc,h=>by
  by_cases hk:k= .free
  ·subst hk;refine zgQ r ((n,(cells.lookup n).getD 0)::acc) ?_;cases e:x == n with
   |true=>exact .inr ⟨_,by rw [List.lookup_cons,e]⟩
   |false=>
    rcases h with h |⟨c,h⟩
    ·rcases List.mem_cons.mp h with q |q
     ·have:x=n:=congrArg Prod.fst q;rw [this]at e;simp at e
     ·exact .inl q
    ·exact .inr ⟨c,by rw [List.lookup_cons,e];exact h⟩
  ·have hb:¬(k == NameKind.free)=true:=by simpa using hk
   show ∃c,(if(k == NameKind.free)=true then zia cells r ((n,(cells.lookup n).getD 0)::acc) else zia cells r acc).lookup x=some c;rw [if_neg hb];refine zgQ r acc ?_;rcases h with h |h
   ·rcases List.mem_cons.mp h with q |q
    ·exact absurd (congrArg Prod.snd q).symm hk
    ·exact .inl q
   ·exact .inr h
theorem zdD{env:Env}{x:Str}{k:NameKind}:∀{names:List (Str×NameKind)},(∀y∈names,y.2≠ .cell)→
  (names.map fun(n,k)=>if(k == NameKind.free&&env.scope.kind == .function&&env.kindOf n == some .cell) then(n,NameKind.cell) else(n,k)).lookup x=some k→(k= .cell∨k= .free)→(x,NameKind.free)∈names
 | [],_,h,_=>by simp at h
 | (n,j)::r,hc,h,hk=>by
  have h':List.lookup x ((if(j == NameKind.free&&env.scope.kind == .function&&env.kindOf n == some .cell)=true then(n,NameKind.cell) else(n,j)) ::
   (r.map fun(n,k)=>if(k == NameKind.free&&env.scope.kind == .function&&env.kindOf n == some .cell) then(n,NameKind.cell) else(n,k)))=some k:=h
  have hr:=fun y hy=>hc y (List.mem_cons_of_mem (n,j) hy);have hj:j≠ .cell:=hc (n,j) List.mem_cons_self;cases e:x == n with
  |true=>
   have e1:x=n:=eq_of_beq e;subst e1;by_cases c:(j == NameKind.free&&env.scope.kind == .function&&env.kindOf x == some .cell)=true
   ·have c1:(j == NameKind.free)=true:=by
     cases q:(j == NameKind.free) with
     |true=>rfl
     |false=>rw [q]at c;simp at c
    have c2:j= .free:=by simpa using c1
    rw [c2];exact List.mem_cons_self
   ·rw [if_neg c]at h';simp only[List.lookup_cons,beq_self_eq_true]at h';have h2:j=k:=Option.some.inj h';rcases hk with z |z
    ·exact absurd (h2.trans z) hj
    ·rw [h2,z];exact List.mem_cons_self
  |false=>
   by_cases c:(j == NameKind.free&&env.scope.kind == .function&&env.kindOf n == some .cell)=true
   ·rw [if_pos c]at h';simp only[List.lookup_cons,e]at h';exact List.mem_cons_of_mem _ (zdD hr h' hk)
   ·rw [if_neg c]at h';simp only[List.lookup_cons,e]at h';exact List.mem_cons_of_mem _ (zdD hr h' hk)
theorem zeo{env:Env}{x:Str}:∀{names:List (Str×NameKind)},names.lookup x=some .free→
  (names.map fun(n,k)=>if(k == NameKind.free&&env.scope.kind == .function&&env.kindOf n == some .cell) then(n,NameKind.cell) else(n,k)).lookup x=some .cell∨
  (names.map fun(n,k)=>if(k == NameKind.free&&env.scope.kind == .function&&env.kindOf n == some .cell) then(n,NameKind.cell) else(n,k)).lookup x=some .free
 | [],h=>by simp at h
 | (n,j)::r,h=>by
  show List.lookup x ((if(j == NameKind.free&&env.scope.kind == .function&&env.kindOf n == some .cell)=true then(n,NameKind.cell) else(n,j)) ::
   (r.map fun(n,k)=>if(k == NameKind.free&&env.scope.kind == .function&&env.kindOf n == some .cell) then(n,NameKind.cell) else(n,k)))=_∨
   List.lookup x ((if(j == NameKind.free&&env.scope.kind == .function&&env.kindOf n == some .cell)=true then(n,NameKind.cell) else(n,j)) ::
   (r.map fun(n,k)=>if(k == NameKind.free&&env.scope.kind == .function&&env.kindOf n == some .cell) then(n,NameKind.cell) else(n,k)))=_
  cases e:x == n with
  |true=>
   simp only[List.lookup_cons,e]at h;have h2:j= .free:=Option.some.inj h;subst h2;by_cases c:(NameKind.free == NameKind.free&&env.scope.kind == .function&&env.kindOf n == some .cell)=true
   ·rw [if_pos c];simp only[List.lookup_cons,e];exact .inl trivial
   ·rw [if_neg c];simp only[List.lookup_cons,e];exact .inr trivial
  |false=>
   simp only[List.lookup_cons,e]at h;by_cases c:(j == NameKind.free&&env.scope.kind == .function&&env.kindOf n == some .cell)=true
   ·rw [if_pos c];simp only[List.lookup_cons,e];exact zeo h
   ·rw [if_neg c];simp only[List.lookup_cons,e];exact zeo h
noncomputable def zbx (X:Cx) (scope:Scope) (N:List Str) (s:Shared) (H:Hp) (fp:List Addr) (pins:List (Addr×Obj)):Cx:=
 { X with N:=N,s₀:=s,H₀:=H,env:=compEnvC scope (zia X.env.cells scope.names []) s.heap.objs.size X.env,outer:=X.stack,stack:=X.stack,ex:=fp,fn:=fun _=>false,pn:=X.pn++pins,xe:=fun _ _=>False }
structure CompSc (X:Cx) (scope:Scope) (N:List Str) (k:Nat) (fr:List Nat):Prop where
  kind:scope.kind= .function
  nd:N.Nodup
  len:N.length=k+fr.length
  cell:(scope.names.all fun y=>y.2 != NameKind.cell)=true
  loc:(scope.names.all fun y=>y.2 != NameKind.local || scope.names.lookup y.1 == some NameKind.local)=true
  free:(scope.names.all fun y=>y.2 != NameKind.free || X.env.kindOf y.1 == some NameKind.cell || X.env.kindOf y.1 == some NameKind.free)=true
  frs:((N.drop k).all fun x=>scope.names.lookup x == some NameKind.free)=true
  pl:N.drop k=fr.map fun j=>X.N.getD j Str.empty
  plen:(fr.all fun j=>decide (j<X.N.length))=true
noncomputable def zhu (σ:St) (fr:List Nat):St:=fr.map fun j=>(σ[j]?).join
noncomputable def zmG (σ:St) (k:Nat) (fr:List Nat):St:=List.replicate k none++zhu σ fr
section
variable {X:Cx}{scope:Scope}{N:List Str}{k:Nat}{fr:List Nat}
theorem CompSc.cell' (S:CompSc X scope N k fr):∀y∈scope.names,y.2≠ .cell:=fun y hy=>by
 have q:=List.all_eq_true.mp S.cell y hy;simpa using q
theorem CompSc.loc' (S:CompSc X scope N k fr):∀y∈scope.names,y.2= .local→scope.names.lookup y.1=some .local:=fun y hy e=>by
 have q:=List.all_eq_true.mp S.loc y hy;rw [e]at q;simpa using q
theorem CompSc.kinds (S:CompSc X scope N k fr):∀y∈scope.names,y.2= .free→X.env.kindOf y.1=some .cell∨X.env.kindOf y.1=some .free:=fun y hy e=>by
 have q:=List.all_eq_true.mp S.free y hy;rw [e]at q;simpa using q
theorem CompSc.hasCell (S:CompSc X scope N k fr) (ok:X.Ok):∀y∈scope.names,y.2= .free→ ∃c,X.env.cells.lookup y.1=some c:=fun y hy e=>ok.has y.1 (S.kinds y hy e)
theorem CompSc.sub (S:CompSc X scope N k fr) (ok:X.Ok) {x:Str}{c:Addr}(h:(zia X.env.cells scope.names []).lookup x=some c):X.env.cells.lookup x=some c:=by
 rcases zji scope.names [] (S.hasCell ok) h with q |q
 ·simp at q
 ·exact q
end
section
variable {X:Cx}{pins:List (Addr×Obj)}{σ:St}{H:Hp}{s:Shared}{scope:Scope}{N:List Str}{k:Nat}{fr:List Nat}{fp:List Addr}
theorem zuj (I:Inv X pins σ H s) (S:CompSc X scope N k fr) (hfp:∀b∈fp,zjC X pins H b) (hob:∀b∈fp,∃o,s.heap.get? b=some o):(zbx X scope N s H fp pins).Ok where
  mod:=I.ok.mod
  kind:=S.kind
  glob:=I.ok.glob
  blt:=I.ok.blt
  above:=Nat.le_refl _
  inj:=fun x y c h1 h2=>I.ok.inj x y c (S.sub I.ok h1) (S.sub I.ok h2)
  has:=fun x hx=>zgQ scope.names [] (.inl (by
    rcases hx with hx |hx
    · exact zdD S.cell' hx (.inl rfl)
    · exact zdD S.cell' hx (.inr rfl)))
  cab:=fun x c h _=>absurd h (by show ¬(false=true);decide)
  hd:=I.ok.hd
  frames:=I.ok.frames
  stk:= .inl rfl
  exf:=fun b hb=>⟨by
    obtain⟨o,e⟩:=hob b hb;exact Nat.ne_of_lt (Heap.lt_size e),fun x c h=>(hfp b hb).2.2.2.2.1 x c (S.sub I.ok h)⟩
  bs:=I.bs
  bsz:=Nat.le_trans I.ok.bsz I.sz
  noex:=fun b o e hb=>by
    rcases(hfp b hb).2.2.2.1 with z |z
    · exact I.ok.noex b o e z
    · exact absurd (Nat.lt_of_lt_of_le (Heap.lt_size (I.ok.bs b o e).1) z) (Nat.lt_irrefl _)
  exfs:=fun b hb z=>by
    rcases List.mem_cons.mp (I.stkSub b z) with q |q
    · exact(hfp b hb).2.1 q
    · exact(hfp b hb).2.2.1 q
  funs:=I.stack
  frf:=I.stkFree
theorem zuK (I:Inv X pins σ H s) (S:CompSc X scope N k fr) {H':Hp}{b:Addr}(hb:b∈fp) (hf:zjC X pins H b) (hob:∃o,s.heap.get? b=some o) (hn:H' b=none):zjC (zbx X scope N s H fp pins) [] H' b:=by
 refine⟨hn,?_,fun z=>?_, .inl hb,fun x c h=>hf.2.2.2.2.1 x c (S.sub I.ok h),fun p hp=>?_⟩
 ·obtain⟨o,e⟩:=hob;exact Nat.ne_of_lt (Heap.lt_size e)
 ·rcases List.mem_cons.mp (I.stkSub b z) with q |q
  ·exact hf.2.1 q
  ·exact hf.2.2.1 q
 ·rcases List.mem_append.mp hp with z |z
  ·exact hf.2.2.2.2.2 p z
  ·cases z
theorem zop{j:Nat}{v:V}(h:(zhu σ fr)[j]? =some (some v)):∃i,fr[j]? =some i∧σ[i]? =some (some v):=by
 unfold zhu at h;rw [List.getElem?_map]at h;cases e:fr[j]? with
 |none=>rw [e]at h;cases h
 |some i=>
  rw [e]at h;have h':(σ[i]?).join=some v:=Option.some.inj h;refine⟨i,rfl,?_⟩;cases q:σ[i]? with
  |none=>rw [q]at h';cases h'
  |some o=>
   rw [q]at h';have h2:o=some v:=h';rw [h2]
theorem zsL (I:Inv X pins σ H s) (S:CompSc X scope N k fr) (hfp:∀b∈fp,zjC X pins H b) (hob:∀b∈fp,∃o,s.heap.get? b=some o) {h1:Heap}{tk:Nat}{m:Str→Option Value}
    (hns:h1.Ns s.heap.objs.size m) (hk:∀b o,s.heap.get? b=some o→h1.get? b=some o):Inv (zbx X scope N s H fp pins) [] (zmG σ k fr) H { s with heap:=h1,toks:=tk } where
  ok:=zuj I S hfp hob
  os:=rfl
  bare:=I.bare
  base:=Un.kept hk
  loc:=⟨m,hns,fun i x v e1 e2 e3=>by
    have e2':(List.replicate k (none:Option V)++zhu σ fr)[i]? =some (some v):=e2;have hi:k≤i:=by
      refine Nat.le_of_not_lt fun z=>?_;rw [List.getElem?_append_left (by simpa using z),List.getElem?_replicate]at e2';split at e2'<;>cases e2'
    rw [List.getElem?_append_right (by simpa using hi),List.length_replicate]at e2';obtain⟨j,f1,f2⟩:=zop e2';have e1':N[i]? =some x:=e1;have d1:(N.drop k)[i - k]? =some x:=by
      rw [List.getElem?_drop];have:k+(i - k)=i:=by omega
      rw [this];exact e1'
    have d2:=d1;rw [S.pl,List.getElem?_map,f1]at d2;have d3:X.N.getD j Str.empty=x:=Option.some.inj d2;have jl:j<X.N.length:=of_decide_eq_true (List.all_eq_true.mp S.plen j (List.mem_of_getElem? f1));have d4:X.N[j]? =some x:=by
      rw [List.getD_eq_getElem?_getD,List.getElem?_eq_getElem jl]at d3;rw [List.getElem?_eq_getElem jl];exact congrArg some d3
    have fk:scope.names.lookup x=some .free:=by
      have q:=List.all_eq_true.mp S.frs x (List.mem_of_getElem? d1);simpa using q
    have hmem:(x,NameKind.free)∈scope.names:=PySem.mem_of_lookup fk;have kd:=S.kinds _ hmem rfl;have vis:Vis X.env.scope x:=by
      rcases kd with z |z
      · exact .inr (.inl z)
      · exact .inr (.inr z)
    obtain⟨m0,_,hl⟩:=I.loc;obtain⟨u,ru,lk⟩:=hl j x v d4 f2 vis;refine⟨u,ru, .inr ⟨zeo fk,?_⟩⟩;have kd':X.env.kindOf x=some .cell∨X.env.kindOf x=some .free:=kd;rcases lk with⟨z,_⟩ |⟨_,c,hc,hcell⟩
    · rcases kd' with q |q<;>(rw [z]at q;cases q)
    · obtain⟨c',hc'⟩:=zgQ (cells:=X.env.cells) scope.names [] (.inl hmem);have e:=S.sub I.ok hc';rw [hc]at e;cases e;exact⟨c,hc',hcell.keeps hk⟩⟩
  cell:=fun x c h=>by
    obtain⟨v,z⟩:=I.cell x c (S.sub I.ok h);exact⟨v,z.keeps hk⟩
  free:=I.hok.fresh (Nat.le_refl _)
  freeC:=fun x c h=>I.freeC x c (S.sub I.ok h)
  pin:=fun p hp=>by
    have hp':p∈X.pn++pins:=by
      rcases List.mem_append.mp hp with z |z
      · exact z
      · cases z
    obtain⟨e,n,ne,nf,d⟩:=I.pin p hp';refine⟨hk _ _ e,n,Nat.ne_of_lt (Heap.lt_size e),fun z=>?_,d⟩;rcases List.mem_cons.mp (I.stkSub p.1 z) with q |q
    · exact ne q
    · exact nf q
  hok:=I.hok.kept hk
  len:=by
    show(List.replicate k (none:Option V)++zhu σ fr).length=N.length;rw [List.length_append,List.length_replicate,S.len];unfold zhu;rw [List.length_map]
theorem zkR{σ':St}{H':Hp}{s':Shared}{h':Heap}(I:Inv X pins σ H s) (hfp:∀b∈fp,zjC X pins H b) (J:Inv (zbx X scope N s H fp pins) [] σ' H' s') (sb:Heap.SameBut s.heap.objs.size s'.heap h'):Inv X pins σ H' { s' with heap:=h' }:=by
 have neC:∀b o,s.heap.get? b=some o→b≠s.heap.objs.size:=fun b o e=>Nat.ne_of_lt (Heap.lt_size e);have frC:H' s.heap.objs.size=none:=J.free;refine Inv.call' (s':={ s' with heap:=h' }) (ch:=fp) I J.os ⟨fun b o e n hf hx=>?_,fun b o e n hf hx=>?_,fun b o e n hx=>J.base.free b o e n hx,fun b o e hx=>?_,J.base.tups,J.base.frzs,J.base.tbls⟩ (fun b o e=>?_) J.bare fun b hb=>⟨(hfp b hb).2.2.2.1,(hfp b hb).2.1,(hfp b hb).2.2.2.2.1,(hfp b hb).2.2.2.2.2⟩
 ·exact(sb.2 b (neC b o e)).trans (J.base.keep b o e n hf hx)
 ·obtain⟨sl,q⟩:=J.base.slot b o e n hf hx;exact⟨sl,(sb.2 b (neC b o e)).trans q⟩
 ·obtain⟨o',q⟩:=J.base.there b o e hx;exact⟨o',(sb.2 b (neC b o e)).trans q⟩
 ·refine(J.hok b o e).stay (fun c v hc q=>(sb.2 c ?_).trans q) (fun _ q=>q) fun _ _ q=>q;rintro rfl;rcases hc with rfl |hc
  ·rw [frC]at e;cases e
  ·rw [frC]at hc;cases hc
end
noncomputable def PTs (X:Cx) (ifs:List Expr) (t:TT):Prop:=
 ∀(pins:List (Addr×Obj)) (s:Shared) (σ:St) (H:Hp) (Q:Bool→Hp→Prop),Inv X pins σ H s→t σ H Q→
  wpAny (model X.prog X.w) X.A (forIn ifs true fun c r=>if r=true then do let ok ←isTrue c X.env (eval c X.env);pure (ForInStep.yield ok) else pure (ForInStep.yield r)) (TP X pins σ Q) X.xe s
noncomputable def zAn:TT:=fun _ H Q=>Q true H
theorem zvy{X:Cx}:PTs X [] zAn:=fun _ _ _ H _ I h=>wpAny_tests_nil ⟨H,I,h⟩
theorem zvi{X:Cx}{c:Expr}{t:TT}(h:PT X c t):PTs X [c] t:=fun pins s σ H Q I q=>wpAny_tests_one (h pins s σ H Q I q)
noncomputable def zyY (X:Cx) (scope:Scope) (N:List Str) (tg:Expr) (ifs:List Expr) (elt:Expr) (l:Addr) (x:V) (σ:St) (H:Hp) (M:St→Hp→Prop):Prop:=
 ∀(s₀:Shared) (H₀:Hp) (fp:List Addr) (pn:List (Addr×Obj)),∃(g:TG) (tt:TT) (te:TE),PG (zbx X scope N s₀ H₀ fp pn) tg g∧PTs (zbx X scope N s₀ H₀ fp pn) ifs tt∧PE (zbx X scope N s₀ H₀ fp pn) elt te∧
  g x σ H fun σ2 H2=>tt σ2 H2 fun b H3=>if b=true then te σ2 H3 fun y H4=>∃ys,H4 l=some (.lst ys)∧ys.length<sizeLine∧M σ2 (upd H4 l (.lst (ys++[y]))) else M σ2 H3
noncomputable def zuP (X:Cx) (scope:Scope) (N:List Str) (k:Nat) (fr:List Nat) (tg:Expr) (ifs:List Expr) (elt:Expr) (σ:St) (Q:VK) (J:It) (H1:Hp):Prop:=∀l,H1 l=none→
 ∃W:Nat→Nat→St→Hp→Prop,(∃m,W 0 m (zmG σ k fr) (upd H1 l (.lst [])))∧ ∀i m σ' H',W i m σ' H'→
  (J.stop i H'∧Q (.ref l) H')∨(J.go i H'∧ ∃M:St→Hp→Prop,(∀σ'' H'',M σ'' H''→ ∃m',m'<m∧W (i+1) m' σ'' H'')∧ ∀x H2,J.yld i H' x H2→zyY X scope N tg ifs elt l x σ' H2 M)
noncomputable def zsl (X:Cx) (scope:Scope) (N:List Str) (k:Nat) (fr:List Nat) (tg:Expr) (ifs:List Expr) (elt:Expr) (wi:TI):TE:=fun σ H Q=>wi σ H fun J H1=>zuP X scope N k fr tg ifs elt σ Q J H1
theorem zkL{X:Cx}{use:Option (Value→Sem Unit)}{Qf:Value→Shared→Prop}{pins:List (Addr×Obj)}{s:Shared}{σ:St}{H:Hp}{Q:VK}{scope:Scope}{N:List Str}{k:Nat}{fr:List Nat}{tg iter elt:Expr}{ifs:List Expr}{wi:TI}{pos:Pos}(hx:X.xe=fun _ _=>False) (hc:X.calm=true) (S:CompSc X scope N k fr) (hi:PI X tg iter wi) (I:Inv X pins σ H s)
  (fin:∀{s3 s6:Shared}{H3 H5:Hp}{fp:List Addr}{σ5:St}{l:Addr}{a:Flow},Inv X pins σ H3 s3→(∀b∈fp,zjC X pins H3 b)→Inv (zbx X scope N s3 H3 fp pins) [] σ5 H5 s6→Q (.ref l) H5→compPost (model X.prog X.w) X.A X.xe use Qf (.ref l) s3.heap.objs.size (.ok a) s6)
  (h:zsl X scope N k fr tg ifs elt wi σ H Q)
  (hs:∀x,foldedSetIterable iter X.env x=pure x:=by intro _;rfl):wpAny (model X.prog X.w) X.A (comprehension (.ListComp elt [⟨tg,iter,ifs,0⟩] scope pos) scope X.env (firstIterPos [⟨tg,iter,ifs,0⟩] pos) (newList []) (firstAsync [⟨tg,iter,ifs,0⟩]) (firstIter [⟨tg,iter,ifs,0⟩] X.env) use) Qf X.xe s:=by
 refine wpAny_comprehension_free (use:=use) rfl hs (zod (S.hasCell I.ok)) S.kind S.loc' (thn (hi pins s σ H _ I h) fun v s1 h1=>thn h1 fun itv s2 h2=>?_);obtain⟨it,fp,tn,J,H2,e,I2,T,st2,f2,h2⟩:=h2;subst e;have fr2:H2 s2.heap.objs.size=none:=I2.hok.fresh (Nat.le_refl _);obtain⟨W,⟨m0,w0⟩,turn⟩:=h2 s2.heap.objs.size fr2;refine wpAny_newList ?_ (by show 0≤sizeLine;exact Nat.zero_le _);have I3:Inv X pins σ (upd H2 s2.heap.objs.size (.lst [])) { s2 with heap:=s2.heap.push { cls:= .type "list",data:= .seq ([]:List Value).toArray } }:=I2.lnew (t':=s2.toks) (ys:=[]) .nil (Nat.zero_le _);have old:∀b o,s2.heap.get? b=some o→(s2.heap.push { cls:= .type "list",data:= .seq ([]:List Value).toArray }).get? b=some o:=fun b o e=>Heap.get?_push_of_some _ e;have fpo2:∀b∈fp,∃o,s2.heap.get? b=some o:=fun b hb=>by
  obtain⟨o,e,_⟩:=T.obj _ _ st2 b hb;exact⟨o,e⟩
 have fpo:∀b∈fp,∃o,(s2.heap.push { cls:= .type "list",data:= .seq ([]:List Value).toArray }).get? b=some o:=fun b hb=>by
  obtain⟨o,e⟩:=fpo2 b hb;exact⟨o,old b o e⟩
 have f3:∀b∈fp,zjC X pins (upd H2 s2.heap.objs.size (.lst [])) b:=fun b hb=>by
  obtain⟨o,e⟩:=fpo2 b hb;refine⟨?_,(f2 b hb).2⟩;rw [zaw (Nat.ne_of_lt (Heap.lt_size e))];exact(f2 b hb).1
 generalize hs3:({ s2 with heap:=s2.heap.push { cls:= .type "list",data:= .seq ([]:List Value).toArray } }:Shared)=s3 at I3⊢;have st3:tn 0 s3.heap:=by
  rw [←hs3];exact T.keep _ _ _ st2 fun b _ o e=>old b o e
 have fpo3:∀b∈fp,∃o,s3.heap.get? b=some o:=by rw [←hs3];exact fpo
 clear fpo old hs3;refine wpAny_newFunctionEnv S.cell' (by intro y hy;simp at hy) (fun h1 hns1 hsb1=>?_) S.kind;have hk1:∀b o,s3.heap.get? b=some o→h1.get? b=some o:=fun b o e=>hsb1.extBut b o (Nat.ne_of_lt (Heap.lt_size e)) (Heap.get?_push_of_some _ e);have I4:=zsL (tk:=s3.toks+([]:List (Str×Value)).length) I3 S f3 fpo3 hns1 hk1;have st4:tn 0 h1:=T.keep _ _ _ st3 fun b _ o e=>hk1 b o e;have stat:∀{H':Hp},(∀b∈fp,H' b=none)→ ∀b∈fp,zjC (zbx X scope N s3 (upd H2 s2.heap.objs.size (.lst [])) fp pins) [] H' b:=fun hn b hb=>zuK I3 S hb (f3 b hb) (fpo3 b hb) (hn b hb);have loop:∀s4:Shared,s4={ s3 with heap:=h1,toks:=s3.toks+([]:List (Str×Value)).length }→
   codeAny (model X.prog X.w) X.A (.compLoop (.ListComp elt [⟨tg,iter,ifs,0⟩] scope pos) 0 (.ref it) (.ref s2.heap.objs.size) (compEnvC scope (zia X.env.cells scope.names []) s3.heap.objs.size X.env))
    (compPost (model X.prog X.w) X.A X.xe use Qf (.ref s2.heap.objs.size) s3.heap.objs.size) s4:=by
  rintro s4 rfl;refine zkS (fun n s'=>∃i σ' H',Inv (zbx X scope N s3 (upd H2 s2.heap.objs.size (.lst [])) fp pins) [] σ' H' s'∧tn i s'.heap∧(∀b∈fp,H' b=none)∧W i n σ' H') ?_ m0 ⟨0,_,_,I4,st4,fun b hb=>(f3 b hb).1,w0⟩;rintro n s5 ⟨i,σ5,H5,I5,st5,fr5,w5⟩;rcases turn i n σ5 H5 w5 with⟨stop,qn⟩ |⟨go,M,hM,step⟩
  ·refine thn (T.done (zbx X scope N s3 (upd H2 s2.heap.objs.size (.lst [])) fp pins) rfl rfl rfl hc i [] s5 σ5 H5 _ I5 (stat fr5) st5 stop) fun r s6 ⟨hr,I6⟩=>?_;subst hr;exact fin I3 f3 I6 qn
  ·refine thn (T.item (zbx X scope N s3 (upd H2 s2.heap.objs.size (.lst [])) fp pins) rfl rfl rfl hc i [] s5 σ5 H5 _ I5 (stat fr5) st5 go) fun r s6 ⟨u,hr,h6⟩=>?_;subst hr;refine thn h6 fun _ s7 ⟨x,H7,I7,r7,y7,st7,fr7⟩=>?_;have I7':=I7.pinned (stat fr7) (T.obj _ _ st7);obtain⟨g,tt,te,hg,ht,he,q⟩:=step x H7 y7 s3 (upd H2 s2.heap.objs.size (.lst [])) fp pins;have again:∀{s8:Shared}{σ8:St}{H8:Hp},Inv (zbx X scope N s3 (upd H2 s2.heap.objs.size (.lst [])) fp pins) ([]++zjN fp s7.heap) σ8 H8 s8→M σ8 H8→
     ∃m,m<n∧ ∃i σ' H',Inv (zbx X scope N s3 (upd H2 s2.heap.objs.size (.lst [])) fp pins) [] σ' H' s8∧tn i s8.heap∧(∀b∈fp,H' b=none)∧W i m σ' H':=fun {s8 σ8 H8} I8 n8=>by
    obtain⟨m',hm,w8⟩:=hM σ8 H8 n8;refine⟨m',hm,i+1,σ8,H8,I8.unpinned,T.keep _ _ _ st7 fun b hb o e=>(I8.pin (b,o) (List.mem_append_right _ (List.mem_append_right _ (zeG hb e)))).1,fun b hb=>?_,w8⟩;obtain⟨o,e,d⟩:=T.obj _ _ st7 b hb;exact(I8.pin (b,o) (List.mem_append_right _ (List.mem_append_right _ (zeG hb e)))).2.1
   refine thn (hg _ s7 σ5 H7 x u _ I7' r7 q) fun _ s8 ⟨σ8,H8,I8,q8⟩=>?_;refine thn (ht _ s8 σ8 H8 _ I8 q8) fun b s9 ⟨H9,I9,q9⟩=>?_;cases b with
   |false=>exact again I9 q9
   |true=>
    refine thn (he _ s9 σ8 H9 _ I9 q9) fun y s10 ⟨yv,H10,I10,r10,ys,hl,hz,qM⟩=>?_;exact thn (zjO _ s10 σ8 H10 (.ref s2.heap.objs.size) [yv] (.ref s2.heap.objs.size) [y] (fun _ H'=>M σ8 H') I10 rfl (.cons r10 .nil) ⟨_,ys,yv,rfl,rfl,hl,hz,qM⟩) fun _ s11 ⟨_,H11,I11,_,q11⟩=>again I11 q11
 exact codeAny_compStart_list (loop _ rfl) (T.self _ 0 _ _ _ st4 (loop _ rfl))
theorem zuQ{X:Cx}{scope:Scope}{N:List Str}{k:Nat}{fr:List Nat}{tg iter elt:Expr}{ifs:List Expr}{wi:TI}{pos:Pos}(hx:X.xe=fun _ _=>False) (hc:X.calm=true) (S:CompSc X scope N k fr) (hi:PI X tg iter wi)
  (hs:∀x,foldedSetIterable iter X.env x=pure x:=by intro _;rfl):PE X (.ListComp elt [⟨tg,iter,ifs,0⟩] scope pos) (zsl X scope N k fr tg ifs elt wi):=by
 intro pins s σ H Q I h;rw [eval_ListComp];refine zkL hx hc S hi I (fun {s3 s6 H3 H5 fp σ5 l a} I3 f3 I6 qn=>?_) h hs;obtain⟨m6,ns6,_⟩:=I6.loc;exact⟨m6,ns6,fun h' sb=>⟨.ref l,H5,zkR I3 f3 I6 sb,rfl,qn⟩⟩
theorem zvf{X:Cx}{scope:Scope}{N:List Str}{k:Nat}{fr:List Nat}{tg iter elt:Expr}{ifs:List Expr}{wi:TI}{pos spos pos':Pos}{i:Nat}{x:Str}(hx:X.xe=fun _ _=>False) (hc:X.calm=true) (S:CompSc X scope N k fr) (hi:PI X tg iter wi)
  (hN:X.N.Nodup) (hxi:X.N[i]? =some x) (hxl:Loc X.env.scope x) (hw:swapsWith (.ListComp elt [⟨tg,iter,ifs,0⟩] scope pos) (some (.Name x pos')) spos.line X.env=pure true) (hf:X.fn x=true∨X.env.scope.names.lookup x=some .local)
  (hs:∀x,foldedSetIterable iter X.env x=pure x:=by intro _;rfl):PS X (.Assign [.Name x pos'] (.ListComp elt [⟨tg,iter,ifs,0⟩] scope pos) spos) (zyH (zsl X scope N k fr tg ifs elt wi) (zuz i)):=by
 intro pins s σ H D I h;rw [exec_Assign_Name_used x pos' _ spos hw];refine wpAny_bind (wpAny_standAt (wpAny_bind ?_));rw [arm_evalThenUse_ListComp];refine wpAny_bind ?_;refine zkL (Qf:=fun _ s'=>wpAny (model X.prog X.w) X.A (pure ()) (fun _ s2=>wpAny (model X.prog X.w) X.A (pure Flow.next) (SP X pins D) X.xe s2) X.xe s') hx hc S hi I (fun {s3 s6 H3 H5 fp σ5 l a} I3 f3 I6 qn=>?_) h hs;have IX:Inv X pins σ H5 s6:=zkR (h':=s6.heap) I3 f3 I6 ⟨rfl,fun _ _=>rfl⟩;obtain⟨m6,ns6,_⟩:=I6.loc;have ns6:s6.heap.Ns s3.heap.objs.size m6:=ns6;have frC:H5 s3.heap.objs.size=none:=I6.free;have fC:zjC X pins H5 s3.heap.objs.size:=I3.fpOk (Nat.le_refl _) frC;refine wpAny_assign_Name (zki IX hN hxi hxl (v:= .ref l) rfl (fun s7 I7 ⟨b,sb,hb⟩=>?_) hf);have hbC:s3.heap.objs.size≠b:=by
  rcases hb with rfl |hb
  ·exact fC.2.1
  ·exact Ne.symm (fC.2.2.2.2.1 _ _ hb)
 refine⟨m6,ns6.sameBut sb hbC,fun h' sb2=>wpAny_pure (wpAny_pure ⟨_,H5,?_,qn⟩)⟩;refine Inv.call' (s':={ s7 with heap:=h' }) (ch:=[s3.heap.objs.size]) I7 rfl ⟨fun c o e n hfs hex=>?_,fun c o e n hfs hex=>?_,fun c o e n _=>n,fun c o e hex=>?_,fun _ _ q=>q,fun _ _ _ q=>q,fun _ ps q=>⟨#[],by simpa using q⟩⟩ (fun c o e=>?_) I7.bare fun c hcm=>?_
 ·exact(sb2.2 c (fun z=>hex (by simp [z]))).trans e
 ·exact⟨o.slots,(sb2.2 c (fun z=>hex (by simp [z]))).trans e⟩
 ·exact⟨o,(sb2.2 c (fun z=>hex (by simp [z]))).trans e⟩
 ·refine(I7.hok c o e).stay (fun d v hd q=>(sb2.2 d ?_).trans q) (fun _ q=>q) fun _ _ q=>q;rintro rfl;rcases hd with rfl |hd
  ·rw [frC]at e;cases e
  ·rw [frC]at hd;cases hd
 ·rw [List.mem_singleton.mp hcm];exact⟨fC.2.2.2.1,fC.2.1,fC.2.2.2.2.1,fC.2.2.2.2.2⟩
noncomputable def Its (x:Str):It:=⟨fun i _=>i<x.cps.size,fun i H v H'=>H'=H∧ ∃c,x.cps[i]? =some c∧v= .str ⟨#[c]⟩,fun i _=>i=x.cps.size⟩
theorem zmD{P:Program}{w:World}{K:PySem.W.Frag}{tg:Expr}(it:Addr) (x:Str) (t:Tok) (ty:String)
    (hn: ["enumerate", "zip", "dict_itemiterator", "dict_reverseitemiterator", "odict_iterator", "itertools.zip_longest", "itertools.pairwise"].contains ty=false)
    (hW:∀A':Around,A'.handled=none→Walks P w A' it [it] [it] x.cps.size (SignAt x) (fun i h=>h.IsStrIter it ty x t i))
    (hself:∀(A:Around) (i:Nat) (s:Shared) (Q:Value→Shared→Prop) (E:Value→Shared→Prop),s.heap.IsStrIter it ty x t i→Q (.ref it) s→wpAny (model P w) A (pyIter (.ref it)) Q E s) :
    Turn P w K tg (Its x) [it] it (fun i h=>h.IsStrIter it ty x t i) where
  mem:=by simp
  obj:=fun i h st b hb=>by
    have e:b=it:=by simpa using hb
    subst e;obtain⟨o,e,c,d⟩:=st;exact⟨o,e,fun v z=>by rw [d]at z;cases z⟩
  keep:=fun i h h' st k=>by
    obtain⟨o,e,r⟩:=st;exact⟨o,k it (by simp) o e,r⟩
  item:=by
    intro X hP hw hK hc i pins s σ H E I hf st hg;subst hP hw hK;obtain⟨f0,f1,f2,f3,f4,f5⟩:=hf it (by simp);refine(hW X.A (I.ok.hd hc)).item i s _ _ hg st fun v h' tk hv st' kk=>?_;obtain⟨c,u,hc',rfl⟩:=hv;have I1:Inv X pins σ H { s with heap:=h',toks:=tk }:=I.turned (fun b o hb e=>kk b o (by simpa using hb) e) f0 f1 f3 f4 f5;obtain⟨o,e,c',d⟩:=id st';exact⟨_,rfl,zry (s:={ s with heap:=h',toks:=tk }) e c' d hn ⟨.str ⟨#[c]⟩,H,I1,⟨u,rfl⟩,⟨rfl,c,hc',rfl⟩,st',fun b hb=>(hf b hb).1⟩⟩
  done:=by
    intro X hP hw hK hc i pins s σ H E I hf st hg;subst hP hw hK;obtain⟨f0,f1,f2,f3,f4,f5⟩:=hf it (by simp);have hi:i=x.cps.size:=hg;subst hi;exact(hW X.A (I.ok.hd hc)).done s _ _ st fun h' tk kk=>⟨rfl,I.turned (fun b o hb e=>kk b o (by simpa using hb) e) f0 f1 f3 f4 f5⟩
  self:=hself
noncomputable def TupsOn (H H':Hp):Prop:=∀b xs,H b=some (.tup xs)→H' b=some (.tup xs)
theorem TupsOn.trans{H H1 H2:Hp}(a:TupsOn H H1) (b:TupsOn H1 H2):TupsOn H H2:=fun c xs h=>b c xs (a c xs h)
section
variable {X:Cx}
theorem zhF:OpR X (compareOp .LtE) (fun x y H Q=>∃i j,x= .str i∧y= .str j∧Q (.bl (!decide (j.cps.toList<i.cps.toList))) H):=by
 intro pins s σ H x y v u Q I rx ry h;obtain⟨i,j,rfl,rfl,q⟩:=h;obtain⟨t,rfl⟩:=rx;obtain⟨t',rfl⟩:=ry;exact PySem.P.le_str (zmL I q rfl)
theorem zmE (a b:Nat):(([a]:List Nat)< [b])↔a<b:=by
 rw [List.cons_lt_cons_iff];constructor
 ·rintro(h |⟨_,h⟩)
  ·exact h
  ·exact absurd h (List.lt_irrefl _)
 ·exact .inl
noncomputable def rSlS:V→Option Int→Option Int→Hp→VK→Prop:=fun x lo hi H Q=>∃z,x= .str z∧z.length≤sizeLine∧Q (.str (Txt.slice z lo hi)) H
theorem sl_str:SlR X rSlS:=by
 intro pins s σ H x v vl vu lo hi sl Q I rx hs pl pu h;obtain⟨z,rfl,hz,q⟩:=h;obtain⟨t,rfl⟩:=rx;refine⟨"str",_,F.slot_str_getitem.lookup,typeIs_str _ _ _,?_⟩;obtain⟨o,ho,hc,hd⟩:=hs;have fin:∀t' k,EP X pins σ Q (.str (Txt.slice z lo hi) t') { s with toks:=k }:=fun t' k=>⟨.str _,H,I.tok _,⟨t',rfl⟩,q⟩;have le:=Nat.le_trans (Txt.slice_le z lo hi) hz;cases pl with
 |none=>
  cases pu with
  |none=>exact wpAny_getItem_str_slice (l:=none) (u:=none) (st:=none) ⟨o,ho,hc,hd⟩ rfl (post_val_or_str ⟨le,fin⟩)
  |int j u=>exact wpAny_getItem_str_slice (l:=none) (u:=some (j,u)) (st:=none) ⟨o,ho,hc,hd⟩ rfl (post_val_or_str ⟨le,fin⟩)
 |int i w=>
  cases pu with
  |none=>exact wpAny_getItem_str_slice (l:=some (i,w)) (u:=none) (st:=none) ⟨o,ho,hc,hd⟩ rfl (post_val_or_str ⟨le,fin⟩)
  |int j u=>exact wpAny_getItem_str_slice (l:=some (i,w)) (u:=some (j,u)) (st:=none) ⟨o,ho,hc,hd⟩ rfl (post_val_or_str ⟨le,fin⟩)
noncomputable def zyl (xs:List Nat) (lo hi:Option Int):List Nat:=(xs.drop (HT.sIx xs.length 0 lo)).take (HT.sIx xs.length xs.length hi - HT.sIx xs.length 0 lo)
theorem zsP (lo hi:Option Int) (n:Nat):Builtin.Str.strSliceIndices lo hi 1 n=sliceRange ((HT.sIx n 0 lo:Nat):Int) ((HT.sIx n n hi:Nat):Int) 1:=by
 have one:(1:Int) > 0:=by decide
 have a:∀(v:Option Int) (d:Nat),(match v with |none=>(d:Int) |some i=>(if(1:Int) > 0 then max 0 (min (if i<0 then i+(n:Int) else i) (n:Int)) else max (-1) (min (if i<0 then i+(n:Int) else i) ((n:Int) - 1))))=((HT.sIx n d v:Nat):Int):=by
  intro v d;cases v with
  |none=>rfl
  |some i=>
   simp only[HT.sIx,one,if_true];by_cases h:i<0
   ·simp only[h,if_true];omega
   ·simp only[h,if_false];omega
 have l:=a lo 0;have u:=a hi n;unfold Builtin.Str.strSliceIndices;simp only[one,if_true]at l u⊢
 first
  |rw [l,u]
  | (cases lo<;>cases hi<;>simp_all)
theorem zpM (z:Str) (lo hi:Option Int):(Txt.slice z lo hi).cps.toList=zyl z.cps.toList lo hi:=by
 have hn:z.length=z.cps.toList.length:=by simp [Str.length]
 have hp:(Builtin.Str.strSliceIndices lo hi 1 z.length).filterMap (z.cps[·]?)=zyl z.cps.toList lo hi:=by
  rw [zsP,sliceRange_one,pick_run,hn];rfl
 unfold Txt.slice;split
 ·rename_i h;have h1:(Builtin.Str.strSliceIndices lo hi 1 z.length).length=z.length:=by simpa using h
  rw [zsP,sliceRange_one,List.length_map,List.length_range]at h1;have le1:=HT.sIx_le z.length z.length (Nat.le_refl _) hi;unfold zyl;rw [←hn];have e0:HT.sIx z.length 0 lo=0∨z.length=0:=by omega
  have hz:z.cps.toList.length=z.length:=hn.symm;rcases e0 with e0 |e0
  ·rw [e0,List.drop_zero,List.take_of_length_le (by omega)]
  ·have:z.cps.toList=[]:=List.eq_nil_of_length_eq_zero (by omega);rw [this];simp
 ·show(List.filterMap _ _).toArray.toList=_;rw [hp]
theorem zrR (hc:X.calm=true):CallR X (.builtin "all") (fun xs H Q=>∃(p:Addr) (bs:List Bool),xs=[.ref p]∧SqL X.K H p (bs.map V.bl)∧Q (.bl (bs.all id)) H):=by
 intro pins s σ H xs us Q I r h;obtain⟨p,bs,rfl,hq,q⟩:=h;obtain⟨u,rfl,rx⟩:=ziN r;cases rx;obtain⟨its,r',pl,hz⟩:=I.list hq;have hlen:bs.length=its.length:=by have:=r'.length;rw [List.length_map]at this;exact this
 have hp:p<s.heap.objs.size:=by obtain⟨o,n,e,_⟩:=pl;exact Heap.lt_size e
 have hd:X.A.in1.handled=none:=I.ok.hd hc;have get:∀(i:Nat) (v:Value),its.toArray[i]? =some v→v= .bool (bs.getD i false):=fun i v e=>by
  have e':its[i]? =some v:=by simpa using e
  have hi:i<bs.length:=by rw [hlen];exact(List.getElem?_eq_some_iff.mp e').1
  obtain⟨u,hu,ru⟩:=r'.get (i:=i) (x:= .bl (bs.getD i false)) (by rw [List.getElem?_map,List.getElem?_eq_getElem hi,List.getD_eq_getElem?_getD,List.getElem?_eq_getElem hi];rfl);rw [e']at hu;cases hu;exact ru
 refine call_all_walk (wpAny_pyIter_list pl.isList ?_);refine⟨s.heap.objs.size,_,_,_,_,_,fun i=>bs.getD i false,rfl,Walks.list hd _ p (Nat.ne_of_lt hp) its.toArray,⟨⟨_,Heap.get?_push_size _ rfl,rfl,rfl⟩,pl.isList.push _⟩,fun i v s' Q' E' hP hQ=>?_,fun h' tk hk=>?_⟩
 ·rw [get i v hP];exact wpAny_truthy_bool hQ
 ·have e:(List.range its.toArray.size).all (fun i=>bs.getD i false)=bs.all id:=by
   rw [List.size_toArray,←hlen];have:bs=(List.range bs.length).map fun i=>bs.getD i false:=by
    apply List.ext_getElem?;intro i;rw [List.getElem?_map];by_cases hi:i<bs.length
    ·rw [List.getElem?_range hi,List.getElem?_eq_getElem hi];show some bs[i]=some (bs.getD i false);rw [List.getD_eq_getElem?_getD,List.getElem?_eq_getElem hi];rfl
    ·rw [List.getElem?_eq_none (by omega),List.getElem?_eq_none (by simpa using hi)];rfl
   conv=>rhs;rw [this]
   rw [List.all_map];rfl
  have I1:Inv X pins σ H { s with heap:=h',toks:=tk }:=I.kept fun b o e=>hk b o (fun z=>by
   have z':b=s.heap.objs.size:=by simpa using z
   rw [z']at e;exact absurd (Heap.lt_size e) (Nat.lt_irrefl _)) (Heap.get?_push_of_some _ e)
  exact⟨.bl _,H,I1,by rw [e];exact rfl,q⟩
theorem zsg:CallR X (.builtin "isinstance") (fun xs H Q=>∃x t c b,xs=[x, .ty c]∧TyOf X.K H x t∧PySem.W.kitOne X.K t (.type c)=some b∧Q (.bl b) H):=by
 intro pins s σ H xs us Q I r h;obtain⟨x,t,c,b,rfl,ty,e,q⟩:=h;obtain⟨u,v,rfl,rx,ry⟩:=zxC r;cases(show v=Value.type c from ry);exact zqX I rx ty e fun tk=>⟨.bl b,H,I.tok _,rfl,q⟩
end
section
variable {X:Cx}
theorem zfn (l:Addr) (items:Array Value) (n:Nat) (b:Addr) (items2:Array Value) (n2:Nat) (dd:Option Addr) (sl:Array (Option Value)) (hs0:¬(!items.isEmpty&&Builtin.List.listTooLong (items.size+items2.size))=true) (hs1:items.size≤sizeLine) (hs2:items.size+items2.size≤sizeLine+1) :
  Meets (Builtin.«list.extend» ⟨[.ref l, .ref b],[]⟩) (fun _ R s=>s.heap.get? l=some { cls:= .type "list",dict:=none,data:= .seq items n,slots:= #[] }∧s.heap.get? b=some { cls:= .type "tuple",dict:=dd,data:= .seq items2 n2,slots:=sl }∧R (.ok (.ret Value.none)) { s with heap:=s.heap.update l (Obj.mapSeq fun x=>x++items2),toks:=s.toks }):=
 .of_wp fun prog w A R s h=>by
  obtain⟨hp,g,d,tk,os⟩:=s;obtain⟨hl,hb,h⟩:=h;have f1:=AutoSeq1.idx_int;have f2:=AutoSeq1.sub_tuple_tuple;have f3:=AutoSeq1.sub_list_list;have f4:=AutoSeq1.sub_tuple_list;have f5:=AutoSeq1.sub_list_tuple;have hz':(items++items2).size≤sizeLine+1:=by rw [Array.size_append];exact hs2
  wp_walk using(wpAny_updateSeq hl rfl (hz:=hs1) (_hz':=hz')),AutoSeq1.wpAny_loadPart' hl,AutoSeq1.wpAny_loadPart' hb;exact⟨_,rfl,h⟩
noncomputable def zmW (K:PySem.W.Frag):V→List V→Hp→VK→Prop:=fun x vs H Q=>∃l b xs zs,x= .ref l∧vs=[.ref b]∧H l=some (.lst xs)∧SqT K H b zs∧xs.length+zs.length≤sizeLine∧Q .non (upd H l (.lst (xs++zs)))
theorem zoG:MtM X "list.extend" (zmW X.K):=by
 intro pins s σ H x vs v us Q I rx rv h;obtain⟨l,b,xs,zs,rfl,rfl,hH,hB,hz,q⟩:=h;cases rx;obtain⟨u,rfl,ru⟩:=rv.one;cases ru;obtain⟨z,its,n,r,hl,e⟩:=I.lstM hH;obtain⟨its2,r2,ht,hz2⟩:=I.tuple hB;obtain⟨⟨cls,dd,data,sl⟩,e2,hc,n2,hd⟩:=ht;simp only at hc hd;subst hc hd;have hl2:=r2.length;have hsz:its.toArray.size+its2.toArray.size≤sizeLine:=by rw [List.size_toArray,List.size_toArray];omega
 have hlong:¬(!its.toArray.isEmpty&&Builtin.List.listTooLong (its.toArray.size+its2.toArray.size))=true:=by
  rw [ziV hsz,Bool.and_false];exact Bool.false_ne_true
 refine call_meets F.slot_list_extend ⟨_,e,rfl⟩ F.entry_list_extend (F.args_list_extend_2 _ _)
  (zfn l its.toArray n b its2.toArray n2 dd sl hlong (by rw [List.size_toArray];omega) (by omega)) ⟨e,e2,?_⟩
 refine⟨.non,_,I.lset (its':=its++its2) hH e (by simp) (r.append r2) ?_,rfl,q⟩;rw [List.length_append];omega
noncomputable def zwU (K:PySem.W.Frag):V→List V→Hp→VK→Prop:=fun x vs H Q=>∃(z:Str) (b:Addr) (ys:List Str),x= .str z∧vs=[.ref b]∧SqL K H b (ys.map V.str)∧(ys.map (·.length)).sum+ys.length*z.length≤16777216∧Q (.str (Str.join z ys)) H
theorem zua{ys:List Str}:∀{us:List Value},Vals (ys.map V.str) us→StrsAre us ys:=by
 induction ys with
 |nil=>
  intro us r;cases r;exact .nil
 |cons y ys ih=>
  intro us r;cases r with
  |cons a b=>
   obtain⟨t,rfl⟩:=a;exact .cons y t (ih b)
theorem zuS:MtM X "str.join" (zwU X.K):=by
 intro pins s σ H x vs v us Q I rx rv h;obtain⟨z,b,ys,rfl,rfl,hB,hz,q⟩:=h;obtain⟨t,rfl⟩:=rx;obtain⟨u,rfl,ru⟩:=rv.one;cases ru;obtain⟨its,r,pl,_⟩:=I.list hB;refine join_list pl.isList (by simpa using zua r) hz fun t' k=>⟨.str (Str.join z ys),H,I.tok _,⟨t',?_⟩,q⟩;show Value.str (Builtin.Str.glued z ys) t'=_;rw [StrLaws.glued_eq_join]
end
inductive W where
  |non |bl (b:Bool) |int (i:Int) |str (x:Str) |tup (ws:List W) |ref (a:Addr) |scr (ns:List Int)
inductive Ob where
  |lst (ws:List W)
  |dct (kvs:List (List Int×W))
  |ins (C:Addr) (fs:List (Str×W))
noncomputable abbrev Sto:=Addr→Option Ob
noncomputable def put (S:Sto) (a:Addr) (o:Ob):Sto:=fun b=>if b=a then some o else S b
noncomputable def FzL (K:PySem.W.Frag) (H:Hp) (a:Addr) (xs:List V):Prop:=
 (∃o,H a=some (.frz o (.lst xs)))∨
  ∃(o:Obj) (its:Array Value) (n:Nat),K.lookup a=some o∧o.cls= .type "list" ∧o.dict=none∧o.data= .seq its n∧its.size≤sizeLine∧Vals xs its.toList
mutual
inductive Rep (K:PySem.W.Frag) (H:Hp):W→V→Prop
 |non:Rep K H .non .non
 |bl (b:Bool):Rep K H (.bl b) (.bl b)
 |int (i:Int):Rep K H (.int i) (.int i)
 |str (x:Str):Rep K H (.str x) (.str x)
 |ref (a:Addr):Rep K H (.ref a) (.ref a)
 |scr {a:Addr}{ns:List Int}:FzL K H a (ns.map V.int)→Rep K H (.scr ns) (.ref a)
 |tup {a:Addr}{vs:List V}{ws:List W}:H a=some (.tup vs)→Reps K H ws vs→Rep K H (.tup ws) (.ref a)
inductive Reps (K:PySem.W.Frag) (H:Hp):List W→List V→Prop
 |nil:Reps K H [] []
 |cons {w:W}{v:V}{ws:List W}{vs:List V}:Rep K H w v→Reps K H ws vs→Reps K H (w::ws) (v::vs)
end
structure Ext (H:Hp) (S:Sto) (H':Hp) (S':Sto):Prop where
  tup:∀b xs,H b=some (.tup xs)→H' b=some (.tup xs)
  frz:∀b o u,H b=some (.frz o u)→H' b=some (.frz o u)
  fr:∀b o,H b=some o→S b=none→H' b=some o∧S' b=none
  all:∀b o,H b=some o→ ∃o',H' b=some o'
noncomputable def Sub (S S':Sto):Prop:=∀a o,S a=some o→S' a=some o
section
variable {K:PySem.W.Frag}{H H' H1 H2:Hp}{S S' S1 S2:Sto}
theorem zah{a:Addr}{o:Ob}:put S a o a=some o:=by unfold put;rw [if_pos rfl]
theorem zaI{a b:Addr}{o:Ob}(h:b≠a):put S a o b=S b:=by unfold put;rw [if_neg h]
theorem zbj{a:Addr}{o o':Ob}:put (put S a o) a o'=put S a o':=by funext b;unfold put;split<;>rfl
theorem Ext.refl:Ext H S H S:=⟨fun _ _ h=>h,fun _ _ _ h=>h,fun _ _ h g=>⟨h,g⟩,fun _ o h=>⟨o,h⟩⟩
theorem Ext.trans (a:Ext H S H1 S1) (b:Ext H1 S1 H2 S2):Ext H S H2 S2:=⟨fun c xs h=>b.tup c xs (a.tup c xs h),fun c o u h=>b.frz c o u (a.frz c o u h),
 fun c o h g=>by
  obtain⟨h1,g1⟩:=a.fr c o h g;exact b.fr c o h1 g1,fun c o h=>by
  obtain⟨o1,h1⟩:=a.all c o h;exact b.all c o1 h1⟩
theorem Ext.new{p:Addr}{o:HO}(h:H p=none):Ext H S (upd H p o) S:=
  ⟨fun b xs e=>by rw [zaw (zar e h)];exact e,fun b ob u e=>by rw [zaw (zar e h)];exact e,
   fun b ob e g=>⟨by rw [zaw (zar e h)];exact e,g⟩,fun b ob e=>⟨ob,by rw [zaw (zar e h)];exact e⟩⟩
theorem Ext.newS{p:Addr}{o:HO}{ob:Ob}(h:H p=none):Ext H S (upd H p o) (put S p ob):=
  ⟨fun b xs e=>by rw [zaw (zar e h)];exact e,fun b ob u e=>by rw [zaw (zar e h)];exact e,
   fun b ob e g=>⟨by rw [zaw (zar e h)];exact e,by rw [zaI (zar e h)];exact g⟩,fun b ob e=>⟨ob,by rw [zaw (zar e h)];exact e⟩⟩
theorem Ext.mut{p:Addr}{o u:HO}{ob ob0:Ob}(h:H p=some u) (hs:S p=some ob0) (ht:∀xs,u≠ .tup xs) (hf:∀ob q,u≠ .frz ob q):Ext H S (upd H p o) (put S p ob):=
  ⟨fun b xs e=>by rw [zaw (zrE e h fun z=>ht xs z.symm)];exact e,fun b ob q e=>by rw [zaw (zrE e h fun z=>hf ob q z.symm)];exact e,
   fun b ob e g=>by
     have hb:b≠p:=by rintro rfl;rw [hs]at g;cases g
     exact⟨by rw [zaw hb];exact e,by rw [zaI hb];exact g⟩,fun b ob e=>by
     by_cases hb:b=p
     · subst hb;exact⟨o,zaz⟩
     · exact⟨ob,by rw [zaw hb];exact e⟩⟩
theorem Ext.lst{p:Addr}{o:HO}{ob ob0:Ob}{xs:List V}(h:H p=some (.lst xs)) (hs:S p=some ob0):Ext H S (upd H p o) (put S p ob):= .mut h hs (fun _ z=>nomatch z) fun _ _ z=>nomatch z
theorem Ext.drop (h:Sub S' S):Ext H S H S':=⟨fun _ _ h=>h,fun _ _ _ h=>h,fun b o e g=>⟨e,by
 cases q:S' b with
 |none=>rfl
 |some z=>rw [h b z q]at g;cases g⟩,fun _ o h=>⟨o,h⟩⟩
theorem Ext.free (e:Ext H S H' S') {p:Addr}(h:H' p=none):H p=none:=by
 cases q:H p with
 |none=>rfl
 |some o=>obtain⟨o',z⟩:=e.all p o q;rw [h]at z;cases z
theorem Ext.fz{a:Addr}{xs:List V}(e:Ext H S H' S') (h:FzL K H a xs):FzL K H' a xs:=by
 rcases h with⟨o,h⟩ |h
 ·exact .inl ⟨o,e.frz _ _ _ h⟩
 ·exact .inr h
theorem FzL.sq{a:Addr}{xs:List V}(h:FzL K H a xs):SqL K H a xs:=by
 rcases h with⟨o,h⟩ |h
 ·exact .inl (.inr ⟨o,h⟩)
 ·exact .inr h
mutual
theorem Rep.ext (e:Ext H S H' S') {w:W}{v:V}:Rep K H w v→Rep K H' w v
 | .non=> .non
 | .bl b=> .bl b
 | .int i=> .int i
 | .str x=> .str x
 | .ref a=> .ref a
 | .scr h=> .scr (e.fz h)
 | .tup h hs=> .tup (e.tup _ _ h) (Reps.ext e hs)
theorem Reps.ext (e:Ext H S H' S') {ws:List W}{vs:List V}:Reps K H ws vs→Reps K H' ws vs
 | .nil=> .nil
 | .cons h hs=> .cons (Rep.ext e h) (Reps.ext e hs)
end
theorem Reps.length:∀{ws:List W}{vs:List V},Reps K H ws vs→ws.length=vs.length
 |_,_, .nil=>rfl
 |_,_, .cons _ hs=>congrArg (· +1) (Reps.length hs)
theorem Reps.get:∀{ws:List W}{vs:List V}{i:Nat}{w:W},Reps K H ws vs→ws[i]? =some w→ ∃v,vs[i]? =some v∧Rep K H w v
 |_,_,_,_, .nil,e=>by simp at e
 |_,_,0,_, .cons h _,e=>by simp at e;subst e;exact⟨_,rfl,h⟩
 |_,_,i+1,w, .cons _ hs,e=>by
  obtain⟨v,h1,h2⟩:=Reps.get (i:=i) (w:=w) hs (by simpa using e);exact⟨v,by simpa using h1,h2⟩
theorem Reps.append:∀{ws us:List W}{vs xs:List V},Reps K H ws vs→Reps K H us xs→Reps K H (ws++us) (vs++xs)
 |_,_,_,_, .nil,h=>h
 |_,_,_,_, .cons r t,h=> .cons r (Reps.append t h)
theorem Reps.take:∀{ws:List W}{vs:List V}(n:Nat),Reps K H ws vs→Reps K H (ws.take n) (vs.take n)
 |_,_,0,_=> .nil
 |_,_,_+1, .nil=> .nil
 |_,_,n+1, .cons r t=> .cons r (Reps.take n t)
theorem Reps.drop:∀{ws:List W}{vs:List V}(n:Nat),Reps K H ws vs→Reps K H (ws.drop n) (vs.drop n)
 |_,_,0,r=>r
 |_,_,_+1, .nil=> .nil
 |_,_,n+1, .cons _ t=>Reps.drop n t
theorem Reps.one{w:W}{v:V}(h:Rep K H w v):Reps K H [w] [v]:= .cons h .nil
theorem Reps.ofInts:∀(ns:List Int),Reps K H (ns.map W.int) (ns.map V.int)
 | []=> .nil
 |n::ns=> .cons (.int n) (Reps.ofInts ns)
end
noncomputable def RepO (K:PySem.W.Frag) (H:Hp) (a:Addr):Ob→Prop
 | .lst ws=>∃vs,H a=some (.lst vs)∧Reps K H ws vs
 | .dct kvs=>∃ps:List (List Key×V),H a=some (.dT ps)∧Paired (fun q p=>p.1=q.1.map Sum.inl∧Rep K H q.2 p.2) kvs ps
 | .ins C fs=>False
noncomputable def RepS (K:PySem.W.Frag) (H:Hp) (S:Sto):Prop:=∀a o,S a=some o→RepO K H a o
section
variable {K:PySem.W.Frag}{H H':Hp}{S S' S0 S0':Sto}{a b p:Addr}{o:Ob}
theorem Sub.refl:Sub S S:=fun _ _ h=>h
theorem Sub.trans{S1 S2 S3:Sto}(h:Sub S1 S2) (g:Sub S2 S3):Sub S1 S3:=fun a o e=>g a o (h a o e)
theorem RepS.sub (h:RepS K H S') (q:Sub S S'):RepS K H S:=fun a o e=>h a o (q a o e)
theorem RepO.some (h:RepO K H a o):∃u,H a=some u:=by
 cases o with
 |lst ws=>obtain⟨vs,e,_⟩:=h;exact⟨_,e⟩
 |dct kvs=>obtain⟨vs,e,_⟩:=h;exact⟨_,e⟩
 |ins C fs=>exact h.elim
theorem RepS.free (h:RepS K H S) (e:H p=none):S p=none:=by
 cases q:S p with
 |none=>rfl
 |some o=>obtain⟨u,z⟩:=(h p o q).some;rw [e]at z;cases z
theorem RepO.keep (e:Ext H S0 H' S0') (k:∀u,H a=Option.some u→H' a=Option.some u) (h:RepO K H a o):RepO K H' a o:=by
 cases o with
 |lst ws=>obtain⟨vs,e1,r⟩:=h;exact⟨vs,k _ e1,r.ext e⟩
 |dct kvs=>obtain⟨vs,e1,r⟩:=h;exact⟨vs,k _ e1,Paired.mapP r fun _ _ z=>⟨z.1,z.2.ext e⟩⟩
 |ins C fs=>exact h.elim
theorem RepS.new{u:HO}(h:RepS K H S) (e:H p=none):RepS K (upd H p u) S:=fun a o q=>
 (h a o q).keep (.new (S:=S) e) fun v z=>by rw [zaw (zar z e)];exact z
theorem RepS.put_lst{ws:List W}{vs:List V}(h:RepS K H S) (e:H p=none) (r:Reps K (upd H p (.lst vs)) ws vs):RepS K (upd H p (.lst vs)) (put S p (.lst ws)):=fun a o q=>by
 by_cases ha:a=p
 ·subst ha;rw [zah]at q;cases q;exact⟨vs,zaz,r⟩
 ·rw [zaI ha]at q;exact h.new e a o q
theorem RepS.set_lst{ws0 ws:List W}{vs:List V}(h:RepS K H S) (e:S a=some (.lst ws0)) (r:Reps K H ws vs):Ext H S (upd H a (.lst vs)) (put S a (.lst ws))∧RepS K (upd H a (.lst vs)) (put S a (.lst ws)):=by
 obtain⟨vs0,e0,_⟩:=h a _ e;have x:Ext H S (upd H a (.lst vs)) (put S a (.lst ws)):= .lst e0 e;refine⟨x,fun b o q=>?_⟩;by_cases hb:b=a
 ·subst hb;rw [zah]at q;cases q;exact⟨vs,zaz,r.ext x⟩
 ·rw [zaI hb]at q;exact(h b o q).keep x fun u z=>by rw [zaw hb];exact z
end
noncomputable abbrev WSt:=List (Option W)
noncomputable abbrev WK:=W→Sto→Prop
noncomputable abbrev WX:=Str→WSt→Sto→Prop
noncomputable abbrev WE:=WX→WSt→Sto→WK→Prop
noncomputable abbrev WT:=WX→WSt→Sto→(Bool→Sto→Prop)→Prop
noncomputable abbrev WA:=WX→WSt→Sto→(List W→Sto→Prop)→Prop
structure WEnds where
  nx:WSt→Sto→Prop
  rt:WK
  bk:WSt→Sto→Prop:=fun _ _=>False
  ct:WSt→Sto→Prop:=fun _ _=>False
noncomputable abbrev WS:=WX→WEnds→WSt→Sto→Prop
noncomputable abbrev WG:=W→WSt→Sto→(WSt→Sto→Prop)→Prop
noncomputable abbrev WSp:=List W→Sto→WK→(Str→Sto→Prop)→Prop
noncomputable abbrev WI:=WX→WSt→Sto→(List W→(Sto→Prop)→Sto→Prop)→Prop
noncomputable abbrev WL:=WX→WSt→Sto→(List W→Sto→Prop)→Prop
noncomputable def RpO (K:PySem.W.Frag) (H:Hp):Option W→Option V→Prop
 |none,_=>True
 |some w,some v=>Rep K H w v
 |some _,none=>False
noncomputable def RpSt (K:PySem.W.Frag) (H:Hp) (σW:WSt) (σ:St):Prop:=Paired (RpO K H) σW σ
section
variable {K:PySem.W.Frag}{H H':Hp}{S S':Sto}
theorem RpO.ext (e:Ext H S H' S'):∀{w:Option W}{v:Option V},RpO K H w v→RpO K H' w v
 |none,_,_=>trivial
 |some _,some _,h=>Rep.ext e h
 |some _,none,h=>h.elim
theorem RpSt.ext (e:Ext H S H' S') {σW:WSt}{σ:St}(h:RpSt K H σW σ):RpSt K H' σW σ:=Paired.mapP h fun _ _ r=>RpO.ext e r
theorem RpSt.get:∀{σW:WSt}{σ:St}{i:Nat}{w:W},RpSt K H σW σ→σW[i]? =some (some w)→ ∃v,σ[i]? =some (some v)∧Rep K H w v
 |_,_,_,_, .nil,e=>by simp at e
 |_,_,0,_, .cons (b:=b) h _,e=>by
  simp at e;subst e;cases b with
  |none=>exact(show False from h).elim
  |some v=>exact⟨v,rfl,h⟩
 |_,_,i+1,w, .cons _ hs,e=>by
  obtain⟨v,h1,h2⟩:=RpSt.get (i:=i) (w:=w) hs (by simpa using e);exact⟨v,by simpa using h1,h2⟩
theorem RpSt.set{w:W}{v:V}(h:Rep K H w v):∀{σW:WSt}{σ:St}(i:Nat),RpSt K H σW σ→RpSt K H (σW.set i (some w)) (σ.set i (some v))
 |_,_,_, .nil=> .nil
 |_,_,0, .cons _ t=> .cons h t
 |_,_,i+1, .cons q t=> .cons q (RpSt.set h i t)
end
noncomputable def Wish (K:PySem.W.Frag) (H:Hp) (S:Sto) (QW:WK) (Q:VK):Prop:=∀w S' v H',Ext H S H' S'→Rep K H' w v→RepS K H' S'→QW w S'→Q v H'
noncomputable def zyp (K:PySem.W.Frag) (t:WSt→Sto→WK→Prop):TE:=fun σ H Q=>∃σW S QW,RpSt K H σW σ∧RepS K H S∧t σW S QW∧Wish K H S QW Q
noncomputable def zvr (K:PySem.W.Frag) (t:WSt→Sto→(Bool→Sto→Prop)→Prop):TT:=fun σ H Q=>∃σW S QW,RpSt K H σW σ∧RepS K H S∧t σW S QW∧ ∀b S' H',Ext H S H' S'→RepS K H' S'→QW b S'→Q b H'
noncomputable def zyV (K:PySem.W.Frag) (t:WSt→Sto→(List W→Sto→Prop)→Prop):TA:=fun σ H Q=>∃σW S QW,RpSt K H σW σ∧RepS K H S∧t σW S QW∧ ∀ws S' vs H',Ext H S H' S'→Reps K H' ws vs→RepS K H' S'→QW ws S'→Q vs H'
noncomputable def Goes (K:PySem.W.Frag) (H:Hp) (S:Sto) (P:WSt→Sto→Prop) (Q:St→Hp→Prop):Prop:=∀σW S' σ H',Ext H S H' S'→RpSt K H' σW σ→RepS K H' S'→P σW S'→Q σ H'
structure Meets (K:PySem.W.Frag) (H:Hp) (S:Sto) (DW:WEnds) (D:Ends):Prop where
  nx:Goes K H S DW.nx D.nx
  rt:Wish K H S DW.rt D.rt
  bk:Goes K H S DW.bk D.bk
  ct:Goes K H S DW.ct D.ct
noncomputable def zwZ (K:PySem.W.Frag) (t:WEnds→WSt→Sto→Prop):TS:=fun D σ H=>∃σW S DW,RpSt K H σW σ∧RepS K H S∧t DW σW S∧Meets K H S DW D
noncomputable def zyN (K:PySem.W.Frag) (t:WG):TG:=fun v σ H Q=>∃w σW S P,Rep K H w v∧RpSt K H σW σ∧RepS K H S∧t w σW S P∧Goes K H S P Q
noncomputable def ItW (K:PySem.W.Frag) (J:It) (ws:List W) (G:Sto→Prop) (H0:Hp) (S0:Sto):Prop:=∀i S H,Ext H0 S0 H S→RepS K H S→G S→
 (∀w,ws[i]? =some w→J.go i H∧ ∀x H',J.yld i H x H'→Ext H S H' S∧RepS K H' S∧Rep K H' w x)∧(i=ws.length→J.stop i H)
noncomputable def zxx (K:PySem.W.Frag) (t:WSt→Sto→(List W→(Sto→Prop)→Sto→Prop)→Prop):TI:=fun σ H R=>∃σW S QW,RpSt K H σW σ∧RepS K H S∧t σW S QW∧
 ∀ws G S' J H',Ext H S H' S'→RepS K H' S'→G S'→ItW K J ws G H' S'→QW ws G S'→R J H'
noncomputable def zxU (K:PySem.W.Frag) (t:WSt→Sto→(List W→Sto→Prop)→Prop):TE:=fun σ H Q=>∃σW S QW,RpSt K H σW σ∧RepS K H S∧t σW S QW∧
 ∀ws S' vs a H',Ext H S H' S'→H a=none→H' a=some (.lst vs)→S' a=none→Reps K H' ws vs→RepS K H' S'→QW ws S'→Q (.ref a) H'
noncomputable def zek (K:PySem.W.Frag) (sp:WSp):Sp:=fun vs H Q _=>∃ws S QW,Reps K H ws vs∧RepS K H S∧sp ws S QW (fun _ _=>False)∧Wish K H S QW Q
structure Hook (X:Cx) (E:WX):Prop where
  no:E=fun _ _ _=>False
  xe:X.xe=fun _ _=>False
  calm:X.calm=true
noncomputable def JE (X:Cx) (e:Expr) (t:WE):Prop:=∀E,Hook X E→PE X e (zyp X.K (t E))
noncomputable def JT (X:Cx) (e:Expr) (t:WT):Prop:=∀E,Hook X E→PT X e (zvr X.K (t E))
noncomputable def JW (X:Cx) (e:Expr) (t:WT):Prop:=∀E,Hook X E→PW X e (zvr X.K (t E))
noncomputable def JA (X:Cx) (es:List Expr) (t:WA):Prop:=∀E,Hook X E→PA X es (zyV X.K (t E))
noncomputable def JS (X:Cx) (st:Stmt) (t:WS):Prop:=∀E,Hook X E→PS X st (zwZ X.K (t E))
noncomputable def JSs (X:Cx) (st:List Stmt) (t:WS):Prop:=∀E,Hook X E→PSs X st (zwZ X.K (t E))
noncomputable def JG (X:Cx) (tg:Expr) (t:WG):Prop:=∀E,Hook X E→PG X tg (zyN X.K t)
noncomputable def JI (X:Cx) (tg iter:Expr) (t:WI):Prop:=∀E,Hook X E→PI X tg iter (zxx X.K (t E))
noncomputable def JL (X:Cx) (e:Expr) (t:WL):Prop:=∀E,Hook X E→PE X e (zxU X.K (t E))
theorem PE.mono{X:Cx}{e:Expr}{t t':TE}(h:PE X e t) (q:∀σ H Q,t' σ H Q→t σ H Q):PE X e t':=fun pins s σ H Q I z=>h pins s σ H Q I (q σ H Q z)
theorem PT.mono{X:Cx}{e:Expr}{t t':TT}(h:PT X e t) (q:∀σ H Q,t' σ H Q→t σ H Q):PT X e t':=fun pins s σ H Q I z=>h pins s σ H Q I (q σ H Q z)
theorem PW.mono{X:Cx}{e:Expr}{t t':TT}(h:PW X e t) (q:∀σ H Q,t' σ H Q→t σ H Q):PW X e t':=fun wh pins s σ H Q I z=>h wh pins s σ H Q I (q σ H Q z)
theorem PA.mono{X:Cx}{e:List Expr}{t t':TA}(h:PA X e t) (q:∀σ H Q,t' σ H Q→t σ H Q):PA X e t':=fun pos pins s σ H Q I z=>h pos pins s σ H Q I (q σ H Q z)
theorem PS.mono{X:Cx}{e:Stmt}{t t':TS}(h:PS X e t) (q:∀D σ H,t' D σ H→t D σ H):PS X e t':=fun pins s σ H D I z=>h pins s σ H D I (q D σ H z)
theorem PSs.mono{X:Cx}{e:List Stmt}{t t':TS}(h:PSs X e t) (q:∀D σ H,t' D σ H→t D σ H):PSs X e t':=fun pins s σ H D I z=>h pins s σ H D I (q D σ H z)
theorem PG.mono{X:Cx}{e:Expr}{t t':TG}(h:PG X e t) (q:∀v σ H Q,t' v σ H Q→t v σ H Q):PG X e t':=fun pins s σ H v u Q I r z=>h pins s σ H v u Q I r (q v σ H Q z)
theorem PI.mono{X:Cx}{tg e:Expr}{t t':TI}(h:PI X tg e t) (q:∀σ H R,t' σ H R→t σ H R):PI X tg e t':=fun pins s σ H R I z=>h pins s σ H R I (q σ H R z)
noncomputable def zad (i:Nat):WE:=fun _ σ S Q=>match σ[i]? with
 |some (some w)=>Q w S
 |_=>False
noncomputable def wC (w:W):WE:=fun _ _ S Q=>Q w S
section
variable {X:Cx}
theorem jv (i:Nat) {x:Str}{pos:Pos}(hN:X.N[i]? =some x:=by rfl) (hv:Vis X.env.scope x:=by first |exact Or.inl rfl |exact Or.inr (Or.inl rfl) |exact Or.inr (Or.inr rfl)) (hd:(x == ("__debug__" :Str))=false:=by decide)
  (hcd:(x == ("__classdict__" :Str))=false:=by decide):JE X (.Name x pos) (zad i):=fun E hE=>(zwM hN hv hd hcd).mono fun σ H Q ⟨σW,S,QW,hσ,hS,ht,hQ⟩=>by
 unfold zad at ht;split at ht
 ·rename_i w e;obtain⟨v,e',r⟩:=hσ.get e;exact⟨v,e',hQ w S v H .refl r hS ht⟩
 ·exact ht.elim
theorem zqk{e:Expr}{v:V}{w:W}(h:PE X e (tC v)) (r:∀K H,Rep K H w v):JE X e (wC w):=fun E hE=>h.mono fun σ H Q ⟨σW,S,QW,hσ,hS,ht,hQ⟩=>hQ w S v H .refl (r _ _) hS ht
theorem zae{i j pos}:JE X (.Constant (.int i) j pos) (wC (.int i)):=zqk zwE fun _ _=> .int i
theorem zez{b j pos}:JE X (.Constant (.bool b) j pos) (wC (.bl b)):=zqk zzW fun _ _=> .bl b
theorem zej{j pos}:JE X (.Constant .none j pos) (wC .non):=zqk zwX fun _ _=> .non
theorem zkE{x j pos}:JE X (.Constant (.str x) j pos) (wC (.str x)):=zqk zvT fun _ _=> .str x
theorem zdH{x:Str}{i:Int}{u:Tok}{pos:Pos}(hg:Gl X x) (hm:X.mg x=some (.int i u)) (hd:(x == ("__debug__" :Str))=false:=by decide):JE X (.Name x pos) (wC (.int i)):=zqk (v:= .int i) (zvn hg hm ⟨u,rfl⟩ hd) fun _ _=> .int i
end
noncomputable abbrev W2:=W→W→Sto→WK→Prop
noncomputable def wOp (r:W2) (a b:WE):WE:=fun E σ S Q=>a E σ S fun x S1=>b E σ S1 fun y S2=>r x y S2 Q
noncomputable def OpW (K:PySem.W.Frag) (r:R2) (wr:W2):Prop:=∀H x y wx wy S (Q:VK) (QW:WK),Rep K H wx x→Rep K H wy y→RepS K H S→wr wx wy S QW→Wish K H S QW Q→r x y H Q
theorem Wish.from{K:PySem.W.Frag}{H H':Hp}{S S':Sto}{QW:WK}{Q:VK}(h:Wish K H S QW Q) (e:Ext H S H' S'):Wish K H' S' QW Q:=fun w S v H'' e' r hS q=>h w S v H'' (e.trans e') r hS q
theorem Goes.from{K:PySem.W.Frag}{H H':Hp}{S S':Sto}{P:WSt→Sto→Prop}{Q:St→Hp→Prop}(h:Goes K H S P Q) (e:Ext H S H' S'):Goes K H' S' P Q:=fun σW S σ H'' e' r hS q=>h σW S σ H'' (e.trans e') r hS q
theorem Meets.from{K:PySem.W.Frag}{H H':Hp}{S S':Sto}{DW:WEnds}{D:Ends}(h:Meets K H S DW D) (e:Ext H S H' S'):Meets K H' S' DW D:=⟨h.nx.from e,h.rt.from e,h.bk.from e,h.ct.from e⟩
section
variable {X:Cx}{a b:Expr}{pos:Pos}
theorem zgR{K:PySem.W.Frag}{ta tb:WSt→Sto→WK→Prop}{wr:W→W→Sto→WK→Prop}{σ:St}{H:Hp}{Q:VK}{R:V→V→Hp→Prop}
  (h:zyp K (fun σ S Q=>ta σ S fun x S1=>tb σ S1 fun y S2=>wr x y S2 Q) σ H Q)
  (hR:∀H2 x y wx wy S (QW:WK),Rep K H2 wx x→Rep K H2 wy y→RepS K H2 S→wr wx wy S QW→Wish K H2 S QW Q→R x y H2) :
  zyp K ta σ H fun x H1=>zyp K tb σ H1 fun y H2=>R x y H2:=by
 obtain⟨σW,S,QW,hσ,hS,ht,hQ⟩:=h;refine⟨σW,S,_,hσ,hS,ht,fun w1 S1 v1 H1 e1 r1 hS1 h1=>?_⟩;refine⟨σW,S1,_,hσ.ext e1,hS1,h1,fun w2 S2 v2 H2 e2 r2 hS2 h2=>?_⟩;exact hR H2 v1 v2 w1 w2 S2 QW (r1.ext e2) r2 hS2 h2 (hQ.from (e1.trans e2))
theorem zos{op:Operator}{r:R2}{wr:W2}{ta tb:WE}(ho:OpR X (binaryOp op) r) (hw:OpW X.K r wr) (ha:JE X a ta) (hb:JE X b tb):JE X (.BinOp a op b pos) (wOp wr ta tb):=fun E hE=>
 (zpJ ho (ha E hE) (hb E hE)).mono fun σ H Q h=>zgR h fun H2 x y wx wy S QW rx ry hS q hQ=>hw H2 x y wx wy S Q QW rx ry hS q hQ
theorem zqy{op:CmpOp}{r:R2}{wr:W2}{ta tb:WE}(ho:OpR X (compareOp op) r) (hw:OpW X.K r wr) (ha:JE X a ta) (hb:JE X b tb) (hm:behindInMarks op b=false):JE X (.Compare a [op] [b] pos) (wOp wr ta tb):=fun E hE=>
 (zvo ho (ha E hE) (hb E hE) hm).mono fun σ H Q h=>zgR h fun H2 x y wx wy S QW rx ry hS q hQ=>hw H2 x y wx wy S Q QW rx ry hS q hQ
end
noncomputable def zcp (S:Sto) (a:Addr) (Q:List W→Prop):Prop:=match S a with
 |some (.lst ws)=>Q ws
 |_=>False
theorem zak{S:Sto}{a:Addr}{Q:List W→Prop}{ws:List W}(h:S a=some (.lst ws)):zcp S a Q=Q ws:=by unfold zcp;rw [h]
theorem zbh{S:Sto}{a:Addr}{Q:List W→Prop}(h:zcp S a Q):∃ws,S a=some (.lst ws)∧Q ws:=by
 unfold zcp at h;split at h
 ·exact⟨_, ‹_›,h⟩
 ·exact h.elim
noncomputable def ztx:W→Sto→(Bool→Sto→Prop)→Prop
 | .non,S,Q=>Q false S
 | .bl b,S,Q=>Q b S
 | .int i,S,Q=>Q (i != 0) S
 | .str x,S,Q=>x.length≤sizeLine∧Q ((x.length:Int) != 0) S
 | .tup ws,S,Q=>Q (!ws.isEmpty) S
 | .ref a,S,Q=>zcp S a fun ws=>Q (!ws.isEmpty) S
 | .scr ns,S,Q=>Q (!ns.isEmpty) S
noncomputable def zlr (t:WE):WT:=fun E σ S Q=>t E σ S fun w S'=>ztx w S' Q
noncomputable def wTb (t:WE):WT:=fun E σ S Q=>t E σ S fun w S'=>match w with
 | .bl b=>Q b S'
 |_=>False
noncomputable def zqO (t u:WT):WT:=fun E σ S Q=>t E σ S fun c S1=>if c=true then u E σ S1 Q else Q false S1
noncomputable def wOr (t u:WT):WT:=fun E σ S Q=>t E σ S fun c S1=>if c=true then Q true S1 else u E σ S1 Q
noncomputable def zvE (t:WT):WT:=fun E σ S Q=>t E σ S fun c S1=>Q (!c) S1
noncomputable def ziT (t u:WE):WE:=fun E σ S Q=>t E σ S fun w S1=>match w with
 | .bl true=>u E σ S1 Q
 | .bl false=>Q (.bl false) S1
 |_=>False
noncomputable def zzb (t u:WE):WE:=fun E σ S Q=>t E σ S fun w S1=>match w with
 | .bl false=>u E σ S1 Q
 | .bl true=>Q (.bl true) S1
 |_=>False
noncomputable def ztW (t:WE):WE:=fun E σ S Q=>t E σ S fun w S1=>match w with
 | .bl b=>Q (.bl !b) S1
 |_=>False
noncomputable def wIf (c:WT) (t u:WE):WE:=fun E σ S Q=>c E σ S fun b S1=>if b=true then t E σ S1 Q else u E σ S1 Q
noncomputable def zcL (c:WT) (t u:WS):WS:=fun E D σ S=>c E σ S fun b S1=>if b=true then t E D σ S1 else u E D σ S1
noncomputable def zaO:WS:=fun _ D σ S=>D.nx σ S
noncomputable def zas (t u:WS):WS:=fun E D σ S=>t E { D with nx:=u E D } σ S
noncomputable def zbg (e:WE):WS:=fun E D σ S=>e E σ S D.rt
noncomputable def zdn (e:WE):WS:=fun E D σ S=>e E σ S fun _ S1=>D.nx σ S1
noncomputable def zkG:WS:=fun _ _ _ _=>False
noncomputable def wGN (i:Nat):WG:=fun w σ S Q=>Q (σ.set i (some w)) S
noncomputable def wAsg (e:WE) (g:WG):WS:=fun E D σ S=>e E σ S fun w S1=>g w σ S1 D.nx
noncomputable abbrev WGs:=List W→WSt→Sto→(WSt→Sto→Prop)→Prop
noncomputable def zdO:WGs:=fun ws σ S Q=>match ws with
 | []=>Q σ S
 |_=>False
noncomputable def zaG (g:WG) (u:WGs):WGs:=fun ws σ S Q=>match ws with
 | []=>False
 |w::r=>g w σ S fun σ' S'=>u r σ' S' Q
noncomputable def wGT (u:WGs):WG:=fun w σ S Q=>match w with
 | .tup ws=>u ws σ S Q
 |_=>False
section
variable {X:Cx}{a b c e:Expr}{pos:Pos}{ta tb:WE}{tc tA tB':WT}{st:Stmt}{rest:List Stmt}{t u:WS}
theorem zvl{K:PySem.W.Frag}{H:Hp}{w:W}{v:V}{S:Sto}{QW:Bool→Sto→Prop}(r:Rep K H w v) (hS:RepS K H S) (h:ztx w S QW):∃k,zzP K v H k∧QW k S:=by
 cases r with
 |non=>exact⟨false,rfl,h⟩
 |bl b=>exact⟨b,rfl,h⟩
 |int i=>exact⟨_,rfl,h⟩
 |str x=>exact⟨_,⟨h.1,rfl⟩,h.2⟩
 |ref a=>
  obtain⟨ws,e,h⟩:=zbh h;obtain⟨vs,e1,r1⟩:=hS a _ e;refine⟨_, .inl ⟨vs, .of e1,rfl⟩,?_⟩;have q:vs.isEmpty=ws.isEmpty:=by cases r1<;>rfl
  rw [q];exact h
 | @scr a ns f=>
  refine⟨_, .inl ⟨_,f.sq,rfl⟩,?_⟩;have q:(ns.map V.int).isEmpty=ns.isEmpty:=by cases ns<;>rfl
  rw [q];exact h
 | @tup a vs ws f hs=>
  refine⟨_, .inr (.inl ⟨vs, .of f,rfl⟩),?_⟩;have q:vs.isEmpty=ws.isEmpty:=by cases hs<;>rfl
  rw [q];exact h
theorem zdU (ha:JE X a ta) (he:∀whole,isTrue a X.env whole=(do let v ←whole;standAt a.pos;holding [v] (truthy v)):=by intro _;rfl):JT X a (zlr ta):=fun E hE=>
 (zrT (ha E hE) he).mono fun σ H Q ⟨σW,S,QW,hσ,hS,ht,hQ⟩=>⟨σW,S,_,hσ,hS,ht,fun w S1 v H1 e1 r1 hS1 h1=>by
  obtain⟨k,hk,q⟩:=zvl r1 hS1 h1;exact⟨k,hk,hQ k S1 H1 e1 hS1 q⟩⟩
theorem zfL{op:CmpOp}{r:R2}{wr:W2}(ho:OpR X (compareOp op) r) (hw:OpW X.K r wr) (ha:JE X a ta) (hb:JE X b tb) (hm:behindInMarks op b=false):JT X (.Compare a [op] [b] pos) (wTb (wOp wr ta tb)):=fun E hE=>
 (zvm ho (ha E hE) (hb E hE) hm).mono fun σ H Q ⟨σW,S,QW,hσ,hS,ht,hQ⟩=>by
  refine zgR (Q:=fun v H1=>∃k,v= .bl k∧Q k H1) ⟨σW,S,fun w S'=>match w with
   | .bl b=>QW b S'
   |_=>False,hσ,hS,ht,fun w S1 v H1 e1 r1 hS1 h1=>?_⟩ fun H2 x y wx wy S QW rx ry hS q hQ=>hw H2 x y wx wy S _ QW rx ry hS q hQ
  cases r1 with
  |bl k=>exact⟨k,rfl,hQ k S1 H1 e1 hS1 h1⟩
  |_=>exact h1.elim
theorem znH (ha:JT X a tA):JT X (.UnaryOp .Not a pos) (zvE tA):=fun E hE=>
 (zxv (ha E hE)).mono fun σ H Q ⟨σW,S,QW,hσ,hS,ht,hQ⟩=>⟨σW,S,_,hσ,hS,ht,fun b S1 H1 e1 hS1 h1=>hQ _ S1 H1 e1 hS1 h1⟩
theorem JW.jt (h:JW X a tA):JT X a tA:=fun E hE=>(h E hE).pt
theorem zge (ha:JT X a tA):JW X (.BoolOp .And [a] pos) tA:=fun E hE=>zul (ha E hE)
theorem zmx (ha:JT X a tA):JW X (.BoolOp .Or [a] pos) tA:=fun E hE=>zwl (ha E hE)
theorem ziH{rest:List Expr}(ha:JT X a tA) (hb:JW X (.BoolOp .And (b::rest) pos) tB'):JW X (.BoolOp .And (a::b::rest) pos) (zqO tA tB'):=fun E hE=>
 (zwd (ha E hE) (hb E hE)).mono fun σ H Q ⟨σW,S,QW,hσ,hS,ht,hQ⟩=>⟨σW,S,_,hσ,hS,ht,fun b S1 H1 e1 hS1 h1=>by
  cases b with
  |true=>exact⟨σW,S1,_,hσ.ext e1,hS1,h1,fun b S2 H2 e2 hS2 h2=>hQ b S2 H2 (e1.trans e2) hS2 h2⟩
  |false=>exact hQ _ S1 H1 e1 hS1 h1⟩
theorem zsv{rest:List Expr}(ha:JT X a tA) (hb:JW X (.BoolOp .Or (b::rest) pos) tB'):JW X (.BoolOp .Or (a::b::rest) pos) (wOr tA tB'):=fun E hE=>
 (zzF (ha E hE) (hb E hE)).mono fun σ H Q ⟨σW,S,QW,hσ,hS,ht,hQ⟩=>⟨σW,S,_,hσ,hS,ht,fun b S1 H1 e1 hS1 h1=>by
  cases b with
  |false=>exact⟨σW,S1,_,hσ.ext e1,hS1,h1,fun b S2 H2 e2 hS2 h2=>hQ b S2 H2 (e1.trans e2) hS2 h2⟩
  |true=>exact hQ _ S1 H1 e1 hS1 h1⟩
theorem zgx{op}(h:JE X a ta):JE X (.BoolOp op [a] pos) ta:=fun E hE=>zwb (h E hE)
theorem zhB{rest:List Expr}(ha:JE X a ta) (hb:JE X (.BoolOp .And (b::rest) pos) tb):JE X (.BoolOp .And (a::b::rest) pos) (ziT ta tb):=fun E hE=>
 (zxy (ha E hE) (hb E hE)).mono fun σ H Q ⟨σW,S,QW,hσ,hS,ht,hQ⟩=>⟨σW,S,_,hσ,hS,ht,fun w S1 v H1 e1 r1 hS1 h1=>by
  cases r1 with
  |bl k=>
   refine⟨k,rfl,?_⟩;cases k with
   |true=>exact⟨σW,S1,_,hσ.ext e1,hS1,h1,hQ.from e1⟩
   |false=>exact hQ _ S1 _ H1 e1 (.bl false) hS1 h1
  |_=>exact h1.elim⟩
theorem zyx{rest:List Expr}(ha:JE X a ta) (hb:JE X (.BoolOp .Or (b::rest) pos) tb):JE X (.BoolOp .Or (a::b::rest) pos) (zzb ta tb):=fun E hE=>
 (zAa (ha E hE) (hb E hE)).mono fun σ H Q ⟨σW,S,QW,hσ,hS,ht,hQ⟩=>⟨σW,S,_,hσ,hS,ht,fun w S1 v H1 e1 r1 hS1 h1=>by
  cases r1 with
  |bl k=>
   refine⟨k,rfl,?_⟩;cases k with
   |false=>exact⟨σW,S1,_,hσ.ext e1,hS1,h1,hQ.from e1⟩
   |true=>exact hQ _ S1 _ H1 e1 (.bl true) hS1 h1
  |_=>exact h1.elim⟩
theorem zvY (ha:JE X a ta):JE X (.UnaryOp .Not a pos) (ztW ta):=fun E hE=>
 (zvR (ha E hE)).mono fun σ H Q ⟨σW,S,QW,hσ,hS,ht,hQ⟩=>⟨σW,S,_,hσ,hS,ht,fun w S1 v H1 e1 r1 hS1 h1=>by
  cases r1 with
  |bl k=>exact⟨k,rfl,hQ _ S1 _ H1 e1 (.bl _) hS1 h1⟩
  |_=>exact h1.elim⟩
theorem zzT (hc:JT X c tc) (ha:JE X a ta) (hb:JE X b tb):JE X (.IfExp c a b pos) (wIf tc ta tb):=fun E hE=>
 (zrS (hc E hE) (ha E hE) (hb E hE)).mono fun σ H Q ⟨σW,S,QW,hσ,hS,ht,hQ⟩=>⟨σW,S,_,hσ,hS,ht,fun k S1 H1 e1 hS1 h1=>by
  cases k with
  |true=>exact⟨σW,S1,_,hσ.ext e1,hS1,h1,hQ.from e1⟩
  |false=>exact⟨σW,S1,_,hσ.ext e1,hS1,h1,hQ.from e1⟩⟩
theorem zay:JSs X [] zaO:=fun E hE=>pss_nil.mono fun D σ H ⟨σW,S,DW,hσ,hS,ht,hD⟩=>hD.nx σW S σ H .refl hσ hS ht
theorem zaf (h1:JS X st t) (h2:JSs X rest u):JSs X (st::rest) (zas t u):=fun E hE=>
 (zrQ (h1 E hE) (h2 E hE)).mono fun D σ H ⟨σW,S,DW,hσ,hS,ht,hD⟩=>
  ⟨σW,S,{ DW with nx:=u E DW },hσ,hS,ht,⟨fun σW' S' σ' H' e r hS' q=>⟨σW',S',DW,r,hS',q,hD.from e⟩,hD.rt,hD.bk,hD.ct⟩⟩
theorem zaj (h1:JS X st t):JSs X [st] t:=fun E hE=>zun (h1 E hE)
theorem zgS:JS X st zkG:=fun E hE=>ps_never.mono fun D σ H ⟨σW,S,DW,hσ,hS,ht,hD⟩=>ht
theorem zbe (he:JE X e ta) (hs:swapsWith e none pos.line X.env=pure false:=by rfl):JS X (.Expr e pos) (zdn ta):=fun E hE=>
 (ztV (he E hE) hs).mono fun D σ H ⟨σW,S,DW,hσ,hS,ht,hD⟩=>⟨σW,S,_,hσ,hS,ht,fun w S1 v H1 e1 r1 hS1 h1=>hD.nx σW S1 σ H1 e1 (hσ.ext e1) hS1 h1⟩
theorem zao (he:JE X e ta):JS X (.Return (some e) pos) (zbg ta):=fun E hE=>
 (zvU (he E hE)).mono fun D σ H ⟨σW,S,DW,hσ,hS,ht,hD⟩=>⟨σW,S,_,hσ,hS,ht,hD.rt⟩
theorem zaX{a b:List Stmt}(hc:JT X c tc) (ha:JSs X a t) (hb:JSs X b u):JS X (.If c a b pos) (zcL tc t u):=fun E hE=>
 (zzY (hc E hE) (ha E hE) (hb E hE)).mono fun D σ H ⟨σW,S,DW,hσ,hS,ht,hD⟩=>⟨σW,S,_,hσ,hS,ht,fun k S1 H1 e1 hS1 h1=>by
  cases k with
  |true=>exact⟨σW,S1,DW,hσ.ext e1,hS1,h1,hD.from e1⟩
  |false=>exact⟨σW,S1,DW,hσ.ext e1,hS1,h1,hD.from e1⟩⟩
theorem zaq{i:Nat}{x:Str}(hN:X.N.Nodup) (hi:X.N[i]? =some x) (hx:Loc X.env.scope x) (hf:X.fn x=true∨X.env.scope.names.lookup x=some .local:=by first |exact .inl rfl |exact .inr rfl |assumption):JG X (.Name x pos) (wGN i):=fun E hE=>
 (zuW hN hi hx hf).mono fun v σ H Q ⟨w,σW,S,P,r,hσ,hS,ht,hP⟩=>hP _ S _ H .refl (hσ.set r i) hS ht
noncomputable def JGs (X:Cx) (tgs:List Expr) (t:WGs):Prop:=∀E,Hook X E→PGs X tgs (fun vs σ H Q=>∃ws σW S P,Reps X.K H ws vs∧RpSt X.K H σW σ∧RepS X.K H S∧t ws σW S P∧Goes X.K H S P Q)
theorem zeu:JGs X [] zdO:=fun E hE pins s σ H vs us Q I r h=>by
 obtain⟨ws,σW,S,P,rs,hσ,hS,ht,hP⟩:=h;unfold zdO at ht;split at ht
 ·cases rs;exact zup pins s σ H [] us Q I r ⟨rfl,hP σW S σ H .refl hσ hS ht⟩
 ·exact ht.elim
theorem zaW{es:List Expr}{g:WG}{gs:WGs}(h1:JG X e g) (h2:JGs X es gs)
  (hs:(assignEach (e::es) X.env).map (·.2)=assign e X.env::(assignEach es X.env).map (·.2):=by rfl):JGs X (e::es) (zaG g gs):=fun E hE pins s σ H vs us Q I r h=>by
 obtain⟨ws,σW,S,P,rs,hσ,hS,ht,hP⟩:=h;unfold zaG at ht;split at ht
 ·exact ht.elim
 ·cases rs with
  |cons r1 r2=>
   refine zsb (h1 E hE) (h2 E hE) hs pins s σ H _ us Q I r ⟨_,_,rfl,⟨_,σW,S,_,r1,hσ,hS,ht,fun σW' S' σ' H' e' rr hS' q=>?_⟩⟩;exact⟨_,σW',S',P,r2.ext e',rr,hS',q,hP.from e'⟩
theorem zgD{es:List Expr}{k n:Nat}{gs:WGs}(h:JGs X es gs) (hlen:∀ws σ S P,gs ws σ S P→ws.length=n)
  (hn:(assignEach es X.env).length=n:=by rfl) (hst:(assignEach es X.env).findIdx? (·.1)=none:=by rfl):JG X (.Tuple es k pos) (wGT gs):=fun E hE=>
 (zwh hE.calm (h E hE) hn hst).mono fun v σ H Q ⟨w,σW,S,P,r,hσ,hS,ht,hP⟩=>by
  cases r with
  |tup f hs=>exact⟨_,_,rfl, .of f,by rw [←hs.length];exact hlen _ _ _ _ ht,⟨_,σW,S,P,hs,hσ,hS,ht,hP⟩⟩
  |_=>exact ht.elim
theorem zwF{tg:Expr}{g:WG}(he:JE X e ta) (hg:JG X tg g) (hs:swapsWithSole [tg] e pos.line X.env=pure false:=by rfl) (hw:swappedStores [tg] e X.env=pure none:=by rfl)
  (h1:(assignEach [tg] X.env).map (·.2)=[assign tg X.env]:=by rfl):JS X (.Assign [tg] e pos) (wAsg ta g):=fun E hE=>
 (zwW (he E hE) (hg E hE) hs hw h1).mono fun D σ H ⟨σW,S,DW,hσ,hS,ht,hD⟩=>⟨σW,S,_,hσ,hS,ht,fun w S1 v H1 e1 r1 hS1 h1=>⟨w,σW,S1,_,r1,hσ.ext e1,hS1,h1,hD.nx.from e1⟩⟩
theorem zap{i:Nat}{x:Str}{pos':Pos}(hN:X.N.Nodup) (hi:X.N[i]? =some x) (hx:Loc X.env.scope x) (he:JE X e ta) (hs:swapsWith e (some (.Name x pos')) pos.line X.env=pure false:=by rfl)
  (hf:X.fn x=true∨X.env.scope.names.lookup x=some .local:=by first |exact .inl rfl |exact .inr rfl |assumption):JS X (.Assign [.Name x pos'] e pos) (wAsg ta (wGN i)):=fun E hE=>
 (zxc hN hi hx (he E hE) hs hf).mono fun D σ H ⟨σW,S,DW,hσ,hS,ht,hD⟩=>⟨σW,S,_,hσ,hS,ht,fun w S1 v H1 e1 r1 hS1 h1=>hD.nx _ S1 _ H1 e1 ((hσ.ext e1).set r1 i) hS1 h1⟩
end
noncomputable def waNil:WA:=fun _ _ S Q=>Q [] S
noncomputable def zab (t:WE) (u:WA):WA:=fun E σ S Q=>t E σ S fun w S1=>u E σ S1 fun ws S2=>Q (w::ws) S2
noncomputable def zcf (t:WA):WE:=fun E σ S Q=>t E σ S fun ws S1=>ws.length≤sizeLine∧Q (.tup ws) S1
noncomputable def zdW (t:WA):WL:=fun E σ S Q=>t E σ S fun ws S1=>ws.length≤sizeLine∧Q ws S1
noncomputable def zdh (t:WL):WE:=fun E σ S Q=>t E σ S fun ws S1=>∀a,S1 a=none→Q (.ref a) (put S1 a (.lst ws))
section
variable {X:Cx}{e:Expr}{es:List Expr}{te:WE}{ta:WA}{tl:WL}{pos:Pos}
theorem zac:JA X [] waNil:=fun E hE=>pa_nil.mono fun σ H Q ⟨σW,S,QW,hσ,hS,ht,hQ⟩=>hQ [] S [] H .refl .nil hS ht
theorem zaa (ha:JE X e te) (hr:JA X es ta) (hs:starEach (e::es) X.env=(false,eval e X.env)::starEach es X.env:=by rfl):JA X (e::es) (zab te ta):=fun E hE=>
 (zdG (ha E hE) (hr E hE) hs).mono fun σ H Q ⟨σW,S,QW,hσ,hS,ht,hQ⟩=>⟨σW,S,_,hσ,hS,ht,fun w S1 v H1 e1 r1 hS1 h1=>⟨σW,S1,_,hσ.ext e1,hS1,h1,fun ws S2 vs H2 e2 r2 hS2 h2=>
  hQ (w::ws) S2 (v::vs) H2 (e1.trans e2) (.cons (r1.ext e2) r2) hS2 h2⟩⟩
theorem zau{x1}(h:JA X es ta):JE X (.Tuple es x1 pos) (zcf ta):=fun E hE=>
 (zxM (h E hE)).mono fun σ H Q ⟨σW,S,QW,hσ,hS,ht,hQ⟩=>⟨σW,S,_,hσ,hS,ht,fun ws S1 vs H1 e1 r1 hS1 h1=>by
  refine⟨by rw [←r1.length];exact h1.1,fun p hp=>hQ (.tup ws) S1 _ _ (e1.trans (.new hp)) (.tup zaz (r1.ext (.new (S:=S1) hp))) (hS1.new hp) h1.2⟩⟩
theorem zaP (h:JA X es ta):JL X (.List es pos) (zdW ta):=fun E hE=>
 (zwy (h E hE)).mono fun σ H Q ⟨σW,S,QW,hσ,hS,ht,hQ⟩=>⟨σW,S,_,hσ,hS,ht,fun ws S1 vs H1 e1 r1 hS1 h1=>by
  refine⟨by rw [←r1.length];exact h1.1,fun p hp=>hQ ws S1 vs p _ (e1.trans (.new hp)) (e1.free hp) zaz (hS1.free hp) (r1.ext (.new (S:=S1) hp)) (hS1.new hp) h1.2⟩⟩
theorem zaN (h:JL X e tl):JE X e (zdh tl):=fun E hE=>
 (h E hE).mono fun σ H Q ⟨σW,S,QW,hσ,hS,ht,hQ⟩=>⟨σW,S,_,hσ,hS,ht,fun ws S1 vs a H1 e1 fa ea na r1 hS1 h1=>by
  refine hQ (.ref a) (put S1 a (.lst ws)) (.ref a) H1 ⟨e1.tup,e1.frz,fun b o q g=>by
   have hb:b≠a:=by rintro rfl;rw [fa]at q;cases q
   rw [zaI hb];exact e1.fr b o q g,e1.all⟩ (.ref a) (fun b o q=>?_) (h1 a na)
  by_cases hb:b=a
  ·subst hb;rw [zah]at q;cases q;exact⟨vs,ea,r1⟩
  ·rw [zaI hb]at q;exact hS1 b o q⟩
end
noncomputable def zam (c:WSp) (t:WA):WE:=fun E σ S Q=>t E σ S fun ws S1=>c ws S1 Q fun cl S2=>E cl σ S2
noncomputable def zcI (n k:Nat) (body:WS):WSp:=fun ws S Q E=>ws.length=k∧body (fun c _ S'=>E c S') { nx:=fun _ S'=>∃S'',Sub S'' S'∧Q .non S'',rt:=fun w S'=>∃S'',Sub S'' S'∧Q w S'' } (ws.map some++List.replicate (n - k) none) S
section
variable {X:Cx}{k:Nat}{f:Addr}{fd:FuncData}{ps:List Str}{c:WSp}{x:Str}{p pos:Pos}{e:Expr}{es:List Expr}{t:WA}
theorem zag (F:FnOk X.prog X.w X.K X.mg X.base CX0 k f fd ps (zek X.K c)) (hr:Room k X.A) (hg:Gl X x) (hm:X.mg x=some (.ref f)) (hk:PySem.W.keepIn X.K (.ref f)=true) (hb:Binds X.K fd ps [])
  (ha:JA X (e::es) t) (hdb:(x == ("__debug__" :Str))=false:=by decide) (he:starEach (e::es) X.env=(false,eval e X.env)::starEach es X.env:=by rfl) (hpl:(backTo pos (starEach es X.env)).any (·.1)=false:=by rfl) :
  JE X (.Call (.Name x p) (e::es) [] pos) (zam c t):=fun E hE=>
 (zvq (E:=E0) (dvs:=[]) F hr hg hm hk hb .nil zzJ (ha E hE) hdb he hpl).mono fun σ H Q ⟨σW,S,QW,hσ,hS,ht,hQ⟩=>⟨σW,S,_,hσ,hS,ht,fun ws S1 vs H1 e1 r1 hS1 h1=>by
  rw [hE.no]at h1;refine⟨ws,S1,QW,by rw [List.append_nil];exact r1,hS1,h1,hQ.from e1⟩⟩
theorem zph{K:PySem.W.Frag}{H:Hp}{N:List Str}{ws:List W}{vs:List V}(h:Reps K H ws vs):RpSt K H (ws.map some++List.replicate (N.length - ws.length) none) (start N vs):=by
 have go:∀{ws:List W}{vs:List V}(m:Nat),Reps K H ws vs→RpSt K H (ws.map some++List.replicate m none) (vs.map some++List.replicate m none):=by
  intro ws
  induction ws with
  |nil=>
   intro vs m h;cases h
   induction m with
   |zero=>exact .nil
   |succ m ih=>exact .cons trivial ih
  |cons w ws ih=>
   intro vs m h;cases h with
   |cons r rs=>exact .cons r (ih m rs)
 unfold start;rw [←h.length];exact go _ h
theorem zaQ{P:Program}{w:World}{K:PySem.W.Frag}{mg:Str→Option Value}{base:Heap}{x qual:Str}{st:Stmt}{f:Addr}{fd:FuncData}{N ps:List Str}{r n k:Nat}{body:WS}(F:Fun K x qual st f fd) (S:FnScope N ps (zal st)) (hn:N.length=n) (hk:ps.length=k)
  (hbody:∀(cdv:Value) (A:Around) (outer:List Env) (s:Shared) (H:Hp) (E:XK),Room r (A.deeper (envOfC qual (zal st) s.heap.objs.size f cdv))→
   JSs (zuY CX0 P w K mg base N qual (zal st) f cdv A outer s H E).nox (zfb st) body):FnOk P w K mg base CX0 (r+1) f fd ps (zek K (zcI n k body)):=by
 refine F.ok S (fun vs H Q E h=>?_) fun cdv A outer s H vs Q E hr h=>?_
 ·obtain⟨ws,S,QW,rs,_,h,_⟩:=h;rw [←rs.length,h.1,hk]
 ·obtain⟨ws,S',QW,rs,hS,h,hQ⟩:=h;refine⟨_,hbody cdv A outer s H E hr (fun _ _ _=>False) ⟨rfl,rfl,rfl⟩,?_⟩;refine⟨_,S',{ nx:=fun _ S'=>∃S'',Sub S'' S'∧QW .non S'',rt:=fun w S'=>∃S'',Sub S'' S'∧QW w S'' },zph (N:=N) rs,hS,by rw [hn,h.1];exact h.2,⟨fun σW S1 σ H1 e1 rr hS1 q=>?_,fun w S1 v H1 e1 rr hS1 q=>?_,fun _ _ _ _ _ _ _ q=>q,fun _ _ _ _ _ _ _ q=>q⟩⟩
  ·obtain⟨S2,sb,q⟩:=q;exact hQ .non S2 .non H1 (e1.trans (.drop sb)) .non (hS1.sub sb) q
  ·obtain⟨S2,sb,q⟩:=q;exact hQ w S2 v H1 (e1.trans (.drop sb)) rr (hS1.sub sb) q
end
noncomputable def zdC (C:Int→Int→Prop) (g:Int→Int→W):W2
 | .int i, .int j,S,Q=>C i j∧Q (g i j) S
 |_,_,_,_=>False
noncomputable def zfA (g:Int→Int→W):W2
 | .int i, .int j,S,Q=>Q (g i j) S
 |_,_,_,_=>False
theorem zjf{K:PySem.W.Frag}{C:Int→Int→Prop}{g:Int→Int→Int}:OpW K (rI C fun i j=> .int (g i j)) (zdC C fun i j=> .int (g i j)):=fun H x y wx wy S Q QW rx ry hS h hQ=>by
 cases rx<;>cases ry<;>first |exact⟨_,_,rfl,rfl,h.1,hQ _ S _ H .refl (.int _) hS h.2⟩ |exact h.elim
theorem zsp{K:PySem.W.Frag}{g:Int→Int→Int}:OpW K (rI0 fun i j=> .int (g i j)) (zfA fun i j=> .int (g i j)):=fun H x y wx wy S Q QW rx ry hS h hQ=>by
 cases rx<;>cases ry<;>first |exact⟨_,_,rfl,rfl,hQ _ S _ H .refl (.int _) hS h⟩ |exact h.elim
theorem ziQ{K:PySem.W.Frag}{g:Int→Int→Bool}:OpW K (rI0 fun i j=> .bl (g i j)) (zfA fun i j=> .bl (g i j)):=fun H x y wx wy S Q QW rx ry hS h hQ=>by
 cases rx<;>cases ry<;>first |exact⟨_,_,rfl,rfl,hQ _ S _ H .refl (.bl _) hS h⟩ |exact h.elim
noncomputable def zem:W2
 | .int i, .int j,S,Q=>Q (.int (i+j)) S
 | .str x, .str y,S,Q=>x.length+y.length≤sizeLine∧Q (.str (x++y)) S
 | .tup xs, .tup ys,S,Q=>xs.length+ys.length≤sizeLine∧Q (.tup (xs++ys)) S
 | .ref a, .ref b,S,Q=>zcp S a fun xs=>zcp S b fun ys=>xs.length+ys.length≤sizeLine∧ ∀p,S p=none→Q (.ref p) (put S p (.lst (xs++ys)))
 |_,_,_,_=>False
section
variable {X:Cx}
theorem Reps.nil_r{K:PySem.W.Frag}{H:Hp}{ws:List W}(h:Reps K H ws []):ws=[]:=by cases h;rfl
theorem op_catT0:OpR X (binaryOp .Add) (fun x y H Q=>∃a b ys,x= .ref a∧y= .ref b∧SqT X.K H a []∧SqT X.K H b ys∧Q (.ref b) H):=by
 intro pins s σ H x y v u Q I rx ry h;obtain⟨a,b,ys,rfl,rfl,ha,hb,q⟩:=h;cases rx;cases ry;obtain⟨its,r1,p1,_⟩:=I.tuple ha;obtain⟨its2,r2,p2,_⟩:=I.tuple hb;cases r1;obtain⟨⟨cls,dd,data,sl⟩,ho,hc,n,hd⟩:=id p1;obtain⟨⟨cls2,dd2,data2,sl2⟩,ho2,hc2,n2,hd2⟩:=id p2;simp only at hc hd hc2 hd2;subst hc hd hc2 hd2;exact concat_meets ⟨_,ho,rfl⟩ ⟨_,ho2,rfl⟩ noFill_tuple_add seq_tuple_add PySem.F.slot_tuple_add PySem.F.entry_tuple_add (PySem.F.args_tuple_add_2 _ _)
   (tuple_addW0 a b _ _ n n2 dd dd2 sl sl2 (by simp)) ⟨ho,ho2,⟨.ref b,H,I,rfl,q⟩⟩
theorem zqH:OpR X (binaryOp .Add) (fun x y H Q=>(rI0 fun i j=> .int (i+j)) x y H Q∨(∃i j,x= .str i∧y= .str j∧i.length+j.length≤sizeLine∧Q (.str (i++j)) H)∨
  (∃a b ys,x= .ref a∧y= .ref b∧SqT X.K H a []∧SqT X.K H b ys∧Q (.ref b) H)∨zuO X.K x y H Q∨zyO x y H Q):=op_add.or (op_add_str.or (op_catT0.or (op_catT.or znx)))
theorem ztD{K:PySem.W.Frag}:OpW K (fun x y H Q=>(rI0 fun i j=> .int (i+j)) x y H Q∨(∃i j,x= .str i∧y= .str j∧i.length+j.length≤sizeLine∧Q (.str (i++j)) H)∨
  (∃a b ys,x= .ref a∧y= .ref b∧SqT K H a []∧SqT K H b ys∧Q (.ref b) H)∨zuO K x y H Q∨zyO x y H Q) zem:=fun H x y wx wy S Q QW rx ry hS h hQ=>by
 cases rx with
 |int i=>
  cases ry with
  |int j=>exact .inl ⟨i,j,rfl,rfl,hQ _ S _ H .refl (.int _) hS h⟩
  |_=>exact h.elim
 |str i=>
  cases ry with
  |str j=>exact .inr (.inl ⟨i,j,rfl,rfl,h.1,hQ _ S _ H .refl (.str _) hS h.2⟩)
  |_=>exact h.elim
 | @tup a vs ws f hs=>
  cases ry with
  | @tup b us zs g ks=>
   cases hs with
   |nil=>exact .inr (.inr (.inl ⟨a,b,us,rfl,rfl, .of f, .of g,hQ (.tup zs) S _ H .refl (.tup g ks) hS h.2⟩))
   |cons h1 h2=>
    refine .inr (.inr (.inr (.inl ⟨a,b,_,us,rfl,rfl, .of f, .of g,by simp,?_,fun e=>?_,fun e p hp=>?_⟩)))
    ·rw [←(Reps.cons h1 h2).length,←ks.length];exact h.1
    ·subst e;have e':=ks.nil_r;subst e';have q:=h.2;rw [List.append_nil]at q;exact hQ _ S _ H .refl (.tup f (.cons h1 h2)) hS q
    ·exact hQ _ S _ _ (.new hp) (.tup zaz (((Reps.cons h1 h2).append ks).ext (.new (S:=S) hp))) (hS.new hp) h.2
  |_=>exact h.elim
 |ref a=>
  cases ry with
  |ref b=>
   obtain⟨xs,ea,h⟩:=zbh h;obtain⟨ys,eb,h⟩:=zbh h;obtain⟨vs,e1,r1⟩:=hS a _ ea;obtain⟨us,e2,r2⟩:=hS b _ eb;refine .inr (.inr (.inr (.inr ⟨a,b,vs,us,rfl,rfl,e1,e2,by rw [←r1.length,←r2.length];exact h.1,fun p hp=>?_⟩)))
   exact hQ _ _ _ _ (.newS hp) (.ref p) (hS.put_lst hp ((r1.append r2).ext (.new (S:=S) hp))) (h.2 p (hS.free hp))
  |_=>exact h.elim
 |_=>exact h.elim
variable {a b:Expr}{pos:Pos}{ta tb:WE}
theorem zbt (ha:JE X a ta) (hb:JE X b tb):JE X (.BinOp a .Add b pos) (wOp zem ta tb):=zos zqH ztD ha hb
theorem znR (ha:JE X a ta) (hb:JE X b tb):JE X (.BinOp a .Sub b pos) (wOp (zfA fun i j=> .int (i - j)) ta tb):=zos zxL zsp ha hb
theorem zti (ha:JE X a ta) (hb:JE X b tb):JE X (.BinOp a .Mult b pos) (wOp (zdC CMul fun i j=> .int (i*j)) ta tb):=zos zwa zjf ha hb
theorem zcU (ha:JE X a ta) (hb:JE X b tb):JE X (.BinOp a .FloorDiv b pos) (wOp (zdC zjD fun i j=> .int (i / j)) ta tb):=zos zuX zjf ha hb
theorem zcr (ha:JE X a ta) (hb:JE X b tb):JE X (.BinOp a .Mod b pos) (wOp (zdC (fun _ j=>0<j) fun i j=> .int (i % j)) ta tb):=zos zwJ zjf ha hb
theorem zyg (ha:JE X a ta) (hb:JE X b tb):JE X (.BinOp a .Pow b pos) (wOp (zdC zzf fun i j=> .int (i ^ j.toNat)) ta tb):=zos zxR zjf ha hb
noncomputable def zlN (t:WE):WE:=fun E σ S Q=>t E σ S fun w S1=>match w with
 | .int i=>Q (.int (-i)) S1
 |_=>False
theorem zeC (ha:JE X a ta):JE X (.UnaryOp .USub a pos) (zlN ta):=fun E hE=>
 (zzu zwA (ha E hE)).mono fun σ H Q ⟨σW,S,QW,hσ,hS,ht,hQ⟩=>⟨σW,S,_,hσ,hS,ht,fun w S1 v H1 e1 r1 hS1 h1=>by
  cases r1 with
  |int i=>exact⟨i,rfl,hQ _ S1 _ H1 e1 (.int _) hS1 h1⟩
  |_=>exact h1.elim⟩
noncomputable def zzt (t u:WE):WL:=fun E σ S Q=>t E σ S fun x S1=>u E σ S1 fun y S2=>match x,y with
 | .ref a, .ref b=>zcp S2 a fun xs=>zcp S2 b fun ys=>xs.length+ys.length≤sizeLine∧Q (xs++ys) S2
 |_,_=>False
end
noncomputable def zgc (f:W→W→Option Bool):List W→List W→Option Bool
 | [],[]=>some true
 | [],_=>some false
 |_,[]=>some false
 |x::xs,y::ys=>match f x y,zgc f xs ys with
  |some a,some b=>some (a&&b)
  |_,_=>none
noncomputable def eqF (S:Sto):Nat→W→W→Option Bool
 |0,_,_=>none
 |n+1,w,u=>match w,u with
  | .non, .non=>some true
  | .bl a, .bl b=>some (a == b)
  | .int a, .int b=>some (a == b)
  | .str a, .str b=>some (a == b)
  | .tup _, .int _=>some false
  | .int _, .tup _=>some false
  | .tup xs, .tup ys=>zgc (eqF S n) xs ys
  | .ref a, .ref b=>match S a with
   |some (.lst xs)=>match S b with
    |some (.lst ys)=>zgc (eqF S n) xs ys
    |_=>none
   |_=>none
  |_,_=>none
theorem zmr{f:W→W→Option Bool}:∀{xs ys:List W}{b:Bool},zgc f xs ys=some b→
  (∀j,j<xs.length→j<ys.length→ ∃c,f (xs.getD j .non) (ys.getD j .non)=some c)∧
  ((List.range (min xs.length ys.length)).all (fun j=>(f (xs.getD j .non) (ys.getD j .non)).getD true)&&xs.length == ys.length)=b
 | [],[],b,h=>by
  have:true=b:=Option.some.inj h;subst this;exact⟨fun j h=>absurd h (by simp),by simp⟩
 | [],y::ys,b,h=>by
  have:false=b:=Option.some.inj h;subst this;exact⟨fun j h=>absurd h (by simp),by simp⟩
 |x::xs,[],b,h=>by
  have:false=b:=Option.some.inj h;subst this;exact⟨fun j _ h=>absurd h (by simp),by simp⟩
 |x::xs,y::ys,b,h=>by
  unfold zgc at h;split at h
  ·rename_i c d e1 e2;have hb:(c&&d)=b:=Option.some.inj h;obtain⟨h1,h2⟩:=zmr e2;refine⟨fun j j1 j2=>?_,?_⟩
   ·cases j with
    |zero=>exact⟨c,by simpa using e1⟩
    |succ j=>simpa using h1 j (by simpa using j1) (by simpa using j2)
   ·have hm:min (xs.length+1) (ys.length+1)=min xs.length ys.length+1:=by omega
    have hl:(xs.length+1 == ys.length+1)=(xs.length == ys.length):=by simp
    rw [List.length_cons,List.length_cons,hm,List.range_succ_eq_map,List.all_cons,List.all_map,hl];have q:((fun j=>(f ((x::xs).getD j .non) ((y::ys).getD j .non)).getD true)∘Nat.succ)=fun j=>(f (xs.getD j .non) (ys.getD j .non)).getD true:=by
     funext j;simp
    rw [q,Bool.and_assoc,h2];have q0:(f ((x::xs).getD 0 .non) ((y::ys).getD 0 .non)).getD true=c:=by simp [e1]
    rw [q0,hb]
  ·cases h
section
variable {X:Cx}{pins:List (Addr×Obj)}{σ:St}{H:Hp}{s:Shared}{S:Sto}
theorem zjm (I:Inv X pins σ H s):∀(n:Nat) {wx wy:W}{v:V}{b:Bool},Rep X.K H wx v→Rep X.K H wy v→RepS X.K H S→eqF S n wx wy=some b→b=true
 |0,_,_,_,_,_,_,_,h=>by cases h
 |n+1,wx,wy,v,b,rx,ry,hS,h=>by
  have list:∀{ws us:List W}{vs:List V}{b:Bool},Reps X.K H ws vs→Reps X.K H us vs→zgc (eqF S n) ws us=some b→b=true:=by
   intro ws
   induction ws with
   |nil=>
    intro us vs b r1 r2 e;cases r1;cases r2;exact(Option.some.inj e).symm
   |cons w ws ih=>
    intro us vs b r1 r2 e;cases r1 with
    |cons a1 a2=>
     cases r2 with
     |cons c1 c2=>
      unfold zgc at e;split at e
      ·rename_i c d e1 e2;have q1:=zjm I n a1 c1 hS e1;have q2:=ih a2 c2 e2;have:=Option.some.inj e;rw [q1,q2]at this;exact this.symm
      ·cases e
  cases rx with
  |non=>cases ry;exact(Option.some.inj h).symm
  |bl k=>cases ry;have:=Option.some.inj h;simpa using this.symm
  |int k=>cases ry;have:=Option.some.inj h;simpa using this.symm
  |str k=>cases ry;have:=Option.some.inj h;simpa using this.symm
  |ref a=>
   cases ry with
   |ref _=>
    have h':(match S a with
     |some (.lst xs)=>match S a with
      |some (.lst ys)=>zgc (eqF S n) xs ys
      |_=>none
     |_=>none)=some b:=h
    cases e:S a with
    |none=>rw [e]at h';cases h'
    |some o=>
     rw [e]at h';cases o with
     |lst ws=>
      obtain⟨vs,_,r⟩:=hS a _ e;exact list r r h'
     |dct _=>cases h'
     |ins _ _=>cases h'
   |scr _=>cases h
   |tup _ _=>cases h
  |scr f=>cases ry<;>cases h
  |tup f hs=>
   cases ry with
   |ref _=>cases h
   |scr _=>cases h
   |tup g ks=>
    have e:=I.tuple_inj (.of f) (.of g);subst e;exact list hs ks h
theorem zkw{A:Around}:A.in1.units=A.units+1:=rfl
theorem znA (I:Inv X pins σ H s) (hS:RepS X.K H S):∀(n:Nat) {A:Around}{wx wy:W}{x y:V}{u v:Value}{b:Bool},A.units+n<cLine→Rep X.K H wx x→Rep X.K H wy y→RelV x u→RelV y v→eqF S n wx wy=some b→
  SeqAt.EqAt A s u v b∧SeqAt.RcAt A s u v b∧SeqAt.RcNeAt A s u v (!b)
 |0,_,_,_,_,_,_,_,_,_,_,_,_,_,h=>by cases h
 |n+1,A,wx,wy,x,y,u,v,b,hu,rx,ry,ru,rv,h=>by
  have hu0:A.units<cLine:=by omega
  have items:∀{ws zs:List W}{xs ys:List V}{us vs:List Value}{b:Bool},Reps X.K H ws xs→Reps X.K H zs ys→Vals xs us→Vals ys vs→zgc (eqF S n) ws zs=some b→
    (∀j (h1:j<us.toArray.size) (h2:j<vs.toArray.size),SeqAt.EqAt A.in1 s us.toArray[j] vs.toArray[j] ((eqF S n (ws.getD j .non) (zs.getD j .non)).getD true))∧
    ((List.range (min us.toArray.size vs.toArray.size)).all (fun j=>(eqF S n (ws.getD j .non) (zs.getD j .non)).getD true)&&us.toArray.size == vs.toArray.size)=b:=by
   intro ws zs xs ys us vs b r1 r2 q1 q2 e;obtain⟨h1,h2⟩:=zmr e;have l1:=r1.length;have l2:=r2.length;have l3:=q1.length;have l4:=q2.length;refine⟨fun j j1 j2=>?_,?_⟩
   ·rw [List.size_toArray]at j1 j2;obtain⟨c,hc⟩:=h1 j (by omega) (by omega);have jw:j<ws.length:=by omega
    have jz:j<zs.length:=by omega
    obtain⟨x',ex,rx'⟩:=r1.get (List.getElem?_eq_getElem jw);obtain⟨y',ey,ry'⟩:=r2.get (List.getElem?_eq_getElem jz);obtain⟨u',eu,ru'⟩:=q1.get ex;obtain⟨v',ev,rv'⟩:=q2.get ey;have e1:us.toArray[j]=u':=by
     obtain⟨_,e⟩:=List.getElem?_eq_some_iff.mp eu;simpa using e
    have e2:vs.toArray[j]=v':=by
     obtain⟨_,e⟩:=List.getElem?_eq_some_iff.mp ev;simpa using e
    have g1:ws.getD j .non=ws[j]:=by rw [List.getD_eq_getElem?_getD,List.getElem?_eq_getElem jw];rfl
    have g2:zs.getD j .non=zs[j]:=by rw [List.getD_eq_getElem?_getD,List.getElem?_eq_getElem jz];rfl
    rw [e1,e2,hc];rw [g1,g2]at hc;exact(znA I hS n (by rw [zkw];omega) rx' ry' ru' rv' hc).1
   ·rw [List.size_toArray,List.size_toArray,←l3,←l4,←l1,←l2];exact h2
  cases rx with
  |non=>
   cases(show u=Value.none from ru);cases ry with
   |non=>cases(show v=Value.none from rv);cases h;exact⟨.same _, .none_none, .none_none⟩
   |_=>cases h
  |bl k=>
   cases(show u=Value.bool k from ru);cases ry with
   |bl j=>cases(show v=Value.bool j from rv);cases h;exact⟨.bool_bool _ _, .bool_bool _ _, .bool_bool _ _⟩
   |_=>cases h
  |int k=>
   obtain⟨t0,rfl⟩:=ru;cases ry with
   |int j=>obtain⟨t,rfl⟩:=rv;cases h;exact⟨.int_int _ _ _ _, .int_int _ _ _ _, .int_int _ _ _ _⟩
   |tup f hs=>cases(show v=Value.ref _ from rv);cases h;obtain⟨its,_,p,_⟩:=I.tuple (.of f);exact⟨.int_tuple _ _ p hu0, .int_tuple _ _ p hu0, .int_tuple _ _ p hu0⟩
   |_=>cases h
  |str k=>
   obtain⟨t0,rfl⟩:=ru;cases ry with
   |str j=>obtain⟨t,rfl⟩:=rv;cases h;exact⟨.str_str _ _ _ _, .str_str _ _ _ _, .str_str _ _ _ _⟩
   |_=>cases h
  | @tup a xs ws f hs=>
   cases(show u=Value.ref a from ru);obtain⟨its,q1,p,_⟩:=I.tuple (.of f);cases ry with
   |int j=>obtain⟨t,rfl⟩:=rv;cases h;exact⟨.tuple_int _ _ p hu0, .tuple_int _ _ p hu0, .tuple_int _ _ p hu0⟩
   | @tup c ys zs g ks=>
    cases(show v=Value.ref c from rv);obtain⟨its2,q2,p2,_⟩:=I.tuple (.of g);obtain⟨h1,h2⟩:=items hs ks q1 q2 h;have rc:SeqAt.RcAt A s (.ref a) (.ref c) b:=by
     have:=SeqAt.RcAt.tuples p p2 hu0 h1;rw [h2]at this;exact this
    have rn:SeqAt.RcNeAt A s (.ref a) (.ref c) (!b):=by
     have:=SeqAt.RcNeAt.tuples p p2 hu0 h1;rw [h2]at this;exact this
    refine⟨?_,rc,rn⟩;by_cases e:a=c
    ·subst e;have:=zjm I (n+1) (.tup f hs) (.tup g ks) hS h;rw [this];exact .same _
    ·exact .of_refs e rc
   |_=>cases h
  |ref a=>
   cases(show u=Value.ref a from ru);cases ry with
   |ref c=>
    cases(show v=Value.ref c from rv);have h':(match S a with
     |some (.lst xs)=>match S c with
      |some (.lst ys)=>zgc (eqF S n) xs ys
      |_=>none
     |_=>none)=some b:=h
    cases e:S a with
    |none=>rw [e]at h';cases h'
    |some o=>
     rw [e]at h';cases o with
     |dct _=>cases h'
     |ins _ _=>cases h'
     |lst ws=>
      cases e2:S c with
      |none=>rw [e2]at h';cases h'
      |some o2=>
       rw [e2]at h';cases o2 with
       |dct _=>cases h'
       |ins _ _=>cases h'
       |lst zs=>
        obtain⟨xs,f,hs⟩:=hS a _ e;obtain⟨ys,g,ks⟩:=hS c _ e2;obtain⟨its,q1,p,_⟩:=I.list (.of f);obtain⟨its2,q2,p2,_⟩:=I.list (.of g);obtain⟨h1,h2⟩:=items hs ks q1 q2 h';have both:SeqAt.RcAt A s (.ref a) (.ref c) b∧SeqAt.RcNeAt A s (.ref a) (.ref c) (!b):=by
         by_cases hz:its.toArray.size=its2.toArray.size
         ·have t1:=SeqAt.RcAt.lists p.isList p2.isList hz hu0 h1;have t2:=SeqAt.RcNeAt.lists p.isList p2.isList hz hu0 h1;rw [←hz,Nat.min_self,beq_self_eq_true,Bool.and_true]at h2;rw [h2]at t1 t2;exact⟨t1,t2⟩
         ·have hz':(its.toArray.size != its2.toArray.size)=true:=by simpa using hz
          have hz2:(its.toArray.size == its2.toArray.size)=false:=by simpa using hz
          rw [hz2,Bool.and_false]at h2;subst h2;exact⟨.lists_lengths p.isList p2.isList hz' hu0, .lists_lengths p.isList p2.isList hz' hu0⟩
        refine⟨?_,both.1,both.2⟩;by_cases ee:a=c
        ·subst ee;have:=zjm I (n+1) (.ref a) (.ref a) hS h;rw [this];exact .same _
        ·exact .of_refs ee both.1
   |_=>cases h
  |scr f=>cases ry<;>cases h
end
noncomputable def oEq (neg:Bool):W2:=fun x y S Q=>match eqF S 60 x y with
 |some b=>Q (.bl (if neg then !b else b)) S
 |none=>False
noncomputable def zzR (K:PySem.W.Frag) (neg:Bool):R2:=fun x y H Q=>∃wx wy S b,Rep K H wx x∧Rep K H wy y∧RepS K H S∧eqF S 60 wx wy=some b∧Q (.bl (if neg then !b else b)) H
section
variable {X:Cx}
theorem ztw (hu:X.A.units+60<cLine):OpR X (compareOp .Eq) (zzR X.K false):=by
 intro pins s σ H x y v u Q I rx ry h;obtain⟨wx,wy,S,b,r1,r2,hS,e,q⟩:=h;exact(znA I hS 60 hu r1 r2 rx ry e).2.1 _ _ _ _ ⟨.bl b,H,I,rfl,q⟩
theorem zvJ (hu:X.A.units+60<cLine):OpR X (compareOp .NotEq) (zzR X.K true):=by
 intro pins s σ H x y v u Q I rx ry h;obtain⟨wx,wy,S,b,r1,r2,hS,e,q⟩:=h;exact(znA I hS 60 hu r1 r2 rx ry e).2.2 _ _ _ _ ⟨.bl (!b),H,I,rfl,q⟩
theorem zqU{K:PySem.W.Frag}{neg:Bool}:OpW K (zzR K neg) (oEq neg):=fun H x y wx wy S Q QW rx ry hS h hQ=>by
 unfold oEq at h;split at h
 ·rename_i b e;exact⟨wx,wy,S,b,rx,ry,hS,e,hQ _ S _ H .refl (.bl _) hS h⟩
 ·exact h.elim
variable {a b c:Expr}{pos:Pos}{ta tb:WE}
theorem zrD{k:Nat}(hr:Room k X.A) (ha:JE X a ta) (hb:JE X b tb):JE X (.Compare a [.Eq] [b] pos) (wOp (oEq false) ta tb):=zqy (ztw (by have:=hr.units;omega)) zqU ha hb (nomark b)
theorem zeP{k:Nat}(hr:Room k X.A) (ha:JE X a ta) (hb:JE X b tb):JT X (.Compare a [.Eq] [b] pos) (wTb (wOp (oEq false) ta tb)):=zfL (ztw (by have:=hr.units;omega)) zqU ha hb (nomark b)
theorem zvb{k:Nat}(hr:Room k X.A) (ha:JE X a ta) (hb:JE X b tb):JT X (.Compare a [.NotEq] [b] pos) (wTb (wOp (oEq true) ta tb)):=zfL (zvJ (by have:=hr.units;omega)) zqU ha hb (nomark b)
noncomputable abbrev oLt:W2:=zfA fun i j=> .bl (decide (i<j))
noncomputable abbrev oGt:W2:=zfA fun i j=> .bl (decide (j<i))
noncomputable abbrev oGe:W2:=zfA fun i j=> .bl (decide (j≤i))
noncomputable def oLe:W2
 | .int i, .int j,S,Q=>Q (.bl (decide (i≤j))) S
 | .str i, .str j,S,Q=>Q (.bl (!decide (j.cps.toList<i.cps.toList))) S
 |_,_,_,_=>False
theorem zpT{K:PySem.W.Frag}:OpW K (fun x y H Q=>rI0 (fun i j=> .bl (decide (i≤j))) x y H Q∨(∃i j,x= .str i∧y= .str j∧Q (.bl (!decide (j.cps.toList<i.cps.toList))) H)) oLe:=fun H x y wx wy S Q QW rx ry hS h hQ=>by
 cases rx with
 |int i=>
  cases ry with
  |int j=>exact .inl ⟨i,j,rfl,rfl,hQ _ S _ H .refl (.bl _) hS h⟩
  |_=>exact h.elim
 |str i=>
  cases ry with
  |str j=>exact .inr ⟨i,j,rfl,rfl,hQ _ S _ H .refl (.bl _) hS h⟩
  |_=>exact h.elim
 |_=>exact h.elim
theorem zpw (ha:JE X a ta) (hb:JE X b tb):JT X (.Compare a [.Lt] [b] pos) (wTb (wOp oLt ta tb)):=zfL zzs ziQ ha hb (nomark b)
theorem zkm (ha:JE X a ta) (hb:JE X b tb):JT X (.Compare a [.Gt] [b] pos) (wTb (wOp oGt ta tb)):=zfL zzx ziQ ha hb (nomark b)
theorem zyv (ha:JE X a ta) (hb:JE X b tb):JT X (.Compare a [.GtE] [b] pos) (wTb (wOp oGe ta tb)):=zfL zyy ziQ ha hb (nomark b)
theorem zzB (ha:JE X a ta) (hb:JE X b tb):JE X (.Compare a [.LtE] [b] pos) (wOp oLe ta tb):=zqy (op_le.or zhF) zpT ha hb (nomark b)
noncomputable def zjI (r r':W2) (a b c:WE):WE:=fun E σ S Q=>a E σ S fun x S1=>b E σ S1 fun y S2=>r x y S2 fun z S3=>match z with
 | .bl true=>c E σ S3 fun u S4=>r' y u S4 Q
 | .bl false=>Q (.bl false) S3
 |_=>False
noncomputable def oIs (neg:Bool):W2
 | .non, .non,S,Q=>Q (.bl (!neg)) S
 | .bl a, .bl b,S,Q=>Q (.bl (if neg then a != b else a == b)) S
 | .bl _, .non,S,Q=>Q (.bl neg) S
 | .int _, .non,S,Q=>Q (.bl neg) S
 | .str _, .non,S,Q=>Q (.bl neg) S
 | .tup _, .non,S,Q=>Q (.bl neg) S
 | .ref _, .non,S,Q=>Q (.bl neg) S
 |_,_,_,_=>False
theorem ztj:OpR X (compareOp .Is) (fun x y H Q=>(y= .non∧Q (.bl (decide (x= .non))) H)∨ ∃a b,x= .bl a∧y= .bl b∧Q (.bl (a == b)) H):=op_isN.or (by
 intro pins s σ H x y v u Q I rx ry h;obtain⟨a,b,rfl,rfl,q⟩:=h;cases rx;cases ry;exact is_bool ⟨.bl _,H,I,rfl,q⟩)
theorem zpK:OpR X (compareOp .IsNot) (fun x y H Q=>(y= .non∧Q (.bl (!decide (x= .non))) H)∨ ∃a b,x= .bl a∧y= .bl b∧Q (.bl (a != b)) H):=op_notN.or (by
 intro pins s σ H x y v u Q I rx ry h;obtain⟨a,b,rfl,rfl,q⟩:=h;cases rx;cases ry;exact isnot_bool ⟨.bl _,H,I,rfl,q⟩)
theorem ztt{K:PySem.W.Frag}:OpW K (fun x y H Q=>(y= .non∧Q (.bl (decide (x= .non))) H)∨ ∃a b,x= .bl a∧y= .bl b∧Q (.bl (a == b)) H) (oIs false):=fun H x y wx wy S Q QW rx ry hS h hQ=>by
 cases ry with
 |non=>cases rx<;>first |exact .inl ⟨rfl,by simpa using hQ _ S _ H .refl (.bl _) hS h⟩ |exact h.elim
 |bl b=>
  cases rx with
  |bl a=>exact .inr ⟨a,b,rfl,rfl,hQ _ S _ H .refl (.bl _) hS h⟩
  |_=>exact h.elim
 |_=>cases rx<;>exact h.elim
theorem zoR{K:PySem.W.Frag}:OpW K (fun x y H Q=>(y= .non∧Q (.bl (!decide (x= .non))) H)∨ ∃a b,x= .bl a∧y= .bl b∧Q (.bl (a != b)) H) (oIs true):=fun H x y wx wy S Q QW rx ry hS h hQ=>by
 cases ry with
 |non=>cases rx<;>first |exact .inl ⟨rfl,by simpa using hQ _ S _ H .refl (.bl _) hS h⟩ |exact h.elim
 |bl b=>
  cases rx with
  |bl a=>exact .inr ⟨a,b,rfl,rfl,hQ _ S _ H .refl (.bl _) hS h⟩
  |_=>exact h.elim
 |_=>cases rx<;>exact h.elim
theorem zzV (ha:JE X a ta) (hb:JE X b tb):JE X (.Compare a [.Is] [b] pos) (wOp (oIs false) ta tb):=zqy ztj ztt ha hb (nomark b)
theorem zpA (ha:JE X a ta) (hb:JE X b tb):JT X (.Compare a [.Is] [b] pos) (wTb (wOp (oIs false) ta tb)):=zfL ztj ztt ha hb (nomark b)
theorem zdZ (ha:JE X a ta) (hb:JE X b tb):JT X (.Compare a [.IsNot] [b] pos) (wTb (wOp (oIs true) ta tb)):=zfL zpK zoR ha hb (nomark b)
end
noncomputable def inF (S:Sto) (x:W):List W→Option Bool
 | []=>some false
 |w::ws=>match eqF S 59 w x with
  |some a=>match inF S x ws with
   |some b=>some (a || b)
   |none=>none
  |none=>none
section
variable {X:Cx}{pins:List (Addr×Obj)}{σ:St}{H:Hp}{s:Shared}{S:Sto}
theorem zlw (I:Inv X pins σ H s) (hS:RepS X.K H S):∀(n:Nat) {w w' u:W}{v:V}{b b':Bool},Rep X.K H w v→Rep X.K H w' v→eqF S n w u=some b→eqF S n w' u=some b'→b=b'
 |0,_,_,_,_,_,_,_,_,h,_=>by cases h
 |n+1,w,w',u,v,b,b',r,r',h,h'=>by
  have list:∀{us ws zs:List W}{vs:List V}{b b':Bool},Reps X.K H ws vs→Reps X.K H zs vs→zgc (eqF S n) ws us=some b→zgc (eqF S n) zs us=some b'→b=b':=by
   intro us
   induction us with
   |nil=>
    intro ws zs vs b b' r1 r2 e1 e2;cases r1 with
    |nil=>cases r2;rw [e1]at e2;exact Option.some.inj e2
    |cons _ _=>cases r2 with
     |cons _ _=>have:=Option.some.inj e1;have:=Option.some.inj e2;subst_vars;rfl
   |cons u us ih=>
    intro ws zs vs b b' r1 r2 e1 e2;cases r1 with
    |nil=>cases r2;rw [e1]at e2;exact Option.some.inj e2
    |cons a1 a2=>
     cases r2 with
     |cons c1 c2=>
      unfold zgc at e1 e2;split at e1
      ·rename_i p q f1 f2;split at e2
       ·rename_i p' q' g1 g2;have h1:=zlw I hS n a1 c1 f1 g1;have h2:=ih a2 c2 f2 g2;rw [←Option.some.inj e1,←Option.some.inj e2,h1,h2]
       ·cases e2
      ·cases e1
  have nolist:∀{a:Addr}{vs:List V}{ws:List W},H a=some (.tup vs)→S a=some (.lst ws)→False:=fun f e=>by
   obtain⟨_,g,_⟩:=hS _ _ e;rw [f]at g;cases g
  cases r with
  |non=>cases r';rw [h]at h';exact Option.some.inj h'
  |bl k=>cases r';rw [h]at h';exact Option.some.inj h'
  |int k=>cases r';rw [h]at h';exact Option.some.inj h'
  |str k=>cases r';rw [h]at h';exact Option.some.inj h'
  |scr f=>cases u<;>cases h
  | @tup a vs ws f hs=>
   cases r' with
   | @tup _ us zs g ks=>
    rw [f]at g;cases g;cases u with
    |tup us=>exact list hs ks h h'
    |int _=>have:=Option.some.inj h;have:=Option.some.inj h';subst_vars;rfl
    |_=>cases h
   |scr _=>cases u<;>cases h'
   |ref _=>
    exfalso;cases u with
    |ref c=>
     have h2:(match S a with
      |some (.lst xs)=>match S c with
       |some (.lst ys)=>zgc (eqF S n) xs ys
       |_=>none
      |_=>none)=some b':=h'
     split at h2
     ·exact nolist f ‹_›
     ·cases h2
    |_=>cases h'
  |ref a=>
   cases r' with
   |ref _=>rw [h]at h';exact Option.some.inj h'
   |scr _=>cases u<;>cases h'
   |tup f hs=>
    exfalso;cases u with
    |ref c=>
     have h2:(match S a with
      |some (.lst xs)=>match S c with
       |some (.lst ys)=>zgc (eqF S n) xs ys
       |_=>none
      |_=>none)=some b:=h
     split at h2
     ·exact nolist f ‹_›
     ·cases h2
    |_=>cases h
open Classical in
theorem zsU (I:Inv X pins σ H s) (hS:RepS X.K H S) {A:Around}{ws:List W}{vs:List V}{us:List Value}{wx:W}{x:V}{u:Value}{b:Bool}(hu:A.units+60<cLine) (r:Reps X.K H ws vs) (rv:Vals vs us) (rx:Rep X.K H wx x) (ru:RelV x u) (h:inF S wx ws=some b) :
  ∃e:Value→Bool,(∀y,y∈us.toArray→SeqAt.EqAt A.in1 s y u (e y))∧us.toArray.any e=b:=by
 refine⟨fun y=>decide (∃w v,Rep X.K H w v∧RelV v y∧eqF S 59 w wx=some true),?_,?_⟩
 ·have go:∀{ws:List W}{vs:List V}{us:List Value}{b:Bool},Reps X.K H ws vs→Vals vs us→inF S wx ws=some b→ ∀y∈us,SeqAt.EqAt A.in1 s y u (decide (∃w v,Rep X.K H w v∧RelV v y∧eqF S 59 w wx=some true)):=by
   intro ws
   induction ws with
   |nil=>intro vs us b r rv h y hy;cases r;cases rv;cases hy
   |cons w ws ih=>
    intro vs us b r rv h y hy;cases r with
    |cons r1 r2=>
     cases rv with
     |cons q1 q2=>
      unfold inF at h;split at h
      ·rename_i c e1;split at h
       ·rename_i d e2;rcases List.mem_cons.mp hy with rfl |hy
        ·have ok:=(znA I hS 59 (A:=A.in1) (by rw [zkw];omega) r1 rx q1 ru e1).1;have ec:c=decide (∃w v,Rep X.K H w v∧RelV v y∧eqF S 59 w wx=some true):=by
          cases c with
          |true=>exact(decide_eq_true ⟨w,_,r1,q1,e1⟩).symm
          |false=>
           symm;refine decide_eq_false fun⟨w',v',r',q',e'⟩=>?_;have:=RelV.inj q' q1;subst this;exact absurd (zlw I hS 59 r1 r' e1 e') (by simp)
         rw [←ec];exact ok
        ·exact ih r2 q2 e2 y hy
       ·cases h
      ·cases h
  intro y hy;exact go r rv h y (by simpa using hy)
 ·have go:∀{ws:List W}{vs:List V}{us:List Value}{b:Bool},Reps X.K H ws vs→Vals vs us→inF S wx ws=some b→us.any (fun y=>decide (∃w v,Rep X.K H w v∧RelV v y∧eqF S 59 w wx=some true))=b:=by
   intro ws
   induction ws with
   |nil=>intro vs us b r rv h;cases r;cases rv;exact Option.some.inj h
   |cons w ws ih=>
    intro vs us b r rv h;cases r with
    |cons r1 r2=>
     cases rv with
     | @cons _ _ _ _ q1 q2=>
      rename_i y _;unfold inF at h;split at h
      ·rename_i c e1;split at h
       ·rename_i d e2;have ec:decide (∃w v,Rep X.K H w v∧RelV v y∧eqF S 59 w wx=some true)=c:=by
          cases c with
          |true=>exact decide_eq_true ⟨w,_,r1,q1,e1⟩
          |false=>
           refine decide_eq_false fun⟨w',v',r',q',e'⟩=>?_;have:=RelV.inj q' q1;subst this;exact absurd (zlw I hS 59 r1 r' e1 e') (by simp)
        rw [List.any_cons,ih r2 q2 e2,ec];exact Option.some.inj h
       ·cases h
      ·cases h
  have:=go r rv h;simpa using this
end
noncomputable def oIn (neg:Bool):W2:=fun x y S Q=>match y with
 | .str j=>match x with
  | .str i=>Q (.bl (if neg then !(!(Builtin.Str.occurrences j i 0 j.length 1).isEmpty) else !(Builtin.Str.occurrences j i 0 j.length 1).isEmpty)) S
  |_=>False
 | .tup ws=>match inF S x ws with
  |some b=>Q (.bl (if neg then !b else b)) S
  |none=>False
 | .ref a=>zcp S a fun ws=>match inF S x ws with
  |some b=>Q (.bl (if neg then !b else b)) S
  |none=>False
 |_=>False
noncomputable def zAe (K:PySem.W.Frag) (neg:Bool):R2:=fun x y H Q=>∃wx ws vs S p b,y= .ref p∧(SqL K H p vs∨SqT K H p vs)∧Reps K H ws vs∧Rep K H wx x∧RepS K H S∧inF S wx ws=some b∧Q (.bl (if neg then !b else b)) H
section
variable {X:Cx}{a b:Expr}{pos:Pos}{ta tb:WE}
theorem zpN (hu:X.A.units+60<cLine):OpR X (compareOp .NotIn) (zAe X.K true):=by
 intro pins s σ H x y v u Q I rx ry h;obtain⟨wx,ws,vs,S,p,b,rfl,hq,rs,r,hS,e,q⟩:=h;cases ry;rcases hq with hq |hq
 ·obtain⟨its,rv,p,_⟩:=I.list hq;obtain⟨f,h1,h2⟩:=zsU I hS hu rs rv r rx e;exact SeqAt.notIn_listAt f p.isList h1 (by rw [h2];exact⟨.bl (!b),H,I,rfl,q⟩)
 ·obtain⟨its,rv,p,_⟩:=I.tuple hq;obtain⟨f,h1,h2⟩:=zsU I hS hu rs rv r rx e;exact SeqAt.notIn_tupleAt f p h1 (by rw [h2];exact⟨.bl (!b),H,I,rfl,q⟩)
theorem zoB{K:PySem.W.Frag}{neg:Bool}{H:Hp}{x y:V}{wx wy:W}{S:Sto}{Q:VK}{QW:WK}(rx:Rep K H wx x) (ry:Rep K H wy y) (hS:RepS K H S) (h:oIn neg wx wy S QW) (hQ:Wish K H S QW Q) :
  (∃i j,x= .str i∧y= .str j∧Q (.bl (if neg then !(!(Builtin.Str.occurrences j i 0 j.length 1).isEmpty) else !(Builtin.Str.occurrences j i 0 j.length 1).isEmpty)) H)∨zAe K neg x y H Q:=by
 cases ry with
 |str j=>
  cases rx with
  |str i=>exact .inl ⟨i,j,rfl,rfl,hQ _ S _ H .refl (.bl _) hS h⟩
  |_=>exact h.elim
 |tup f hs=>
  refine .inr ?_;unfold oIn at h;dsimp only at h;split at h
  ·exact⟨wx,_,_,S,_,_,rfl, .inr (.of f),hs,rx,hS, ‹_›,hQ _ S _ H .refl (.bl _) hS h⟩
  ·exact h.elim
 |ref a=>
  refine .inr ?_;obtain⟨ws,e,h⟩:=zbh h;obtain⟨vs,f,hs⟩:=hS a _ e;split at h
  ·exact⟨wx,_,_,S,_,_,rfl, .inl (.of f),hs,rx,hS, ‹_›,hQ _ S _ H .refl (.bl _) hS h⟩
  ·exact h.elim
 |_=>exact h.elim
theorem zrP{k:Nat}(hr:Room k X.A) (ha:JE X a ta) (hb:JE X b tb) (hm:behindInMarks .NotIn b=false:=by with_unfolding_all rfl):JT X (.Compare a [.NotIn] [b] pos) (wTb (wOp (oIn true) ta tb)):=
 zfL (op_notin_str.or (zpN (by have:=hr.units;omega))) (fun H x y wx wy S Q QW rx ry hS h hQ=>zoB rx ry hS h hQ) ha hb hm
end
noncomputable def oIx:W2:=fun x y S Q=>match y with
 | .int i=>match x with
  | .tup ws=>match atI ws i with
   |some w=>Q w S
   |none=>False
  | .ref a=>zcp S a fun ws=>match atI ws i with
   |some w=>Q w S
   |none=>False
  | .scr ns=>match atI ns i with
   |some n=>Q (.int n) S
   |none=>False
  | .str x=>x.length≤sizeLine∧match atI x.cps.toList i with
   |some c=>Q (.str ⟨#[c]⟩) S
   |none=>False
  |_=>False
 |_=>False
theorem zmj{K:PySem.W.Frag}{H:Hp}{ws:List W}{vs:List V}{i:Int}{w:W}(r:Reps K H ws vs) (e:atI ws i=some w):∃v,atI vs i=some v∧Rep K H w v:=by
 unfold atI at e⊢;rw [←r.length];cases q:ixN ws.length i with
 |none=>rw [q]at e;cases e
 |some j=>rw [q]at e;exact r.get e
theorem ztL{α β:Type}{f:α→β}{xs:List α}{i:Int}{x:α}(e:atI xs i=some x):atI (xs.map f) i=some (f x):=by
 unfold atI at e⊢;rw [List.length_map];cases q:ixN xs.length i with
 |none=>rw [q]at e;cases e
 |some j=>
  rw [q]at e;show(xs.map f)[j]? =_;rw [List.getElem?_map,show xs[j]? =some x from e];rfl
theorem zwP{K:PySem.W.Frag}:OpW K (rIx K) oIx:=fun H x y wx wy S Q QW rx ry hS h hQ=>by
 cases ry with
 |int i=>
  cases rx with
  |tup f hs=>
   unfold oIx at h;dsimp only at h;split at h
   ·obtain⟨v,ev,r⟩:=zmj hs ‹_›;exact .inr (.inl ⟨_,_,i,v,rfl,rfl, .of f,ev,hQ _ S _ H .refl r hS h⟩)
   ·exact h.elim
  |ref a=>
   obtain⟨ws,e,h⟩:=zbh h;obtain⟨vs,f,hs⟩:=hS a _ e;split at h
   ·obtain⟨v,ev,r⟩:=zmj hs ‹_›;exact .inl ⟨_,_,i,v,rfl,rfl, .of f,ev,hQ _ S _ H .refl r hS h⟩
   ·exact h.elim
  |scr f=>
   unfold oIx at h;dsimp only at h;split at h
   ·exact .inl ⟨_,_,i,_,rfl,rfl,f.sq,ztL ‹_›,hQ _ S _ H .refl (.int _) hS h⟩
   ·exact h.elim
  |str z=>
   unfold oIx at h;dsimp only at h;obtain⟨hz,h⟩:=h;split at h
   ·exact .inr (.inr ⟨z,i,_,rfl,rfl,hz, ‹_›,hQ _ S _ H .refl (.str _) hS h⟩)
   ·exact h.elim
  |_=>exact h.elim
 |_=>exact h.elim
section
variable {X:Cx}{a b e:Expr}{pos p2:Pos}{ta tb te:WE}{lo hi:Option Expr}
theorem zat (ha:JE X a ta) (hb:JE X b tb) (hs:zlE b:=by intro _ _;rfl):JE X (.Subscript a b pos) (wOp oIx ta tb):=fun E hE=>
 (zxE zta (ha E hE) (hb E hE) hs).mono fun σ H Q h=>zgR h fun H2 x y wx wy S QW rx ry hS q hQ=>zwP H2 x y wx wy S Q QW rx ry hS q hQ
noncomputable abbrev WO:=WX→WSt→Sto→(Option Int→Sto→Prop)→Prop
noncomputable def zzc (K:PySem.W.Frag) (t:WSt→Sto→(Option Int→Sto→Prop)→Prop):TO:=fun σ H Q=>∃σW S QW,RpSt K H σW σ∧RepS K H S∧t σW S QW∧ ∀b S' H',Ext H S H' S'→RepS K H' S'→QW b S'→Q b H'
noncomputable def JO (X:Cx) (e:Option Expr) (t:WO):Prop:=∀E,Hook X E→PO X e (zzc X.K (t E))
noncomputable def woN:WO:=fun _ _ S Q=>Q none S
noncomputable def woS (t:WE):WO:=fun E σ S Q=>t E σ S fun w S1=>match w with
 | .int i=>Q (some i) S1
 |_=>False
theorem PO.mono{X:Cx}{e:Option Expr}{t t':TO}(h:PO X e t) (q:∀σ H Q,t' σ H Q→t σ H Q):PO X e t':=fun pins s σ H Q I z=>h pins s σ H Q I (q σ H Q z)
theorem zaU:JO X none woN:=fun E hE=>po_none.mono fun σ H Q ⟨σW,S,QW,hσ,hS,ht,hQ⟩=>hQ none S H .refl hS ht
theorem zaF (h:JE X e te):JO X (some e) (woS te):=fun E hE=>(ztB (h E hE)).mono fun σ H Q ⟨σW,S,QW,hσ,hS,ht,hQ⟩=>⟨σW,S,_,hσ,hS,ht,fun w S1 v H1 e1 r1 hS1 h1=>by
 cases r1 with
 |int i=>exact⟨i,rfl,hQ _ S1 H1 e1 hS1 h1⟩
 |_=>exact h1.elim⟩
noncomputable def zdN {α:Type}(xs:List α) (lo hi:Option Int):List α:=(xs.drop (HT.sIx xs.length 0 lo)).take (HT.sIx xs.length xs.length hi - HT.sIx xs.length 0 lo)
theorem zjv{K:PySem.W.Frag}{H:Hp}{ws:List W}{vs:List V}{lo hi:Option Int}(r:Reps K H ws vs):Reps K H (zdN ws lo hi) (zqS vs lo hi):=by
 unfold zdN zqS;rw [r.length];exact(r.drop _).take _
theorem znS{α β:Type}{f:α→β}{xs:List α}{lo hi:Option Int}:zdN (xs.map f) lo hi=(zdN xs lo hi).map f:=by
 unfold zdN;rw [List.length_map,List.map_take,List.map_drop]
theorem zfd{prog:Program}{w:World}{A:Around}{E:Value→Shared→Prop}{s:Shared}{t sl:Addr}{items:Array Value}{vl vu:Value}{lo hi:Option Int}{Q:Value→Shared→Prop}(ht:IsTup s.heap t items) (hs:s.heap.IsSliceOf sl vl vu .none) (pl:IsPart vl lo) (pu:IsPart vu hi)
  (hw:HT.sIx items.size 0 lo=0∧HT.sIx items.size items.size hi=items.size) (h:Q (.ref t) s):wpAny (model prog w) A (getItem (.ref t) (.ref sl)) Q E s:=by
 obtain⟨os,hos,hcs,hds⟩:=id hs;have hTs:s.TypeIs (.ref sl) "slice" :=⟨os,hos,hcs⟩;unfold getItem
 try with_reducible refine wpAny_holding ?_
 first |refine wpAny_bind (wpAny_pure ?_) |skip
 refine wpAny_bind (wpAny_sequenceKey ht.typeIs (by decide) ?_);refine wpAny_bind (wpAny_callSpecial?_slot (name:=Str.ofString "__getitem__") ht.typeIs PyProof.Rows.slot_tuple_getitem
  (wpAny_call_entry PyProof.Rows.slot_tuple_getitem ht.typeIs entry_tuple_getitem ?_ (args_tuple_getitem _ _)))
 show wpAny _ _ (Builtin.Tuple.tupleItemsOf (.ref t) >>= _) _ _ s;refine wpAny_bind (tupleItemsOf_ ht ?_);refine wpAny_bind (wpAny_typeOf hTs ?_);rw [if_pos (by decide)];refine wpAny_bind (HT.sliceApplied_gen hs pl pu ?_);show wpAny _ _ (if(((HT.sIx items.size 0 lo:Nat):Int) == 0&&(1:Int) == 1&&(HT.sIx items.size items.size hi - HT.sIx items.size 0 lo) == items.size)=true then _ else _) _ _ s;rw [hw.1,hw.2,if_pos (by simp)];unfold Builtin.Tuple.tupleIsExact;refine wpAny_bind (wpAny_bind (wpAny_typeOf ht.typeIs (wpAny_pure ?_)));rw [if_pos (by decide)];exact wpAny_bind (wpAny_rule (wpAny_pure ⟨_,rfl,wpAny_pure h⟩))
theorem sl_tupW:SlR X (fun x lo hi H Q=>∃a xs,x= .ref a∧SqT X.K H a xs∧((HT.sIx xs.length 0 lo=0∧HT.sIx xs.length xs.length hi=xs.length)∧Q (.ref a) H∨ ¬(HT.sIx xs.length 0 lo=0∧HT.sIx xs.length xs.length hi=xs.length)∧ ∀p,H p=none→Q (.ref p) (upd H p (.tup (zqS xs lo hi))))):=by
 intro pins s σ H x v vl vu lo hi sl Q I rx hs pl pu h;obtain⟨a,xs,rfl,hx,⟨hw,q⟩ |⟨hw,q⟩⟩:=h
 ·cases rx;obtain⟨its,r,ht,hz⟩:=I.tuple hx;have hlen:its.toArray.size=xs.length:=by rw [List.size_toArray];exact r.length.symm
  refine⟨"tuple",_,PyProof.Rows.slot_tuple_getitem.lookup,ht.typeIs,?_⟩;exact zfd ht hs pl pu (by rw [hlen];exact hw) ⟨.ref a,H,I,rfl,q⟩
 ·exact zxn pins s σ H _ v vl vu lo hi sl Q I rx hs pl pu ⟨a,xs,rfl,hx,hw,q⟩
noncomputable def oSl:W→Option Int→Option Int→Sto→WK→Prop
 | .tup ws,lo,hi,S,Q=>Q (.tup (zdN ws lo hi)) S
 | .str z,lo,hi,S,Q=>z.length≤sizeLine∧Q (.str (Txt.slice z lo hi)) S
 | .ref a,lo,hi,S,Q=>zcp S a fun ws=>∀p,S p=none→Q (.ref p) (put S p (.lst (zdN ws lo hi)))
 | .scr ns,lo,hi,S,Q=>∀p,S p=none→Q (.ref p) (put S p (.lst ((zdN ns lo hi).map W.int)))
 |_,_,_,_,_=>False
noncomputable def wSl (t:WE) (l h:WO):WE:=fun E σ S Q=>t E σ S fun x S1=>l E σ S1 fun lo S2=>h E σ S2 fun hi S3=>oSl x lo hi S3 Q
theorem zoh{α:Type}{xs:List α}{lo hi:Option Int}(h:HT.sIx xs.length 0 lo=0∧HT.sIx xs.length xs.length hi=xs.length):zdN xs lo hi=xs:=by
 unfold zdN;rw [h.1,h.2,List.drop_zero,Nat.sub_zero,List.take_length]
theorem zdm{tl th:WO}(he:JE X e te) (hl:JO X lo tl) (hh:JO X hi th):JE X (.Subscript e (.Slice lo hi none p2) pos) (wSl te tl th):=fun E hE=>
 (zmu (sl_tupW.or (sl_str.or zpe)) (he E hE) (hl E hE) (hh E hE)).mono fun σ H Q ⟨σW,S,QW,hσ,hS,ht,hQ⟩=>
  ⟨σW,S,_,hσ,hS,ht,fun w S1 v H1 e1 r1 hS1 h1=>⟨σW,S1,_,hσ.ext e1,hS1,h1,fun lo S2 H2 e2 hS2 h2=>⟨σW,S2,_,(hσ.ext e1).ext e2,hS2,h2,fun hi S3 H3 e3 hS3 h3=>by
   have hQ':=hQ.from (e1.trans (e2.trans e3));have r3:=(r1.ext e2).ext e3;cases r3 with
   | @tup a vs ws f hs=>
    refine .inl ⟨a,vs,rfl, .of f,?_⟩;by_cases hw:HT.sIx vs.length 0 lo=0∧HT.sIx vs.length vs.length hi=vs.length
    ·refine .inl ⟨hw,hQ' (.tup ws) S3 _ H3 .refl (.tup f hs) hS3 ?_⟩;have:=zoh (xs:=ws) (lo:=lo) (hi:=hi) (by rw [hs.length];exact hw);have h3':QW (.tup (zdN ws lo hi)) S3:=h3;rw [this]at h3';exact h3'
    ·exact .inr ⟨hw,fun p hp=>hQ' _ S3 _ _ (.new hp) (.tup zaz ((zjv hs).ext (.new (S:=S3) hp))) (hS3.new hp) h3⟩
   |str z=>exact .inr (.inl ⟨z,rfl,h3.1,hQ' _ S3 _ H3 .refl (.str _) hS3 h3.2⟩)
   |ref a=>
    obtain⟨ws,ea,h⟩:=zbh h3;obtain⟨vs,f,hs⟩:=hS3 a _ ea;exact .inr (.inr ⟨a,vs,rfl, .of f,fun p hp=>hQ' _ _ _ _ (.newS hp) (.ref p) (hS3.put_lst hp ((zjv hs).ext (.new (S:=S3) hp))) (h p (hS3.free hp))⟩)
   | @scr a ns f=>
    refine .inr (.inr ⟨a,_,rfl,f.sq,fun p hp=>hQ' _ _ _ _ (.newS hp) (.ref p) (hS3.put_lst hp ?_) (h3 p (hS3.free hp))⟩);have q:zqS (ns.map V.int) lo hi=(zdN ns lo hi).map V.int:=znS;rw [q];exact Reps.ofInts _
   |_=>exact h3.elim⟩⟩⟩
noncomputable def zvC (t:WE) (l h:WO):WL:=fun E σ S Q=>t E σ S fun x S1=>l E σ S1 fun lo S2=>h E σ S2 fun hi S3=>match x with
 | .ref a=>zcp S3 a fun ws=>Q (zdN ws lo hi) S3
 | .scr ns=>Q ((zdN ns lo hi).map W.int) S3
 |_=>False
theorem zui{tl th:WO}(he:JE X e te) (hl:JO X lo tl) (hh:JO X hi th):JL X (.Subscript e (.Slice lo hi none p2) pos) (zvC te tl th):=fun E hE=>
 (zmu zpe (he E hE) (hl E hE) (hh E hE)).mono fun σ H Q ⟨σW,S,QW,hσ,hS,ht,hQ⟩=>
  ⟨σW,S,_,hσ,hS,ht,fun w S1 v H1 e1 r1 hS1 h1=>⟨σW,S1,_,hσ.ext e1,hS1,h1,fun lo S2 H2 e2 hS2 h2=>⟨σW,S2,_,(hσ.ext e1).ext e2,hS2,h2,fun hi S3 H3 e3 hS3 h3=>by
   have e':=e1.trans (e2.trans e3);have r3:=(r1.ext e2).ext e3;cases r3 with
   |ref a=>
    obtain⟨ws,ea,h⟩:=zbh h3;obtain⟨vs,f,hs⟩:=hS3 a _ ea;exact⟨a,vs,rfl, .of f,fun p hp=>hQ _ S3 _ p _ (e'.trans (.new hp)) (e'.free hp) zaz (hS3.free hp) ((zjv hs).ext (.new (S:=S3) hp)) (hS3.new hp) h⟩
   | @scr a ns f=>
    refine⟨a,_,rfl,f.sq,fun p hp=>hQ _ S3 _ p _ (e'.trans (.new hp)) (e'.free hp) zaz (hS3.free hp) ?_ (hS3.new hp) h3⟩;have q:zqS (ns.map V.int) lo hi=(zdN ns lo hi).map V.int:=znS;rw [q];exact Reps.ofInts _
   |_=>exact h3.elim⟩⟩⟩
end
noncomputable abbrev WF:=List W→Sto→WK→Prop
noncomputable def wB (f:WF) (t:WA):WE:=fun E σ S Q=>t E σ S fun ws S1=>f ws S1 Q
noncomputable def zmm (K:PySem.W.Frag) (r:List V→Hp→VK→Prop) (f:WF):Prop:=∀H vs ws S (Q:VK) (QW:WK),Reps K H ws vs→RepS K H S→f ws S QW→Wish K H S QW Q→r vs H Q
noncomputable def wBL (f:WF) (t:WL):WE:=fun E σ S Q=>t E σ S fun ws S1=>f ws S1 Q
noncomputable def znY (K:PySem.W.Frag) (r:List V→Hp→VK→Prop) (f:WF):Prop:=∀H a vs ws S (Q:VK) (QW:WK),H a=some (.lst vs)→S a=none→Reps K H ws vs→RepS K H S→f ws S QW→Wish K H S QW Q→r [.ref a] H Q
section
variable {X:Cx}{x:Str}{p pos:Pos}{e:Expr}{es:List Expr}{t:WA}{tl:WL}{id T:String}{r:List V→Hp→VK→Prop}{f:WF}
theorem ztd (hc:CallR X (.builtin id) r) (hw:zmm X.K r f) (hg:Gl X x) (hm:X.mg x=none) (hv:bootBuiltins x=some (.builtin id)) (ha:JA X (e::es) t) (hn:x≠ "__name__" :=by decide) (hdb:(x == ("__debug__" :Str))=false:=by decide)
  (he:starEach (e::es) X.env=(false,eval e X.env)::starEach es X.env:=by rfl) (hpl:(backTo pos (starEach es X.env)).any (·.1)=false:=by rfl):JE X (.Call (.Name x p) (e::es) [] pos) (wB f t):=fun E hE=>
 (ziP hc hg hm hv (ha E hE) hn hdb he hpl).mono fun σ H Q ⟨σW,S,QW,hσ,hS,ht,hQ⟩=>⟨σW,S,_,hσ,hS,ht,fun ws S1 vs H1 e1 r1 hS1 h1=>hw H1 vs ws S1 Q QW r1 hS1 h1 (hQ.from e1)⟩
theorem zxe (hc:CallR X (.type T) r) (hw:zmm X.K r f) (hg:Gl X x) (hm:X.mg x=none) (hv:bootBuiltins x=some (.type T)) (ha:JA X (e::es) t) (hn:x≠ "__name__" :=by decide) (hdb:(x == ("__debug__" :Str))=false:=by decide)
  (he:starEach (e::es) X.env=(false,eval e X.env)::starEach es X.env:=by rfl) (hpl:(backTo pos (starEach es X.env)).any (·.1)=false:=by rfl):JE X (.Call (.Name x p) (e::es) [] pos) (wB f t):=fun E hE=>
 (zhT hc hg hm hv (ha E hE) hn hdb he hpl).mono fun σ H Q ⟨σW,S,QW,hσ,hS,ht,hQ⟩=>⟨σW,S,_,hσ,hS,ht,fun ws S1 vs H1 e1 r1 hS1 h1=>hw H1 vs ws S1 Q QW r1 hS1 h1 (hQ.from e1)⟩
theorem zqg (hc:CallR X (.builtin id) r) (hw:znY X.K r f) (hg:Gl X x) (hm:X.mg x=none) (hv:bootBuiltins x=some (.builtin id)) (ha:JL X e tl) (hn:x≠ "__name__" :=by decide) (hdb:(x == ("__debug__" :Str))=false:=by decide)
  (he:starEach [e] X.env=(false,eval e X.env)::starEach [] X.env:=by rfl) (hpl:(backTo pos (starEach [] X.env)).any (·.1)=false:=by rfl):JE X (.Call (.Name x p) [e] [] pos) (wBL f tl):=fun E hE=>
 (ziP hc hg hm hv (zdG (ha E hE) pa_nil he) hn hdb he hpl).mono fun σ H Q ⟨σW,S,QW,hσ,hS,ht,hQ⟩=>⟨σW,S,_,hσ,hS,ht,fun ws S1 vs a H1 e1 fa ea na r1 hS1 h1=>hw H1 a vs ws S1 Q QW ea na r1 hS1 h1 (hQ.from e1)⟩
theorem zsQ (hc:CallR X (.type T) r) (hw:znY X.K r f) (hg:Gl X x) (hm:X.mg x=none) (hv:bootBuiltins x=some (.type T)) (ha:JL X e tl) (hn:x≠ "__name__" :=by decide) (hdb:(x == ("__debug__" :Str))=false:=by decide)
  (he:starEach [e] X.env=(false,eval e X.env)::starEach [] X.env:=by rfl) (hpl:(backTo pos (starEach [] X.env)).any (·.1)=false:=by rfl):JE X (.Call (.Name x p) [e] [] pos) (wBL f tl):=fun E hE=>
 (zhT hc hg hm hv (zdG (ha E hE) pa_nil he) hn hdb he hpl).mono fun σ H Q ⟨σW,S,QW,hσ,hS,ht,hQ⟩=>⟨σW,S,_,hσ,hS,ht,fun ws S1 vs a H1 e1 fa ea na r1 hS1 h1=>hw H1 a vs ws S1 Q QW ea na r1 hS1 h1 (hQ.from e1)⟩
noncomputable def zgh:WF:=fun ws S Q=>match ws with
 | [.tup us]=>Q (.int us.length) S
 | [.ref a]=>zcp S a fun us=>Q (.int us.length) S
 | [.scr ns]=>Q (.int ns.length) S
 | [.str z]=>z.length≤sizeLine∧Q (.int z.length) S
 |_=>False
theorem zpd{K:PySem.W.Frag}:zmm K (fun xs H Q=>(∃p ys,xs=[.ref p]∧(SqL K H p ys∨SqT K H p ys)∧Q (.int ys.length) H)∨ ∃z,xs=[.str z]∧z.length≤sizeLine∧Q (.int z.length) H) zgh:=fun H vs ws S Q QW r hS h hQ=>by
 cases r with
 |nil=>exact h.elim
 |cons r1 r2=>
  cases r2 with
  |cons _ _=>cases r1<;>exact h.elim
  |nil=>
   cases r1 with
   |tup f hs=>exact .inl ⟨_,_,rfl, .inr (.of f),by rw [←hs.length];exact hQ _ S _ H .refl (.int _) hS h⟩
   |ref a=>
    obtain⟨us,e,h⟩:=zbh h;obtain⟨vs,f,hs⟩:=hS a _ e;exact .inl ⟨_,_,rfl, .inl (.of f),by rw [←hs.length];exact hQ _ S _ H .refl (.int _) hS h⟩
   |scr f=>exact .inl ⟨_,_,rfl, .inl f.sq,by rw [List.length_map];exact hQ _ S _ H .refl (.int _) hS h⟩
   |str z=>exact .inr ⟨z,rfl,h.1,hQ _ S _ H .refl (.int _) hS h.2⟩
   |_=>exact h.elim
theorem zcq (hg:Gl X "len") (hm:X.mg "len" =none) (ha:JA X (e::es) t) 
  (he:starEach (e::es) X.env=(false,eval e X.env)::starEach es X.env:=by rfl) (hpl:(backTo pos (starEach es X.env)).any (·.1)=false:=by rfl):JE X (.Call (.Name "len" p) (e::es) [] pos) (wB zgh t):=
 ztd (call_len_seq.or zlf) zpd hg hm PySem.boot_len ha (by decide) (by decide) he hpl
noncomputable def zdM:WF:=fun ws S Q=>match ws with
 | [.tup us]=>Q (.tup us) S
 | [.ref a]=>zcp S a fun us=>Q (.tup us) S
 |_=>False
theorem zlZ{K:PySem.W.Frag}:zmm K (fun xs H Q=>∃p ys,xs=[.ref p]∧((SqL K H p ys∧ ∀l,H l=none→Q (.ref l) (upd H l (.tup ys)))∨(SqT K H p ys∧Q (.ref p) H))) zdM:=fun H vs ws S Q QW r hS h hQ=>by
 cases r with
 |nil=>exact h.elim
 |cons r1 r2=>
  cases r2 with
  |cons _ _=>cases r1<;>exact h.elim
  |nil=>
   cases r1 with
   |tup f hs=>exact⟨_,_,rfl, .inr ⟨.of f,hQ _ S _ H .refl (.tup f hs) hS h⟩⟩
   |ref a=>
    obtain⟨us,e,h⟩:=zbh h;obtain⟨vs,f,hs⟩:=hS a _ e;exact⟨_,_,rfl, .inl ⟨.of f,fun l hl=>hQ _ S _ _ (.new hl) (.tup zaz (hs.ext (.new (S:=S) hl))) (hS.new hl) h⟩⟩
   |_=>exact h.elim
noncomputable def zhL:WF:=fun ws S Q=>Q (.tup ws) S
theorem zmb{K:PySem.W.Frag}:znY K (fun xs H Q=>∃p ys,xs=[.ref p]∧((SqL K H p ys∧ ∀l,H l=none→Q (.ref l) (upd H l (.tup ys)))∨(SqT K H p ys∧Q (.ref p) H))) zhL:=fun H a vs ws S Q QW ea na r hS h hQ=>
 ⟨a,vs,rfl, .inl ⟨.of ea,fun l hl=>hQ _ S _ _ (.new hl) (.tup zaz (r.ext (.new (S:=S) hl))) (hS.new hl) h⟩⟩
noncomputable def zlO (t:WE):WL:=fun E σ S Q=>t E σ S fun w S1=>match w with
 | .tup ws=>Q ws S1
 | .ref a=>zcp S1 a fun ws=>Q ws S1
 | .scr ns=>Q (ns.map W.int) S1
 |_=>False
theorem zux{te:WE}(hg:Gl X "list") (hm:X.mg "list" =none) (ha:JE X e te)
  (he:starEach [e] X.env=(false,eval e X.env)::starEach [] X.env:=by rfl) (hpl:(backTo pos (starEach [] X.env)).any (·.1)=false:=by rfl):JL X (.Call (.Name "list" p) [e] [] pos) (zlO te):=fun E hE=>
 (zhT zjF hg hm PyProof.Rows.boot_list (zdG (ha E hE) pa_nil he) (by decide) (by decide) he hpl).mono fun σ H Q ⟨σW,S,QW,hσ,hS,ht,hQ⟩=>⟨σW,S,_,hσ,hS,ht,fun w S1 v H1 e1 r1 hS1 h1=>by
  cases r1 with
  |tup f hs=>exact⟨_,_,rfl, .inr (.of f),fun l hl=>hQ _ S1 _ l _ (e1.trans (.new hl)) (e1.free hl) zaz (hS1.free hl) (hs.ext (.new (S:=S1) hl)) (hS1.new hl) h1⟩
  |ref a=>
   obtain⟨ws,ea,h⟩:=zbh h1;obtain⟨vs,f,hs⟩:=hS1 a _ ea;exact⟨_,_,rfl, .inl (.of f),fun l hl=>hQ _ S1 _ l _ (e1.trans (.new hl)) (e1.free hl) zaz (hS1.free hl) (hs.ext (.new (S:=S1) hl)) (hS1.new hl) h⟩
  |scr f=>exact⟨_,_,rfl, .inl f.sq,fun l hl=>hQ _ S1 _ l _ (e1.trans (.new hl)) (e1.free hl) zaz (hS1.free hl) (Reps.ofInts _) (hS1.new hl) h1⟩
  |_=>exact h1.elim⟩
noncomputable def zhb:List W→Option (List Bool)
 | []=>some []
 | .bl b::ws=>(zhb ws).map (b:: ·)
 |_=>none
theorem zpq{K:PySem.W.Frag}{H:Hp}:∀{ws:List W}{vs:List V}{bs:List Bool},Reps K H ws vs→zhb ws=some bs→vs=bs.map V.bl
 | [],_,_, .nil,e=>by have:=Option.some.inj e;subst this;rfl
 |w::ws,_,_, .cons r rs,e=>by
  cases r with
  |bl b=>
   have e':(zhb ws).map (b:: ·)=some _:=e;cases q:zhb ws with
   |none=>rw [q]at e';cases e'
   |some cs=>
    rw [q]at e';have:=Option.some.inj e';subst this;rw [List.map_cons,zpq rs q]
  |_=>cases e
noncomputable def zlV:WF:=fun ws S Q=>match zhb ws with
 |some bs=>Q (.bl (bs.all _root_.id)) S
 |none=>False
theorem zqn{K:PySem.W.Frag}:znY K (fun xs H Q=>∃(p:Addr) (bs:List Bool),xs=[.ref p]∧SqL K H p (bs.map V.bl)∧Q (.bl (bs.all _root_.id)) H) zlV:=fun H a vs ws S Q QW ea na r hS h hQ=>by
 unfold zlV at h;split at h
 ·rename_i bs e;have:=zpq r e;subst this;exact⟨a,bs,rfl, .of ea,hQ _ S _ H .refl (.bl _) hS h⟩
 ·exact h.elim
noncomputable def tyW:W→Sto→(String→Prop)→Prop
 | .non,_,Q=>Q "NoneType"
 | .bl _,_,Q=>Q "bool"
 | .int _,_,Q=>Q "int"
 | .str _,_,Q=>Q "str"
 | .tup _,_,Q=>Q "tuple"
 | .ref a,S,Q=>zcp S a fun _=>Q "list"
 | .scr _,_,_=>False
noncomputable def zcc (A B:String):Bool:=A == B || (A == "bool" &&B == "int")
noncomputable def ztz (T:String) (t:WE):WE:=fun E σ S Q=>t E σ S fun w S1=>tyW w S1 fun A=>Q (.bl (zcc A T)) S1
theorem ziv{a:Expr}{ta:WE}{p2:Pos}{T:Str}{T':String}(hg:Gl X "isinstance") (hm:X.mg "isinstance" =none) (hgT:Gl X T) (hmT:X.mg T=none) (hv:bootBuiltins T=some (.type T')) (ha:JE X a ta) (hn:T≠ "__name__") (hd:(T == ("__debug__" :Str))=false)
  (hk:∀A∈ ["NoneType", "bool", "int", "str", "tuple", "list"],PySem.W.kitOne X.K (.type A) (.type T')=some (zcc A T'))
  (he:starEach [a, .Name T p2] X.env=(false,eval a X.env)::starEach [.Name T p2] X.env:=by rfl) (he2:starEach [.Name T p2] X.env=(false,eval (.Name T p2) X.env)::starEach [] X.env:=by rfl) (hpl:(backTo pos (starEach [.Name T p2] X.env)).any (·.1)=false:=by rfl) :
  JE X (.Call (.Name "isinstance" p) [a, .Name T p2] [] pos) (ztz T' ta):=fun E hE=>
 (ziP zsg hg hm PyProof.Rows.boot_isinstance (zdG (ha E hE) (zdG (zvB (v:= .ty T') hgT hmT hv rfl hn hd) pa_nil he2) he) (by decide) (by decide) he hpl).mono fun σ H Q ⟨σW,S,QW,hσ,hS,ht,hQ⟩=>⟨σW,S,_,hσ,hS,ht,fun w S1 v H1 e1 r1 hS1 h1=>by
  have fin:∀{t:Value}(A:String),t= .type A→A∈ ["NoneType", "bool", "int", "str", "tuple", "list"]→TyOf X.K H1 v t→QW (.bl (zcc A T')) S1→ ∃x t c b,[v,V.ty T']=[x, .ty c]∧TyOf X.K H1 x t∧PySem.W.kitOne X.K t (.type c)=some b∧Q (.bl b) H1:=fun A e hA ty q=>by
   subst e;exact⟨v,_,T',_,rfl,ty,hk A hA,hQ _ S1 _ H1 e1 (.bl _) hS1 q⟩
  cases r1 with
  |non=>exact fin _ rfl (by simp) .non h1
  |bl b=>exact fin _ rfl (by simp) (.bl b) h1
  |int i=>exact fin _ rfl (by simp) (.int i) h1
  |str z=>exact fin _ rfl (by simp) (.str z) h1
  |tup f hs=>exact fin _ rfl (by simp) (.tup f) h1
  |ref a=>
   obtain⟨ws,ea,h⟩:=zbh h1;obtain⟨vs,f,hs⟩:=hS1 a _ ea;exact fin _ rfl (by simp) (.lst f) h
  |scr f=>exact h1.elim⟩
end
noncomputable abbrev WMf:=W→List W→Sto→WK→Prop
noncomputable def rvL:W→Sto→Prop
 | .ref a,S=>zcp S a fun _=>True
 |_,_=>False
noncomputable def rvS:W→Sto→Prop
 | .str _,_=>True
 |_,_=>False
noncomputable def wM (rv:W→Sto→Prop) (f:WMf) (to:WE) (t:WA):WE:=fun E σ S Q=>to E σ S fun w S1=>rv w S1∧t E σ S1 fun ws S2=>f w ws S2 Q
noncomputable def wML (rv:W→Sto→Prop) (f:WMf) (to:WE) (t:WL):WE:=fun E σ S Q=>to E σ S fun w S1=>rv w S1∧t E σ S1 fun ws S2=>f w ws S2 Q
noncomputable def MtW (K:PySem.W.Frag) (r:V→List V→Hp→VK→Prop) (f:WMf):Prop:=∀H x w vs ws S (Q:VK) (QW:WK),Rep K H w x→Reps K H ws vs→RepS K H S→f w ws S QW→Wish K H S QW Q→r x vs H Q
noncomputable def MtL (K:PySem.W.Frag) (r:V→List V→Hp→VK→Prop) (f:WMf):Prop:=∀H x w a vs ws S (Q:VK) (QW:WK),Rep K H w x→H a=some (.lst vs)→S a=none→Reps K H ws vs→RepS K H S→f w ws S QW→Wish K H S QW Q→r x [.ref a] H Q
noncomputable def zxs (K:PySem.W.Frag) (T:String) (rv:W→Sto→Prop):Prop:=∀H w v S,Rep K H w v→RepS K H S→rv w S→tyV K T v H
theorem ztf{K:PySem.W.Frag}:zxs K "list" rvL:=fun H w v S r hS h=>by
 cases r with
 |ref a=>
  obtain⟨ws,e,_⟩:=zbh h;obtain⟨vs,f,_⟩:=hS a _ e;exact .inl ⟨rfl,vs, .of f⟩
 |_=>exact h.elim
theorem ztn{K:PySem.W.Frag}:zxs K "str" rvS:=fun H w v S r hS h=>by
 cases r with
 |str x=>exact rfl
 |_=>exact h.elim
section
variable {X:Cx}{o e:Expr}{es:List Expr}{to:WE}{t:WA}{tl:WL}{name:Str}{apos cpos:Pos}{id T:String}{r:V→List V→Hp→VK→Prop}{f:WMf}{rv:W→Sto→Prop}
theorem zAh (pa:PlainAttrs T) (slot:Slot T name id) (hty:typeOf (.builtin id)=pure (.type "method_descriptor")) (hrv:zxs X.K T rv) (hm:MtR X id r) (hw:MtW X.K r f) (ho:JE X o to) (ha:JA X (e::es) t)
  (hbase:attributeBase o name X.env (eval o X.env)=eval o X.env:=by rfl)
  (hfew:((backTo cpos (starEach (e::es) X.env)).all (fun x=> !x.1)&&(backToKw cpos (keywordEach [] X.env)).all (fun x=>x.1.isSome)
   &&decide ((e::es).length+([]:List Keyword).length+(if([]:List Keyword).isEmpty then 0 else 1)<30))=true:=by rfl)
  (hline:(apos.endLine == cpos.line)=true:=by rfl) (hs:starEach (e::es) X.env=(false,eval e X.env)::starEach es X.env:=by rfl) (hplain:(backTo cpos (starEach es X.env)).any (·.1)=false:=by rfl) :
  JE X (.Call (.Attribute o name apos) (e::es) [] cpos) (wM rv f to t):=fun E hE=>
 (zxp pa slot hty hm (ho E hE) (ha E hE) hbase hfew hline hs hplain).mono fun σ H Q ⟨σW,S,QW,hσ,hS,ht,hQ⟩=>⟨σW,S,_,hσ,hS,ht,fun w S1 v H1 e1 r1 hS1 h1=>
  ⟨hrv H1 w v S1 r1 hS1 h1.1,σW,S1,_,hσ.ext e1,hS1,h1.2,fun ws S2 vs H2 e2 r2 hS2 h2=>hw H2 v w vs ws S2 Q QW (r1.ext e2) r2 hS2 h2 (hQ.from (e1.trans e2))⟩⟩
theorem zyR (pa:PlainAttrs T) (slot:Slot T name id) (hty:typeOf (.builtin id)=pure (.type "method_descriptor")) (hrv:zxs X.K T rv) (hm:MtR X id r) (hw:MtL X.K r f) (ho:JE X o to) (ha:JL X e tl)
  (hbase:attributeBase o name X.env (eval o X.env)=eval o X.env:=by rfl)
  (hfew:((backTo cpos (starEach [e] X.env)).all (fun x=> !x.1)&&(backToKw cpos (keywordEach [] X.env)).all (fun x=>x.1.isSome)
   &&decide ([e].length+([]:List Keyword).length+(if([]:List Keyword).isEmpty then 0 else 1)<30))=true:=by rfl)
  (hline:(apos.endLine == cpos.line)=true:=by rfl) (hs:starEach [e] X.env=(false,eval e X.env)::starEach [] X.env:=by rfl) (hplain:(backTo cpos (starEach [] X.env)).any (·.1)=false:=by rfl) :
  JE X (.Call (.Attribute o name apos) [e] [] cpos) (wML rv f to tl):=fun E hE=>
 (zxp pa slot hty hm (ho E hE) (zdG (ha E hE) pa_nil hs) hbase hfew hline hs hplain).mono fun σ H Q ⟨σW,S,QW,hσ,hS,ht,hQ⟩=>⟨σW,S,_,hσ,hS,ht,fun w S1 v H1 e1 r1 hS1 h1=>
  ⟨hrv H1 w v S1 r1 hS1 h1.1,σW,S1,_,hσ.ext e1,hS1,h1.2,fun ws S2 vs a H2 e2 fa ea na r2 hS2 h2=>hw H2 v w a vs ws S2 Q QW (r1.ext e2) ea na r2 hS2 h2 (hQ.from (e1.trans e2))⟩⟩
theorem zyt (pa:PlainAttrs T) (slot:Slot T name id) (hty:typeOf (.builtin id)=pure (.type "method_descriptor")) (hrv:zxs X.K T rv) (hm:MtR X id r) (hw:MtW X.K r f) (ho:JE X o to)
  (hbase:attributeBase o name X.env (eval o X.env)=eval o X.env:=by rfl) (hline:(apos.endLine == cpos.line)=true:=by rfl):JE X (.Call (.Attribute o name apos) [] [] cpos) (wM rv f to waNil):=fun E hE=>
 (zyc pa slot hty hm (ho E hE) hbase hline).mono fun σ H Q ⟨σW,S,QW,hσ,hS,ht,hQ⟩=>⟨σW,S,_,hσ,hS,ht,fun w S1 v H1 e1 r1 hS1 h1=>
  ⟨hrv H1 w v S1 r1 hS1 h1.1,hw H1 v w [] [] S1 Q QW r1 .nil hS1 h1.2 (hQ.from e1)⟩⟩
noncomputable def zce:WMf:=fun w ws S Q=>match w with
 | .ref a=>zcp S a fun xs=>match ws with
  | [y]=>xs.length<sizeLine∧Q .non (put S a (.lst (xs++[y])))
  |_=>False
 |_=>False
theorem zoA{K:PySem.W.Frag}:MtW K zpk zce:=fun H x w vs ws S Q QW r rs hS h hQ=>by
 cases r with
 |ref a=>
  obtain⟨xs,ea,h⟩:=zbh h;obtain⟨us,f,hs⟩:=hS a _ ea;cases rs with
  |nil=>exact h.elim
  |cons r1 r2=>
   cases r2 with
   |cons _ _=>exact h.elim
   |nil=>
    obtain⟨e,hS'⟩:=hS.set_lst ea (hs.append (.one r1));exact⟨a,us,_,rfl,rfl,f,by rw [←hs.length];exact h.1,hQ _ _ _ _ e .non hS' h.2⟩
 |_=>exact h.elim
theorem zbE (ho:JE X o to) (ha:JA X (e::es) t)
  (hbase:attributeBase o "append" X.env (eval o X.env)=eval o X.env:=by rfl)
  (hfew:((backTo cpos (starEach (e::es) X.env)).all (fun x=> !x.1)&&(backToKw cpos (keywordEach [] X.env)).all (fun x=>x.1.isSome)
   &&decide ((e::es).length+([]:List Keyword).length+(if([]:List Keyword).isEmpty then 0 else 1)<30))=true:=by rfl)
  (hline:(apos.endLine == cpos.line)=true:=by rfl) (hs:starEach (e::es) X.env=(false,eval e X.env)::starEach es X.env:=by rfl) (hplain:(backTo cpos (starEach es X.env)).any (·.1)=false:=by rfl) :
  JE X (.Call (.Attribute o "append" apos) (e::es) [] cpos) (wM rvL zce to t):=zAh PySem.F.plainAttrs_list PySem.F.slot_list_append PySem.F.type_list_append ztf zjO zoA ho ha hbase hfew hline hs hplain
noncomputable def zAx:WMf:=fun w ws S Q=>match w with
 | .ref a=>zcp S a fun xs=>match ws with
  | []=>match xs[xs.length - 1]? with
   |some y=>Q y (put S a (.lst xs.dropLast))
   |none=>False
  |_=>False
 |_=>False
noncomputable def zhK:WMf:=fun w ws S Q=>match w with
 | .ref a=>zcp S a fun xs=>match ws with
  | [.tup ys]=>xs.length+ys.length≤sizeLine∧Q .non (put S a (.lst (xs++ys)))
  | [.ref b]=>zcp S b fun ys=>xs.length+ys.length≤sizeLine∧Q .non (put S a (.lst (xs++ys)))
  |_=>False
 |_=>False
theorem zom{K:PySem.W.Frag}:MtW K (fun x vs H Q=>zoT x vs H Q∨zmW K x vs H Q) zhK:=fun H x w vs ws S Q QW r rs hS h hQ=>by
 cases r with
 |ref a=>
  obtain⟨xs,ea,h⟩:=zbh h;obtain⟨us,f,hs⟩:=hS a _ ea;cases rs with
  |nil=>exact h.elim
  |cons r1 r2=>
   cases r2 with
   |cons _ _=>cases r1<;>exact h.elim
   |nil=>
    cases r1 with
    |tup g ks=>
     obtain⟨e,hS'⟩:=hS.set_lst ea (hs.append ks);exact .inr ⟨a,_,us,_,rfl,rfl,f, .of g,by rw [←hs.length,←ks.length];exact h.1,hQ _ _ _ _ e .non hS' h.2⟩
    |ref b=>
     obtain⟨ys,eb,h⟩:=zbh h;obtain⟨zs,g,ks⟩:=hS b _ eb;obtain⟨e,hS'⟩:=hS.set_lst ea (hs.append ks);exact .inl ⟨a,b,us,zs,rfl,rfl,f,g,by rw [←hs.length,←ks.length];exact h.1,hQ _ _ _ _ e .non hS' h.2⟩
    |_=>exact h.elim
 |_=>exact h.elim
theorem zqP (ho:JE X o to) (ha:JA X (e::es) t)
  (hbase:attributeBase o "extend" X.env (eval o X.env)=eval o X.env:=by rfl)
  (hfew:((backTo cpos (starEach (e::es) X.env)).all (fun x=> !x.1)&&(backToKw cpos (keywordEach [] X.env)).all (fun x=>x.1.isSome)
   &&decide ((e::es).length+([]:List Keyword).length+(if([]:List Keyword).isEmpty then 0 else 1)<30))=true:=by rfl)
  (hline:(apos.endLine == cpos.line)=true:=by rfl) (hs:starEach (e::es) X.env=(false,eval e X.env)::starEach es X.env:=by rfl) (hplain:(backTo cpos (starEach es X.env)).any (·.1)=false:=by rfl) :
  JE X (.Call (.Attribute o "extend" apos) (e::es) [] cpos) (wM rvL zhK to t):=zAh PySem.F.plainAttrs_list PySem.F.slot_list_extend PySem.F.type_list_extend ztf (MtR.or zoX zoG) zom ho ha hbase hfew hline hs hplain
noncomputable def zru:WMf:=fun w ws S Q=>match w with
 | .ref a=>zcp S a fun xs=>xs.length+ws.length≤sizeLine∧Q .non (put S a (.lst (xs++ws)))
 |_=>False
noncomputable def zgu:List W→Option (List Str)
 | []=>some []
 | .str b::ws=>(zgu ws).map (b:: ·)
 |_=>none
theorem zmO{K:PySem.W.Frag}{H:Hp}:∀{ws:List W}{vs:List V}{bs:List Str},Reps K H ws vs→zgu ws=some bs→vs=bs.map V.str
 | [],_,_, .nil,e=>by have:=Option.some.inj e;subst this;rfl
 |w::ws,_,_, .cons r rs,e=>by
  cases r with
  |str b=>
   have e':(zgu ws).map (b:: ·)=some _:=e;cases q:zgu ws with
   |none=>rw [q]at e';cases e'
   |some cs=>
    rw [q]at e';have:=Option.some.inj e';subst this;rw [List.map_cons,zmO rs q]
  |_=>cases e
noncomputable def zla:WMf:=fun w ws S Q=>match w with
 | .str z=>match zgu ws with
  |some ys=>(ys.map (·.length)).sum+ys.length*z.length≤16777216∧Q (.str (Str.join z ys)) S
  |none=>False
 |_=>False
theorem zsi{K:PySem.W.Frag}:MtL K (zwU K) zla:=fun H x w a vs ws S Q QW r ea na rs hS h hQ=>by
 cases r with
 |str z=>
  unfold zla at h;dsimp only at h;split at h
  ·rename_i ys e;have:=zmO rs e;subst this;exact⟨z,a,ys,rfl,rfl, .of ea,h.1,hQ _ S _ H .refl (.str _) hS h.2⟩
  ·exact h.elim
 |_=>exact h.elim
theorem zrZ (ho:JE X o to) (ha:JL X e tl)
  (hbase:attributeBase o "join" X.env (eval o X.env)=eval o X.env:=by rfl)
  (hfew:((backTo cpos (starEach [e] X.env)).all (fun x=> !x.1)&&(backToKw cpos (keywordEach [] X.env)).all (fun x=>x.1.isSome)
   &&decide ([e].length+([]:List Keyword).length+(if([]:List Keyword).isEmpty then 0 else 1)<30))=true:=by rfl)
  (hline:(apos.endLine == cpos.line)=true:=by rfl) (hs:starEach [e] X.env=(false,eval e X.env)::starEach [] X.env:=by rfl) (hplain:(backTo cpos (starEach [] X.env)).any (·.1)=false:=by rfl) :
  JE X (.Call (.Attribute o "join" apos) [e] [] cpos) (wML rvS zla to tl):=zyR PySem.F.plainAttrs_str PySem.F.slot_str_join PySem.F.type_str_join ztn zuS zsi ho ha hbase hfew hline hs hplain
noncomputable def zxj:WMf:=fun w ws S Q=>match w with
 | .str z=>match ws with
  | [.str y]=>match Builtin.Str.occurrences z y 0 z.length 1 with
   |i::_=>Q (.int i) S
   | []=>False
  |_=>False
 |_=>False
end
noncomputable def zwS (i:Nat) (g:Int→Int→Int) (e:WE):WS:=fun E D σ S=>match σ[i]? with
 |some (some (.int a))=>e E σ S fun w S1=>match w with
  | .int b=>D.nx (σ.set i (some (.int (g a b)))) S1
  |_=>False
 |_=>False
section
variable {X:Cx}{e:Expr}{te:WE}{pos pos':Pos}
theorem zsT{i:Nat}{x:Str}(hN:X.N.Nodup) (hi:X.N[i]? =some x) (hx:Loc X.env.scope x) (he:JE X e te) (hf:X.fn x=true∨X.env.scope.names.lookup x=some .local:=by first |exact .inl rfl |exact .inr rfl |assumption) :
  JS X (.AugAssign (.Name x pos') .Add e pos) (zwS i (fun a b=>a+b) te):=fun E hE=>
 (zws hN hi hx (he E hE) zvO hf).mono fun D σ H ⟨σW,S,DW,hσ,hS,ht,hD⟩=>by
  unfold zwS at ht;split at ht
  ·rename_i a ea;obtain⟨v,ev,rv⟩:=hσ.get ea;cases rv;refine⟨_,ev,σW,S,_,hσ,hS,ht,fun w S1 v H1 e1 r1 hS1 h1=>?_⟩;cases r1 with
   |int b=>exact⟨a,b,rfl,rfl,hD.nx _ S1 _ H1 e1 ((hσ.ext e1).set (.int _) i) hS1 h1⟩
   |_=>exact h1.elim
  ·exact ht.elim
end
noncomputable def zpp (c:WT) (b:WS):WS:=fun E D σ S=>∃I:Nat→WSt→Sto→Prop,(∃m,I m σ S)∧ ∀m σ S,I m σ S→c E σ S fun k S1=>if k=true then
 b E { D with nx:=fun σ' S'=>∃m' S'',m'<m∧Sub S'' S'∧I m' σ' S'',ct:=fun σ' S'=>∃m' S'',m'<m∧Sub S'' S'∧I m' σ' S'',bk:=D.nx } σ S1 else D.nx σ S1
section
variable {X:Cx}{c:Expr}{body:List Stmt}{tc:WT}{tb:WS}{pos:Pos}
theorem znk (hc:JT X c tc) (hb:JSs X body tb) (hp:PassesOwn (model X.prog X.w) X.A X.env (fun _ _=>False):=by exact PassesOwn.never):JS X (.While c body [] pos) (zpp tc tb):=fun E hE=>
 (zso (by rw [hE.xe];exact hp) (hc E hE) (hb E hE)).mono fun D σ H ⟨σW,S,DW,hσ,hS,⟨J,⟨n,ht⟩,step⟩,hD⟩=>by
  refine⟨fun m σ1 H1=>∃σW1 S1,Ext H S H1 S1∧RpSt X.K H1 σW1 σ1∧RepS X.K H1 S1∧J m σW1 S1,⟨n,σW,S, .refl,hσ,hS,ht⟩,?_⟩;rintro m σ1 H1 ⟨σW1,S1,e1,hσ1,hS1,h1⟩;refine⟨σW1,S1,_,hσ1,hS1,step m σW1 S1 h1,fun k S2 H2 e2 hS2 h2=>?_⟩;cases k with
  |false=>exact hD.nx σW1 S2 σ1 H2 (e1.trans e2) (hσ1.ext e2) hS2 h2
  |true=>
   rw [if_pos rfl]at h2⊢;refine⟨fun σ' H'=>∃m',m'<m∧ ∃σW1 S1,Ext H S H' S1∧RpSt X.K H' σW1 σ'∧RepS X.K H' S1∧J m' σW1 S1,fun σ' H' n'=>n',σW1,S2,_,hσ1.ext e2,hS2,h2,?_⟩;have e12:=e1.trans e2;have go:Goes X.K H2 S2 (fun σ' S'=>∃m' S'',m'<m∧Sub S'' S'∧J m' σ' S'') (fun σ' H'=>∃m',m'<m∧ ∃σW1 S1,Ext H S H' S1∧RpSt X.K H' σW1 σ'∧RepS X.K H' S1∧J m' σW1 S1):=fun σW3 S3 σ3 H3 e3 hσ3 hS3 ⟨m',S4,hm,sb,q⟩=>
    ⟨m',hm,σW3,S4,(e12.trans e3).trans (.drop sb),hσ3,hS3.sub sb,q⟩
   exact⟨go,hD.rt.from e12,hD.nx.from e12,go⟩
end
noncomputable def forL (g:WG) (b:WS) (E:WX) (D:WEnds) (G:Sto→Prop):List W→WSt→Sto→Prop
 | [],σ,S=>D.nx σ S
 |w::ws,σ,S=>g w σ S fun σ1 S1=>b E { D with nx:=fun σ' S'=>∃S'',Sub S'' S'∧G S''∧forL g b E D G ws σ' S'',ct:=fun σ' S'=>∃S'',Sub S'' S'∧G S''∧forL g b E D G ws σ' S'',bk:=D.nx } σ1 S1
noncomputable def zib (q:WI) (g:WG) (b:WS):WS:=fun E D σ S=>q E σ S fun ws G S1=>forL g b E D G ws σ S1
section
variable {X:Cx}{tg iter:Expr}{body:List Stmt}{q:WI}{g:WG}{tb:WS}{pos:Pos}
theorem zca (hi:JI X tg iter q) (hg:JG X tg g) (hb:JSs X body tb) (hp:PassesOwn (model X.prog X.w) X.A X.env (fun _ _=>False):=by exact PassesOwn.never)
  (hs:∀x,foldedSetIterable iter X.env x=pure x:=by intro _;rfl):JS X (.For tg iter body [] pos) (zib q g tb):=fun E hE=>
 (zxP (by rw [hE.xe];exact hp) hE.calm (hi E hE) (hg E hE) (hb E hE) hs).mono fun D σ H ⟨σW,S,DW,hσ,hS,ht,hD⟩=>by
  refine⟨σW,S,_,hσ,hS,ht,fun ws G S1 J H1 e1 hS1 hG1 hJ h1=>?_⟩;refine⟨fun i m σ2 H2=>∃σW2 S2,Ext H1 S1 H2 S2∧RpSt X.K H2 σW2 σ2∧RepS X.K H2 S2∧G S2∧m=ws.length - i∧i≤ws.length∧forL g tb E DW G (ws.drop i) σW2 S2,
   ⟨ws.length,σW,S1, .refl,hσ.ext e1,hS1,hG1,rfl,Nat.zero_le _,h1⟩,?_⟩
  rintro i m σ2 H2 ⟨σW2,S2,e2,hσ2,hS2,hG2,rfl,hi2,h2⟩;obtain⟨ji,js⟩:=hJ i S2 H2 e2 hS2 hG2;by_cases hlt:i<ws.length
  ·obtain⟨jgo,jy⟩:=ji ws[i] (List.getElem?_eq_getElem hlt);refine .inr ⟨jgo,fun σ' H'=>∃σW2 S2,Ext H1 S1 H' S2∧RpSt X.K H' σW2 σ'∧RepS X.K H' S2∧G S2∧ws.length - (i+1)=ws.length - (i+1)∧i+1≤ws.length∧forL g tb E DW G (ws.drop (i+1)) σW2 S2,fun σ' H' z=>⟨_,by omega,z⟩,fun x H3 y3=>?_⟩
   obtain⟨e3,hS3,r3⟩:=jy x H3 y3;rw [List.drop_eq_getElem_cons hlt]at h2;refine⟨_,σW2,S2,_,r3,hσ2.ext e3,hS3,h2,fun σW4 S4 σ4 H4 e4 hσ4 hS4 h4=>?_⟩;have e14:Ext H1 S1 H4 S4:=(e2.trans e3).trans e4;refine⟨σW4,S4,_,hσ4,hS4,h4,?_⟩;have go:Goes X.K H4 S4 (fun σ' S'=>∃S'',Sub S'' S'∧G S''∧forL g tb E DW G (ws.drop (i+1)) σ' S'') (fun σ' H'=>∃σW2 S2,Ext H1 S1 H' S2∧RpSt X.K H' σW2 σ'∧RepS X.K H' S2∧G S2∧ws.length - (i+1)=ws.length - (i+1)∧i+1≤ws.length∧forL g tb E DW G (ws.drop (i+1)) σW2 S2):=
    fun σW5 S5 σ5 H5 e5 hσ5 hS5 ⟨S6,sb,hG6,q⟩=>⟨σW5,S6,(e14.trans e5).trans (.drop sb),hσ5,hS5.sub sb,hG6,rfl,hlt,q⟩
   exact⟨go,hD.rt.from (e1.trans e14),hD.nx.from (e1.trans e14),go⟩
  ·have hl:i=ws.length:=by omega
   rw [List.drop_of_length_le (Nat.le_of_eq hl.symm)]at h2;exact .inl ⟨js hl,hD.nx σW2 S2 σ2 H2 (e1.trans e2) hσ2 hS2 h2⟩
end
section
variable {X:Cx}{tg:Expr}
noncomputable def zAG (K:PySem.W.Frag) (tl:TE):TI:=fun σ H R=>tl σ H fun x H1=>(∃a,x= .ref a∧(∃xs,SqL K H1 a xs)∧R (Itl K a) H1)∨(∃a,x= .ref a∧(∃xs,SqT K H1 a xs)∧R (Itt K a) H1)∨ ∃z,x= .str z∧R (Its z) H1
theorem zxX{l:Expr}{tl:TE}(hl:PE X l tl):PI X tg l (zAG X.K tl):=by
 intro pins s σ H R I h;refine thn (hl pins s σ H _ I h) fun v s1 ⟨x,H1,I1,r1,q1⟩=>?_;have fp:∀b∈ [s1.heap.objs.size],zjC X pins H1 b:=fun b hb=>by
  have e:b=s1.heap.objs.size:=by simpa using hb
  subst e;exact I1.fpOk (Nat.le_refl _) (I1.hok.fresh (Nat.le_refl _))
 rcases q1 with⟨a,e,⟨xs,hq⟩,q⟩ |⟨a,e,⟨xs,hq⟩,q⟩ |⟨z,e,q⟩
 ·subst e;cases r1;obtain⟨its,rv,p,hz⟩:=I1.list hq;refine wpAny_pyIter_list p.isList ?_;exact⟨s1.heap.objs.size,[s1.heap.objs.size],_,_,H1,rfl,I1.kept (t':=s1.toks) fun b o e=>Heap.get?_push_of_some _ e,zpC a _,⟨_,Heap.get?_push_size _ rfl,rfl,rfl⟩,fp,q⟩
 ·subst e;cases r1;obtain⟨its,rv,p,hz⟩:=I1.tuple hq;refine wpAny_pyIter_tuple (show s1.heap.IsTuple a its.toArray from p) ?_;exact⟨s1.heap.objs.size,[s1.heap.objs.size],_,_,H1,rfl,I1.kept (t':=s1.toks) fun b o e=>Heap.get?_push_of_some _ e,zor a _,⟨_,Heap.get?_push_size _ rfl,rfl,rfl⟩,fp,q⟩
 ·subst e;obtain⟨t,rfl⟩:=r1;cases ha:z.cps.all (· <128)
  ·refine wpAny_pyIter_wide ha ?_;exact⟨s1.heap.objs.size,[s1.heap.objs.size],_,_,H1,rfl,I1.kept (t':=s1.toks) fun b o e=>Heap.get?_push_of_some _ e,
    zmD _ z t "str_iterator" (by decide) (fun A' hA=>Walks.strWide hA _ z t) (fun _ _ _ _ _ st h=>wpAny_pyIter_striter_wide st h),⟨_,Heap.get?_push_size _ rfl,rfl,rfl⟩,fp,q⟩
  ·refine wpAny_pyIter_ascii ha ?_;exact⟨s1.heap.objs.size,[s1.heap.objs.size],_,_,H1,rfl,I1.kept (t':=s1.toks) fun b o e=>Heap.get?_push_of_some _ e,
    zmD _ z t "str_ascii_iterator" (by decide) (fun A' hA=>Walks.strAscii hA _ z t) (fun _ _ _ _ _ st h=>wpAny_pyIter_striter_ascii st h),⟨_,Heap.get?_push_size _ rfl,rfl,rfl⟩,fp,q⟩
noncomputable def zkc (z:Str):List W:=z.cps.toList.map fun c=> .str ⟨#[c]⟩
noncomputable def wIv (t:WE):WI:=fun E σ S Q=>t E σ S fun w S1=>match w with
 | .tup ws=>Q ws (fun _=>True) S1
 | .ref a=>zcp S1 a fun ws=>Q ws (fun S'=>S' a=some (.lst ws)) S1
 | .scr ns=>Q (ns.map W.int) (fun _=>True) S1
 | .str z=>Q (zkc z) (fun _=>True) S1
 |_=>False
theorem zre{K:PySem.W.Frag}{a:Addr}{ws:List W}{G:Sto→Prop}{H0:Hp}{S0:Sto}(h:∀S H,Ext H0 S0 H S→RepS K H S→G S→ ∃vs,SqL K H a vs∧Reps K H ws vs):ItW K (Itl K a) ws G H0 S0:=fun i S H e hS hG=>by
 obtain⟨vs,hq,r⟩:=h S H e hS hG;refine⟨fun w ew=>?_,fun hl=>⟨vs,hq,by rw [←r.length,hl];exact Nat.le_refl _⟩⟩
 obtain⟨v,ev,rv⟩:=r.get ew;refine⟨⟨vs,v,hq,ev⟩,fun x H' ⟨e1,e2⟩=>?_⟩;subst e1;have e3:=e2 vs hq;rw [ev]at e3;cases e3;exact⟨.refl,hS,rv⟩
theorem zyd{K:PySem.W.Frag}{a:Addr}{ws:List W}{vs:List V}{H0:Hp}{S0:Sto}(f:H0 a=some (.tup vs)) (r:Reps K H0 ws vs):ItW K (Itt K a) ws (fun _=>True) H0 S0:=fun i S H e hS hG=>by
 have f':=e.tup _ _ f;have r':=r.ext e;refine⟨fun w ew=>?_,fun hl=>⟨vs, .of f',by rw [←r'.length,hl];exact Nat.le_refl _⟩⟩
 obtain⟨v,ev,rv⟩:=r'.get ew;refine⟨⟨vs,v, .of f',ev⟩,fun x H' ⟨e1,e2⟩=>?_⟩;subst e1;have e3:=e2 vs (.of f');rw [ev]at e3;cases e3;exact⟨.refl,hS,rv⟩
theorem zwi{K:PySem.W.Frag}{z:Str}{H0:Hp}{S0:Sto}:ItW K (Its z) (zkc z) (fun _=>True) H0 S0:=fun i S H e hS hG=>by
 unfold zkc;refine⟨fun w ew=>?_,fun hl=>?_⟩
 ·rw [List.getElem?_map]at ew;cases ec:z.cps.toList[i]? with
  |none=>rw [ec]at ew;cases ew
  |some c=>
   rw [ec]at ew;have ew':=Option.some.inj ew;subst ew';have hi:i<z.cps.size:=by
    have:=(List.getElem?_eq_some_iff.mp ec).1;simpa using this
   refine⟨hi,fun x H' ⟨e1,c',e2,e3⟩=>?_⟩;subst e1 e3;have:c'=c:=by
    have q:z.cps.toList[i]? =some c':=by rw [←e2];simp
    rw [ec]at q;exact(Option.some.inj q).symm
   subst this;exact⟨.refl,hS, .str _⟩
 ·show i=z.cps.size;simpa using hl
theorem zbk{l:Expr}{tl:WE}(hl:JE X l tl):JI X tg l (wIv tl):=fun E hE=>
 (zxX (hl E hE)).mono fun σ H R ⟨σW,S,QW,hσ,hS,ht,hR⟩=>⟨σW,S,_,hσ,hS,ht,fun w S1 v H1 e1 r1 hS1 h1=>by
  cases r1 with
  |tup f hs=>exact .inr (.inl ⟨_,rfl,⟨_, .of f⟩,hR _ _ S1 _ H1 e1 hS1 trivial (zyd f hs) h1⟩)
  |ref a=>
   obtain⟨ws,ea,h⟩:=zbh h1;obtain⟨vs,f,hs⟩:=hS1 a _ ea;refine .inl ⟨_,rfl,⟨_, .of f⟩,hR _ _ S1 _ H1 e1 hS1 ea (zre fun S2 H2 e2 hS2 g2=>?_) h⟩;obtain⟨vs2,f2,hs2⟩:=hS2 a _ g2;exact⟨vs2, .of f2,hs2⟩
  |scr f=>exact .inl ⟨_,rfl,⟨_,f.sq⟩,hR _ _ S1 _ H1 e1 hS1 trivial (zre fun S2 H2 e2 hS2 g2=>⟨_,(e2.fz f).sq,Reps.ofInts _⟩) h1⟩
  |str z=>exact .inr (.inr ⟨z,rfl,hR _ _ S1 _ H1 e1 hS1 trivial zwi h1⟩)
  |_=>exact h1.elim⟩
noncomputable def zoc (lo:Int) (n:Nat):List W:=(List.range n).map fun(i:Nat)=> .int (lo+(i:Int))
theorem zvN{K:PySem.W.Frag}{lo:Int}{n:Nat}{H0:Hp}{S0:Sto}:ItW K (Itr lo n) (zoc lo n) (fun _=>True) H0 S0:=fun i S H e hS hG=>by
 unfold zoc;refine⟨fun w ew=>?_,fun hl=>by
  have:i=n:=by simpa using hl
  exact Nat.le_of_eq this.symm⟩
 rw [List.getElem?_map]at ew;by_cases hi:i<n
 ·rw [List.getElem?_range hi]at ew;have ew':=Option.some.inj ew;subst ew';refine⟨hi,fun x H' ⟨e1,e2⟩=>?_⟩;subst e1 e2;exact⟨.refl,hS, .int _⟩
 ·rw [List.getElem?_eq_none (by simpa using hi)]at ew;cases ew
noncomputable def zuL (t:WA):WI:=fun E σ S Q=>t E σ S fun ws S1=>match ws with
 | [.int j]=>(-(2 ^ 62)≤j∧j<2 ^ 62)∧Q (zoc 0 j.toNat) (fun _=>True) S1
 |_=>False
theorem zfq{a:Expr}{ta:WA}{p pos:Pos}(hg:Gl X "range") (hm:X.mg "range" =none) (ha:JA X [a] ta) (hs:starEach [a] X.env=[(false,eval a X.env)]:=by rfl):JI X tg (.Call (.Name "range" p) [a] [] pos) (zuL ta):=fun E hE=>
 (zpF hg hm (ha E hE) hs).mono fun σ H R ⟨σW,S,QW,hσ,hS,ht,hR⟩=>⟨σW,S,_,hσ,hS,ht,fun ws S1 vs H1 e1 r1 hS1 h1=>by
  cases r1 with
  |nil=>exact h1.elim
  |cons r2 r3=>
   cases r3 with
   |cons _ _=>cases r2<;>exact h1.elim
   |nil=>
    cases r2 with
    |int j=>exact⟨j,rfl,h1.1.1,h1.1.2,hR _ _ S1 _ H1 e1 hS1 trivial zvN h1.2⟩
    |_=>exact h1.elim⟩
end
noncomputable def zic:WT:=fun _ _ S Q=>Q true S
noncomputable def JTs (X:Cx) (ifs:List Expr) (t:WT):Prop:=∀E,Hook X E→PTs X ifs (zvr X.K (t E))
theorem zbB{X:Cx}:JTs X [] zic:=fun E hE pins s σ H Q I ⟨σW,S,QW,hσ,hS,ht,hQ⟩=>zvy pins s σ H Q I (hQ true S H .refl hS ht)
theorem zuc{X:Cx}{c:Expr}{t:WT}(h:JT X c t):JTs X [c] t:=fun E hE=>zvi (h E hE)
noncomputable def zgo (g:WG) (c:WT) (e:WE) (E:WX) (G:Sto→Prop) (Q:List W→Sto→Prop):List W→List W→WSt→Sto→Prop
 | [],acc,_,S=>Q acc S
 |w::ws,acc,σ,S=>g w σ S fun σ1 S1=>c E σ1 S1 fun b S2=>if b=true then e E σ1 S2 fun y S3=>acc.length<sizeLine∧ ∃S4,Sub S4 S3∧G S4∧zgo g c e E G Q ws (acc++[y]) σ1 S4
   else ∃S4,Sub S4 S2∧G S4∧zgo g c e E G Q ws acc σ1 S4
noncomputable def zds (k:Nat) (fr:List Nat) (q:WI) (g:WG) (c:WT) (e:WE):WL:=fun E σ S Q=>q E σ S fun ws G S1=>zgo g c e E G Q ws [] (List.replicate k none++fr.map fun j=>(σ[j]?).join) S1
theorem zog{K:PySem.W.Frag}{H:Hp}{σW:WSt}{σ:St}{k:Nat}{fr:List Nat}(h:RpSt K H σW σ):RpSt K H (List.replicate k none++fr.map fun j=>(σW[j]?).join) (zmG σ k fr):=by
 have one:∀j:Nat,RpO K H (σW[j]?).join (σ[j]?).join:=fun j=>by
  cases e:σW[j]? with
  |none=>exact trivial
  |some w=>
   cases w with
   |none=>exact trivial
   |some w=>
    obtain⟨v,ev,r⟩:=h.get e;rw [ev];exact r
 have go:∀fr:List Nat,RpSt K H (fr.map fun j=>(σW[j]?).join) (zhu σ fr):=by
  intro fr
  induction fr with
  |nil=>exact .nil
  |cons j fr ih=>exact .cons (one j) ih
 unfold zmG
 induction k with
 |zero=>exact go fr
 |succ k ih=>exact .cons trivial ih
section
variable {X:Cx}{scope:Scope}{N:List Str}{k:Nat}{fr:List Nat}{tg iter elt:Expr}{ifs:List Expr}{pos:Pos}{q:WI}{g:WG}{c:WT}{e:WE}
theorem Ext.loose{H H':Hp}(a:∀b xs,H b=some (.tup xs)→H' b=some (.tup xs)) (b:∀c o u,H c=some (.frz o u)→H' c=some (.frz o u)) (d:∀b o,H b=some o→ ∃o',H' b=some o'):Ext H (fun _=>some (.lst [])) H' (fun _=>some (.lst [])):=
 ⟨a,b,(fun _ _ _ g=>nomatch g),d⟩
theorem Ext.over{H H':Hp}{S S':Sto}{l:Addr}{o:HO}(e:Ext H S H' S') (h:H l=none):Ext H S (upd H' l o) S':=
 ⟨fun b xs q=>by rw [zaw (zar q h)];exact e.tup b xs q,fun b ob u q=>by rw [zaw (zar q h)];exact e.frz b ob u q,fun b ob q z=>by rw [zaw (zar q h)];exact e.fr b ob q z,fun b ob q=>by rw [zaw (zar q h)];exact e.all b ob q⟩
theorem zkM (hg:∀s₀ H₀ fp pn,JG (zbx X scope N s₀ H₀ fp pn) tg g) (hc:∀s₀ H₀ fp pn,JTs (zbx X scope N s₀ H₀ fp pn) ifs c) (he:∀s₀ H₀ fp pn,JE (zbx X scope N s₀ H₀ fp pn) elt e)
  {E:WX}(hE:Hook X E) (σ:St) (H:Hp) (Q:VK):zxU X.K (zds k fr q g c e E) σ H Q→zsl X scope N k fr tg ifs elt (zxx X.K (q E)) σ H Q:=fun⟨σW,S0,QW,hσ,hS,ht,hQ⟩=>by
  refine⟨σW,S0,_,hσ,hS,ht,fun ws G S1 J H1 e1 hS1 hG1 hJ h1 l hl=>?_⟩;have upl:∀{H':Hp}{vs us:List V}{S':Sto},H' l=some (.lst vs)→S' l=none→RepS X.K H' S'→Ext H' (fun _=>some (.lst [])) (upd H' l (.lst us)) (fun _=>some (.lst []))∧RepS X.K (upd H' l (.lst us)) S':=fun {H' vs us S'} f n hS'=>by
   have x:Ext H' (fun _=>some (.lst [])) (upd H' l (.lst us)) (fun _=>some (.lst [])):= .loose (fun b xs q=>by rw [zaw (zrE q f fun z=>nomatch z)];exact q) (fun b o u q=>by rw [zaw (zrE q f fun z=>nomatch z)];exact q) fun b o q=>by
    by_cases hb:b=l
    ·subst hb;exact⟨_,zaz⟩
    ·exact⟨o,by rw [zaw hb];exact q⟩
   refine⟨x,fun a o q=>(hS' a o q).keep x fun u z=>?_⟩;have ha:a≠l:=by rintro rfl;rw [n]at q;cases q
   rw [zaw ha];exact z
  refine⟨fun i m σ' H'=>∃σW' S' acc vs,Ext H1 S1 H' S'∧H' l=some (.lst vs)∧S' l=none∧Reps X.K H' acc vs∧RpSt X.K H' σW' σ'∧RepS X.K H' S'∧G S'∧m=ws.length - i∧i≤ws.length∧zgo g c e E G QW (ws.drop i) acc σW' S',
   ⟨ws.length,_,S1,[],[], .new hl,zaz,hS1.free hl, .nil,zog (hσ.ext (e1.trans (.new (S:=S1) hl))),hS1.new hl,hG1,rfl,Nat.zero_le _,h1⟩,?_⟩
  rintro i m σ' H' ⟨σW',S',acc,vs,e2,f2,n2,ra,hσ2,hS2,hG2,rfl,hi2,h2⟩;obtain⟨ji,js⟩:=hJ i S' H' e2 hS2 hG2;by_cases hlt:i<ws.length
  ·obtain⟨jgo,jy⟩:=ji ws[i] (List.getElem?_eq_getElem hlt);refine .inr ⟨jgo,fun σ'' H''=>∃σW' S' acc vs,Ext H1 S1 H'' S'∧H'' l=some (.lst vs)∧S' l=none∧Reps X.K H'' acc vs∧RpSt X.K H'' σW' σ''∧RepS X.K H'' S'∧G S'∧ws.length - (i+1)=ws.length - (i+1)∧i+1≤ws.length∧zgo g c e E G QW (ws.drop (i+1)) acc σW' S',
    fun σ'' H'' z=>⟨_,by omega,z⟩,fun x H3 y3=>?_⟩
   obtain⟨e3,hS3,r3⟩:=jy x H3 y3;rw [List.drop_eq_getElem_cons hlt]at h2;intro s₀ H₀ fp pn;have hk:Hook (zbx X scope N s₀ H₀ fp pn) E:=⟨hE.no,rfl,hE.calm⟩;refine⟨_,_,_,hg s₀ H₀ fp pn E hk,hc s₀ H₀ fp pn E hk,he s₀ H₀ fp pn E hk,?_⟩;refine⟨_,σW',S',_,r3,hσ2.ext e3,hS3,h2,fun σW4 S4 σ4 H4 e4 hσ4 hS4 h4=>?_⟩;refine⟨σW4,S4,_,hσ4,hS4,h4,fun b S5 H5 e5 hS5 h5=>?_⟩;have e15:Ext H' S' H5 S5:=(e3.trans e4).trans e5;have hσ5:=hσ4.ext e5;obtain⟨f5,n5⟩:=e15.fr l _ f2 n2;cases b with
   |false=>
    have h5:∃S4,Sub S4 S5∧G S4∧zgo g c e E G QW (ws.drop (i+1)) acc σW4 S4:=h5;refine zAD ?_;obtain⟨S6,sb,hG6,h6⟩:=h5;have e16:=e15.trans (.drop sb);exact⟨σW4,S6,acc,vs,e2.trans e16,f5,(e16.fr l _ f2 n2).2,ra.ext e15,hσ5,hS5.sub sb,hG6,rfl,hlt,h6⟩
   |true=>
    rw [if_pos rfl]at h5;refine zAZ ?_;refine⟨σW4,S5,_,hσ5,hS5,h5,fun y S6 v H6 e6 r6 hS6 h6=>?_⟩;have e17:=e15.trans e6;obtain⟨f6,n6⟩:=e17.fr l _ f2 n2;obtain⟨hz,S7,sb,hG7,h7⟩:=h6;obtain⟨x6,hS6'⟩:=upl (us:=vs++[v]) f6 n6 hS6;have ra6:Reps X.K H6 (acc++[y]) (vs++[v]):=(ra.ext e17).append (.one r6);refine⟨vs,f6,by rw [←ra.length];exact hz,σW4,S7,acc++[y],vs++[v],?_,zaz,((e17.trans (.drop sb)).fr l _ f2 n2).2,ra6.ext x6,(hσ5.ext e6).ext x6,hS6'.sub sb,hG7,rfl,hlt,h7⟩
    exact(e2.trans (e17.trans (.drop sb))).over hl
  ·have hll:i=ws.length:=by omega
   rw [List.drop_of_length_le (Nat.le_of_eq hll.symm)]at h2;exact .inl ⟨js hll,hQ acc S' vs l H' (e1.trans e2) (e1.free hl) f2 n2 ra hS2 h2⟩
theorem zcT (S:CompSc X scope N k fr) (hi:JI X tg iter q) (hg:∀s₀ H₀ fp pn,JG (zbx X scope N s₀ H₀ fp pn) tg g) (hc:∀s₀ H₀ fp pn,JTs (zbx X scope N s₀ H₀ fp pn) ifs c) (he:∀s₀ H₀ fp pn,JE (zbx X scope N s₀ H₀ fp pn) elt e)
  (hs:∀x,foldedSetIterable iter X.env x=pure x:=by intro _;rfl):JL X (.ListComp elt [⟨tg,iter,ifs,0⟩] scope pos) (zds k fr q g c e):=fun E hE=>
 (zuQ hE.xe hE.calm S (hi E hE) hs).mono (zkM hg hc he hE)
theorem zgk{i:Nat}{x:Str}{pos' spos:Pos}(hN:X.N.Nodup) (hxi:X.N[i]? =some x) (hxl:Loc X.env.scope x) (S:CompSc X scope N k fr) (hi:JI X tg iter q) (hg:∀s₀ H₀ fp pn,JG (zbx X scope N s₀ H₀ fp pn) tg g) (hc:∀s₀ H₀ fp pn,JTs (zbx X scope N s₀ H₀ fp pn) ifs c) (he:∀s₀ H₀ fp pn,JE (zbx X scope N s₀ H₀ fp pn) elt e)
  (hw:swapsWith (.ListComp elt [⟨tg,iter,ifs,0⟩] scope pos) (some (.Name x pos')) spos.line X.env=pure true:=by rfl) (hf:X.fn x=true∨X.env.scope.names.lookup x=some .local:=by first |exact .inl rfl |exact .inr rfl |assumption)
  (hs:∀x,foldedSetIterable iter X.env x=pure x:=by intro _;rfl):JS X (.Assign [.Name x pos'] (.ListComp elt [⟨tg,iter,ifs,0⟩] scope pos) spos) (wAsg (zdh (zds k fr q g c e)) (wGN i)):=fun E hE=>
 (zvf hE.xe hE.calm S (hi E hE) hN hxi hxl hw hf hs).mono fun D σ H ⟨σW,S0,DW,hσ,hS,ht,hD⟩=>
  zkM hg hc he hE σ H _ ⟨σW,S0,_,hσ,hS,ht,fun ws S1 vs a H1 e1 fa ea na r1 hS1 h1=>by
   have ex:Ext H S0 H1 (put S1 a (.lst ws)):=⟨e1.tup,e1.frz,fun b o q g=>by
    have hb:b≠a:=by rintro rfl;rw [fa]at q;cases q
    rw [zaI hb];exact e1.fr b o q g,e1.all⟩
   refine hD.nx _ (put S1 a (.lst ws)) _ H1 ex ((hσ.ext ex).set (.ref a) i) (fun b o q=>?_) (h1 a na);by_cases hb:b=a
   ·subst hb;rw [zah]at q;cases q;exact⟨vs,ea,r1⟩
   ·rw [zaI hb]at q;exact hS1 b o q⟩
end
noncomputable def SeqIt (k:Bool) (h:Heap) (it a:Addr) (i:Nat):Prop:=if k=true then h.IsListIter it a i else h.IsTupleIter it a i
noncomputable def SeqIs (k:Bool) (h:Heap) (a:Addr) (its:Array Value):Prop:=if k=true then h.IsList a its else h.IsTuple a its
section
variable {k:Bool}{h h':Heap}{it a:Addr}{i:Nat}{its:Array Value}
theorem SeqIt.at (x:SeqIt k h it a i) (e:∀o,h.get? it=some o→h'.get? it=some o):SeqIt k h' it a i:=by
 cases k with
 |true=>exact Heap.IsListIter.at (show h.IsListIter it a i from x) e
 |false=>exact Heap.IsTupleIter.at (show h.IsTupleIter it a i from x) e
theorem SeqIs.at (x:SeqIs k h a its) (e:∀o,h.get? a=some o→h'.get? a=some o):SeqIs k h' a its:=by
 cases k with
 |true=>exact Heap.IsList.at (show h.IsList a its from x) e
 |false=>obtain⟨o,ho,r⟩:=(show h.IsTuple a its from x);exact⟨o,e o ho,r⟩
theorem SeqIt.ob (x:SeqIt k h it a i):∃o vs,h.get? it=some o∧o.data= .fields vs:=by
 cases k with
 |true=>obtain⟨o,ho,_,hd⟩:=(show h.IsListIter it a i from x);exact⟨o,_,ho,hd⟩
 |false=>obtain⟨o,ho,_,hd⟩:=(show h.IsTupleIter it a i from x);exact⟨o,_,ho,hd⟩
end
section
variable {prog:Program}{w:World}{A:Around}{E:Value→Shared→Prop}{s:Shared}
theorem zhV{it t:Addr}{i:Nat}{its:Array Value}{x:Value}{Q:Value→Shared→Prop}(hit:s.heap.IsTupleIter it t i) (ht:s.heap.IsTuple t its) (hx:its[i]? =some x)
  (hQ:∀g,g.IsTupleIter it t (i+1)→Heap.SameBut it s.heap g→Q x { s with heap:=g }):wpAny (model prog w) A (Builtin.SmallTypes.nextOf (.ref it)) Q E s:=by
 obtain⟨o,ho,hc,hd⟩:=id hit;obtain⟨ot,hot,_,nt,hdt⟩:=ht;unfold Builtin.SmallTypes.nextOf;refine wpAny_bind (wpAny_callSpecial?_slot (name:=Str.ofString "__next__") hit.typeIs PySem.F.slot_tuple_iterator_next (wpAny_call_entry PySem.F.slot_tuple_iterator_next hit.typeIs PySem.F.entry_tuple_iterator_next ?_ (PySem.F.args_tuple_iterator_next_1 _)));show wpAny _ _ (field (.ref it) 0 >>= _) _ _ s;refine wpAny_bind (wpAny_field ho hd (x:= .ref t) rfl ?_);show wpAny _ _ (if(Value.ref t == Value.none)=true then _ else _) _ _ s;rw [if_neg (show ¬((Value.ref t == Value.none)=true) from Bool.false_ne_true)];show wpAny _ _ (field (.ref it) 1 >>= _) _ _ s;refine wpAny_bind (wpAny_field ho hd (x:= .int i 0) rfl ?_);show wpAny _ _ (seqItems? (.ref t) >>= _) _ _ s;refine wpAny_bind (wpAny_seqItems hot hdt ?_);simp only[Int.toNat_natCast,hx];refine wpAny_bind (wpAny_setField ho hd (by simp) (wpAny_pure ⟨x,rfl,wpAny_pure (hQ _ ?_ (Heap.SameBut.update ..))⟩));exact⟨_,Heap.get?_update_self _ ho (Obj.isFreed_of_fields (Obj.data_mapFields hd _)),(Obj.cls_mapFields ..).trans hc,by rw [Obj.data_mapFields hd];simp [rawInt]⟩
theorem zig{it t:Addr}{i:Nat}{its:Array Value}{Q:Value→Shared→Prop}(hh:A.handled=none) (hit:s.heap.IsTupleIter it t i) (ht:s.heap.IsTuple t its) (hx:its[i]? =none)
  (hE:∀g e,Heap.ExtBut it s.heap g→(∃o,g.get? e=some o∧o.cls= .type "StopIteration")→E (.ref e) { s with heap:=g }):wpAny (model prog w) A (Builtin.SmallTypes.nextOf (.ref it)) Q E s:=by
 obtain⟨o,ho,hc,hd⟩:=id hit;obtain⟨ot,hot,_,nt,hdt⟩:=ht;unfold Builtin.SmallTypes.nextOf;refine wpAny_bind (wpAny_callSpecial?_slot (name:=Str.ofString "__next__") hit.typeIs PySem.F.slot_tuple_iterator_next (wpAny_call_entry PySem.F.slot_tuple_iterator_next hit.typeIs PySem.F.entry_tuple_iterator_next ?_ (PySem.F.args_tuple_iterator_next_1 _)));show wpAny _ _ (field (.ref it) 0 >>= _) _ _ s;refine wpAny_bind (wpAny_field ho hd (x:= .ref t) rfl ?_);show wpAny _ _ (if(Value.ref t == Value.none)=true then _ else _) _ _ s;rw [if_neg (show ¬((Value.ref t == Value.none)=true) from Bool.false_ne_true)];show wpAny _ _ (field (.ref it) 1 >>= _) _ _ s;refine wpAny_bind (wpAny_field ho hd (x:= .int i 0) rfl ?_);show wpAny _ _ (seqItems? (.ref t) >>= _) _ _ s;refine wpAny_bind (wpAny_seqItems hot hdt ?_);simp only[Int.toNat_natCast,hx];refine wpAny_bind (wpAny_rule (wpAny_bind (wpAny_setField ho hd (by simp) ?_)));show wpAny _ _ (newExc (.type "StopIteration") [] >>= _) _ _ _;refine wpAny_bind ?_;simp only[newExc,newTuple];refine wpAny_bind (wpAny_newObj_type ?_ (by size_fits));refine wpAny_bind (m:=firstArgMember _ _) (wpAny_of_eq (a:=Value.none) (by first |rfl | (simp only[firstArgMember];rfl)) ?_);refine wpAny_newObj_type ?_ (by size_fits);simp only[raiseNew];refine wpAny_bind (wpAny_handled ?_)
 first |rw [show A.in1.handled=none from hh] |rw [hh]
 refine wpAny_bind (wpAny_pure (wpAny_throw ?_));exact hE _ _ (((Heap.SameBut.update ..).extBut.push _).push _) ⟨_,Heap.get?_push_size _ rfl,rfl⟩
theorem zft{k:Bool}{it t:Addr}{i:Nat}{its:Array Value}{x:Value}{Q:Value→Shared→Prop}(hit:SeqIt k s.heap it t i) (ht:SeqIs k s.heap t its) (hx:its[i]? =some x)
  (hQ:∀g,SeqIt k g it t (i+1)→Heap.SameBut it s.heap g→Q x { s with heap:=g }):wpAny (model prog w) A (Builtin.SmallTypes.nextOf (.ref it)) Q E s:=by
 cases k with
 |true=>exact wpAny_nextOf_list_item hit ht hx hQ
 |false=>exact zhV hit ht hx hQ
theorem zjx{k:Bool}{it t:Addr}{i:Nat}{its:Array Value}{Q:Value→Shared→Prop}(hh:A.handled=none) (hit:SeqIt k s.heap it t i) (ht:SeqIs k s.heap t its) (hx:its[i]? =none)
  (hE:∀g e,Heap.ExtBut it s.heap g→(∃o,g.get? e=some o∧o.cls= .type "StopIteration")→E (.ref e) { s with heap:=g }):wpAny (model prog w) A (Builtin.SmallTypes.nextOf (.ref it)) Q E s:=by
 cases k with
 |true=>exact wpAny_nextOf_list_end hh hit ht hx hE
 |false=>exact zig hh hit ht hx hE
theorem zpL{k:Bool}{e it l:Addr}{i:Nat}{its:Array Value}{x old:Value}{Q:Option Value→Shared→Prop}
  (he:IsEnum s.heap e it i old) (hit:SeqIt k s.heap it l i) (hl:SeqIs k s.heap l its) (hx:its[i]? =some x) (hne:e≠it)
  (hQ:∀g,IsEnumOut g e it ((i:Int)+1) x s.heap.objs.size→SeqIt k g it l (i+1)→g.get? s.heap.objs.size=some { cls:= .type "tuple",data:= .seq #[.int i s.toks,x] }→g.objs.size=s.heap.objs.size+1→
   (∀b o,b≠e→b≠it→s.heap.get? b=some o→g.get? b=some o)→Q (some (.ref s.heap.objs.size)) { s with heap:=g,toks:=s.toks+1 }):wpAny (model prog w) A (pyNext (.ref e)) Q E s:=by
 have hT:s.TypeIs (.ref e) "enumerate" :=⟨_,he,rfl⟩;unfold pyNext;refine wpAny_bind (wpAny_attempt (wpAny_callSpecial?_slot (name:=Str.ofString "__next__") hT PySem.F.slot_enumerate_next (wpAny_call_entry PySem.F.slot_enumerate_next hT PySem.F.entry_enumerate_next ?_ (PySem.F.args_enumerate_next_1 _))));obtain⟨hp,g,d,tk,os⟩:=s;show wpAny _ _ (field (.ref e) 2 >>= _) _ _ _;refine wpAny_bind (wpAny_field he rfl (x:= .ref it) rfl ?_);refine wpAny_bind (zft hit hl hx fun g1 hit1 hs1=>?_);replace hs1:Heap.SameBut it hp g1:=hs1;have he1:IsEnum g1 e it i old:=(hs1.2 e hne).trans he;show wpAny _ _ (field (.ref e) 3 >>= _) _ _ ⟨g1,g,d,tk,os⟩;refine wpAny_bind (wpAny_field he1 rfl (x:=rawInt i) rfl ?_);show wpAny _ _ (field (.ref e) 4 >>= _) _ _ ⟨g1,g,d,tk,os⟩;refine wpAny_bind (wpAny_field he1 rfl (x:= .none) rfl ?_);show wpAny _ _ (mkInt i >>= _) _ _ ⟨g1,g,d,tk,os⟩;refine wpAny_bind (wpAny_mkInt ?_);show wpAny _ _ (setField (.ref e) 3 (rawInt ((i:Int)+1)) >>= _) _ _ ⟨g1,g,d,tk+1,os⟩;refine wpAny_bind (wpAny_setField_rec he1 (by simp) fun g2 he2 hs2=>?_);replace hs2:Heap.SameBut e g1 g2:=hs2;replace he2:IsEnum g2 e it ((i:Int)+1) old:=he2;show wpAny _ _ (setField (.ref e) 4 .none >>= _) _ _ ⟨g2,g,d,tk+1,os⟩;refine wpAny_bind (wpAny_setField_rec he2 (by simp) fun g3 he3 hs3=>?_);replace hs3:Heap.SameBut e g2 g3:=hs3;replace he3:IsEnum g3 e it ((i:Int)+1) old:=he3;show wpAny _ _ (newTuple [.int i tk,x] >>= _) _ _ ⟨g3,g,d,tk+1,os⟩;refine wpAny_bind (wpAny_newTuple ?_);have he4:IsEnum (g3.push { cls:= .type "tuple",data:= .seq #[.int i tk,x] }) e it ((i:Int)+1) old:=Heap.get?_push_of_some _ he3;generalize hg4:g3.push { cls:= .type "tuple",data:= .seq #[.int i tk,x] }=g4 at he4;have hsz:g3.objs.size=hp.objs.size:=by rw [hs3.1,hs2.1,hs1.1]
 have hel:e<hp.objs.size:=Heap.lt_size he;have ht4:g4.get? hp.objs.size=some { cls:= .type "tuple",data:= .seq #[.int i tk,x] }:=by rw [←hg4,←hsz];exact Heap.get?_push_size _ rfl
 have hz4:g4.objs.size=hp.objs.size+1:=by rw [←hg4,Heap.size_push,hsz]
 have hk4:∀b o,b≠e→b≠it→hp.get? b=some o→g4.get? b=some o:=fun b o hbe hbi hb=>by rw [←hg4];exact Heap.get?_push_of_some _ (hs3.extBut b o hbe (hs2.extBut b o hbe (hs1.extBut b o hbi hb)))
 have hit4:SeqIt k g4 it l (i+1):=by rw [←hg4];exact hit1.at fun o ho=>Heap.get?_push_of_some _ (hs3.extBut it o (Ne.symm hne) (hs2.extBut it o (Ne.symm hne) ho))
 show wpAny _ _ (Builtin.SmallTypes.ownedTupleIsFree (.ref e) >>= _) _ _ ⟨g4,g,d,tk+1,os⟩;rw [hsz];clear hg4 he3 hs3 he2 hs2 he1 hs1 hit1 hsz g3 g2 g1;refine wpAny_bind ?_;unfold Builtin.SmallTypes.ownedTupleIsFree;refine wpAny_bind (wpAny_field he4 rfl (x:= .none) rfl (wpAny_pure ?_));simp only[if_true];refine wpAny_bind (wpAny_rule ?_);refine wpAny_bind (wpAny_field he4 rfl (x:=old) rfl ?_);refine wpAny_bind (wpAny_setField_rec he4 (by simp) fun g5 he5 hs5=>?_);replace hs5:Heap.SameBut e g4 g5:=hs5;replace he5:IsEnum g5 e it ((i:Int)+1) x:=he5;show wpAny _ _ (Builtin.SmallTypes.ownedTupleHandOut (.ref e) (.ref hp.objs.size) >>= _) _ _ ⟨g5,g,d,tk+1,os⟩;refine wpAny_bind ?_;unfold Builtin.SmallTypes.ownedTupleHandOut;refine wpAny_bind (wpAny_setField_rec he5 (by simp) fun g6 he6 hs6=>?_);replace hs6:Heap.SameBut e g5 g6:=hs6;replace he6:IsEnumOut g6 e it ((i:Int)+1) x hp.objs.size:=he6;refine wpAny_setField_rec he6 (by simp) fun g7 he7 hs7=>?_;replace hs7:Heap.SameBut e g6 g7:=hs7;replace he7:IsEnumOut g7 e it ((i:Int)+1) x hp.objs.size:=he7;refine wpAny_bind (wpAny_letGo (wpAny_pure ⟨_,rfl,wpAny_pure (hQ g7 he7 ?_ ?_ ?_ ?_)⟩))
 ·exact hit4.at fun o ho=>hs7.extBut it o (Ne.symm hne) (hs6.extBut it o (Ne.symm hne) (hs5.extBut it o (Ne.symm hne) ho))
 ·exact hs7.extBut _ _ (Nat.ne_of_gt hel) (hs6.extBut _ _ (Nat.ne_of_gt hel) (hs5.extBut _ _ (Nat.ne_of_gt hel) ht4))
 ·rw [hs7.1,hs6.1,hs5.1,hz4]
 ·exact fun b o hbe hbi hb=>hs7.extBut b o hbe (hs6.extBut b o hbe (hs5.extBut b o hbe (hk4 b o hbe hbi hb)))
theorem zrH{k:Bool}{e it l:Addr}{i:Nat}{its:Array Value}{old:Value}{Q:Option Value→Shared→Prop}(hh:A.handled=none)
  (he:IsEnum s.heap e it i old) (hit:SeqIt k s.heap it l i) (hl:SeqIs k s.heap l its) (hx:its[i]? =none) (hQ:∀g,Heap.ExtBut it s.heap g→Q none { s with heap:=g }):wpAny (model prog w) A (pyNext (.ref e)) Q E s:=by
 have hT:s.TypeIs (.ref e) "enumerate" :=⟨_,he,rfl⟩;unfold pyNext;refine wpAny_bind (wpAny_attempt (wpAny_callSpecial?_slot (name:=Str.ofString "__next__") hT PySem.F.slot_enumerate_next (wpAny_call_entry PySem.F.slot_enumerate_next hT PySem.F.entry_enumerate_next ?_ (PySem.F.args_enumerate_next_1 _))));show wpAny _ _ (field (.ref e) 2 >>= _) _ _ _;refine wpAny_bind (wpAny_field he rfl (x:= .ref it) rfl ?_);refine wpAny_bind (zjx hh hit hl hx fun g x he' hx'=>?_);obtain⟨o,ho,hc⟩:=hx';refine wpAny_bind (wpAny_isInstance (T:= "StopIteration") (b:=true) ⟨o,ho,hc⟩ isSubtype_stop ?_);exact wpAny_pure (hQ _ he')
end
noncomputable def zeB (k:Bool) (a:Addr):Obj:={ cls:= .type (if k=true then "list_iterator" else "tuple_iterator"),data:= .fields #[.ref a, .int 0 0] }
theorem ziR{k:Bool}{h:Heap}{it a:Addr}(e:h.get? it=some (zeB k a)):SeqIt k h it a 0:=by
 cases k with
 |true=>exact⟨_,e,rfl,rfl⟩
 |false=>exact⟨_,e,rfl,rfl⟩
theorem zgs{k:Bool}{a:Addr}:(zeB k a).isFreed=false:=by cases k<;>rfl
section
variable {prog:Program}{w:World}{A:Around}{E:Value→Shared→Prop}{s:Shared}
theorem zjd{k:Bool}{a:Addr}{its:Array Value}{Q:Value→Shared→Prop}(ha:SeqIs k s.heap a its) (hQ:Q (.ref s.heap.objs.size) { s with heap:=s.heap.push (zeB k a) }):wpAny (model prog w) A (pyIter (.ref a)) Q E s:=by
 cases k with
 |true=>exact wpAny_pyIter_list ha hQ
 |false=>exact wpAny_pyIter_tuple ha hQ
end
theorem SeqIs.push{k:Bool}{h:Heap}{a:Addr}{its:Array Value}(x:SeqIs k h a its) (o:Obj):SeqIs k (h.push o) a its:=x.at fun _ e=>Heap.get?_push_of_some _ e
theorem zob{k:Bool}(l:Addr) (its:Array Value) :
  PySem.Meets (Builtin.«enumerate.__new__» ⟨[.type "enumerate", .ref l],[]⟩) (fun _ R s=>SeqIs k s.heap l its∧
   R (.ok (.ret (.ref (s.heap.push (zeB k l)).objs.size))) { s with heap:=(s.heap.push (zeB k l)).push { cls:= .type "enumerate",data:= .fields #[.none, .bool false, .ref s.heap.objs.size,rawInt 0, .none, .none] } }):=
 .of_wp fun prog w A R s h=>by
  obtain⟨hp,g,d,tk,os⟩:=s;obtain⟨hl,h⟩:=h;have hsub:=sub_enumerate;have hL:SeqIs k (Shared.heap ⟨hp,g,d,tk,os⟩) l its:=hl;have fin:∀{A:Around}{E:Value→Shared→Prop}{Q:Value→Shared→Prop},Q (.ref hp.objs.size) ⟨hp.push (zeB k l),g,d,tk,os⟩→wpAny (model prog w) A (pyIter (.ref l)) Q E ⟨hp,g,d,tk,os⟩:=fun q=>zjd hL q
  wp_walk
  refine wpAny_stack_any fun st=>wpAny_pure ?_;split
  ·rename_i c _ _ _ _ _;cases(c == Value.type "enumerate")
   ·wp_walk using fin
    exact⟨_,rfl,h⟩
   ·wp_walk using fin
    exact⟨_,rfl,h⟩
  ·wp_walk using fin
   exact⟨_,rfl,h⟩
section
variable {prog:Program}{w:World}{A:Around}{E:Value→Shared→Prop}{s:Shared}
theorem zps{k:Bool}{l:Addr}{its:Array Value}{Q:Value→Shared→Prop}(hL:SeqIs k s.heap l its)
  (h:∀g,IsEnum g (s.heap.objs.size+1) s.heap.objs.size 0 .none→SeqIt k g s.heap.objs.size l 0→g.objs.size=s.heap.objs.size+2→(∀b o,s.heap.get? b=some o→g.get? b=some o)→Q (.ref (s.heap.objs.size+1)) { s with heap:=g }) :
  wpAny (model prog w) A (call (.type "enumerate") [.ref l]) Q E s:=by
 refine callType_new PySem.F.called_enumerate (by decide) (PySem.F.typeCall_enumerate_1 _) (PySem.F.newCall_enumerate_1 _) (fun obj=>PySem.F.args_object_init_2 obj _) PySem.F.entry_enumerate_new (zob (k:=k) l its) ⟨hL,?_⟩;have hz:(s.heap.push (zeB k l)).objs.size=s.heap.objs.size+1:=Heap.size_push ..;show _∧_;rw [hz];have he:IsEnum ((s.heap.push (zeB k l)).push { cls:= .type "enumerate",data:= .fields #[.none, .bool false, .ref s.heap.objs.size,rawInt 0, .none, .none] }) (s.heap.objs.size+1) s.heap.objs.size 0 .none:=by
  have:=Heap.get?_push_size (s.heap.push (zeB k l)) (o:={ cls:= .type "enumerate",data:= .fields #[.none, .bool false, .ref s.heap.objs.size,rawInt 0, .none, .none] }) rfl;rw [hz]at this;exact this
 exact⟨⟨_,he,rfl⟩,h _ he (ziR (Heap.get?_push_of_some _ (Heap.get?_push_size _ zgs))) (by rw [Heap.size_push,hz]) fun b o x=>Heap.get?_push_of_some _ (Heap.get?_push_of_some _ x)⟩
end
section
variable {X:Cx}{pins:List (Addr×Obj)}{σ:St}{H:Hp}{s:Shared}{g:Heap}{fp:List Addr}
theorem Inv.turnNew{p:Addr}{o:HO}{t':Nat}(I:Inv X pins σ H s) (hp:s.heap.objs.size≤p) (k:∀b u,b∉fp→s.heap.get? b=some u→g.get? b=some u) (hf:∀b∈fp,zjC X pins H b) (new:ObjOk X.prog X.w (upd H p o) g p o) :
  Inv X pins σ (upd H p o) { s with heap:=g,toks:=t' }:=by
 have hn:=I.hok.fresh hp;have lt:∀{b u},s.heap.get? b=some u→b≠p:=fun e=>Nat.ne_of_lt (Nat.lt_of_lt_of_le (Heap.lt_size e) hp);have nfp:∀{b u},H b=some u→b∉fp:=fun e z=>by rw [(hf _ z).1]at e;cases e
 refine I.call (g':=s.gens) (d':=s.drawn) (ch:=fp) ⟨fun b u e _ _ hx=>k b u hx e,fun b u e _ _ hx=>⟨u.slots,k b u hx e⟩,fun b u e n _=>by rw [zaw (lt e)];exact n,fun b u e hx=>⟨u,k b u hx e⟩,
  fun b xs e=>by rw [zaw (zar e hn)];exact e,fun b u xs e=>by rw [zaw (zar e hn)];exact e,fun b ps e=>⟨#[],by rw [zaw (zar e hn),e];simp⟩⟩ (fun b u e=>?_) I.bare fun b hb=>⟨(hf b hb).2.2.2.1,(hf b hb).2.1,(hf b hb).2.2.2.2.1,(hf b hb).2.2.2.2.2⟩
 by_cases hb:b=p
 ·subst hb;rw [zaz]at e;cases e;exact new
 ·rw [zaw hb]at e;refine(I.hok b u e).stay (fun c v hc q=>k c v ?_ q) (fun c q=>by rw [zaw (zar q hn)];exact q) fun c xs q=>by rw [zaw (zar q hn)];exact q
  rcases hc with rfl |hc
  ·exact nfp e
  ·exact nfp hc
theorem Inv.turnedL{t':Nat}(I:Inv X pins σ H s) (k:∀b u,b∉fp→s.heap.get? b=some u→g.get? b=some u) (hf:∀b∈fp,zjC X pins H b):Inv X pins σ H { s with heap:=g,toks:=t' }:=by
 have nfp:∀{b u},H b=some u→b∉fp:=fun e z=>by rw [(hf _ z).1]at e;cases e
 refine I.call (g':=s.gens) (d':=s.drawn) (ch:=fp) ⟨fun b u e _ _ hx=>k b u hx e,fun b u e _ _ hx=>⟨u.slots,k b u hx e⟩,fun b u e n _=>n,fun b u e hx=>⟨u,k b u hx e⟩,
  fun b xs e=>e,fun b u xs e=>e,fun b ps e=>⟨#[],by rw [e];simp⟩⟩ (fun b u e=>?_) I.bare fun b hb=>⟨(hf b hb).2.2.2.1,(hf b hb).2.1,(hf b hb).2.2.2.2.1,(hf b hb).2.2.2.2.2⟩
 refine(I.hok b u e).stay (fun c v hc q=>k c v ?_ q) (fun c q=>q) fun c xs q=>q;rcases hc with rfl |hc
 ·exact nfp e
 ·exact nfp hc
noncomputable def SqK (k:Bool) (K:PySem.W.Frag) (H:Hp) (a:Addr) (xs:List V):Prop:=if k=true then SqL K H a xs else SqT K H a xs
theorem Inv.seq{k:Bool}{a:Addr}{xs:List V}(I:Inv X pins σ H s) (h:SqK k X.K H a xs):∃its:List Value,Vals xs its∧SeqIs k s.heap a its.toArray∧xs.length≤sizeLine:=by
 cases k with
 |true=>obtain⟨its,r,p,z⟩:=I.list h;exact⟨its,r,p.isList,z⟩
 |false=>obtain⟨its,r,p,z⟩:=I.tuple h;exact⟨its,r,p,z⟩
theorem Inv.seq_inj{k:Bool}{a:Addr}{xs ys:List V}(I:Inv X pins σ H s) (h:SqK k X.K H a xs) (h':SqK k X.K H a ys):xs=ys:=by
 cases k with
 |true=>exact I.list_inj h h'
 |false=>exact I.tuple_inj h h'
end
noncomputable def Ite (k:Bool) (K:PySem.W.Frag) (a:Addr):It:=
 ⟨fun i H=>∃xs x,SqK k K H a xs∧xs[i]? =some x,fun i H v H'=>∃p x,H p=none∧v= .ref p∧H'=upd H p (.tup [.int i,x])∧ ∀xs,SqK k K H a xs→xs[i]? =some x,fun i H=>∃xs,SqK k K H a xs∧xs.length≤i⟩
theorem zqZ{P:Program}{w:World}{K:PySem.W.Frag}{es:List Expr}{x1:Nat}{pos:Pos}(k:Bool) (a e it:Addr) (hne:e≠it):Turn P w K (.Tuple es x1 pos) (Ite k K a) [e,it] e (fun i h=>(∃old,IsEnum h e it (i:Nat) old)∧SeqIt k h it a i) where
  mem:=by simp
  obj:=fun i h ⟨⟨old,he⟩,hit⟩ b hb=>by
    rcases List.mem_cons.mp hb with rfl |hb
    · exact⟨_,he,fun v z=>by cases z⟩
    · have q:b=it:=by simpa using hb
      subst q;obtain⟨o,vs,e,d⟩:=hit.ob;exact⟨o,e,fun v z=>by rw [d]at z;cases z⟩
  keep:=fun i h h' ⟨⟨old,he⟩,hit⟩ kk=>⟨⟨old,kk e (by simp) _ he⟩,hit.at fun o q=>kk it (by simp) o q⟩
  item:=by
    intro X hP hw hK hc i pins s σ H E I hf st hg;subst hP hw hK;obtain⟨xs,x,hq,hx⟩:=hg;obtain⟨⟨old,he⟩,hit⟩:=st;obtain⟨its,rv,p,hz⟩:=I.seq hq;obtain⟨u,hu,ru⟩:=rv.get hx;refine zpL he hit p (x:=u) (by simpa using hu) hne fun g ho hit' ht hz' kk=>⟨_,rfl,?_⟩;refine wpAny_letOwnedTupleGo_enum ho fun g2 he2 hs2=>?_;have hlt:s.heap.objs.size≠e:=Nat.ne_of_gt (Heap.lt_size he);have kk2:∀b o,b∉ [e,it]→s.heap.get? b=some o→g2.get? b=some o:=fun b o hb q=>by
      have h1:b≠e:=fun z=>hb (by simp [z]);have h2:b≠it:=fun z=>hb (by simp [z]);exact(hs2.2 b h1).trans (kk b o h1 h2 q)
    have hn:=I.hok.fresh (Nat.le_refl s.heap.objs.size);have ht2:g2.get? s.heap.objs.size=some { cls:= .type "tuple",data:= .seq #[.int i s.toks,u] }:=(hs2.2 _ hlt).trans ht;refine⟨.ref s.heap.objs.size,upd H s.heap.objs.size (.tup [.int i,x]),I.turnNew (fp:=[e,it]) (t':=s.toks+1) (Nat.le_refl _) kk2 hf ⟨by show 2≤sizeLine;rw [sizeLine_eq];decide,[.int i s.toks,u], .cons ⟨_,rfl⟩ (.cons ru .nil),⟨_,ht2,rfl,_,rfl⟩⟩,rfl,
      ⟨_,x,hn,rfl,rfl,fun ys hy=>by rw [I.seq_inj hy hq];exact hx⟩,⟨⟨u,by simpa using he2⟩,hit'.at fun o q=>(hs2.2 it (Ne.symm hne)).trans q⟩,fun b hb=>?_⟩
    have hb':=(hf b hb).1;have:b≠s.heap.objs.size:=by
      rcases List.mem_cons.mp hb with rfl |hb
      · exact Ne.symm hlt
      · have q:b=it:=by simpa using hb
        subst q;obtain⟨o,vs,e,d⟩:=hit.ob;exact Nat.ne_of_lt (Heap.lt_size e)
    rw [zaw this];exact hb'
  done:=by
    intro X hP hw hK hc i pins s σ H E I hf st hg;subst hP hw hK;obtain⟨xs,hq,hx⟩:=hg;obtain⟨⟨old,he⟩,hit⟩:=st;obtain⟨its,rv,p,hz⟩:=I.seq hq;have hl:=rv.length;exact zrH (I.ok.hd hc) he hit p (by simp;omega) fun g eb=>⟨rfl,I.turnedL (fp:=[e,it]) (t':=s.toks) (fun b o hb q=>eb b o (fun z=>hb (by simp [z])) q) hf⟩
  self:=fun A i s Q E ⟨⟨old,he⟩,hit⟩ h=>wpAny_pyIter_enum he h
section
variable {X:Cx}{es:List Expr}{x1:Nat}{tpos:Pos}
noncomputable def zzX (K:PySem.W.Frag) (ta:TA):TI:=fun σ H R=>ta σ H fun vs H1=>∃k a xs,vs=[.ref a]∧SqK k K H1 a xs∧R (Ite k K a) H1
theorem zvg{a:Expr}{ta:TA}{p pos:Pos}(hg:Gl X "enumerate") (hm:X.mg "enumerate" =none) (ha:PA X [a] ta) (hs:starEach [a] X.env=[(false,eval a X.env)]:=by rfl):PI X (.Tuple es x1 tpos) (.Call (.Name "enumerate" p) [a] [] pos) (zzX X.K ta):=by
 intro pins s σ H R I h;refine Call_ (ziE I hg hm boot_enumerate (PyProof.Rows.callWith_type1 (thn (ha pos pins s σ H _ I h) fun us s1 ⟨vs,H1,I1,r1,q1⟩=>?_) hs rfl));obtain⟨k,a,xs,e,hq,q⟩:=q1;subst e;cases r1 with
 |cons r rr=>
  cases rr;cases(show _=Value.ref a from r);obtain⟨its,rv,pl,hz⟩:=I1.seq hq;refine zps pl fun g he hit hz' kk=>wpAny_pyIter_enum he ?_;have I2:Inv X pins σ H1 { s1 with heap:=g }:=I1.kept (t':=s1.toks) kk;refine⟨s1.heap.objs.size+1,[s1.heap.objs.size+1,s1.heap.objs.size],_,_,H1,rfl,I2,zqZ k a _ _ (Nat.succ_ne_self _),⟨⟨.none,he⟩,hit⟩,fun b hb=>?_,q⟩;have hb':s1.heap.objs.size≤b:=by
   rcases List.mem_cons.mp hb with rfl |hb
   ·exact Nat.le_succ _
   ·have q:b=s1.heap.objs.size:=by simpa using hb
    exact Nat.le_of_eq q.symm
  exact I1.fpOk hb' (I1.hok.fresh hb')
noncomputable def zim:Nat→List W→List W
 |_,[]=>[]
 |n,w::ws=> .tup [.int n,w]::zim (n+1) ws
theorem znK:∀{ws:List W}{n i:Nat}{u:W},(zim n ws)[i]? =some u→ ∃w,ws[i]? =some w∧u= .tup [.int ((n+i:Nat):Int),w]
 | [],_,_,_,h=>by simp [zim]at h
 |w::ws,n,0,u,h=>by
  simp [zim]at h;exact⟨w,rfl,by rw [←h];rfl⟩
 |w::ws,n,i+1,u,h=>by
  obtain⟨w',e,q⟩:=znK (ws:=ws) (n:=n+1) (i:=i) (u:=u) (by simpa [zim]using h);refine⟨w',by simpa using e,?_⟩
  rw [q,show n+1+i=n+(i+1) by omega]
theorem znD:∀{ws:List W}{n:Nat},(zim n ws).length=ws.length
 | [],_=>rfl
 |w::ws,n=>by simp [zim,znD (ws:=ws)]
theorem ztU{K:PySem.W.Frag}{k:Bool}{a:Addr}{ws:List W}{G:Sto→Prop}{H0:Hp}{S0:Sto}(h:∀S H,Ext H0 S0 H S→RepS K H S→G S→ ∃vs,SqK k K H a vs∧Reps K H ws vs):ItW K (Ite k K a) (zim 0 ws) G H0 S0:=fun i S H e hS hG=>by
 obtain⟨vs,hq,r⟩:=h S H e hS hG;refine⟨fun u eu=>?_,fun hl=>⟨vs,hq,by rw [←r.length,hl,znD];exact Nat.le_refl _⟩⟩
 obtain⟨w,ew,rfl⟩:=znK eu;obtain⟨v,ev,rv⟩:=r.get ew;refine⟨⟨vs,v,hq,ev⟩,fun x H' ⟨p,y,hp,e1,e2,e3⟩=>?_⟩;subst e1 e2;have e4:=e3 vs hq;rw [ev]at e4;cases e4;rw [Nat.zero_add];exact⟨.new hp,hS.new hp, .tup zaz (.cons (.int _) (.cons (rv.ext (.new (S:=S) hp)) .nil))⟩
noncomputable def zoI:W→Sto→(List W→(Sto→Prop)→Prop)→Prop
 | .tup ws,_,Q=>Q ws fun _=>True
 | .ref a,S,Q=>zcp S a fun ws=>Q ws fun S'=>S' a=some (.lst ws)
 | .scr ns,_,Q=>Q (ns.map W.int) fun _=>True
 |_,_,_=>False
theorem zvj{K:PySem.W.Frag}{H:Hp}{S:Sto}{w:W}{v:V}{Q:List W→(Sto→Prop)→Prop}(r:Rep K H w v) (hS:RepS K H S) (h:zoI w S Q) :
  ∃k a ws G,v= .ref a∧G S∧(∀S' H',Ext H S H' S'→RepS K H' S'→G S'→ ∃vs,SqK k K H' a vs∧Reps K H' ws vs)∧Q ws G:=by
 cases r with
 |tup f hs=>exact⟨false,_,_,_,rfl,trivial,fun S' H' e hS' _=>⟨_, .of (e.tup _ _ f),hs.ext e⟩,h⟩
 |ref a=>
  obtain⟨ws,ea,h⟩:=zbh h;exact⟨true,_,ws,_,rfl,ea,fun S' H' e hS' g=>by
   obtain⟨vs,f,hs⟩:=hS' a _ g;exact⟨vs, .of f,hs⟩,h⟩
 |scr f=>exact⟨true,_,_,_,rfl,trivial,fun S' H' e hS' _=>⟨_,(e.fz f).sq,Reps.ofInts _⟩,h⟩
 |_=>exact h.elim
noncomputable def zpi (t:WE):WI:=fun E σ S Q=>t E σ S fun w S1=>zoI w S1 fun ws G=>Q (zim 0 ws) G S1
theorem zlW{a:Expr}{ta:WE}{p pos:Pos}(hg:Gl X "enumerate") (hm:X.mg "enumerate" =none) (ha:JE X a ta) (hs:starEach [a] X.env=[(false,eval a X.env)]:=by rfl) (hs2:starEach [a] X.env=(false,eval a X.env)::starEach [] X.env:=by rfl):JI X (.Tuple es x1 tpos) (.Call (.Name "enumerate" p) [a] [] pos) (zpi ta):=fun E hE=>
 (zvg hg hm (zdG (ha E hE) pa_nil hs2) hs).mono fun σ H R ⟨σW,S,QW,hσ,hS,ht,hR⟩=>⟨σW,S,_,hσ,hS,ht,fun w S1 v H1 e1 r1 hS1 h1=>by
  obtain⟨k,a,ws,G,rfl,hG,hq,h⟩:=zvj r1 hS1 h1;obtain⟨vs,hv,_⟩:=hq S1 H1 .refl hS1 hG;exact⟨k,a,vs,rfl,hv,hR _ _ S1 _ H1 e1 hS1 hG (ztU hq) h⟩⟩
end
section
variable {prog:Program}{w:World}{A:Around}{E:Value→Shared→Prop}{s:Shared}
theorem zsM{k1 k2:Bool}{z TI TO i1 i2 l1 l2:Addr}{n1 n2:Nat}{xs ys:Array Value}{x y a b:Value}{Q:Option Value→Shared→Prop}(D:ZipApart z TI TO i1 i2 l1 l2)
  (hz:IsZip s.heap z TI TO .none) (hTI:IsPair s.heap TI (.ref i1) (.ref i2)) (hTO:IsPair s.heap TO a b) (h1:SeqIt k1 s.heap i1 l1 n1) (h2:SeqIt k2 s.heap i2 l2 n2) (hl1:SeqIs k1 s.heap l1 xs) (hl2:SeqIs k2 s.heap l2 ys) (hx:xs[n1]? =some x) (hy:ys[n2]? =some y)
  (hQ:∀g,IsZip g z TI TO (rawInt s.heap.objs.size)→IsPair g TO x y→SeqIt k1 g i1 l1 (n1+1)→SeqIt k2 g i2 l2 (n2+1)→IsPair g s.heap.objs.size x y→g.objs.size=s.heap.objs.size+1→
   (∀c o,c≠z→c≠TO→c≠i1→c≠i2→s.heap.get? c=some o→g.get? c=some o)→Q (some (.ref s.heap.objs.size)) { s with heap:=g }):wpAny (model prog w) A (pyNext (.ref z)) Q E s:=by
 have hT:s.TypeIs (.ref z) "zip" :=⟨_,hz,rfl⟩;unfold pyNext;refine wpAny_bind (wpAny_attempt (wpAny_callSpecial?_slot (name:=Str.ofString "__next__") hT PySem.F.slot_zip_next (wpAny_call_entry PySem.F.slot_zip_next hT PySem.F.entry_zip_next ?_ (PySem.F.args_zip_next_1 _))));show wpAny _ _ (field (.ref z) 2 >>= _) _ _ _;refine wpAny_bind (wpAny_field hz rfl (x:= .bool false) rfl ?_);show wpAny _ _ (field (.ref z) 3 >>= _) _ _ _;refine wpAny_bind (wpAny_field hz rfl (x:= .ref TI) rfl ?_);refine wpAny_bind (wpAny_seqItems hTI rfl ?_);show wpAny _ _ (Builtin.SmallTypes.ownedTupleIsFree (.ref z) >>= _) _ _ _;refine wpAny_bind ?_;unfold Builtin.SmallTypes.ownedTupleIsFree;refine wpAny_bind (wpAny_field hz rfl (x:= .none) rfl (wpAny_pure ?_));simp only[if_true];refine wpAny_bind (wpAny_rule ?_);refine wpAny_bind (wpAny_field hz rfl (x:= .ref TO) rfl ?_);refine wpAny_bind (wpAny_setField_rec hz (by simp) fun g1 hz1 hs1=>?_);replace hz1:IsZip g1 z TI TO .ellipsis:=hz1;refine wpAny_bind ?_;simp only[List.zipIdx_cons,List.zipIdx_nil,List.forIn_cons,List.forIn_nil];refine wpAny_bind (wpAny_bind (wpAny_onRaise ?_));show wpAny _ _ (Builtin.SmallTypes.nextOf (.ref i1) >>= _) _ _ _;refine wpAny_bind (zft (h1.at fun o e=>hs1.extBut _ o D.i1z e) (hl1.at fun o e=>hs1.extBut _ o D.l1z e) hx fun g2 h12 hs2=>wpAny_pure ?_);have hTO2:IsPair g2 TO a b:=hs2.extBut _ _ D.TOi1 (hs1.extBut _ _ D.TOz hTO);refine wpAny_bind (wpAny_seqItems hTO2 rfl ?_);refine wpAny_bind (wpAny_updateSeq_pair hTO2 fun g3 hTO3 hs3=>?_);replace hTO3:IsPair g3 TO x b:=hTO3;refine wpAny_bind (wpAny_letGo (wpAny_pure ?_));refine wpAny_bind (wpAny_bind (wpAny_onRaise ?_));show wpAny _ _ (Builtin.SmallTypes.nextOf (.ref i2) >>= _) _ _ _;refine wpAny_bind (zft (h2.at fun o e=>hs3.extBut _ o D.TOi2.symm (hs2.extBut _ o D.i12.symm (hs1.extBut _ o D.i2z e))) (hl2.at fun o e=>hs3.extBut _ o D.l2TO (hs2.extBut _ o D.l2i1 (hs1.extBut _ o D.l2z e))) hy fun g4 h24 hs4=>wpAny_pure ?_);have hTO4:IsPair g4 TO x b:=hs4.extBut _ _ D.TOi2 hTO3;refine wpAny_bind (wpAny_seqItems hTO4 rfl ?_);refine wpAny_bind (wpAny_updateSeq_pair hTO4 fun g5 hTO5 hs5=>?_);replace hTO5:IsPair g5 TO x y:=hTO5;refine wpAny_bind (wpAny_letGo (wpAny_pure (wpAny_pure ?_)));refine wpAny_bind (wpAny_seqItems hTO5 rfl ?_);refine wpAny_bind (wpAny_newTuple ?_);have hsz:g5.objs.size=s.heap.objs.size:=by rw [hs5.1,hs4.1,hs3.1,hs2.1,hs1.1]
 have hz5:IsZip g5 z TI TO .ellipsis:=hs5.extBut _ _ D.TOz.symm (hs4.extBut _ _ D.i2z.symm (hs3.extBut _ _ D.TOz.symm (hs2.extBut _ _ D.i1z.symm hz1)));have hk5:∀c o,c≠z→c≠TO→c≠i1→c≠i2→s.heap.get? c=some o→g5.get? c=some o:=fun c o c1 c2 c3 c4 e=>hs5.extBut _ _ c2 (hs4.extBut _ _ c4 (hs3.extBut _ _ c2 (hs2.extBut _ _ c3 (hs1.extBut _ _ c1 e))));have h15:SeqIt k1 g5 i1 l1 (n1+1):=h12.at fun o e=>hs5.extBut _ o D.TOi1.symm (hs4.extBut _ o D.i12 (hs3.extBut _ o D.TOi1.symm e));have h25:SeqIt k2 g5 i2 l2 (n2+1):=h24.at fun o e=>hs5.extBut _ o D.TOi2.symm e;have hzlt:z<g5.objs.size:=Heap.lt_size hz5;show wpAny _ _ (Builtin.SmallTypes.ownedTupleHandOut (.ref z) (.ref g5.objs.size) >>= _) _ _ _;refine wpAny_bind ?_;unfold Builtin.SmallTypes.ownedTupleHandOut;have hz6:IsZip (g5.push { cls:= .type "tuple",data:= .seq #[x,y] }) z TI TO .ellipsis:=Heap.get?_push_of_some _ hz5;refine wpAny_bind (wpAny_setField_rec hz6 (by simp) fun g7 hz7 hs7=>?_);replace hz7:IsZip g7 z TI TO (rawInt g5.objs.size):=hz7;refine wpAny_setField_rec hz7 (by simp) fun g8 hz8 hs8=>?_;replace hz8:IsZip g8 z TI TO (rawInt g5.objs.size):=hz8;have up:∀c o,c≠z→g5.get? c=some o→g8.get? c=some o:=fun c o c1 e=>hs8.extBut _ _ c1 (hs7.extBut _ _ c1 (Heap.get?_push_of_some _ e));have hT8:IsPair g8 g5.objs.size x y:=hs8.extBut _ _ (Nat.ne_of_gt hzlt) (hs7.extBut _ _ (Nat.ne_of_gt hzlt) (Heap.get?_push_size _ rfl));have hzz:g8.objs.size=g5.objs.size+1:=by rw [hs8.1,hs7.1,Heap.size_push]
 rw [hsz]at hz8 hT8 hzz;refine wpAny_pure ⟨_,rfl,wpAny_pure ?_⟩;show Q (some (.ref g5.objs.size)) _;rw [hsz];exact hQ g8 hz8 (up _ _ D.TOz hTO5) (h15.at fun o e=>up _ o D.i1z e) (h25.at fun o e=>up _ o D.i2z e) hT8 hzz fun c o c1 c2 c3 c4 e=>up c o c1 (hk5 c o c1 c2 c3 c4 e)
theorem zuA{k1 k2:Bool}{z TI TO i1 i2 l1 l2:Addr}{n1 n2:Nat}{xs ys:Array Value}{a b:Value}{Q:Option Value→Shared→Prop}(hh:A.handled=none) (D:ZipApart z TI TO i1 i2 l1 l2)
  (hz:IsZip s.heap z TI TO .none) (hTI:IsPair s.heap TI (.ref i1) (.ref i2)) (hTO:IsPair s.heap TO a b) (h1:SeqIt k1 s.heap i1 l1 n1) (h2:SeqIt k2 s.heap i2 l2 n2) (hl1:SeqIs k1 s.heap l1 xs) (hl2:SeqIs k2 s.heap l2 ys) (hend:xs[n1]? =none∨ys[n2]? =none)
  (hQ:∀g,(∀c o,c≠z→c≠TO→c≠i1→c≠i2→s.heap.get? c=some o→g.get? c=some o)→Q none { s with heap:=g }):wpAny (model prog w) A (pyNext (.ref z)) Q E s:=by
 have hT:s.TypeIs (.ref z) "zip" :=⟨_,hz,rfl⟩;have fin:∀(g:Heap) (e:Addr),(∀c o,c≠z→c≠TO→c≠i1→c≠i2→s.heap.get? c=some o→g.get? c=some o)→(∃o,g.get? e=some o∧o.cls= .type "StopIteration")→
   wpAny (model prog w) A (do if(←isInstance (.ref e) (.type "StopIteration")) then pure none else throw (.ref e)) Q E { s with heap:=g }:=fun g e hk ⟨o,ho,hc⟩=>
  wpAny_bind (wpAny_isInstance (T:= "StopIteration") (b:=true) ⟨o,ho,hc⟩ isSubtype_stop (wpAny_pure (hQ _ hk)))
 unfold pyNext;refine wpAny_bind (wpAny_attempt (wpAny_callSpecial?_slot (name:=Str.ofString "__next__") hT PySem.F.slot_zip_next (wpAny_call_entry PySem.F.slot_zip_next hT PySem.F.entry_zip_next ?_ (PySem.F.args_zip_next_1 _))));show wpAny _ _ (field (.ref z) 2 >>= _) _ _ _;refine wpAny_bind (wpAny_field hz rfl (x:= .bool false) rfl ?_);show wpAny _ _ (field (.ref z) 3 >>= _) _ _ _;refine wpAny_bind (wpAny_field hz rfl (x:= .ref TI) rfl ?_);refine wpAny_bind (wpAny_seqItems hTI rfl ?_);show wpAny _ _ (Builtin.SmallTypes.ownedTupleIsFree (.ref z) >>= _) _ _ _;refine wpAny_bind ?_;unfold Builtin.SmallTypes.ownedTupleIsFree;refine wpAny_bind (wpAny_field hz rfl (x:= .none) rfl (wpAny_pure ?_));simp only[if_true];refine wpAny_bind (wpAny_rule ?_);refine wpAny_bind (wpAny_field hz rfl (x:= .ref TO) rfl ?_);refine wpAny_bind (wpAny_setField_rec hz (by simp) fun g1 hz1 hs1=>?_);replace hz1:IsZip g1 z TI TO .ellipsis:=hz1;refine wpAny_bind ?_;simp only[List.zipIdx_cons,List.zipIdx_nil,List.forIn_cons,List.forIn_nil];refine wpAny_bind (wpAny_bind (wpAny_onRaise ?_));show wpAny _ _ (Builtin.SmallTypes.nextOf (.ref i1) >>= _) _ _ _;cases hx:xs[n1]? with
 |none=>
  refine wpAny_bind (zjx hh (h1.at fun o e=>hs1.extBut _ o D.i1z e) (hl1.at fun o e=>hs1.extBut _ o D.l1z e) hx fun g2 e hs2 he=>?_);obtain⟨oe,hoe,hce⟩:=he;have hz2:IsZip g2 z TI TO .ellipsis:=hs2 _ _ D.i1z.symm hz1;have hez:e≠z:=fun x=>by subst x;rw [hz2]at hoe;cases hoe;simp at hce
  refine wpAny_setField_rec hz2 (by simp) fun g3 _ hs3=>fin g3 e (fun c o c1 _ c3 _ x=>hs3.extBut _ _ c1 (hs2 _ _ c3 (hs1.extBut _ _ c1 x))) ⟨oe,hs3.extBut _ _ hez hoe,hce⟩
 |some x=>
  have hy:ys[n2]? =none:=by rcases hend with h |h;rw [hx]at h;cases h;exact h
  refine wpAny_bind (zft (h1.at fun o e=>hs1.extBut _ o D.i1z e) (hl1.at fun o e=>hs1.extBut _ o D.l1z e) hx fun g2 h12 hs2=>wpAny_pure ?_);have hTO2:IsPair g2 TO a b:=hs2.extBut _ _ D.TOi1 (hs1.extBut _ _ D.TOz hTO);refine wpAny_bind (wpAny_seqItems hTO2 rfl ?_);refine wpAny_bind (wpAny_updateSeq_pair hTO2 fun g3 hTO3 hs3=>?_);refine wpAny_bind (wpAny_letGo (wpAny_pure ?_));refine wpAny_bind (wpAny_bind (wpAny_onRaise ?_));show wpAny _ _ (Builtin.SmallTypes.nextOf (.ref i2) >>= _) _ _ _;refine wpAny_bind (zjx hh (h2.at fun o e=>hs3.extBut _ o D.TOi2.symm (hs2.extBut _ o D.i12.symm (hs1.extBut _ o D.i2z e))) (hl2.at fun o e=>hs3.extBut _ o D.l2TO (hs2.extBut _ o D.l2i1 (hs1.extBut _ o D.l2z e))) hy fun g4 e hs4 he=>?_);obtain⟨oe,hoe,hce⟩:=he;have hz4:IsZip g4 z TI TO .ellipsis:=hs4 _ _ D.i2z.symm (hs3.extBut _ _ D.TOz.symm (hs2.extBut _ _ D.i1z.symm hz1));have hez:e≠z:=fun x=>by subst x;rw [hz4]at hoe;cases hoe;simp at hce
  refine wpAny_setField_rec hz4 (by simp) fun g5 _ hs5=>fin g5 e (fun c o c1 c2 c3 c4 x=>hs5.extBut _ _ c1 (hs4 _ _ c4 (hs3.extBut _ _ c2 (hs2.extBut _ _ c3 (hs1.extBut _ _ c1 x))))) ⟨oe,hs5.extBut _ _ hez hoe,hce⟩
end
noncomputable abbrev zH1 (k1:Bool) (h:Heap) (l1:Addr):Heap:=h.push (zeB k1 l1)
noncomputable abbrev zH2 (k1 k2:Bool) (h:Heap) (l1 l2:Addr):Heap:=(zH1 k1 h l1).push (zeB k2 l2)
noncomputable abbrev zH3 (k1 k2:Bool) (h:Heap) (l1 l2:Addr):Heap:=(zH2 k1 k2 h l1 l2).push { cls:= .type "tuple",data:= .seq #[.ref h.objs.size, .ref (zH1 k1 h l1).objs.size] }
noncomputable abbrev zH4 (k1 k2:Bool) (h:Heap) (l1 l2:Addr):Heap:=(zH3 k1 k2 h l1 l2).push { cls:= .type "tuple",data:= .seq #[.none, .none] }
noncomputable abbrev zH5 (k1 k2:Bool) (h:Heap) (l1 l2:Addr):Heap:=(zH4 k1 k2 h l1 l2).push { cls:= .type "zip",data:= .fields #[.none, .bool false, .bool false, .ref (zH2 k1 k2 h l1 l2).objs.size, .ref (zH3 k1 k2 h l1 l2).objs.size] }
theorem zon{k1 k2:Bool}(l1 l2:Addr) (xs ys:Array Value) :
  PySem.Meets (Builtin.«zip.__new__» ⟨[.type "zip", .ref l1, .ref l2],[]⟩) (fun _ R s=>SeqIs k1 s.heap l1 xs∧SeqIs k2 s.heap l2 ys∧R (.ok (.ret (.ref (zH4 k1 k2 s.heap l1 l2).objs.size))) { s with heap:=zH5 k1 k2 s.heap l1 l2 }):=
 .of_wp fun prog w A R s h=>by
  obtain⟨hp,g,d,tk,os⟩:=s;obtain⟨hl1,hl2,h⟩:=h;have hsub:=sub_zip;have f1:∀{A:Around}{E:Value→Shared→Prop}{Q:Value→Shared→Prop},Q (.ref hp.objs.size) ⟨hp.push (zeB k1 l1),g,d,tk,os⟩→wpAny (model prog w) A (pyIter (.ref l1)) Q E ⟨hp,g,d,tk,os⟩:=fun q=>zjd (s:=⟨hp,g,d,tk,os⟩) hl1 q;have f2:∀{A:Around}{E:Value→Shared→Prop}{Q:Value→Shared→Prop},Q (.ref (hp.push (zeB k1 l1)).objs.size) ⟨(hp.push (zeB k1 l1)).push (zeB k2 l2),g,d,tk,os⟩→wpAny (model prog w) A (pyIter (.ref l2)) Q E ⟨hp.push (zeB k1 l1),g,d,tk,os⟩:=fun q=>zjd (s:=⟨hp.push (zeB k1 l1),g,d,tk,os⟩) (hl2.push _) q
  wp_walk using f1,f2
  exact⟨_,rfl,h⟩
section
variable {prog:Program}{w:World}{A:Around}{E:Value→Shared→Prop}{s:Shared}
theorem zrp{k1 k2:Bool}{l1 l2:Addr}{xs ys:Array Value}{Q:Value→Shared→Prop}(hl1:SeqIs k1 s.heap l1 xs) (hl2:SeqIs k2 s.heap l2 ys)
  (h:∀g,IsZip g (s.heap.objs.size+4) (s.heap.objs.size+2) (s.heap.objs.size+3) .none→IsPair g (s.heap.objs.size+2) (.ref s.heap.objs.size) (.ref (s.heap.objs.size+1))→
   IsPair g (s.heap.objs.size+3) .none .none→SeqIt k1 g s.heap.objs.size l1 0→SeqIt k2 g (s.heap.objs.size+1) l2 0→g.objs.size=s.heap.objs.size+5→
   (∀c o,s.heap.get? c=some o→g.get? c=some o)→Q (.ref (s.heap.objs.size+4)) { s with heap:=g }):wpAny (model prog w) A (call (.type "zip") [.ref l1, .ref l2]) Q E s:=by
 refine callType_new PySem.F.called_zip (by decide) (PySem.F.typeCall_zip_2 _ _) (PySem.F.newCall_zip_2 _ _) (fun obj=>PySem.F.args_object_init_3 obj _ _) PySem.F.entry_zip_new (zon (k1:=k1) (k2:=k2) l1 l2 xs ys) ⟨hl1,hl2,?_⟩;have z1:(zH1 k1 s.heap l1).objs.size=s.heap.objs.size+1:=Heap.size_push ..;have z2:(zH2 k1 k2 s.heap l1 l2).objs.size=s.heap.objs.size+2:=by rw [Heap.size_push,z1]
 have z3:(zH3 k1 k2 s.heap l1 l2).objs.size=s.heap.objs.size+3:=by rw [Heap.size_push,z2]
 have z4:(zH4 k1 k2 s.heap l1 l2).objs.size=s.heap.objs.size+4:=by rw [Heap.size_push,z3]
 have z5:(zH5 k1 k2 s.heap l1 l2).objs.size=s.heap.objs.size+5:=by rw [Heap.size_push,z4]
 have g5:(zH5 k1 k2 s.heap l1 l2).get? (zH4 k1 k2 s.heap l1 l2).objs.size=some _:=Heap.get?_push_size _ rfl;have g4:(zH5 k1 k2 s.heap l1 l2).get? (zH3 k1 k2 s.heap l1 l2).objs.size=some _:=Heap.get?_push_of_some _ (Heap.get?_push_size _ rfl);have g3:(zH5 k1 k2 s.heap l1 l2).get? (zH2 k1 k2 s.heap l1 l2).objs.size=some _:=Heap.get?_push_of_some _ (Heap.get?_push_of_some _ (Heap.get?_push_size _ rfl));have g2:(zH5 k1 k2 s.heap l1 l2).get? (zH1 k1 s.heap l1).objs.size=some _:=Heap.get?_push_of_some _ (Heap.get?_push_of_some _ (Heap.get?_push_of_some _ (Heap.get?_push_size _ zgs)));have g1:(zH5 k1 k2 s.heap l1 l2).get? s.heap.objs.size=some _:=Heap.get?_push_of_some _ (Heap.get?_push_of_some _ (Heap.get?_push_of_some _ (Heap.get?_push_of_some _ (Heap.get?_push_size _ zgs))));show _∧_;rw [z2,z3,z4]at g5;rw [z1,z2]at g3;rw [z3]at g4;rw [z1]at g2;rw [z4];exact⟨⟨_,g5,rfl⟩,h _ g5 g3 g4 (ziR g1) (ziR g2) z5 fun c o x=>Heap.get?_push_of_some _ (Heap.get?_push_of_some _ (Heap.get?_push_of_some _ (Heap.get?_push_of_some _ (Heap.get?_push_of_some _ x))))⟩
end
noncomputable def SqZ (k:Bool) (K:PySem.W.Frag) (H:Hp) (a:Addr) (xs:List V):Prop:=if k=true then SqL K H a xs else H a=some (.tup xs)
theorem SqZ.sq{k:Bool}{K:PySem.W.Frag}{H:Hp}{a:Addr}{xs:List V}(h:SqZ k K H a xs):SqK k K H a xs:=by
 cases k with
 |true=>exact h
 |false=>exact .of h
theorem SeqIs.ob{k:Bool}{h:Heap}{a:Addr}{its:Array Value}(x:SeqIs k h a its):∃o n,h.get? a=some o∧o.data= .seq its n∧(k=true→o.cls= .type "list"):=by
 cases k with
 |true=>obtain⟨o,ho,hc,n,hd⟩:=(show h.IsList a its from x);exact⟨o,n,ho,hd,fun _=>hc⟩
 |false=>obtain⟨o,ho,hc,n,hd⟩:=(show h.IsTuple a its from x);exact⟨o,n,ho,hd,fun z=>by cases z⟩
theorem SeqIs.ne_fields{k:Bool}{h:Heap}{a b:Addr}{its:Array Value}{o:Obj}{vs:Array Value}(x:SeqIs k h a its) (e:h.get? b=some o) (d:o.data= .fields vs):a≠b:=fun z=>by
 subst z;obtain⟨o',n,ho,hd,_⟩:=x.ob;rw [ho]at e;cases e;rw [hd]at d;cases d
noncomputable def Itz (k1 k2:Bool) (K:PySem.W.Frag) (a b:Addr):It:=
  ⟨fun i H=>∃xs ys x y,SqZ k1 K H a xs∧SqZ k2 K H b ys∧xs[i]? =some x∧ys[i]? =some y,
   fun i H v H'=>∃p x y,H p=none∧v= .ref p∧H'=upd H p (.tup [x,y])∧(∀xs,SqZ k1 K H a xs→xs[i]? =some x)∧ ∀ys,SqZ k2 K H b ys→ys[i]? =some y,
   fun i H=>∃xs ys,SqZ k1 K H a xs∧SqZ k2 K H b ys∧(xs.length≤i∨ys.length≤i)⟩
structure ZipFar (z TI TO i1 i2:Addr):Prop where
  TIz:TI≠z
  TOz:TO≠z
  i1z:i1≠z
  i2z:i2≠z
  TITO:TI≠TO
  TIi1:TI≠i1
  TIi2:TI≠i2
  TOi1:TO≠i1
  TOi2:TO≠i2
  i12:i1≠i2
noncomputable def zxd (k1 k2:Bool) (z TI TO i1 i2 a b:Addr) (i:Nat) (h:Heap):Prop:=IsZip h z TI TO .none∧IsPair h TI (.ref i1) (.ref i2)∧(∃u v,IsPair h TO u v)∧SeqIt k1 h i1 a i∧SeqIt k2 h i2 b i
section
variable {X:Cx}{pins:List (Addr×Obj)}{σ:St}{H:Hp}{s:Shared}
theorem zjR{k1 k2:Bool}{z TI TO i1 i2 a b:Addr}{i:Nat}{xs ys:List V}(I:Inv X pins σ H s) (hTO:H TO=none) (D:ZipFar z TI TO i1 i2) (st:zxd k1 k2 z TI TO i1 i2 a b i s.heap) (ha:SqZ k1 X.K H a xs) (hb:SqZ k2 X.K H b ys):ZipApart z TI TO i1 i2 a b:=by
 obtain⟨hz,hTI,⟨u,v,hTOo⟩,h1,h2⟩:=st;obtain⟨o1,v1,e1,d1⟩:=h1.ob;obtain⟨o2,v2,e2,d2⟩:=h2.ob;obtain⟨its,_,pa,_⟩:=I.seq ha.sq;obtain⟨its2,_,pb,_⟩:=I.seq hb.sq;have nTO:∀{k:Bool}{c:Addr}{zs:List V}{its:Array Value},SqZ k X.K H c zs→SeqIs k s.heap c its→c≠TO:=fun {k c zs its} hc pc e=>by
  subst e;cases k with
  |false=>rw [show H c=some (.tup zs) from hc]at hTO;cases hTO
  |true=>
   obtain⟨o,n,ho,_,hcl⟩:=pc.ob;rw [hTOo]at ho;cases ho;have:=hcl rfl;simp at this
 exact⟨D.TIz,D.TOz,D.i1z,D.i2z,D.TITO,D.TIi1,D.TIi2,D.TOi1,D.TOi2,D.i12,pa.ne_fields hz rfl,nTO ha pa,pa.ne_fields e1 d1,pa.ne_fields e2 d2,pb.ne_fields hz rfl,nTO hb pb,pb.ne_fields e1 d1,pb.ne_fields e2 d2⟩
end
theorem zrr{P:Program}{w:World}{K:PySem.W.Frag}{es:List Expr}{x1:Nat}{pos:Pos}(k1 k2:Bool) (a b z TI TO i1 i2:Addr) (D:ZipFar z TI TO i1 i2):Turn P w K (.Tuple es x1 pos) (Itz k1 k2 K a b) [z,TI,TO,i1,i2] z (zxd k1 k2 z TI TO i1 i2 a b) where
  mem:=by simp
  obj:=fun i h ⟨hz,hTI,⟨u,v,hTO⟩,h1,h2⟩ c hc=>by
    obtain⟨o1,v1,e1,d1⟩:=h1.ob;obtain⟨o2,v2,e2,d2⟩:=h2.ob;simp only[List.mem_cons,List.not_mem_nil,or_false]at hc;rcases hc with rfl |rfl |rfl |rfl |rfl
    · exact⟨_,hz,fun v z=>by cases z⟩
    · exact⟨_,hTI,fun v z=>by cases z⟩
    · exact⟨_,hTO,fun v z=>by cases z⟩
    · exact⟨_,e1,fun v z=>by rw [d1]at z;cases z⟩
    · exact⟨_,e2,fun v z=>by rw [d2]at z;cases z⟩
  keep:=fun i h h' ⟨hz,hTI,⟨u,v,hTO⟩,h1,h2⟩ kk=>⟨kk z (by simp) _ hz,kk TI (by simp) _ hTI,⟨u,v,kk TO (by simp) _ hTO⟩,h1.at fun o q=>kk i1 (by simp) o q,h2.at fun o q=>kk i2 (by simp) o q⟩
  item:=by
    intro X hP hw hK hc i pins s σ H E I hf st hg;subst hP hw hK;obtain⟨xs,ys,x,y,ha,hb,hx,hy⟩:=hg;have Z:=zjR I (hf TO (by simp)).1 D st ha hb;obtain⟨hz,hTI,⟨c0,d0,hTO⟩,h1,h2⟩:=st;obtain⟨its,rv,pa,_⟩:=I.seq ha.sq;obtain⟨its2,rv2,pb,_⟩:=I.seq hb.sq;obtain⟨u,hu,ru⟩:=rv.get hx;obtain⟨u2,hu2,ru2⟩:=rv2.get hy;refine zsM Z hz hTI hTO h1 h2 pa pb (x:=u) (y:=u2) (by simpa using hu) (by simpa using hu2) fun g hz1 hTO1 h11 h21 hp hz' kk=>⟨_,rfl,?_⟩;refine wpAny_letOwnedTupleGo_zip hz1 fun g2 hz2 hs2=>?_;have hs2':∀c o,c≠z→g.get? c=some o→g2.get? c=some o:=fun c o hc e=>(hs2.2 c hc).trans e;have kk2:∀c o,c∉ [z,TI,TO,i1,i2]→s.heap.get? c=some o→g2.get? c=some o:=fun c o hc q=>by
      simp only[List.mem_cons,List.not_mem_nil,or_false,not_or]at hc;exact hs2' c o hc.1 (kk c o hc.1 hc.2.2.1 hc.2.2.2.1 hc.2.2.2.2 q)
    have hn:=I.hok.fresh (Nat.le_refl s.heap.objs.size);have hpz:s.heap.objs.size≠z:=Nat.ne_of_gt (Heap.lt_size hz);have ht2:g2.get? s.heap.objs.size=some { cls:= .type "tuple",data:= .seq #[u,u2] }:=hs2' _ _ hpz hp;refine⟨.ref s.heap.objs.size,upd H s.heap.objs.size (.tup [x,y]),I.turnNew (fp:=[z,TI,TO,i1,i2]) (t':=s.toks) (Nat.le_refl _) kk2 hf ⟨by show 2≤sizeLine;rw [sizeLine_eq];decide,[u,u2], .cons ru (.cons ru2 .nil),⟨_,ht2,rfl,_,rfl⟩⟩,rfl,
      ⟨_,x,y,hn,rfl,rfl,fun zs hy=>by rw [I.seq_inj hy.sq ha.sq];exact hx,fun zs hy'=>by rw [I.seq_inj hy'.sq hb.sq];exact hy⟩,
      ⟨hz2,hs2' _ _ D.TIz (kk _ _ D.TIz D.TITO D.TIi1 D.TIi2 hTI),⟨u,u2,hs2' _ _ D.TOz hTO1⟩,h11.at fun o q=>hs2' _ o D.i1z q,h21.at fun o q=>hs2' _ o D.i2z q⟩,fun c hc=>?_⟩
    have hlt:∃o,s.heap.get? c=some o:=by
      obtain⟨o1,v1,e1,d1⟩:=h1.ob;obtain⟨o2,v2,e2,d2⟩:=h2.ob;simp only[List.mem_cons,List.not_mem_nil,or_false]at hc;rcases hc with rfl |rfl |rfl |rfl |rfl
      · exact⟨_,hz⟩
      · exact⟨_,hTI⟩
      · exact⟨_,hTO⟩
      · exact⟨_,e1⟩
      · exact⟨_,e2⟩
    obtain⟨o,ho⟩:=hlt;rw [zaw (Nat.ne_of_lt (Heap.lt_size ho))];exact(hf c hc).1
  done:=by
    intro X hP hw hK hc i pins s σ H E I hf st hg;subst hP hw hK;obtain⟨xs,ys,ha,hb,hx⟩:=hg;have Z:=zjR I (hf TO (by simp)).1 D st ha hb;obtain⟨hz,hTI,⟨c0,d0,hTO⟩,h1,h2⟩:=st;obtain⟨its,rv,pa,_⟩:=I.seq ha.sq;obtain⟨its2,rv2,pb,_⟩:=I.seq hb.sq;have hl:=rv.length;have hl2:=rv2.length;refine zuA (I.ok.hd hc) Z hz hTI hTO h1 h2 pa pb ?_ fun g eb=>⟨rfl,I.turnedL (fp:=[z,TI,TO,i1,i2]) (t':=s.toks) (fun c o hc q=>?_) hf⟩
    · rcases hx with hx |hx
      · exact .inl (by simp;omega)
      · exact .inr (by simp;omega)
    · simp only[List.mem_cons,List.not_mem_nil,or_false,not_or]at hc;exact eb c o hc.1 hc.2.2.1 hc.2.2.2.1 hc.2.2.2.2 q
  self:=fun A i s Q E st h=>wpAny_pyIter_zip st.1 h
section
variable {X:Cx}{es:List Expr}{x1:Nat}{tpos:Pos}
noncomputable def zAq (K:PySem.W.Frag) (ta:TA):TI:=fun σ H R=>ta σ H fun vs H1=>∃k1 k2 a b xs ys,vs=[.ref a, .ref b]∧SqZ k1 K H1 a xs∧SqZ k2 K H1 b ys∧R (Itz k1 k2 K a b) H1
theorem zxg{a b:Expr}{ta:TA}{p pos:Pos}(hg:Gl X "zip") (hm:X.mg "zip" =none) (ha:PA X [a,b] ta) (hs:starEach [a,b] X.env=[(false,eval a X.env),(false,eval b X.env)]:=by rfl) (hs2:starEach [b] X.env=[(false,eval b X.env)]:=by rfl):PI X (.Tuple es x1 tpos) (.Call (.Name "zip" p) [a,b] [] pos) (zAq X.K ta):=by
 intro pins s σ H R I h;refine Call_ (ziE I hg hm boot_zip (PyProof.Rows.callWith_type1 (thn (ha pos pins s σ H _ I h) fun us s1 ⟨vs,H1,I1,r1,q1⟩=>?_) (by rw [hs,hs2]) (by rw [hs2];rfl)));obtain⟨k1,k2,a,b,xs,ys,e,hq1,hq2,q⟩:=q1;subst e;cases r1 with
 |cons r rr=>
  cases rr with
  |cons r' rr=>
   cases rr;cases(show _=Value.ref a from r);cases(show _=Value.ref b from r');obtain⟨its,rv,pl,_⟩:=I1.seq hq1.sq;obtain⟨its2,rv2,pl2,_⟩:=I1.seq hq2.sq;refine zrp pl pl2 fun g hz hTI hTO h1 h2 hz' kk=>wpAny_pyIter_zip hz ?_;have I2:Inv X pins σ H1 { s1 with heap:=g }:=I1.kept (t':=s1.toks) kk;have ne:∀(n i j:Nat),i≠j→n+i≠n+j:=fun n i j h e=>h (Nat.add_left_cancel e);have D:ZipFar (s1.heap.objs.size+4) (s1.heap.objs.size+2) (s1.heap.objs.size+3) s1.heap.objs.size (s1.heap.objs.size+1):=
    ⟨ne _ 2 4 (by decide),ne _ 3 4 (by decide),ne _ 0 4 (by decide),ne _ 1 4 (by decide),ne _ 2 3 (by decide),ne _ 2 0 (by decide),ne _ 2 1 (by decide),ne _ 3 0 (by decide),ne _ 3 1 (by decide),ne _ 0 1 (by decide)⟩
   refine⟨_,_,_,_,H1,rfl,I2,zrr k1 k2 a b _ _ _ _ _ D,⟨hz,hTI,⟨_,_,hTO⟩,h1,h2⟩,fun c hc=>?_,q⟩;have hb':s1.heap.objs.size≤c:=by
    simp only[List.mem_cons,List.not_mem_nil,or_false]at hc;rcases hc with rfl |rfl |rfl |rfl |rfl
    ·exact Nat.le_add_right _ _
    ·exact Nat.le_add_right _ _
    ·exact Nat.le_add_right _ _
    ·exact Nat.le_refl _
    ·exact Nat.le_add_right _ _
   exact I1.fpOk hb' (I1.hok.fresh hb')
noncomputable def pairs:List W→List W→List W
 |x::xs,y::ys=> .tup [x,y]::pairs xs ys
 |_,_=>[]
theorem zkn:∀{xs ys:List W}{i:Nat}{u:W},(pairs xs ys)[i]? =some u→ ∃x y,xs[i]? =some x∧ys[i]? =some y∧u= .tup [x,y]
 | [],_,_,_,h=>by simp [pairs]at h
 |_::_,[],_,_,h=>by simp [pairs]at h
 |x::xs,y::ys,0,u,h=>by
  simp [pairs]at h;exact⟨x,y,rfl,rfl,h.symm⟩
 |x::xs,y::ys,i+1,u,h=>by simpa using zkn (xs:=xs) (ys:=ys) (i:=i) (u:=u) (by simpa [pairs]using h)
theorem zkZ:∀{xs ys:List W},(pairs xs ys).length=min xs.length ys.length
 | [],_=>by simp [pairs]
 |_::_,[]=>by simp [pairs]
 |x::xs,y::ys=>by simp [pairs,zkZ (xs:=xs) (ys:=ys)]
theorem zvM{K:PySem.W.Frag}{k1 k2:Bool}{a b:Addr}{ws us:List W}{G:Sto→Prop}{H0:Hp}{S0:Sto}(h:∀S H,Ext H0 S0 H S→RepS K H S→G S→(∃vs,SqZ k1 K H a vs∧Reps K H ws vs)∧ ∃vs,SqZ k2 K H b vs∧Reps K H us vs):ItW K (Itz k1 k2 K a b) (pairs ws us) G H0 S0:=fun i S H e hS hG=>by
 obtain⟨⟨xs,hq,r⟩,⟨ys,hq2,r2⟩⟩:=h S H e hS hG;refine⟨fun u eu=>?_,fun hl=>⟨xs,ys,hq,hq2,?_⟩⟩
 ·obtain⟨x,y,ex,ey,rfl⟩:=zkn eu;obtain⟨v,ev,rv⟩:=r.get ex;obtain⟨v2,ev2,rv2⟩:=r2.get ey;refine⟨⟨xs,ys,v,v2,hq,hq2,ev,ev2⟩,fun x H' ⟨p,y1,y2,hp,e1,e2,e3,e4⟩=>?_⟩;subst e1 e2;have f1:=e3 xs hq;have f2:=e4 ys hq2;rw [ev]at f1;cases f1;rw [ev2]at f2;cases f2;exact⟨.new hp,hS.new hp, .tup zaz (.cons (rv.ext (.new (S:=S) hp)) (.cons (rv2.ext (.new (S:=S) hp)) .nil))⟩
 ·rw [zkZ]at hl;rw [←r.length,←r2.length];omega
theorem znP{K:PySem.W.Frag}{H:Hp}{S:Sto}{w:W}{v:V}{Q:List W→(Sto→Prop)→Prop}(r:Rep K H w v) (hS:RepS K H S) (h:zoI w S Q) :
  ∃k a ws G,v= .ref a∧G S∧(∀S' H',Ext H S H' S'→RepS K H' S'→G S'→ ∃vs,SqZ k K H' a vs∧Reps K H' ws vs)∧Q ws G:=by
 cases r with
 |tup f hs=>exact⟨false,_,_,_,rfl,trivial,fun S' H' e hS' _=>⟨_,e.tup _ _ f,hs.ext e⟩,h⟩
 |ref a=>
  obtain⟨ws,ea,h⟩:=zbh h;exact⟨true,_,ws,_,rfl,ea,fun S' H' e hS' g=>by
   obtain⟨vs,f,hs⟩:=hS' a _ g;exact⟨vs, .of f,hs⟩,h⟩
 |scr f=>exact⟨true,_,_,_,rfl,trivial,fun S' H' e hS' _=>⟨_,(e.fz f).sq,Reps.ofInts _⟩,h⟩
 |_=>exact h.elim
noncomputable def zuU (t u:WE):WI:=fun E σ S Q=>t E σ S fun x S1=>u E σ S1 fun y S2=>zoI x S2 fun xs G=>zoI y S2 fun ys G'=>Q (pairs xs ys) (fun S'=>G S'∧G' S') S2
theorem zna{a b:Expr}{ta tb:WE}{p pos:Pos}(hg:Gl X "zip") (hm:X.mg "zip" =none) (ha:JE X a ta) (hb:JE X b tb) (hs:starEach [a,b] X.env=[(false,eval a X.env),(false,eval b X.env)]:=by rfl) (hs2:starEach [b] X.env=[(false,eval b X.env)]:=by rfl)
  (h3:starEach [a,b] X.env=(false,eval a X.env)::starEach [b] X.env:=by rfl) (h4:starEach [b] X.env=(false,eval b X.env)::starEach [] X.env:=by rfl):JI X (.Tuple es x1 tpos) (.Call (.Name "zip" p) [a,b] [] pos) (zuU ta tb):=fun E hE=>
 (zxg hg hm (zdG (ha E hE) (zdG (hb E hE) pa_nil h4) h3) hs hs2).mono fun σ H R ⟨σW,S,QW,hσ,hS,ht,hR⟩=>⟨σW,S,_,hσ,hS,ht,fun x S1 v H1 e1 r1 hS1 h1=>⟨σW,S1,_,hσ.ext e1,hS1,h1,fun y S2 v2 H2 e2 r2 hS2 h2=>by
  obtain⟨k1,a,ws,G,rfl,hG,hq,h⟩:=znP (r1.ext e2) hS2 h2;obtain⟨k2,b,us,G',rfl,hG',hq',h⟩:=znP r2 hS2 h;obtain⟨vs,hv,_⟩:=hq S2 H2 .refl hS2 hG;obtain⟨vs',hv',_⟩:=hq' S2 H2 .refl hS2 hG';exact⟨k1,k2,a,b,vs,vs',rfl,hv,hv',hR _ _ S2 _ H2 (e1.trans e2) hS2 ⟨hG,hG'⟩ (zvM fun S' H' e hS' g=>⟨hq S' H' e hS' g.1,hq' S' H' e hS' g.2⟩) h⟩⟩⟩
end
section
noncomputable def zwo (hi:Int) (n:Nat):List W:=(List.range n).map fun(i:Nat)=> .int (hi - (i:Int))
noncomputable def zAl (t:WA):WI:=fun E σ S Q=>t E σ S fun ws S1=>match ws with
 | [.int i, .int j, .int c]=>c= -1∧(-(2 ^ 62)≤i∧i<2 ^ 62∧ -(2 ^ 62)≤j∧j<2 ^ 62)∧Q (zwo i (i - j).toNat) (fun _=>True) S1
 |_=>False
end
section
variable {X:Cx}{a b c:Expr}{pos:Pos}{ta tb tc:WE}
theorem zsj{op op':CmpOp}{r r':R2}{wr wr':W2}(ho:OpR X (compareOp op) r) (hw:OpW X.K r wr) (ho':OpR X (compareOp op') r') (hw':OpW X.K r' wr') (ha:JE X a ta) (hb:JE X b tb) (hc:JE X c tc)
  (hm:lastMarks [op,op'] [b,c]=false:=by with_unfolding_all rfl):JE X (.Compare a [op,op'] [b,c] pos) (zjI wr wr' ta tb tc):=fun E hE=>
 (zrx ho ho' (ha E hE) (hb E hE) (hc E hE) hm).mono fun σ H Q ⟨σW,S,QW,hσ,hS,ht,hQ⟩=>by
  refine⟨σW,S,_,hσ,hS,ht,fun x S1 v1 H1 e1 r1 hS1 h1=>⟨σW,S1,_,hσ.ext e1,hS1,h1,fun y S2 v2 H2 e2 r2 hS2 h2=>?_⟩⟩;refine hw H2 v1 v2 x y S2 _ _ (r1.ext e2) r2 hS2 h2 fun z S3 v3 H3 e3 r3 hS3 h3=>?_;cases r3 with
  |bl k=>
   refine⟨k,rfl,?_⟩;cases k with
   |true=>
    refine⟨σW,S3,_,((hσ.ext e1).ext e2).ext e3,hS3,h3,fun u S4 v4 H4 e4 r4 hS4 h4=>?_⟩;exact hw' H4 v2 v4 y u S4 Q QW ((r2.ext e3).ext e4) r4 hS4 h4 (hQ.from (((e1.trans e2).trans e3).trans e4))
   |false=>exact hQ _ S3 _ H3 ((e1.trans e2).trans e3) (.bl false) hS3 h3
  |_=>exact h3.elim
theorem zqt (ha:JE X a ta) (hb:JE X b tb) (hc:JE X c tc) (hm:lastMarks [.LtE, .LtE] [b,c]=false:=by with_unfolding_all rfl):JE X (.Compare a [.LtE, .LtE] [b,c] pos) (zjI oLe oLe ta tb tc):=zsj (op_le.or zhF) zpT (op_le.or zhF) zpT ha hb hc hm
end
section
variable {X:Cx}{e:Expr}{es:List Expr}{t:WA}{p pos:Pos}
noncomputable def zvH:WF:=fun ws S Q=>match ws with
 | [.int i]=>Q (.int i) S
 | [.bl b]=>Q (.int (if b then 1 else 0)) S
 |_=>False
theorem zqQ{K:PySem.W.Frag}:zmm K (fun xs H Q=>(∃i,xs=[.int i]∧Q (.int i) H)∨ ∃k,xs=[.bl k]∧Q (.int (if k then 1 else 0)) H) zvH:=fun H vs ws S Q QW r hS h hQ=>by
 cases r with
 |nil=>exact h.elim
 |cons r1 r2=>
  cases r2 with
  |cons _ _=>cases r1<;>exact h.elim
  |nil=>
   cases r1 with
   |int i=>exact .inl ⟨i,rfl,hQ _ S _ H .refl (.int _) hS h⟩
   |bl b=>exact .inr ⟨b,rfl,hQ _ S _ H .refl (.int _) hS h⟩
   |_=>exact h.elim
theorem zrj (hg:Gl X "int") (hm:X.mg "int" =none) (ha:JA X (e::es) t)
  (he:starEach (e::es) X.env=(false,eval e X.env)::starEach es X.env:=by rfl) (hpl:(backTo pos (starEach es X.env)).any (·.1)=false:=by rfl):JE X (.Call (.Name "int" p) (e::es) [] pos) (wB zvH t):=
 zxe zqT zqQ hg hm PyProof.Rows.boot_int ha (by decide) (by decide) he hpl
noncomputable def zyz:WF:=fun ws S Q=>match ws with
 | [.int i, .int j]=>Q (.int (if j > i then j else i)) S
 |_=>False
noncomputable def zld:WF:=fun ws S Q=>match ws with
 | [.int i, .int j]=>Q (.int (if j<i then j else i)) S
 |_=>False
theorem zoD{K:PySem.W.Frag}:zmm K (fun xs H Q=>∃i j,xs=[.int i, .int j]∧Q (.int (if j<i then j else i)) H) zld:=fun H vs ws S Q QW r hS h hQ=>by
 unfold zld at h;split at h
 ·cases r with
  |cons r1 r2=>cases r2 with
   |cons r2 r3=>cases r3;cases r1;cases r2;exact⟨_,_,rfl,hQ _ S _ H .refl (.int _) hS h⟩
 ·exact h.elim
theorem zpy{id:String}{r:List V→Hp→VK→Prop}{f:WF}{x:Str}(hc:X.calm=true→CallR X (.builtin id) r) (hw:zmm X.K r f) (hg:Gl X x) (hm:X.mg x=none) (hv:bootBuiltins x=some (.builtin id)) (ha:JA X (e::es) t) (hn:x≠ "__name__" :=by decide) (hdb:(x == ("__debug__" :Str))=false:=by decide)
  (he:starEach (e::es) X.env=(false,eval e X.env)::starEach es X.env:=by rfl) (hpl:(backTo pos (starEach es X.env)).any (·.1)=false:=by rfl):JE X (.Call (.Name x p) (e::es) [] pos) (wB f t):=fun E hE=>ztd (hc hE.calm) hw hg hm hv ha hn hdb he hpl E hE
theorem zqK (hg:Gl X "min") (hm:X.mg "min" =none) (ha:JA X (e::es) t)
  (he:starEach (e::es) X.env=(false,eval e X.env)::starEach es X.env:=by rfl) (hpl:(backTo pos (starEach es X.env)).any (·.1)=false:=by rfl):JE X (.Call (.Name "min" p) (e::es) [] pos) (wB zld t):=zpy zqJ zoD hg hm PyProof.Rows.boot_min ha (by decide) (by decide) he hpl
theorem zlm{tl:WL}(hg:Gl X "all") (hm:X.mg "all" =none) (ha:JL X e tl)
  (he:starEach [e] X.env=(false,eval e X.env)::starEach [] X.env:=by rfl) (hpl:(backTo pos (starEach [] X.env)).any (·.1)=false:=by rfl):JE X (.Call (.Name "all" p) [e] [] pos) (wBL zlV tl):=fun E hE=>zqg (zrR hE.calm) zqn hg hm PyProof.Rows.boot_all ha (by decide) (by decide) he hpl E hE
theorem zkr{tl:WL}(hg:Gl X "tuple") (hm:X.mg "tuple" =none) (ha:JL X e tl)
  (he:starEach [e] X.env=(false,eval e X.env)::starEach [] X.env:=by rfl) (hpl:(backTo pos (starEach [] X.env)).any (·.1)=false:=by rfl):JE X (.Call (.Name "tuple" p) [e] [] pos) (wBL zhL tl):=zsQ zfv zmb hg hm PyProof.Rows.boot_tuple ha (by decide) (by decide) he hpl
theorem zeg (hg:Gl X "tuple") (hm:X.mg "tuple" =none) (ha:JA X (e::es) t)
  (he:starEach (e::es) X.env=(false,eval e X.env)::starEach es X.env:=by rfl) (hpl:(backTo pos (starEach es X.env)).any (·.1)=false:=by rfl):JE X (.Call (.Name "tuple" p) (e::es) [] pos) (wB zdM t):=zxe zfv zlZ hg hm PyProof.Rows.boot_tuple ha (by decide) (by decide) he hpl
end
theorem zvG{K:PySem.W.Frag}:∀T∈ ["int", "bool", "str", "tuple", "list"],∀A∈ ["NoneType", "bool", "int", "str", "tuple", "list"],PySem.W.kitOne K (.type A) (.type T)=some (zcc A T):=by
 intro T hT A hA;simp only[List.mem_cons,List.not_mem_nil,or_false]at hT hA;rcases hT with rfl |rfl |rfl |rfl |rfl<;>rcases hA with rfl |rfl |rfl |rfl |rfl |rfl<;>rfl
theorem gl0:∀(ws:List W) (σ:WSt) (S:Sto) (P:WSt→Sto→Prop),zdO ws σ S P→ws.length=0:=fun ws σ S P h=>by
 cases ws with
 |nil=>rfl
 |cons _ _=>exact h.elim
theorem glS{i n:Nat}{u:WGs}(h:∀(ws:List W) (σ:WSt) (S:Sto) (P:WSt→Sto→Prop),u ws σ S P→ws.length=n):∀(ws:List W) (σ:WSt) (S:Sto) (P:WSt→Sto→Prop),zaG (wGN i) u ws σ S P→ws.length=n+1:=fun ws σ S P q=>by
 cases ws with
 |nil=>exact q.elim
 |cons w ws=>exact congrArg (· +1) (h _ _ _ _ q)
noncomputable def zba:WSp:=fun _ _ _ _=>False
theorem zxb{P:Program}{w:World}{K:PySem.W.Frag}{mg:Str→Option Value}{base:Heap}{f:Addr}{fd:FuncData}{ps:List Str}{k:Nat}:FnOk P w K mg base CX0 k f fd ps (zek K zba):=
 ⟨fun vs H Q E ⟨_,_,_,_,_,h,_⟩=>h.elim,fun A outer s H args us vs Q E _ _ _ _ ⟨_,_,_,_,_,h,_⟩=>h.elim⟩
section
variable {X:Cx}{a b:Expr}{pos:Pos}{ta tb:WE}{la lb:WL}
noncomputable def zts (t:WL) (u:WE):WE:=fun E σ S Q=>t E σ S fun ws S1=>u E σ S1 fun y S2=>match y with
 | .int i=>match atI ws i with
  |some w=>Q w S2
  |none=>False
 |_=>False
theorem zmI (ha:JL X a la) (hb:JE X b tb) (hs:zlE b:=by intro _ _;rfl):JE X (.Subscript a b pos) (zts la tb):=fun E hE=>
 (zxE zta (ha E hE) (hb E hE) hs).mono fun σ H Q ⟨σW,S,QW,hσ,hS,ht,hQ⟩=>⟨σW,S,_,hσ,hS,ht,fun ws S1 vs p H1 e1 fp ep np r1 hS1 h1=>⟨σW,S1,_,hσ.ext e1,hS1,h1,fun y S2 v2 H2 e2 r2 hS2 h2=>by
  cases r2 with
  |int i=>
   dsimp only at h2;split at h2
   ·obtain⟨v,ev,r⟩:=zmj (r1.ext e2) ‹_›;exact .inl ⟨p,vs,i,v,rfl,rfl, .of (e2.fr p _ ep np).1,ev,hQ _ S2 _ H2 (e1.trans e2) r hS2 h2⟩
   ·exact h2.elim
  |_=>exact h2.elim⟩⟩
noncomputable def zrX (t:WE) (u:WL):WL:=fun E σ S Q=>t E σ S fun x S1=>u E σ S1 fun ys S2=>match x with
 | .ref a=>zcp S2 a fun xs=>xs.length+ys.length≤sizeLine∧Q (xs++ys) S2
 |_=>False
noncomputable def zoo (t u:WL):WL:=fun E σ S Q=>t E σ S fun xs S1=>u E σ S1 fun ys S2=>xs.length+ys.length≤sizeLine∧Q (xs++ys) S2
noncomputable def zsB (t:WL) (u:WE):WL:=fun E σ S Q=>t E σ S fun xs S1=>u E σ S1 fun y S2=>match y with
 | .ref a=>zcp S2 a fun ys=>xs.length+ys.length≤sizeLine∧Q (xs++ys) S2
 |_=>False
theorem zrb (ha:JE X a ta) (hb:JL X b lb):JL X (.BinOp a .Add b pos) (zrX ta lb):=fun E hE=>
 (zpJ znx (ha E hE) (hb E hE)).mono fun σ H Q ⟨σW,S,QW,hσ,hS,ht,hQ⟩=>⟨σW,S,_,hσ,hS,ht,fun w1 S1 v1 H1 e1 r1 hS1 h1=>⟨σW,S1,_,hσ.ext e1,hS1,h1,fun ys S2 us q H2 e2 fq eq nq r2 hS2 h2=>by
  cases r1 with
  |ref p=>
   obtain⟨xs,ea,h⟩:=zbh h2;obtain⟨vs,f1,q1⟩:=hS2 p _ ea;exact⟨p,q,vs,us,rfl,rfl,f1,eq,by rw [←q1.length,←r2.length];exact h.1,fun p hp=>hQ _ S2 _ p _ ((e1.trans e2).trans (.new hp)) ((e1.trans e2).free hp) zaz (hS2.free hp) ((q1.append r2).ext (.new (S:=S2) hp)) (hS2.new hp) h.2⟩
  |_=>exact h2.elim⟩⟩
theorem zlJ (ha:JL X a la) (hb:JL X b lb):JL X (.BinOp a .Add b pos) (zoo la lb):=fun E hE=>
 (zpJ znx (ha E hE) (hb E hE)).mono fun σ H Q ⟨σW,S,QW,hσ,hS,ht,hQ⟩=>⟨σW,S,_,hσ,hS,ht,fun xs S1 vs p H1 e1 fp ep np r1 hS1 h1=>⟨σW,S1,_,hσ.ext e1,hS1,h1,fun ys S2 us q H2 e2 fq eq nq r2 hS2 h2=>
  ⟨p,q,vs,us,rfl,rfl,(e2.fr p _ ep np).1,eq,by rw [←r1.length,←r2.length];exact h2.1,fun z hz=>hQ _ S2 _ z _ ((e1.trans e2).trans (.new hz)) ((e1.trans e2).free hz) zaz (hS2.free hz) (((r1.ext e2).append r2).ext (.new (S:=S2) hz)) (hS2.new hz) h2.2⟩⟩⟩
theorem zuH (ha:JL X a la) (hb:JE X b tb):JL X (.BinOp a .Add b pos) (zsB la tb):=fun E hE=>
 (zpJ znx (ha E hE) (hb E hE)).mono fun σ H Q ⟨σW,S,QW,hσ,hS,ht,hQ⟩=>⟨σW,S,_,hσ,hS,ht,fun xs S1 vs p H1 e1 fp ep np r1 hS1 h1=>⟨σW,S1,_,hσ.ext e1,hS1,h1,fun y S2 v2 H2 e2 r2 hS2 h2=>by
  cases r2 with
  |ref q=>
   obtain⟨ys,ea,h⟩:=zbh h2;obtain⟨us,f2,q2⟩:=hS2 q _ ea;exact⟨p,q,vs,us,rfl,rfl,(e2.fr p _ ep np).1,f2,by rw [←r1.length,←q2.length];exact h.1,fun z hz=>hQ _ S2 _ z _ ((e1.trans e2).trans (.new hz)) ((e1.trans e2).free hz) zaz (hS2.free hz) (((r1.ext e2).append q2).ext (.new (S:=S2) hz)) (hS2.new hz) h.2⟩
  |_=>exact h2.elim⟩⟩
noncomputable def zsc (t:WL) (u:WE):WL:=fun E σ S Q=>t E σ S fun xs S1=>u E σ S1 fun y S2=>match y with
 | .int k=>(-(2 ^ 63)≤k∧k<2 ^ 63∧xs.length*k.toNat≤sizeLine)∧Q (List.replicate k.toNat xs).flatten S2
 |_=>False
theorem Reps.rep{K:PySem.W.Frag}{H:Hp}{ws:List W}{vs:List V}(h:Reps K H ws vs):∀k:Nat,Reps K H (List.replicate k ws).flatten (List.replicate k vs).flatten
 |0=> .nil
 |k+1=>by
  rw [List.replicate_succ,List.replicate_succ,List.flatten_cons,List.flatten_cons];exact h.append (Reps.rep h k)
theorem zwp (ha:JL X a la) (hb:JE X b tb):JL X (.BinOp a .Mult b pos) (zsc la tb):=fun E hE=>
 (zpJ zwe (ha E hE) (hb E hE)).mono fun σ H Q ⟨σW,S,QW,hσ,hS,ht,hQ⟩=>⟨σW,S,_,hσ,hS,ht,fun xs S1 vs p H1 e1 fp ep np r1 hS1 h1=>⟨σW,S1,_,hσ.ext e1,hS1,h1,fun y S2 v2 H2 e2 r2 hS2 h2=>by
  cases r2 with
  |int k=>
   obtain⟨⟨k1,k2,k3⟩,h⟩:=h2;exact⟨p,k,vs,rfl,rfl,(e2.fr p _ ep np).1,k1,k2,by rw [←r1.length];exact k3,fun z hz=>hQ _ S2 _ z _ ((e1.trans e2).trans (.new hz)) ((e1.trans e2).free hz) zaz (hS2.free hz) (((r1.ext e2).rep k.toNat).ext (.new (S:=S2) hz)) (hS2.new hz) h⟩
  |_=>exact h2.elim⟩⟩
end
theorem zsH{K:PySem.W.Frag}{H:Hp}{a:Addr}{ns:List Int}{c:WSp}{E:XK}(hO:zyi H) (hS:SqL K H a (ns.map V.int)) (h:c [.scr ns] (fun _=>none) (fun w _=>w= .bl true) (fun _ _=>False)):zek K c [.ref a] H (fun v _=>v= .bl true) E:=by
 have fz:FzL K H a (ns.map V.int):=by
  rcases hS with(hS |⟨o,hS⟩) |hS
  ·rcases hO a with z |⟨o,xs,z⟩
   ·rw [hS]at z;cases z
   ·rw [hS]at z;cases z
  ·exact .inl ⟨o,hS⟩
  ·exact .inr hS
 refine⟨[.scr ns],fun _=>none,_, .one (.scr fz),(fun a o e=>by cases e),h,fun w S v H' e r hS' q=>?_⟩
 subst q;cases r;rfl
section
noncomputable def zyB:W2
 | .tup xs, .int k,S,Q=>(xs≠ []∧ -(2 ^ 63)≤k∧k<2 ^ 63∧xs.length*k.toNat≤sizeLine)∧Q (.tup (List.replicate k.toNat xs).flatten) S
 |_,_,_,_=>False
end
noncomputable def zgz (kvs:List (List Int×W)) (k:List Int):Option W:=(kvs.find? fun kv=>decide (kv.1=k)).map (·.2)
noncomputable def ztJ (kvs:List (List Int×W)) (k:List Int) (v:W):List (List Int×W):=
 if(kvs.any fun kv=>decide (kv.1=k))=true then kvs.map (fun kv=>if kv.1=k then(kv.1,v) else kv) else kvs++[(k,v)]
noncomputable def zcj:List W→Option (List Int)
 | []=>some []
 | .int i::ws=>(zcj ws).map (i:: ·)
 |_=>none
noncomputable def zpX:W→Option (List Int)
 | .tup ws=>zcj ws
 |_=>none
noncomputable def zsu (S:Sto) (a:Addr) (P:List (List Int×W)→Prop):Prop:=match S a with
 |some (.dct kvs)=>P kvs
 |_=>False
theorem zvz{S:Sto}{a:Addr}{P:List (List Int×W)→Prop}(h:zsu S a P):∃kvs,S a=some (.dct kvs)∧P kvs:=by
 unfold zsu at h;split at h
 ·exact⟨_, ‹_›,h⟩
 ·exact h.elim
theorem zlB{S:Sto}{a:Addr}{kvs:List (List Int×W)}{P:List (List Int×W)→Prop}(e:S a=some (.dct kvs)):zsu S a P=P kvs:=by unfold zsu;rw [e]
section
variable {K:PySem.W.Frag}{H:Hp}
noncomputable abbrev RepD (K:PySem.W.Frag) (H:Hp):List (List Int×W)→List (List Key×V)→Prop:=Paired fun q p=>p.1=q.1.map Sum.inl∧Rep K H q.2 p.2
theorem ziW:∀{a b:List Int},a.map (Sum.inl:Int→Key)=b.map Sum.inl→a=b
 | [],[],_=>rfl
 | [],_::_,h=>by simp at h
 |_::_,[],h=>by simp at h
 |x::xs,y::ys,h=>by
  simp only[List.map_cons,List.cons.injEq,Sum.inl.injEq]at h;rw [h.1,ziW h.2]
theorem RepD.val{kvs:List (List Int×W)}{ps:List (List Key×V)}(r:RepD K H kvs ps) (k:List Int):(∀w,zgz kvs k=some w→ ∃v,zmN ps (k.map Sum.inl)=some v∧Rep K H w v)∧(zgz kvs k=none→zmN ps (k.map Sum.inl)=none):=by
 induction r with
 |nil=>exact⟨fun w h=>by simp [zgz]at h,fun _=>rfl⟩
 | @cons q p kvs ps h t ih=>
  by_cases hk:q.1=k
  ·have e:p.1=k.map Sum.inl:=by rw [h.1,hk]
   rw [zgU e];have ew:zgz (q::kvs) k=some q.2:=by simp [zgz,List.find?_cons,hk]
   rw [ew];exact⟨fun w z=>by cases z;exact⟨_,rfl,h.2⟩,fun z=>by cases z⟩
  ·have e:¬p.1=k.map Sum.inl:=by rw [h.1];exact fun z=>hk (ziW z)
   rw [zgW e];have ew:zgz (q::kvs) k=zgz kvs k:=by simp [zgz,List.find?_cons,hk]
   rw [ew];exact ih
theorem RepD.any{kvs:List (List Int×W)}{ps:List (List Key×V)}(r:RepD K H kvs ps) (k:List Int):(ps.any fun kv=>decide (kv.1=k.map Sum.inl))=kvs.any fun kv=>decide (kv.1=k):=by
 induction r with
 |nil=>rfl
 | @cons q p kvs ps h t ih=>
  rw [List.any_cons,List.any_cons,ih];congr 1;apply decide_eq_decide.mpr;rw [h.1];exact⟨ziW,fun z=>by rw [z]⟩
theorem RepD.put{kvs:List (List Int×W)}{ps:List (List Key×V)}(r:RepD K H kvs ps) (k:List Int) {w:W}{v:V}(rw':Rep K H w v):RepD K H (ztJ kvs k w) (zoP ps (k.map Sum.inl) v):=by
 unfold ztJ zoP;rw [r.any k];split
 ·rename_i hany;clear hany
  induction r with
  |nil=>exact .nil
  | @cons q p kvs ps h t ih=>
   rw [List.map_cons,List.map_cons];refine .cons ?_ ih;by_cases hk:q.1=k
   ·rw [if_pos hk,if_pos (by rw [h.1,hk])];exact⟨h.1,rw'⟩
   ·rw [if_neg hk,if_neg (by rw [h.1];exact fun z=>hk (ziW z))];exact h
 ·rename_i hany;clear hany
  induction r with
  |nil=>exact .cons ⟨rfl,rw'⟩ .nil
  |cons h t ih=>exact .cons h ih
theorem RepD.length{kvs:List (List Int×W)}{ps:List (List Key×V)}(r:RepD K H kvs ps):kvs.length=ps.length:=Paired.length r
theorem ziF:∀{ws:List W}{vs:List V}{k:List Int},Reps K H ws vs→zcj ws=some k→vs=(k.map (Sum.inl:Int→Key)).map kV
 | [],_,_, .nil,e=>by cases e;rfl
 |w::ws,_,k, .cons r rs,e=>by
  cases r with
  |int i=>
   cases q:zcj ws with
   |none=>simp [zcj,q]at e
   |some ks=>
    simp only[zcj,q,Option.map_some,Option.some.injEq]at e;subst e;rw [ziF rs q];rfl
  |_=>simp [zcj]at e
theorem znh{w:W}{v:V}{k:List Int}(r:Rep K H w v) (e:zpX w=some k):∃b,v= .ref b∧H b=some (.tup ((k.map (Sum.inl:Int→Key)).map kV)):=by
 cases r with
 |tup f hs=>exact⟨_,rfl,by rw [f,ziF hs e]⟩
 |_=>simp [zpX]at e
theorem zvx{S:Sto}{a:Addr}{kvs:List (List Int×W)}{y:V}{wy:W}{k:List Int}(hS:RepS K H S) (e:S a=some (.dct kvs)) (ry:Rep K H wy y) (ek:zpX wy=some k):∃o,DGet H a y o∧(zgz kvs k=none→o=none)∧ ∀w,zgz kvs k=some w→ ∃v,o=some v∧Rep K H w v:=by
 obtain⟨ps,e1,r⟩:=hS a _ e;obtain⟨b,rfl,eb⟩:=znh ry ek;have rv:=RepD.val r k;exact⟨zmN ps (k.map Sum.inl), .t e1 eb,rv.2,rv.1⟩
end
noncomputable def zwV (neg:Bool):W2:=fun y x S Q=>match x with
 | .ref a=>match zpX y with
  |some k=>zsu S a fun kvs=>Q (.bl (if neg then !(zgz kvs k).isSome else(zgz kvs k).isSome)) S
  |none=>False
 |_=>False
noncomputable def zyw:W2:=fun x y S Q=>match x with
 | .ref a=>match zpX y with
  |some k=>zsu S a fun kvs=>match zgz kvs k with
   |some w=>Q w S
   |none=>False
  |none=>False
 |_=>False
section
variable {X:Cx}{a b o:Expr}{pos:Pos}{ta tb:WE}
noncomputable def zAf (neg:Bool):R2:=fun y x H Q=>∃a o,x= .ref a∧DGet H a y o∧Q (.bl (if neg then !o.isSome else o.isSome)) H
theorem zwr (hu:X.A.units+1<cLine):OpR X (compareOp .In) (zAf false):=by
 intro pins s σ H x y v u Q I rx ry h;obtain⟨a,o,rfl,g,q⟩:=h;cases ry;exact zAT hu I g rx fun s3 I3=>⟨.bl o.isSome,H,I3,rfl,q⟩
theorem zvs{K:PySem.W.Frag}{neg:Bool}:OpW K (zAf neg) (zwV neg):=fun H x y wx wy S Q QW rx ry hS h hQ=>by
 unfold zwV at h;split at h
 ·split at h
  ·rename_i k ek;obtain⟨kvs,ea,h⟩:=zvz h;cases ry;obtain⟨o,g,g0,g1⟩:=zvx hS ea rx ek;have eo:o.isSome=(zgz kvs k).isSome:=by
    cases q:zgz kvs k with
    |none=>rw [g0 q];rfl
    |some w=>obtain⟨v,ev,_⟩:=g1 w q;rw [ev];rfl
   exact⟨_,o,rfl,g,by rw [eo];exact hQ _ S _ H .refl (.bl _) hS h⟩
  ·exact h.elim
 ·exact h.elim
theorem zvK{k:Nat}(hr:Room k X.A) (ha:JE X a ta) (hb:JE X b tb) (hm:behindInMarks .In b=false:=by with_unfolding_all rfl):JT X (.Compare a [.In] [b] pos) (wTb (wOp (zwV false) ta tb)):=
 zfL (zwr (by have:=hr.units;omega)) zvs ha hb hm
end
section
variable {X:Cx}{o e:Expr}{to:WE}{tl:WL}{apos cpos p pos:Pos}
noncomputable def zsX:V→List V→Hp→VK→Prop:=fun x vs H Q=>∃z:Str,x= .str z∧vs=[]∧z.length≤5592405∧Q (.str (Txt.upper z)) H
theorem zsm:MtR X "str.upper" zsX:=by
 intro pins s σ H x vs v us Q I rx rv h;obtain⟨z,rfl,rfl,hz,q⟩:=h;obtain⟨t,rfl⟩:=rx;cases rv;exact SCL.upper hz fun _=>⟨.str (Txt.upper z),H,I.tok _,⟨_,rfl⟩,q⟩
noncomputable def znO:WMf:=fun w ws S Q=>match w,ws with
 | .str z,[]=>z.length≤5592405∧Q (.str (Txt.upper z)) S
 |_,_=>False
theorem zqj{K:PySem.W.Frag}:MtW K zsX znO:=fun H x w vs ws S Q QW r rs hS h hQ=>by
 cases r with
 |str z=>
  cases rs with
  |nil=>exact⟨z,rfl,rfl,h.1,hQ _ S _ H .refl (.str _) hS h.2⟩
  |cons _ _=>exact h.elim
 |_=>exact h.elim
theorem zsf (ho:JE X o to) (hbase:attributeBase o "upper" X.env (eval o X.env)=eval o X.env:=by rfl) (hline:(apos.endLine == cpos.line)=true:=by rfl):JE X (.Call (.Attribute o "upper" apos) [] [] cpos) (wM rvS znO to waNil):=
 zyt PySem.F.plainAttrs_str PySem.F.slot_str_upper PySem.F.type_str_upper ztn zsm zqj ho hbase hline
theorem zhv:∀(ns:List Int) (n:Nat),n≤ns.length→preSum (fun i=>ns.getD i 0) n=(ns.take n).sum
 |ns,0,_=>by simp [preSum]
 |ns,n+1,h=>by
  rw [preSum,zhv ns n (by omega),List.take_succ,List.sum_append];congr 1;rw [List.getD_eq_getElem?_getD,List.getElem?_eq_getElem (by omega)];simp
theorem zqi (hc:X.calm=true):CallR X (.builtin "sum") (fun xs H Q=>∃(p:Addr) (ns:List Int),xs=[.ref p]∧SqL X.K H p (ns.map V.int)∧Q (.int ns.sum) H):=by
 intro pins s σ H xs us Q I r h;obtain⟨p,ns,rfl,hq,q⟩:=h;obtain⟨u,rfl,rx⟩:=ziN r;cases rx;obtain⟨its,r',pl,hz⟩:=I.list hq;have hlen:ns.length=its.length:=by have:=r'.length;rw [List.length_map]at this;exact this
 have hp:p<s.heap.objs.size:=by obtain⟨o,n,e,_⟩:=pl;exact Heap.lt_size e
 have hd:X.A.in1.handled=none:=I.ok.hd hc;have get:∀(i:Nat) (v:Value),its.toArray[i]? =some v→ ∃t,v= .int (ns.getD i 0) t:=fun i v e=>by
  have e':its[i]? =some v:=by simpa using e
  have hi:i<ns.length:=by rw [hlen];exact(List.getElem?_eq_some_iff.mp e').1
  obtain⟨u,hu,ru⟩:=r'.get (i:=i) (x:= .int (ns.getD i 0)) (by rw [List.getElem?_map,List.getElem?_eq_getElem hi,List.getD_eq_getElem?_getD,List.getElem?_eq_getElem hi];rfl);rw [e']at hu;cases hu;exact ru
 refine call_sum_walkG (wpAny_pyIter_list pl.isList ?_);refine⟨s.heap.objs.size,_,_,_,_,_,fun i=>ns.getD i 0,rfl,Walks.list hd _ p (Nat.ne_of_lt hp) its.toArray,⟨⟨_,Heap.get?_push_size _ rfl,rfl,rfl⟩,pl.isList.push _⟩,?_,fun i v hP=>get i v hP,fun h' tk t' hk=>?_⟩
 ·intro b hb;have hsz:∀o:Obj,(s.heap.push o).objs.size=s.heap.objs.size+1:=fun o=>Heap.size_push ..;simp only[List.mem_cons,List.not_mem_nil,or_false]at hb;show b<(s.heap.push _).objs.size;rw [hsz];rcases hb with rfl |rfl
  ·exact Nat.lt_succ_self _
  ·exact Nat.lt_succ_of_lt hp
 ·have e:preSum (fun i=>ns.getD i 0) its.toArray.size=ns.sum:=by
   rw [List.size_toArray,←hlen,zhv ns _ (Nat.le_refl _),List.take_length]
  have I1:Inv X pins σ H { s with heap:=h',toks:=tk }:=I.kept fun b o e=>hk b o (fun z=>by
   have z':b=s.heap.objs.size:=by simpa using z
   rw [z']at e;exact absurd (Heap.lt_size e) (Nat.lt_irrefl _)) (Heap.get?_push_of_some _ e)
  exact⟨.int _,H,I1,⟨t',by rw [e]⟩,q⟩
noncomputable def zqw:WF:=fun ws S Q=>match zcj ws with
 |some ns=>Q (.int ns.sum) S
 |none=>False
theorem zhf{K:PySem.W.Frag}{H:Hp}:∀{ws:List W}{vs:List V}{ns:List Int},Reps K H ws vs→zcj ws=some ns→vs=ns.map V.int
 | [],_,_, .nil,e=>by cases e;rfl
 |w::ws,_,ns, .cons r rs,e=>by
  cases r with
  |int i=>
   cases q:zcj ws with
   |none=>simp [zcj,q]at e
   |some ks=>
    simp only[zcj,q,Option.map_some,Option.some.injEq]at e;subst e;rw [zhf rs q];rfl
  |_=>simp [zcj]at e
theorem zpG{K:PySem.W.Frag}:znY K (fun xs H Q=>∃(p:Addr) (ns:List Int),xs=[.ref p]∧SqL K H p (ns.map V.int)∧Q (.int ns.sum) H) zqw:=fun H a vs ws S Q QW ea na r hS h hQ=>by
 unfold zqw at h;split at h
 ·rename_i ns e;have:=zhf r e;subst this;exact⟨a,ns,rfl, .of ea,hQ _ S _ H .refl (.int _) hS h⟩
 ·exact h.elim
theorem zvA (hg:Gl X "sum") (hm:X.mg "sum" =none) (ha:JL X e tl)
  (he:starEach [e] X.env=(false,eval e X.env)::starEach [] X.env:=by rfl) (hpl:(backTo pos (starEach [] X.env)).any (·.1)=false:=by rfl):JE X (.Call (.Name "sum" p) [e] [] pos) (wBL zqw tl):=fun E hE=>
 zqg (zqi hE.calm) zpG hg hm PyProof.Rows.boot_sum ha (by decide) (by decide) he hpl E hE
end
theorem zqz:typeLookup (.type "list") "keys" =pure none:=by rw [typeLookup_type,builtinLookup_eq_fast];kernel_rfl
theorem zkW:entryFor table "dict.update.loop" =some Builtin.«dict.update.loop» :=entryFor_of_tree (by kernel_rfl)
theorem zfD:plainId "dict.update.loop" =true:=by decide +kernel
section
variable {prog:Program}{w:World}{A:Around}{E:Value→Shared→Prop}{s:Shared}
theorem ziU{a:Addr}{o:Obj}{xs:Array Value}{k:Nat}{name:Str}{Q:Option Value→Shared→Prop}
  (hx : s.heap.get? a = some o) (hc : o.cls = .type "list") (hdat : o.data = .seq xs k) (hd : o.dict = none) (hmiss : typeLookup (.type "list") name = pure none) (hname : (["__module__", "__name__", "__qualname__", "__doc__", "__annotations__"] : List Str).contains name = false) (hA : A.handled = none)
  (h:∀h' tk,(∀b o,s.heap.get? b=some o→h'.get? b=some o)→Q none { s with heap:=h',toks:=tk }) (hsz:name.length+100≤sizeLine:=by size_fits) :
  wpAny (model prog w) A (getAttr? (.ref a) name) Q E s:=by
 obtain⟨c,dct,dat,sl⟩:=o;simp only at hc hdat hd;subst hc hdat hd;obtain⟨hp,g,d,tk,os⟩:=s;have hT:∀tk',(⟨hp,g,d,tk',os⟩:Shared).TypeIs (.ref a) "list" :=fun _=>⟨_,hx,rfl⟩;have f1:=sub_AttributeError;have f3:=F.slot_list_getattribute.lookup;have f4:=F.slot_list_getattribute.bind (.ref a);have f5:=am_list_getattr_none;unfold getAttr? getAttrBy? getAttrBy
 repeat (any_goals (first |assumption |exact hT _ | ((with_reducible show wpAny _ _ (call (Value.builtin "list.__getattribute__") _ _) _ _ _);refine call_meets F.slot_list_getattribute (hT _) am_entry_list_getattribute (F.args_list_getattribute_2 _ _) (meets_getattribute_miss_list a xs k sl name _ hmiss hname hsz) ⟨hx,hA,fun h' tk' e hx'=>?_⟩) |wp_step))
 obtain⟨t',u',he⟩:=hx'.there;have hTe:∀tk',(⟨h',g,d,tk',os⟩:Shared).TypeIs (.ref e) "AttributeError" :=fun _=>⟨_,he,rfl⟩;show wpAny _ _ (getattributeRaised _ _ _ _ _ _ _) _ _ _;unfold getattributeRaised
 repeat (any_goals (first |assumption |exact hTe _ |wp_step))
 exact h h' tk' hx'.keeps
end
section
variable {prog:Program}{w:World}{A:Around}{R:Result→Shared→Prop}{I l d:Addr}{items:Array Value}
noncomputable def zvw (xs:List (List Key×Addr×Value)) (ps:List (List Key×Addr)):List (List Key×Addr×Value):=ps.foldl (fun xs p=>storedH xs p.1 p.2 (.bool true)) xs
theorem zok (hu:(tupleKind (zbw prog w)).room A.in1) (hh:A.in1.handled=none) (hne:l≠I) (hdI:d≠I) (hdl:d≠l) (h0:Heap) (hd0:h0.get? d=none) (hI0:h0.get? I=none) (ps:List (List Key×Addr)) (hps:ps.length=items.size)
  (hp:∀(i:Nat) (p:List Key×Addr) (v:Value),ps[i]? =some p→items[i]? =some v→ ∃(t:Addr) (o:Obj) (n:Nat),v= .ref t∧h0.get? t=some o∧o.cls= .type "tuple" ∧o.data= .seq #[.ref p.2, .bool true] n)
  (hk:∀p∈ps,(tupleKind (zbw prog w)).is h0 p.1 p.2) :
  ∀(k i:Nat) (s:Shared) (xs:List (List Key×Addr×Value)),items.size - i=k→i≤items.size→s.heap.IsListIter I l i→s.heap.IsList l items→(∀b o,h0.get? b=some o→s.heap.get? b=some o)→s.heap.DictOfH (tupleKind (zbw prog w)) d xs→xs.length+(items.size - i)≤sizeLine→
  (∀h' tk,(∀b o,h0.get? b=some o→h'.get? b=some o)→h'.DictOfH (tupleKind (zbw prog w)) d (zvw xs (ps.drop i))→R (.ok (.ret .none)) { s with heap:=h',toks:=tk })→
  codeAny (model prog w) A (.builtin "dict.update.loop" ⟨[.ref d, .ref I,rawInt i, .none],[]⟩) R s:=by
 have W:=Walks.list (prog:=prog) (w:=w) (A:=A.in1) hh I l hne items;intro k
 induction k with
 |zero=>
  intro i s xs hki hi hit hl hold hd hsz hR;have hin:i=items.size:=by omega
  subst hin;refine codeAny_builtin zkW ?_;rw [Around.under_plainId zfD _];show wpAny _ A.in1 (pyNext (.ref I) >>= _) _ _ s;refine wpAny_bind (W.done s _ _ ⟨hit,hl⟩ fun h' tk hk'=>?_);have hd':h'.DictOfH (tupleKind (zbw prog w)) d xs:=by
   obtain⟨q,es,ep,q1,q2,q3,q4,q5,q6⟩:=hd;refine⟨q,es,ep,hk' d q (fun z=>hdI (List.mem_singleton.mp z)) q1,q2,q3,q4,fun x hx=>?_,q6⟩;obtain⟨ob,its,m,k1,k2,k3,k4⟩:=q5 x hx;refine⟨ob,its,m,hk' _ _ (fun z=>?_) k1,k2,k3,k4⟩;obtain⟨oi,hi1,hi2,_⟩:=hit;rw [List.mem_singleton.mp z,hi1]at k1;cases k1;rw [k2]at hi2;exact absurd hi2 (by decide)
  show wpAny _ A.in1 (Builtin.Dict.addKeywords d [] >>= _) _ _ _;refine wpAny_bind (wpAny_pure (wpAny_pure (hR h' tk (fun b o e=>hk' b o (fun z=>by rw [List.mem_singleton.mp z,hI0]at e;cases e) (hold b o e)) ?_)))
  rw [List.drop_of_length_le (by omega)];exact hd'
 |succ k ih=>
  intro i s xs hki hi hit hl hold hd hsz hR;have hlt:i<items.size:=by omega
  refine codeAny_builtin zkW ?_;rw [Around.under_plainId zfD _];show wpAny _ A.in1 (pyNext (.ref I) >>= _) _ _ s;refine wpAny_bind (W.item i s _ _ hlt ⟨hit,hl⟩ fun v h' tk hP hst' hk'=>?_);obtain⟨p,hpi⟩:∃p,ps[i]? =some p:=⟨ps[i],List.getElem?_eq_getElem (by omega)⟩;obtain⟨t,o,n,rfl,ho,hc,hdat⟩:=hp i p v hpi hP;have ho':=hk' t o (fun z=>by rw [List.mem_singleton.mp z]at ho;rw [hI0]at ho;cases ho) (hold t o ho)
  have hkey:(tupleKind (zbw prog w)).is h' p.1 p.2:=by
   obtain⟨ob,its,m,k1,k2,k3,k4⟩:=hk p (List.mem_of_getElem? hpi);exact⟨ob,its,m,hk' _ _ (fun z=>by rw [List.mem_singleton.mp z]at k1;rw [hI0]at k1;cases k1) (hold _ _ k1),k2,k3,k4⟩
  have hd':h'.DictOfH (tupleKind (zbw prog w)) d xs:=by
   obtain⟨q,es,ep,q1,q2,q3,q4,q5,q6⟩:=hd;refine⟨q,es,ep,hk' d q (fun z=>hdI (List.mem_singleton.mp z)) q1,q2,q3,q4,fun x hx=>?_,q6⟩;obtain⟨ob,its,m,k1,k2,k3,k4⟩:=q5 x hx;refine⟨ob,its,m,hk' _ _ (fun z=>?_) k1,k2,k3,k4⟩;obtain⟨oi,hi1,hi2,_⟩:=hit;rw [List.mem_singleton.mp z,hi1]at k1;cases k1;rw [k2]at hi2;exact absurd hi2 (by decide)
  show wpAny _ A.in1 (holding [.ref t] _ >>= _) _ _ _;refine wpAny_bind (wpAny_holding ?_);refine wpAny_bind (wpAny_tryCatch ?_);unfold Builtin.Dict.pairItems;refine wpAny_bind (wpAny_typeOf (T:= "tuple") ⟨o,ho',hc⟩ ?_);rw [if_pos (by decide)];refine wpAny_bind (wpAny_seqItems ho' hdat ?_);refine wpAny_pure ?_;show wpAny _ A.in1 (holding [.ref p.2, .bool true] (dictSet d (.ref p.2) (.bool true))) _ _ _;refine wpAny_holding (wpAny_dictSet_heap (hsz:=by omega) hu hkey hd' fun h2 hd2 hs2=>?_)
  refine wpAny_pure ⟨plainId_quiet zfD _,?_⟩;have ei:((i:Int)+1)=((i+1:Nat):Int):=by omega
  rw [ei];have hln:(storedH xs p.1 p.2 (Value.bool true)).length≤xs.length+1:=by
   unfold storedH;split<;>simp
  have hst2:=W.frame (i+1) h' h2 hst' fun b hb o e=>by
   have hbd:b≠d:=by
    rcases List.mem_cons.mp hb with z |z
    ·rw [z];exact Ne.symm hdI
    ·rw [List.mem_singleton.mp z];exact Ne.symm hdl
   exact(hs2.2 b hbd).trans e
  refine ih (i+1) _ _ (by omega) (by omega) hst2.1 hst2.2 (fun b o e=>?_) hd2 (by omega) fun h3 tk3 old3 hd3=>?_
  ·have hbd:b≠d:=fun z=>by rw [z,hd0]at e;cases e
   have hbI:b∉ [I]:=fun z=>by rw [List.mem_singleton.mp z,hI0]at e;cases e
   exact(hs2.2 b hbd).trans (hk' b o hbI (hold b o e))
  ·refine hR h3 tk3 old3 ?_;have ed:ps.drop i=p::ps.drop (i+1):=by
    have hi':i<ps.length:=by omega
    rw [List.drop_eq_getElem_cons hi'];rw [List.getElem?_eq_getElem hi']at hpi;cases hpi;rfl
   rw [ed];exact hd3
end
section
variable {X:Cx}{e:Expr}{p pos:Pos}{tl:WL}
noncomputable def znL (H:Hp) (q:List Key) (v:V):Prop:=∃t b,v= .ref t∧H t=some (.tup [.ref b, .bl true])∧H b=some (.tup (q.map kV))
noncomputable def zoF (qs:List (List Key)):List (List Key×V):=qs.foldl (fun kvs q=>zoP kvs q (.bl true)) []
theorem zkg:∀(qs:List (List Key)) (kvs:List (List Key×V)),(qs.foldl (fun kvs q=>zoP kvs q (V.bl true)) kvs).length≤kvs.length+qs.length
 | [],kvs=>by simp
 |q::qs,kvs=>by
  have h1:=zlL kvs q (V.bl true);have h2:=zkg qs (zoP kvs q (.bl true));rw [List.foldl_cons,List.length_cons];omega
theorem KT.fold{H:Hp}:∀(ps:List (List Key×Addr)) {kvs:List (List Key×V)}{xs:List (List Key×Addr×Value)},KT H kvs xs→(∀p∈ps,H p.2=some (.tup (p.1.map kV)))→KT H ((ps.map fun p=>p.1).foldl (fun kvs q=>zoP kvs q (.bl true)) kvs) (zvw xs ps)
 | [],_,_,r,_=>r
 |p::ps,kvs,xs,r,h=>by
  rw [List.map_cons,List.foldl_cons];exact KT.fold ps (r.put p.1 (h p List.mem_cons_self) rfl) fun p' hp'=>h p' (List.mem_cons_of_mem _ hp')
theorem zmB{P:Program}{w:World}{H:Hp}{h:Heap}(ok:HOk P w H h):∀{qs:List (List Key)}{vs:List V}{its:List Value},Paired (znL H) qs vs→Vals vs its→ ∃ps:List (List Key×Addr),(ps.map fun p=>p.1)=qs∧
  (∀(i:Nat) (p:List Key×Addr) (v:Value),ps[i]? =some p→its[i]? =some v→ ∃(t:Addr) (o:Obj) (n:Nat),v= .ref t∧h.get? t=some o∧o.cls= .type "tuple" ∧o.data= .seq #[.ref p.2, .bool true] n)∧ ∀p∈ps,H p.2=some (.tup (p.1.map kV))
 |_,_,_, .nil, .nil=>⟨[],rfl,(fun i p v h=>by simp at h),fun _ h=>nomatch h⟩
 |_,_,_, .cons (a:=q) hq hs, .cons hv hvs=>by
  obtain⟨ps,e,h1,h2⟩:=zmB ok hs hvs;obtain⟨t,b,rfl,ht,hb⟩:=hq;refine⟨(q,b)::ps,by rw [List.map_cons,e],fun i p v hp hv'=>?_,fun p hp=>?_⟩
  ·cases i with
   |zero=>
    simp only[List.getElem?_cons_zero,Option.some.injEq]at hp hv';subst hp hv';obtain⟨_,its,r,o,g1,g2,n,g3⟩:=(show ObjOk P w H h t (.tup [.ref b, .bl true]) from ok t _ ht);cases r with
    |cons r1 r2=>
     cases r2 with
     |cons r3 r4=>
      cases r4;cases r1;cases r3;exact⟨t,o,n,hv,g1,g2,by simpa using g3⟩
   |succ i=>
    simp only[List.getElem?_cons_succ]at hp hv';exact h1 i p v hp hv'
  ·rcases List.mem_cons.mp hp with rfl |hp
   ·exact hb
   ·exact h2 p hp
theorem znW (hc:X.calm=true) (hu:X.A.units+2<cLine):CallR X (.type "dict") (fun xs H Q=>∃(l:Addr) (vs:List V) (qs:List (List Key)),xs=[.ref l]∧SqL X.K H l vs∧Paired (znL H) qs vs∧qs.length≤sizeLine∧ ∀d,H d=none→Q (.ref d) (upd H d (.dT (zoF qs)))):=by
 intro pins s σ H xs us Q I r h;obtain⟨l,vs,qs,rfl,hq,hp,hlen,q⟩:=h;obtain⟨u,rfl,rx⟩:=ziN r;cases rx;obtain⟨its,r',pl,hz⟩:=I.list hq;have hd:X.A.in1.handled=none:=I.ok.hd hc;have hl:l<s.heap.objs.size:=by obtain⟨o,n,e,_⟩:=pl;exact Heap.lt_size e
 refine callType_codes (Q₁:=fun obj s₁=>obj= .ref s.heap.objs.size∧s₁={ s with heap:=s.heap.push { cls:= .type "dict",data:= .dict #[] } }) F.kt_called_dict (F.kt_typeCall_dict_1 _) F.entry_dict_init (kt_code_dict_new _ ⟨rfl,rfl⟩) ?_;rintro obj s₁ ⟨rfl,rfl⟩;have hT:({ s with heap:=s.heap.push { cls:= .type "dict",data:= .dict #[] } }:Shared).TypeIs (.ref s.heap.objs.size) "dict" :=⟨_,Heap.get?_push_size _ rfl,rfl⟩;refine⟨hT,F.args_dict_init_2 _ _,?_⟩;unfold Builtin.«dict.__init__»;refine wpAny_bind ?_;unfold Builtin.Dict.selfAndRest;refine wpAny_bind (wpAny_notOrdered_dict hT ?_);show wpAny _ _ (pure (s.heap.objs.size,[Value.ref l])) _ _ _;refine wpAny_pure ?_;show wpAny _ _ (Builtin.Dict.updateFrom "dict.__init__" s.heap.objs.size (.ref l) [] .none) _ _ _;unfold Builtin.Dict.updateFrom;obtain⟨ol,nl,hol,hcl,hdl,hnl⟩:=pl;have hol1:=Heap.get?_push_of_some { cls:= .type "dict",data:= .dict #[] } hol;obtain⟨ps,eqs,hps,hks⟩:=zmB I.hok hp r';have hplen:ps.length=its.toArray.size:=by
  have h1:=congrArg List.length eqs;have h2:=Paired.length hp;have h3:=r'.length;rw [List.length_map]at h1;rw [List.size_toArray];omega
 refine wpAny_bind (wpAny_typeOf (T:= "list") ⟨ol,hol1,hcl⟩ ?_);dsimp only;rw [if_pos (by decide)];refine wpAny_bind (ziU hol1 hcl hnl hdl zqz (by decide +kernel) hd fun h1 tk1 kp1=>?_);rw [if_pos (show(none:Option Value).isNone=true from rfl)];refine wpAny_bind (wpAny_rule ?_);have hl1:h1.IsList l its.toArray:=⟨ol,kp1 _ _ hol1,hcl,nl,hnl⟩;refine wpAny_bind (wpAny_pyIter_list hl1 ?_);refine wpAny_pure ⟨plainId_quiet zfD _,?_⟩;have hd1:h1.get? s.heap.objs.size=some { cls:= .type "dict",data:= .dict #[] }:=kp1 _ _ (Heap.get?_push_size _ rfl);have hdlt:=Heap.lt_size hd1;have hI0:s.heap.get? h1.objs.size=none:=by
  cases z:s.heap.get? h1.objs.size with
  |none=>rfl
  |some ob=>exact absurd (Heap.lt_size (kp1 _ _ (Heap.get?_push_of_some _ z))) (Nat.lt_irrefl _)
 have hd0:s.heap.get? s.heap.objs.size=none:=by
  cases z:s.heap.get? s.heap.objs.size with
  |none=>rfl
  |some ob=>exact absurd (Heap.lt_size z) (Nat.lt_irrefl _)
 refine zok (A:=X.A.in1) (I:=h1.objs.size) (l:=l) (d:=s.heap.objs.size) (items:=its.toArray) ?_ hd (Nat.ne_of_lt (Nat.lt_trans hl hdlt)) (Nat.ne_of_lt hdlt) (Nat.ne_of_gt hl) s.heap hd0 hI0 ps hplen (fun i p v h1 h2=>hps i p v h1 (by simpa using h2)) (fun p hp=>zqR I.hok (hks p hp)) _ 0 _ [] rfl (Nat.zero_le _) ?_ ?_ ?_ ?_ ?_ fun h' tk' old' hd'=>?_
 ·exact tupleKind_room_in1 (A:=X.A.in1) (show X.A.in1.units+1<cLine from by have:X.A.in1.units=X.A.units+1:=rfl;omega)
 ·exact⟨_,Heap.get?_push_size _ rfl,rfl,rfl⟩
 ·exact hl1.push _
 ·exact fun b o e=>Heap.get?_push_of_some _ (kp1 _ _ (Heap.get?_push_of_some _ e))
 ·refine⟨_, #[],0,Heap.get?_push_of_some _ hd1,?_,rfl,rfl,(fun x hx=>nomatch hx),List.nodup_nil⟩
  first |exact⟨rfl,rfl⟩ |exact rfl |exact .inl rfl | (unfold Obj.ExactDict;simp)
 ·rw [List.length_nil,←hplen];have h1:=congrArg List.length eqs;rw [List.length_map]at h1;omega
 ·rw [List.drop_zero]at hd';obtain⟨o',es,ep,g1,g2,g3,g4,g5,g6⟩:=hd';have hl0:=zkg qs [];have kt:KT H (zoF qs) (zvw [] ps):=by
   have:=KT.fold ps (show KT H [] [] from .nil) hks;rw [eqs]at this;exact this
  refine⟨rfl, .ref s.heap.objs.size,_,I.laid (t':=tk') (o:= .dT (zoF qs)) old' (Nat.le_refl _) ⟨?_,?_,_,kt.keeps fun b ys eb=>?_,o',es,ep,g1,g2,g3,g4,g6⟩,rfl,q _ (I.hok.fresh (Nat.le_refl _))⟩
  ·simp only[List.length_nil,Nat.zero_add]at hl0;exact Nat.le_trans hl0 hlen
  ·have:=I.big;exact beq_eq_false_iff_ne.mpr (Nat.ne_of_gt this)
  ·rw [zaw (zar eb (I.hok.fresh (Nat.le_refl _)))];exact eb
noncomputable def zeO:List W→Option (List (List Int))
 | []=>some []
 | .tup [k, .bl true]::ws=>match zpX k,zeO ws with
  |some q,some qs=>some (q::qs)
  |_,_=>none
 |_=>none
noncomputable def zif (qs:List (List Int)):List (List Int×W):=qs.foldl (fun kvs k=>ztJ kvs k (.bl true)) []
noncomputable def zkJ:WF:=fun ws S Q=>match zeO ws with
 |some qs=>qs.length≤1000000∧ ∀a,S a=none→Q (.ref a) (put S a (.dct (zif qs)))
 |none=>False
theorem zkX{K:PySem.W.Frag}{H:Hp}:∀{ws:List W}{vs:List V}{qs:List (List Int)},Reps K H ws vs→zeO ws=some qs→Paired (znL H) (qs.map fun q=>q.map Sum.inl) vs
 | [],_,_, .nil,e=>by
  simp only[zeO,Option.some.injEq]at e;subst e;exact .nil
 |w::ws,_,qs, .cons r rs,e=>by
  cases w with
  |tup us=>
   rcases us with _ |⟨k,_ |⟨b,_ |⟨x,us⟩⟩⟩
   ·simp [zeO]at e
   ·simp [zeO]at e
   ·cases b with
    |bl b=>
     cases b with
     |true=>
      simp only[zeO]at e;cases e1:zpX k with
      |none=>rw [e1]at e;simp at e
      |some q=>
       cases e2:zeO ws with
       |none=>rw [e1,e2]at e;simp at e
       |some qs'=>
        rw [e1,e2]at e;simp only[Option.some.injEq]at e;subst e;cases r with
        | @tup t vs' _ ft hs=>
         cases hs with
         |cons r1 r2=>
          cases r2 with
          |cons r3 r4=>
           cases r4;cases r3;obtain⟨b,rfl,eb⟩:=znh r1 e1;exact .cons ⟨t,b,rfl,ft,eb⟩ (zkX rs e2)
     |false=>simp [zeO]at e
    |_=>simp [zeO]at e
   ·cases b<;>simp [zeO]at e
  |_=>simp [zeO]at e
theorem zkK{K:PySem.W.Frag}{H:Hp}:∀(qs:List (List Int)) {kvs:List (List Int×W)}{ps:List (List Key×V)},RepD K H kvs ps→RepD K H (qs.foldl (fun kvs k=>ztJ kvs k (.bl true)) kvs) ((qs.map fun q=>q.map Sum.inl).foldl (fun kvs q=>zoP kvs q (.bl true)) ps)
 | [],_,_,r=>r
 |q::qs,_,_,r=>by
  rw [List.map_cons,List.foldl_cons,List.foldl_cons];exact zkK qs (r.put q (.bl true))
theorem znZ{K:PySem.W.Frag}:znY K (fun xs H Q=>∃(l:Addr) (vs:List V) (qs:List (List Key)),xs=[.ref l]∧SqL K H l vs∧Paired (znL H) qs vs∧qs.length≤sizeLine∧ ∀d,H d=none→Q (.ref d) (upd H d (.dT (zoF qs)))) zkJ:=fun H a vs ws S Q QW ea na r hS h hQ=>by
 unfold zkJ at h;split at h
 ·rename_i qs e;have hp:=zkX r e;refine⟨a,vs,_,rfl, .of ea,hp,?_,fun d hd=>?_⟩
  ·rw [List.length_map,sizeLine_eq];omega
  ·have rd:RepD K H (zif qs) (zoF (qs.map fun q=>q.map Sum.inl)):=zkK qs (show RepD K H [] [] from .nil);have x:Ext H S (upd H d (.dT (zoF (qs.map fun q=>q.map Sum.inl)))) (put S d (.dct (zif qs))):= .newS hd;refine hQ (.ref d) (put S d (.dct (zif qs))) (.ref d) _ x (.ref d) (fun b o q=>?_) (h.2 d (hS.free hd));by_cases hb:b=d
   ·subst hb;rw [zah]at q;cases q;exact⟨_,zaz,Paired.mapP rd fun _ _ z=>⟨z.1,z.2.ext x⟩⟩
   ·rw [zaI hb]at q;exact hS.new hd b o q
 ·exact h.elim
theorem zrq{k:Nat}(hr:Room k X.A) (hg:Gl X "dict") (hm:X.mg "dict" =none) (ha:JL X e tl)
  (he:starEach [e] X.env=(false,eval e X.env)::starEach [] X.env:=by rfl) (hpl:(backTo pos (starEach [] X.env)).any (·.1)=false:=by rfl):JE X (.Call (.Name "dict" p) [e] [] pos) (wBL zkJ tl):=fun E hE=>
 zsQ (znW hE.calm (by have:=hr.units;omega)) znZ hg hm PyProof.Rows.boot_dict ha (by decide) (by decide) he hpl E hE
theorem _root_.pz{a b:Prop}(h:a→b) (g:b→a):a=b:=propext ⟨h,g⟩
theorem zrF{ws:List W}{S:Sto}{Q:WK}:(zkJ ws S Q)=(match zeO ws with
 |some qs=>qs.length≤1000000∧ ∀a,S a=none→Q (.ref a) (put S a (.dct (zif qs)))
 |none=>False):=pz id id
theorem zky:∀ps:List (List Int),zeO (ps.map fun p=>W.tup [.tup (p.map W.int), .bl true])=some ps
 | []=>rfl
 |p::ps=>by
  have e:zpX (.tup (p.map W.int))=some p:=by
   show zcj (p.map W.int)=some p
   induction p with
   |nil=>rfl
   |cons i p ih=>rw [List.map_cons,zcj,ih];rfl
  rw [List.map_cons,zeO,e,zky ps]
theorem zrC (kvs:List (List Int×W)) (q k:List Int) (v:W):(zgz (ztJ kvs q v) k).isSome=(decide (k=q) || (zgz kvs k).isSome):=by
 have e:∀kvs:List (List Int×W),(zgz kvs k).isSome=kvs.any fun kv=>decide (kv.1=k):=fun kvs=>by
  unfold zgz;rw [Option.isSome_map]
  induction kvs with
  |nil=>rfl
  |cons a kvs ih=>
   rw [List.find?_cons,List.any_cons];cases decide (a.1=k) with
   |true=>rfl
   |false=>simpa using ih
 rw [e,e];unfold ztJ;split
 ·rename_i h;have:(kvs.map fun kv=>if kv.1=q then(kv.1,v) else kv).any (fun kv=>decide (kv.1=k))=kvs.any fun kv=>decide (kv.1=k):=by
   rw [List.any_map];congr 1;funext kv;simp only[Function.comp];split<;>rfl
  rw [this];by_cases hk:k=q
  ·subst hk;rw [h];simp
  ·rw [decide_eq_false hk,Bool.false_or]
 ·rw [List.any_append];simp only[List.any_cons,List.any_nil,Bool.or_false];rw [Bool.or_comm];congr 1;apply decide_eq_decide.mpr;exact eq_comm
theorem zmF:∀(qs:List (List Int)) (kvs:List (List Int×W)) (k:List Int),(zgz (qs.foldl (fun kvs k=>ztJ kvs k (.bl true)) kvs) k).isSome=(decide (k∈qs) || (zgz kvs k).isSome)
 | [],kvs,k=>by simp
 |q::qs,kvs,k=>by
  rw [List.foldl_cons,zmF qs,zrC,←Bool.or_assoc];congr 1;rw [Bool.eq_iff_iff];simp only[Bool.or_eq_true,decide_eq_true_eq,List.mem_cons];exact or_comm
theorem zjU (qs:List (List Int)) (k:List Int):(zgz (zif qs) k).isSome=decide (k∈qs):=by
 unfold zif;rw [zmF];simp [zgz]
end
inductive Tr where
  |bl (n:Int)
  |nd (s:Str) (ts:List Tr)
noncomputable def Tr.kids:Tr→List Tr
 | .bl _=>[]
 | .nd _ ts=>ts
mutual
noncomputable def Tr.weight:Tr→Nat
 | .bl _=>1
 | .nd _ ts=>1+wts ts
noncomputable def wts:List Tr→Nat
 | []=>0
 |t::ts=>t.weight+wts ts
end
mutual
noncomputable def Tr.depth:Tr→Nat
 | .bl _=>1
 | .nd _ ts=>1+dts ts
noncomputable def dts:List Tr→Nat
 | []=>0
 |t::ts=>max t.depth (dts ts)
end
theorem zqA:wts []=0:=by unfold wts;rfl
theorem zeM (t:Tr) (ts:List Tr):wts (t::ts)=t.weight+wts ts:=by
 conv=>lhs;unfold wts
theorem zeH:∀(ts us:List Tr),wts (ts++us)=wts ts+wts us
 | [],us=>by
  show wts us=wts []+wts us;rw [zqA];omega
 |t::ts,us=>by
  show wts (t::(ts++us))=_;rw [zeM,zeM,zeH ts us];omega
theorem zlA:dts []=0:=by unfold dts;rfl
theorem zfM (t:Tr) (ts:List Tr):dts (t::ts)=max t.depth (dts ts):=by
 conv=>lhs;unfold dts
theorem zdX (t:Tr):t.weight=1+wts t.kids:=by
 cases t with
 |bl n=>
  show Tr.weight (.bl n)=1+wts [];unfold Tr.weight wts;rfl
 |nd s ts=>
  show Tr.weight (.nd s ts)=1+wts ts
  conv=>lhs;unfold Tr.weight
theorem zeN (t:Tr):t.depth=1+dts t.kids:=by
 cases t with
 |bl n=>
  show Tr.depth (.bl n)=1+dts [];unfold Tr.depth dts;rfl
 |nd s ts=>
  show Tr.depth (.nd s ts)=1+dts ts
  conv=>lhs;unfold Tr.depth
theorem zgd (t:Tr):1≤t.weight:=by rw [zdX];omega
theorem zbq (t:Tr):1≤t.depth:=by rw [zeN];omega
theorem ziC:∀(ts us:List Tr),dts (ts++us)=max (dts ts) (dts us)
 | [],us=>by
  show dts us=max (dts []) (dts us);rw [zlA];omega
 |t::ts,us=>by
  show dts (t::(ts++us))=_;rw [zfM,zfM,ziC ts us];exact(Nat.max_assoc _ _ _).symm
theorem zcV:∀(ts:List Tr),ts.length≤wts ts
 | []=>Nat.zero_le _
 |t::ts=>by
  have:=zcV ts;have:=zgd t;rw [zeM,List.length_cons];omega
theorem zdi{t:Tr}:∀{ts:List Tr},t∈ts→t.weight≤wts ts
 | [],h=>by cases h
 |u::ts,h=>by
  rw [zeM];rcases List.mem_cons.mp h with e |h
  ·rw [e];omega
  ·have:=zdi h;omega
theorem znv:∀{ts:List Tr},ts≠ []→dts ts=1+dts (ts.flatMap Tr.kids)
 | [],h=>absurd rfl h
 | [t],_=>by
  rw [List.flatMap_cons,List.flatMap_nil,List.append_nil,zfM,zlA,zeN];omega
 |t::u::r,_=>by
  have ih:=znv (ts:=u::r) (by simp);have e:(t::u::r).flatMap Tr.kids=t.kids++(u::r).flatMap Tr.kids:=List.flatMap_cons ..;rw [zfM,ih,e,ziC,zeN];omega
theorem znw:∀(ts:List Tr),wts (ts.flatMap Tr.kids)+ts.length=wts ts
 | []=>by rw [List.flatMap_nil,zqA];rfl
 |t::ts=>by
  have ih:=znw ts;rw [List.flatMap_cons,zeH,zeM,List.length_cons,zdX];omega
mutual
theorem zep:∀t:Tr,t.depth≤t.weight
 | .bl n=>by unfold Tr.depth Tr.weight;exact Nat.le_refl _
 | .nd s ts=>by
  have:=ziw ts;rw [zeN,zdX];show 1+dts ts≤1+wts ts;omega
theorem ziw:∀ts:List Tr,dts ts≤wts ts
 | []=>by rw [zlA];exact Nat.zero_le _
 |t::ts=>by
  have:=zep t;have:=ziw ts;rw [zfM,zeM];omega
end
mutual
noncomputable def enc:Tr→W
 | .bl n=> .int n
 | .nd s ts=> .tup (.str s::encs ts)
noncomputable def encs:List Tr→List W
 | []=>[]
 |t::ts=>enc t::encs ts
end
theorem zaK:∀ts:List Tr,encs ts=ts.map enc
 | []=>by simp [encs]
 |t::ts=>by simp [encs,zaK ts]
theorem zbo (ts:List Tr):(encs ts).length=ts.length:=by rw [zaK,List.length_map]
noncomputable def zbc (p:List Int):W:= .tup (p.map W.int)
theorem zlx:zcc "int" "int" =true:=by decide +kernel
theorem zkb:zcc "int" "bool" =false:=by decide +kernel
theorem zlG:zcc "int" "str" =false:=by decide +kernel
theorem zjB:zcc "int" "tuple" =false:=by decide +kernel
theorem zkV:zcc "int" "list" =false:=by decide +kernel
theorem zkI:zcc "bool" "int" =true:=by decide +kernel
theorem zjt:zcc "bool" "bool" =true:=by decide +kernel
theorem zkF:zcc "bool" "str" =false:=by decide +kernel
theorem zid:zcc "bool" "tuple" =false:=by decide +kernel
theorem zjh:zcc "bool" "list" =false:=by decide +kernel
theorem zmf:zcc "str" "int" =false:=by decide +kernel
theorem zkN:zcc "str" "bool" =false:=by decide +kernel
theorem zmd:zcc "str" "str" =true:=by decide +kernel
theorem zjk:zcc "str" "tuple" =false:=by decide +kernel
theorem zkO:zcc "str" "list" =false:=by decide +kernel
theorem zjo:zcc "tuple" "int" =false:=by decide +kernel
theorem zie:zcc "tuple" "bool" =false:=by decide +kernel
theorem ziK:zcc "tuple" "str" =false:=by decide +kernel
theorem sub_tuple_tuple:zcc "tuple" "tuple" =true:=by decide +kernel
theorem sub_tuple_list:zcc "tuple" "list" =false:=by decide +kernel
theorem zjH:zcc "list" "int" =false:=by decide +kernel
theorem zjj:zcc "list" "bool" =false:=by decide +kernel
theorem zkq:zcc "list" "str" =false:=by decide +kernel
theorem sub_list_tuple:zcc "list" "tuple" =false:=by decide +kernel
theorem sub_list_list:zcc "list" "list" =true:=by decide +kernel
section
variable {α:Type}{x:α}{xs:List α}
theorem znN (n:Nat):zdN xs (some (n:Int)) none=xs.drop n:=by
 unfold zdN;rw [HT.sIx_nat,HT.sIx_none];by_cases h:n≤xs.length
 ·rw [Nat.min_eq_left h,List.take_of_length_le (by rw [List.length_drop];omega)]
 ·rw [Nat.min_eq_right (by omega),List.drop_of_length_le (Nat.le_refl _),List.drop_of_length_le (by omega),List.take_nil]
theorem zmC (n:Nat):zdN xs none (some (n:Int))=xs.take n:=by
 unfold zdN;rw [HT.sIx_nat,HT.sIx_none,List.drop_zero,Nat.sub_zero];by_cases h:n≤xs.length
 ·rw [Nat.min_eq_left h]
 ·rw [Nat.min_eq_right (by omega),List.take_length,List.take_of_length_le (by omega)]
theorem zuV (n m:Nat):zdN xs (some (n:Int)) (some (m:Int))=(xs.drop n).take (m - n):=by
 unfold zdN;rw [HT.sIx_nat,HT.sIx_nat];by_cases h:n≤xs.length
 ·rw [Nat.min_eq_left h];by_cases h2:m≤xs.length
  ·rw [Nat.min_eq_left h2]
  ·rw [Nat.min_eq_right (by omega),List.take_of_length_le (by rw [List.length_drop];omega),List.take_of_length_le (by rw [List.length_drop];omega)]
 ·rw [Nat.min_eq_right (show xs.length≤n by omega),List.drop_of_length_le (Nat.le_refl _),List.drop_of_length_le (show xs.length≤n by omega),List.take_nil,List.take_nil]
theorem zvv:zdN (x::xs) (some 1) none=xs:=by rw [show(1:Int)=((1:Nat):Int) from rfl,znN];rfl
theorem zqx{n d k:Nat}(h:0<k):HT.sIx n d (some (-(k:Int)))=n - k:=by
 show(if(-(k:Int))<0 then(-(k:Int)+(n:Int)).toNat else min (-(k:Int)).toNat n)=n - k;rw [if_pos (by omega)];omega
theorem zmn (k:Nat) (h:0<k):zdN xs none (some (-(k:Int)))=xs.take (xs.length - k):=by
 unfold zdN;rw [zqx h,HT.sIx_none,List.drop_zero,Nat.sub_zero]
theorem zoW (k:Nat) (h:0<k):zdN xs (some (-(k:Int))) none=xs.drop (xs.length - k):=by
 unfold zdN;rw [zqx h,HT.sIx_none,List.take_of_length_le (by rw [List.length_drop];omega)]
theorem zcD{n:Nat}:atI xs (n:Int)=xs[n]? :=by
 unfold atI ixN;rw [if_pos (by omega)];by_cases h:n<xs.length
 ·rw [if_pos (by omega)];simp
 ·rw [if_neg (by omega)];simp;omega
theorem zjs:atI (x::xs) 0=some x:=zcD (n:=0)
end
section
variable {S S':Sto}{a b:Addr}{o:Ob}{Q:List W→Prop}{ws:List W}
theorem zmJ{u:Ob}(h:b≠a):put (put S a o) b u=put (put S b u) a o:=by
 funext c;unfold put;by_cases h1:c=b
 ·rw [if_pos h1,if_pos h1,if_neg (by rw [h1];exact h)]
 ·rw [if_neg h1,if_neg h1]
theorem znr{u o':Ob}(h:b≠a):put (put (put S a o) b u) a o'=put (put S a o') b u:=by rw [zmJ h,zbj,zmJ h]
theorem zgO:zcp (put S a (.lst ws)) a Q=Q ws:=zak zah
theorem zed (h:put S a o b=none):S b=none∧b≠a:=by
 have hb:b≠a:=by rintro rfl;rw [zah]at h;cases h
 rw [zaI hb]at h;exact⟨h,hb⟩
theorem zve{u:Ob}(h:S a=some u) (n:S b=none):a≠b:=by rintro rfl;rw [h]at n;cases n
theorem Sub.put (h:Sub S S') (n:S a=none):Sub S (L2.put S' a o):=fun b u e=>by rw [zaI (zve e n)];exact h b u e
theorem Sub.put2{u:Ob}(h:Sub S S'):Sub (L2.put S a u) (L2.put S' a u):=fun b w e=>by
 by_cases hb:b=a
 ·subst hb;rw [zah]at e⊢;exact e
 ·rw [zaI hb]at e⊢;exact h b w e
end
theorem zxA (S:Sto) (a b:Int):eqF S 60 (.int a) (.int b)=some (a == b):=by have h:eqF S 60 (.int a) (.int b)=some (a == b):=rfl;exact h
theorem zxN (S:Sto) (a b:Str):eqF S 60 (.str a) (.str b)=some (a == b):=by have h:eqF S 60 (.str a) (.str b)=some (a == b):=rfl;exact h
theorem zzl (S:Sto) (a b:Bool):eqF S 60 (.bl a) (.bl b)=some (a == b):=by have h:eqF S 60 (.bl a) (.bl b)=some (a == b):=rfl;exact h
theorem zan{n:Nat}(h:n≤16777216):n≤sizeLine:=by rw [sizeLine_eq];exact h
theorem zch{n:Nat}(h:n<16777216):n<sizeLine:=by rw [sizeLine_eq];exact h
section
variable {S:Sto}{Q:WK}{QB:Bool→Sto→Prop}{QS:List W→(Sto→Prop)→Prop}{QT:String→Prop}
theorem zfx{a:Addr}{o:Ob}(h:S a=some o):put S a o=S:=by
 funext b;unfold put;split
 ·rename_i e;rw [e,h]
 ·rfl
theorem zrL{b:Bool}:ztx (.bl b) S QB=QB b S:=pz id id
theorem zpD{i:Int}:ztx (.int i) S QB=QB (i != 0) S:=pz id id
theorem zqe{ws:List W}:ztx (.tup ws) S QB=QB (!ws.isEmpty) S:=pz id id
theorem zqV{a:Addr}:ztx (.ref a) S QB=zcp S a fun ws=>QB (!ws.isEmpty) S:=pz id id
theorem zqb:ztx .non S QB=QB false S:=pz id id
theorem zlc{ws:List W}:zoI (.tup ws) S QS=QS ws fun _=>True:=pz id id
theorem zhI{a:Addr}:zoI (.ref a) S QS=zcp S a fun ws=>QS ws fun S'=>S' a=some (.lst ws):=pz id id
theorem zvk{b:Bool}:tyW (.bl b) S QT=QT "bool" :=pz id id
theorem zrW{i:Int}:tyW (.int i) S QT=QT "int" :=pz id id
theorem zss{i:Str}:tyW (.str i) S QT=QT "str" :=pz id id
theorem zrO{i:List W}:tyW (.tup i) S QT=QT "tuple" :=pz id id
theorem zrA:tyW .non S QT=QT "NoneType" :=pz id id
theorem zsy{a:Addr}:tyW (.ref a) S QT=zcp S a fun _=>QT "list" :=pz id id
theorem zpI{i j:Int}:zem (.int i) (.int j) S Q=Q (.int (i+j)) S:=pz id id
theorem zqL{i j:Str}:zem (.str i) (.str j) S Q=(i.length+j.length≤sizeLine∧Q (.str (i++j)) S):=pz id id
theorem zhj{i j:List W}:zem (.tup i) (.tup j) S Q=(i.length+j.length≤sizeLine∧Q (.tup (i++j)) S):=pz id id
theorem zqN{a b:Addr}:zem (.ref a) (.ref b) S Q=zcp S a fun xs=>zcp S b fun ys=>xs.length+ys.length≤sizeLine∧ ∀p,S p=none→Q (.ref p) (put S p (.lst (xs++ys))):=pz id id
theorem zyL{C:Int→Int→Prop}{g:Int→Int→W}{i j:Int}:zdC C g (.int i) (.int j) S Q=(C i j∧Q (g i j) S):=pz id id
theorem zwO{g:Int→Int→W}{i j:Int}:zfA g (.int i) (.int j) S Q=Q (g i j) S:=pz id id
theorem zsw{i j:Int}:oLe (.int i) (.int j) S Q=Q (.bl (decide (i≤j))) S:=pz id id
theorem zrJ{i j:Str}:oLe (.str i) (.str j) S Q=Q (.bl (!decide (j.cps.toList<i.cps.toList))) S:=pz id id
theorem zqu{us:List W}:zgh [.tup us] S Q=Q (.int us.length) S:=pz id id
theorem zqc{a:Addr}:zgh [.ref a] S Q=zcp S a fun us=>Q (.int us.length) S:=pz id id
theorem zri{ns:List Int}:zgh [.scr ns] S Q=Q (.int ns.length) S:=pz id id
theorem zpO{z:Str}:zgh [.str z] S Q=(z.length≤sizeLine∧Q (.int z.length) S):=pz id id
theorem zrM{ws:List W}{i:Int}:oIx (.tup ws) (.int i) S Q=match atI ws i with
 |some w=>Q w S
 |none=>False:=pz id id
theorem zsC{a:Addr}{i:Int}:oIx (.ref a) (.int i) S Q=zcp S a fun ws=>match atI ws i with
 |some w=>Q w S
 |none=>False:=pz id id
theorem zrK{ns:List Int}{i:Int}:oIx (.scr ns) (.int i) S Q=match atI ns i with
 |some n=>Q (.int n) S
 |none=>False:=pz id id
theorem zsJ{x:Str}{i:Int}:oIx (.str x) (.int i) S Q=(x.length≤sizeLine∧match atI x.cps.toList i with
 |some c=>Q (.str ⟨#[c]⟩) S
 |none=>False):=pz id id
theorem zsE{ws:List W}{lo hi:Option Int}:oSl (.tup ws) lo hi S Q=Q (.tup (zdN ws lo hi)) S:=pz id id
theorem zsq{z:Str}{lo hi:Option Int}:oSl (.str z) lo hi S Q=(z.length≤sizeLine∧Q (.str (Txt.slice z lo hi)) S):=pz id id
theorem zsh{a:Addr}{lo hi:Option Int}:oSl (.ref a) lo hi S Q=zcp S a fun ws=>∀p,S p=none→Q (.ref p) (put S p (.lst (zdN ws lo hi))):=pz id id
theorem zrN{ns:List Int}{lo hi:Option Int}:oSl (.scr ns) lo hi S Q= ∀p,S p=none→Q (.ref p) (put S p (.lst ((zdN ns lo hi).map W.int))):=pz id id
theorem zlF{us:List W}:zdM [.tup us] S Q=Q (.tup us) S:=pz id id
theorem zmg{a:Addr}:zdM [.ref a] S Q=zcp S a fun us=>Q (.tup us) S:=pz id id
theorem zsF{a:Addr}{y:W}:zce (.ref a) [y] S Q=zcp S a fun xs=>xs.length<sizeLine∧Q .non (put S a (.lst (xs++[y]))):=pz id id
theorem zyS{a:Addr}:zAx (.ref a) [] S Q=zcp S a fun xs=>match xs[xs.length - 1]? with
 |some y=>Q y (put S a (.lst xs.dropLast))
 |none=>False:=pz id id
theorem zkj{a:Addr}{ys:List W}:zhK (.ref a) [.tup ys] S Q=zcp S a fun xs=>xs.length+ys.length≤sizeLine∧Q .non (put S a (.lst (xs++ys))):=pz id id
theorem zjX{a b:Addr}:zhK (.ref a) [.ref b] S Q=zcp S a fun xs=>zcp S b fun ys=>xs.length+ys.length≤sizeLine∧Q .non (put S a (.lst (xs++ys))):=pz id id
theorem zqD{a:Addr}{ws:List W}:zru (.ref a) ws S Q=zcp S a fun xs=>xs.length+ws.length≤sizeLine∧Q .non (put S a (.lst (xs++ws))):=pz id id
theorem zzy{a:Addr}:rvL (.ref a) S=zcp S a fun _=>True:=pz id id
theorem zzC{x:Str}:rvS (.str x) S=True:=pz id id
theorem zrt{b:Bool}:zvH [.bl b] S Q=Q (.int (if b then 1 else 0)) S:=pz id id
theorem zqY{i:Int}:zvH [.int i] S Q=Q (.int i) S:=pz id id
theorem zwu{i j:Int}:zyz [.int i, .int j] S Q=Q (.int (if j > i then j else i)) S:=pz id id
theorem zvV{i j:Int}:zld [.int i, .int j] S Q=Q (.int (if j<i then j else i)) S:=pz id id
theorem zwQ{z:Str}{ws:List W}:zla (.str z) ws S Q=match zgu ws with
 |some ys=>(ys.map (·.length)).sum+ys.length*z.length≤16777216∧Q (.str (Str.join z ys)) S
 |none=>False:=pz id id
theorem zuy{z y:Str}:zxj (.str z) [.str y] S Q=match Builtin.Str.occurrences z y 0 z.length 1 with
 |i::_=>Q (.int i) S
 | []=>False:=pz id id
theorem zsz{neg:Bool}:oIs neg .non .non S Q=Q (.bl (!neg)) S:=pz id id
theorem ztX{neg a b:Bool}:oIs neg (.bl a) (.bl b) S Q=Q (.bl (if neg then a != b else a == b)) S:=pz id id
theorem ztH{neg a:Bool}:oIs neg (.bl a) .non S Q=Q (.bl neg) S:=pz id id
theorem zvu{neg:Bool}{ws:List W}:oIs neg (.tup ws) .non S Q=Q (.bl neg) S:=pz id id
theorem zvd{neg:Bool}{a:Addr}:oIs neg (.ref a) .non S Q=Q (.bl neg) S:=pz id id
theorem zuE{neg:Bool}{a:Int}:oIs neg (.int a) .non S Q=Q (.bl neg) S:=pz id id
theorem zsa{neg:Bool}{x:W}{ws:List W}:oIn neg x (.tup ws) S Q=match inF S x ws with
 |some b=>Q (.bl (if neg then !b else b)) S
 |none=>False:=pz id id
theorem zsx{neg:Bool}{x:W}{a:Addr}:oIn neg x (.ref a) S Q=zcp S a fun ws=>match inF S x ws with
 |some b=>Q (.bl (if neg then !b else b)) S
 |none=>False:=pz id id
theorem zsn{neg:Bool}{i j:Str}:oIn neg (.str i) (.str j) S Q=Q (.bl (if neg then !(!(Builtin.Str.occurrences j i 0 j.length 1).isEmpty) else !(Builtin.Str.occurrences j i 0 j.length 1).isEmpty)) S:=pz id id
end
theorem zlt{g:WG}{b:WS}{E:WX}{D:WEnds}{G:Sto→Prop}(I:List W→WSt→Sto→Prop)
  (step:∀w ws σ S (N:WSt→Sto→Prop),I (w::ws) σ S→(∀σ' S' S'',Sub S'' S'→G S''→I ws σ' S''→N σ' S')→g w σ S fun σ1 S1=>b E { D with nx:=N,ct:=N,bk:=D.nx } σ1 S1)
  (done:∀σ S,I [] σ S→D.nx σ S):∀(ws:List W) (σ:WSt) (S:Sto),I ws σ S→forL g b E D G ws σ S
 | [],σ,S,h=>done σ S h
 |w::ws,σ,S,h=>step w ws σ S _ h fun σ' S' S'' sb hG hI=>⟨S'',sb,hG,zlt I step done ws σ' S'' hI⟩
section
variable {E:WX}{σ:WSt}{S:Sto}{Q:WK}{QB:Bool→Sto→Prop}{QA:List W→Sto→Prop}{QI:List W→(Sto→Prop)→Sto→Prop}{QO:Option Int→Sto→Prop}{P:WSt→Sto→Prop}{D:WEnds}{w x y:W}{ws:List W}{EX:Str→Sto→Prop}
theorem zya{i:Nat}:(zad i E σ S Q)=(match σ[i]? with
 |some (some w)=>Q w S
 |_=>False):=pz id id
theorem zBb{w:W}:(wC w E σ S Q)=(Q w S):=pz id id
theorem zyW{r:W2}{a b:WE}:(wOp r a b E σ S Q)=(a E σ S fun x S1=>b E σ S1 fun y S2=>r x y S2 Q):=pz id id
theorem zxf{t:WE}:(zlr t E σ S QB)=(t E σ S fun w S'=>ztx w S' QB):=pz id id
theorem zzj{t:WE}:(wTb t E σ S QB)=(t E σ S fun w S'=>match w with
 | .bl b=>QB b S'
 |_=>False):=pz id id
theorem zwv{t u:WT}:(zqO t u E σ S QB)=(t E σ S fun c S1=>if c=true then u E σ S1 QB else QB false S1):=pz id id
theorem zzH{t u:WT}:(wOr t u E σ S QB)=(t E σ S fun c S1=>if c=true then QB true S1 else u E σ S1 QB):=pz id id
theorem zwK{t:WT}:(zvE t E σ S QB)=(t E σ S fun c S1=>QB (!c) S1):=pz id id
theorem zuh{t u:WE}:(ziT t u E σ S Q)=(t E σ S fun w S1=>match w with
 | .bl true=>u E σ S1 Q
 | .bl false=>Q (.bl false) S1
 |_=>False):=pz id id
theorem zxl{t u:WE}:(zzb t u E σ S Q)=(t E σ S fun w S1=>match w with
 | .bl false=>u E σ S1 Q
 | .bl true=>Q (.bl true) S1
 |_=>False):=pz id id
theorem zuC{t:WE}:(ztW t E σ S Q)=(t E σ S fun w S1=>match w with
 | .bl b=>Q (.bl !b) S1
 |_=>False):=pz id id
theorem zyC{c:WT}{t u:WE}:(wIf c t u E σ S Q)=(c E σ S fun b S1=>if b=true then t E σ S1 Q else u E σ S1 Q):=pz id id
theorem zvX{c:WT}{t u:WS}:(zcL c t u E D σ S)=(c E σ S fun b S1=>if b=true then t E D σ S1 else u E D σ S1):=pz id id
theorem zuw:(zaO  E D σ S)=(D.nx σ S):=pz id id
theorem zvL{t u:WS}:(zas t u E D σ S)=(t E { D with nx:=u E D } σ S):=pz id id
theorem zxW{e:WE}:(zbg e E D σ S)=(e E σ S D.rt):=pz id id
theorem zur{e:WE}:(zdn e E D σ S)=(e E σ S fun _ S1=>D.nx σ S1):=pz id id
theorem zhG{i:Nat}:(wGN i w σ S P)=(P (σ.set i (some w)) S):=pz id id
theorem zwY{e:WE}{g:WG}:(wAsg e g E D σ S)=(e E σ S fun w S1=>g w σ S1 D.nx):=pz id id
theorem zoK:(zdO  ws σ S P)=(match ws with
 | []=>P σ S
 |_=>False):=pz id id
theorem ziZ{g:WG}{u:WGs}:(zaG g u ws σ S P)=(match ws with
 | []=>False
 |w::r=>g w σ S fun σ' S'=>u r σ' S' P):=pz id id
theorem zwn{u:WGs}:(wGT u w σ S P)=(match w with
 | .tup ws=>u ws σ S P
 |_=>False):=pz id id
theorem ztK:(waNil  E σ S QA)=(QA [] S):=pz id id
theorem zsd{t:WE}{u:WA}:(zab t u E σ S QA)=(t E σ S fun w S1=>u E σ S1 fun ws S2=>QA (w::ws) S2):=pz id id
theorem zww{t:WA}:(zcf t E σ S Q)=(t E σ S fun ws S1=>ws.length≤sizeLine∧Q (.tup ws) S1):=pz id id
theorem zvZ{t:WA}:(zdW t E σ S QA)=(t E σ S fun ws S1=>ws.length≤sizeLine∧QA ws S1):=pz id id
theorem zvW{t:WL}:(zdh t E σ S Q)=(t E σ S fun ws S1=>∀a,S1 a=none→Q (.ref a) (put S1 a (.lst ws))):=pz id id
theorem zuI{c:WSp}{t:WA}:(zam c t E σ S Q)=(t E σ S fun ws S1=>c ws S1 Q fun cl S2=>E cl σ S2):=pz id id
theorem zfK{n k:Nat}{body:WS}:(zcI n k body ws S Q EX)=(ws.length=k∧body (fun c _ S'=>EX c S') { nx:=fun _ S'=>∃S'',Sub S'' S'∧Q .non S'',rt:=fun w S'=>∃S'',Sub S'' S'∧Q w S'' } (ws.map some++List.replicate (n - k) none) S):=pz id id
theorem zwj{t:WE}:(zlN t E σ S Q)=(t E σ S fun w S1=>match w with
 | .int i=>Q (.int (-i)) S1
 |_=>False):=pz id id
theorem zyU{t u:WE}:(zzt t u E σ S QA)=(t E σ S fun x S1=>u E σ S1 fun y S2=>match x,y with
 | .ref a, .ref b=>zcp S2 a fun xs=>zcp S2 b fun ys=>xs.length+ys.length≤sizeLine∧QA (xs++ys) S2
 |_,_=>False):=pz id id
theorem zzp{neg:Bool}:(oEq neg x y S Q)=(match eqF S 60 x y with
 |some b=>Q (.bl (if neg then !b else b)) S
 |none=>False):=pz id id
theorem zsI{r r':W2}{a b c:WE}:(zjI r r' a b c E σ S Q)=(a E σ S fun x S1=>b E σ S1 fun y S2=>r x y S2 fun z S3=>match z with
 | .bl true=>c E σ S3 fun u S4=>r' y u S4 Q
 | .bl false=>Q (.bl false) S3
 |_=>False):=pz id id
theorem zyF:(woN  E σ S QO)=(QO none S):=pz id id
theorem zyD{t:WE}:(woS t E σ S QO)=(t E σ S fun w S1=>match w with
 | .int i=>QO (some i) S1
 |_=>False):=pz id id
theorem zzE{t:WE}{l h:WO}:(wSl t l h E σ S Q)=(t E σ S fun x S1=>l E σ S1 fun lo S2=>h E σ S2 fun hi S3=>oSl x lo hi S3 Q):=pz id id
theorem zBg{f:WF}{t:WA}:(wB f t E σ S Q)=(t E σ S fun ws S1=>f ws S1 Q):=pz id id
theorem zzU{f:WF}{t:WL}:(wBL f t E σ S Q)=(t E σ S fun ws S1=>f ws S1 Q):=pz id id
theorem zqp:(zhL  ws S Q)=(Q (.tup ws) S):=pz id id
theorem zoU{t:WE}:(zlO t E σ S QA)=(t E σ S fun w S1=>match w with
 | .tup ws=>QA ws S1
 | .ref a=>zcp S1 a fun ws=>QA ws S1
 | .scr ns=>QA (ns.map W.int) S1
 |_=>False):=pz id id
theorem zus:(zlV  ws S Q)=(match zhb ws with
 |some bs=>Q (.bl (bs.all _root_.id)) S
 |none=>False):=pz id id
theorem zwT{T:String}{t:WE}:(ztz T t E σ S Q)=(t E σ S fun w S1=>tyW w S1 fun A=>Q (.bl (zcc A T)) S1):=pz id id
theorem zAk{rv:W→Sto→Prop}{f:WMf}{to:WE}{t:WA}:(wM rv f to t E σ S Q)=(to E σ S fun w S1=>rv w S1∧t E σ S1 fun ws S2=>f w ws S2 Q):=pz id id
theorem zzD{rv:W→Sto→Prop}{f:WMf}{to:WE}{t:WL}:(wML rv f to t E σ S Q)=(to E σ S fun w S1=>rv w S1∧t E σ S1 fun ws S2=>f w ws S2 Q):=pz id id
theorem zwB{i:Nat}{g:Int→Int→Int}{e:WE}:(zwS i g e E D σ S)=(match σ[i]? with
 |some (some (.int a))=>e E σ S fun w S1=>match w with
  | .int b=>D.nx (σ.set i (some (.int (g a b)))) S1
  |_=>False
 |_=>False):=pz id id
theorem zxm{q:WI}{g:WG}{b:WS}:(zib q g b E D σ S)=(q E σ S fun ws G S1=>forL g b E D G ws σ S1):=pz id id
theorem zyq{t:WE}:(wIv t E σ S QI)=(t E σ S fun w S1=>match w with
 | .tup ws=>QI ws (fun _=>True) S1
 | .ref a=>zcp S1 a fun ws=>QI ws (fun S'=>S' a=some (.lst ws)) S1
 | .scr ns=>QI (ns.map W.int) (fun _=>True) S1
 | .str z=>QI (zkc z) (fun _=>True) S1
 |_=>False):=pz id id
theorem zwg{t:WA}:(zuL t E σ S QI)=(t E σ S fun ws S1=>match ws with
 | [.int j]=>(-(2 ^ 62)≤j∧j<2 ^ 62)∧QI (zoc 0 j.toNat) (fun _=>True) S1
 |_=>False):=pz id id
theorem zwz:(zic  E σ S QB)=(QB true S):=pz id id
theorem zuu{k:Nat}{fr:List Nat}{q:WI}{g:WG}{c:WT}{e:WE}:(zds k fr q g c e E σ S QA)=(q E σ S fun ws G S1=>zgo g c e E G QA ws [] (List.replicate k none++fr.map fun j=>(σ[j]?).join) S1):=pz id id
theorem zuJ{t:WE}:(zpi t E σ S QI)=(t E σ S fun w S1=>zoI w S1 fun ws G=>QI (zim 0 ws) G S1):=pz id id
theorem zxQ{t u:WE}:(zuU t u E σ S QI)=(t E σ S fun x S1=>u E σ S1 fun y S2=>zoI x S2 fun xs G=>zoI y S2 fun ys G'=>QI (pairs xs ys) (fun S'=>G S'∧G' S') S2):=pz id id
theorem zvp{t:WE}{l h:WO}:(zvC t l h E σ S QA)=(t E σ S fun x S1=>l E σ S1 fun lo S2=>h E σ S2 fun hi S3=>match x with
 | .ref a=>zcp S3 a fun ws=>QA (zdN ws lo hi) S3
 | .scr ns=>QA ((zdN ns lo hi).map W.int) S3
 |_=>False):=pz id id
theorem zwt{t:WL}{u:WE}:(zts t u E σ S Q)=(t E σ S fun ws S1=>u E σ S1 fun y S2=>match y with
 | .int i=>match atI ws i with
  |some w=>Q w S2
  |none=>False
 |_=>False):=pz id id
theorem ztN{t:WE}{u:WL}:(zrX t u E σ S QA)=(t E σ S fun x S1=>u E σ S1 fun ys S2=>match x with
 | .ref a=>zcp S2 a fun xs=>xs.length+ys.length≤sizeLine∧QA (xs++ys) S2
 |_=>False):=pz id id
theorem zuZ{t u:WL}:(zoo t u E σ S QA)=(t E σ S fun xs S1=>u E σ S1 fun ys S2=>xs.length+ys.length≤sizeLine∧QA (xs++ys) S2):=pz id id
theorem ztS{t:WL}{u:WE}:(zsB t u E σ S QA)=(t E σ S fun xs S1=>u E σ S1 fun y S2=>match y with
 | .ref a=>zcp S2 a fun ys=>xs.length+ys.length≤sizeLine∧QA (xs++ys) S2
 |_=>False):=pz id id
theorem zuf{t:WL}{u:WE}:(zsc t u E σ S QA)=(t E σ S fun xs S1=>u E σ S1 fun y S2=>match y with
 | .int k=>(-(2 ^ 63)≤k∧k<2 ^ 63∧xs.length*k.toNat≤sizeLine)∧QA (List.replicate k.toNat xs).flatten S2
 |_=>False):=pz id id
end
section
variable {S:Sto}{Q:WK}
theorem zyb{xs:List W}{k:Int}:zyB (.tup xs) (.int k) S Q=((xs≠ []∧ -(2 ^ 63)≤k∧k<2 ^ 63∧xs.length*k.toNat≤sizeLine)∧Q (.tup (List.replicate k.toNat xs).flatten) S):=pz id id
theorem zyr{neg:Bool}{y:W}{a:Addr}:zwV neg y (.ref a) S Q=(match zpX y with
 |some k=>zsu S a fun kvs=>Q (.bl (if neg then !(zgz kvs k).isSome else(zgz kvs k).isSome)) S
 |none=>False):=pz id id
theorem zwm{y:W}{a:Addr}:zyw (.ref a) y S Q=(match zpX y with
 |some k=>zsu S a fun kvs=>match zgz kvs k with
  |some w=>Q w S
  |none=>False
 |none=>False):=pz id id
theorem ztR{ws:List W}:(zqw ws S Q)=(match zcj ws with
 |some ns=>Q (.int ns.sum) S
 |none=>False):=pz id id
theorem zuN{z:Str}:znO (.str z) [] S Q=(z.length≤5592405∧Q (.str (Txt.upper z)) S):=pz id id
theorem zgp:∀p:List Int,zcj (p.map W.int)=some p
 | []=>rfl
 |i::p=>by rw [List.map_cons,zcj,zgp p];rfl
theorem zyX (p:List Int):zpX (zbc p)=some p:=zgp p
theorem zrG{a:Addr}{kvs:List (List Int×W)}{P:List (List Int×W)→Prop}:zsu (put S a (.dct kvs)) a P=P kvs:=zlB zah
end
end L2
end
section
def L2.wZ (d:String):Lean.MacroM (Lean.TSyntax `tactic):=do
  let a:Array Lean.Term:=(("L2.zya L2.zBb L2.zyW L2.zxf L2.zzj L2.zwv L2.zzH L2.zwK L2.zuh L2.zxl L2.zuC L2.zyC L2.zvX L2.zuw L2.zvL L2.zxW L2.zur L2.zhG L2.zwY L2.zoK L2.ziZ L2.zwn L2.ztK L2.zsd L2.zww L2.zvZ L2.zvW L2.zuI L2.zfK L2.zwj L2.zzp L2.zsI L2.zyF L2.zyD L2.zzE L2.zBg L2.zzU L2.zqp L2.zoU L2.zus L2.zwT L2.zAk L2.zzD L2.zwB L2.zxm L2.zyq L2.zwg L2.zwz L2.zuu L2.zuJ L2.zxQ L2.zvp L2.zwt L2.ztN L2.zuZ L2.ztS L2.zuf L2.zyb L2.zyr L2.zwm L2.ztR L2.zrF L2.zuN L2.zyX L2.zrG L2.zgO L2.zbj L2.zxA L2.zxN L2.zzl L2.zvv L2.zjs L2.zlx L2.zkb L2.zlG L2.zjB L2.zkV L2.zkI L2.zjt L2.zkF L2.zid L2.zjh L2.zmf L2.zkN L2.zmd L2.zjk L2.zkO L2.zjo L2.zie L2.ziK L2.sub_tuple_tuple L2.sub_tuple_list L2.zjH L2.zjj L2.zkq L2.sub_list_tuple L2.sub_list_list L2.zrL L2.zpD L2.zqe L2.zqV L2.zqb L2.zlc L2.zhI L2.zvk L2.zrW L2.zss L2.zrO L2.zrA L2.zsy L2.zpI L2.zqL L2.zhj L2.zqN L2.zyL L2.zwO L2.zsw L2.zrJ L2.zqu L2.zqc L2.zri L2.zpO L2.zrM L2.zsC L2.zrK L2.zsJ L2.zsE L2.zsq L2.zsh L2.zrN L2.zlF L2.zmg L2.zsF L2.zyS L2.zkj L2.zjX L2.zqD L2.zzy L2.zzC L2.zrt L2.zqY L2.zwu L2.zvV L2.zwQ L2.zuy L2.zsz L2.ztX L2.ztH L2.zvu L2.zvd L2.zuE L2.zsa L2.zsx L2.zsn List.map_cons List.map_nil List.length_cons List.length_nil List.cons_append List.nil_append List.append_nil List.replicate List.getElem?_cons_zero List.getElem?_cons_succ List.getElem?_nil List.set_cons_zero List.set_cons_succ Nat.reduceAdd Nat.reduceSub true_and and_true if_true if_false Bool.false_eq_true reduceIte Bool.not_true Bool.not_false Option.join_some Option.join_none decide_eq_true_eq and_self".splitOn " ").filter (· != d)).toArray.map fun s=>Lean.mkIdent s.toName
  `(tactic| simp only [$[$a:term],*])
local macro_rules | `(tactic| walk_at "wp") => L2.wZ ""
section
namespace L2
open PySem PySem.Spec PyProof.Rows
noncomputable def zcs:Nat→WSp
 |0=>zba
 |r+1=>zcI 1 1 (zas (zcL (zlr (ztz "int" (zad 0))) (zbg (zcf waNil)) zaO)
  (zbg (wSl (zad 0) (woS (wC (.int 1))) woN)))
noncomputable def zcP (r:Nat) (self:WSp):WS:=(zdn (wM rvL zhK (zad 1) (zab (zam (zcs r) (zab (zad 2) waNil)) waNil)))
noncomputable def zbQ:Nat→WSp
 |0=>zba
 |r+1=>zcI 3 1 (zas (wAsg (zdh (zdW waNil)) (wGN 1))
  (zas (zib (wIv (zad 0)) (wGN 2) (zcP r zba))
  (zbg (zad 1))))
noncomputable def zgF (r:Nat) (self:WSp):WS:=(zas (zwS 1 (fun a b=>a+b) (wB zgh (zab (zad 3) waNil)))
  (zas (zwS 2 (fun a b=>a+b) (wC (.int 1)))
  (zas (zcL (wOr (wTb (wOp oGt (zad 1) (wC (.int 400)))) (wTb (wOp oGt (zad 2) (wC (.int 40))))) (zbg (wC (.bl false))) zaO)
  (wAsg (zam (zbQ r) (zab (zad 3) waNil)) (wGN 3)))))
noncomputable def zdR:Nat→WSp
 |0=>zba
 |r+1=>zcI 4 1 (zas (wAsg (wC (.int 0)) (wGN 1))
  (zas (wAsg (wC (.int 0)) (wGN 2))
  (zas (wAsg (zdh (zdW (zab (zad 0) waNil))) (wGN 3))
  (zas (zpp (zlr (zad 3)) (zgF r zba))
  (zbg (wC (.bl true)))))))
noncomputable def zcu (r:Nat) (self:WSp):WS:=(zdn (zam self (zab (zad 4) (zab (wOp zem (zad 1) (zcf (zab (zad 3) waNil))) (zab (zad 2) waNil)))))
noncomputable def zaL:Nat→WSp
 |0=>zba
 |r+1=>zcI 5 3 (zas (zdn (wM rvL zce (zad 2) (zab (zad 1) waNil)))
  (zib (zpi (zam (zcs r) (zab (zad 0) waNil))) (wGT (zaG (wGN 3) (zaG (wGN 4) zdO))) (zcu r (zaL r))))
noncomputable def zfr:Nat→WSp
 |0=>zba
 |r+1=>zcI 2 1 (zas (wAsg (zdh (zdW waNil)) (wGN 1))
  (zas (zdn (zam (zaL r) (zab (zad 0) (zab (zcf waNil) (zab (zad 1) waNil)))))
  (zbg (zad 1))))
noncomputable def zbA:Nat→WSp
 |0=>zba
 |r+1=>zcI 3 2 (zas (wAsg (zam (zcs r) (zab (zad 0) waNil)) (wGN 2))
  (zas (zcL (wOr (wTb (wOp oLt (zad 1) (wC (.int 0)))) (wTb (wOp oGe (zad 1) (wB zgh (zab (zad 2) waNil))))) zkG zaO)
  (zbg (wOp oIx (zad 2) (zad 1)))))
noncomputable def zje (r:Nat) (self:WSp):WS:=(wAsg (zam (zbA r) (zab (zad 2) (zab (zad 3) waNil))) (wGN 2))
noncomputable def zle:Nat→WSp
 |0=>zba
 |r+1=>zcI 4 2 (zas (wAsg (zad 0) (wGN 2))
  (zas (zib (wIv (zad 1)) (wGN 3) (zje r zba))
  (zbg (zad 2))))
noncomputable def zgH (r:Nat) (self:WSp):WE:=(zad 0)
noncomputable def zbM:Nat→WSp
 |0=>zba
 |r+1=>zcI 1 1 (zbg (zdh (zds 1 [0] (wIv (zam (zfr r) (zab (zad 0) waNil))) (wGN 0) (zlr (ztz "int" (zam (zle r) (zab (zad 1) (zab (zad 0) waNil))))) (zgH r zba))))
noncomputable def zio (r:Nat) (self:WSp):WE:=(zam self (zab (zad 0) (zab (zad 1) waNil)))
noncomputable def zcZ:Nat→WSp
 |0=>zba
 |r+1=>zcI 2 2 (zas (zcL (zlr (ztz "int" (zad 0))) (zbg (wOp oIx (zad 1) (zad 0))) zaO)
  (zbg (wOp zem (zcf (zab (wOp oIx (zad 0) (wC (.int 0))) waNil)) (wBL zhL (zds 1 [1] (wIv (wSl (zad 0) (woS (wC (.int 1))) woN)) (wGN 0) zic (zio r (zcZ r)))))))
noncomputable def zbL:Nat→WSp
 |0=>zba
 |r+1=>zcI 2 2 (zbg (ziT (wOp (oEq false) (wOp oIx (zad 0) (wC (.int 0))) (wOp oIx (zad 1) (wC (.int 0)))) (wOp (oEq false) (wB zgh (zab (zad 0) waNil)) (wB zgh (zab (zad 1) waNil)))))
noncomputable def zcm (r:Nat) (self:WSp):WS:=(zcL (zvE (zlr (zam self (zab (zad 3) (zab (zad 4) (zab (zad 2) waNil)))))) (zbg (wC (.bl false))) zaO)
noncomputable def zaB:Nat→WSp
 |0=>zba
 |r+1=>zcI 5 3 (zas (zcL (zlr (ztz "int" (zad 0))) (zas (zdn (wM rvL zce (zad 2) (zab (zad 1) waNil)))
  (zbg (wC (.bl true)))) zaO)
  (zas (zcL (zvE (zlr (zam (zbL r) (zab (zad 0) (zab (zad 1) waNil))))) (zbg (wC (.bl false))) zaO)
  (zas (zib (zuU (wSl (zad 0) (woS (wC (.int 1))) woN) (wSl (zad 1) (woS (wC (.int 1))) woN)) (wGT (zaG (wGN 3) (zaG (wGN 4) zdO))) (zcm r (zaB r)))
  (zbg (wC (.bl true))))))
noncomputable def zbS:Nat→WSp
 |0=>zba
 |r+1=>zcI 3 2 (zas (wAsg (zdh (zdW waNil)) (wGN 2))
  (zas (zcL (zlr (zam (zaB r) (zab (zad 0) (zab (zad 1) (zab (zad 2) waNil))))) (zbg (zad 2)) zaO)
  (zbg (wC .non))))
noncomputable def zcM (r:Nat) (self:WSp):WE:=(zjI oLe oLe (wC (.str "a")) (zad 0) (wC (.str "z")))
noncomputable def zaV:Nat→WSp
 |0=>zba
 |r+1=>zcI 1 1 (zbg (wBL zlV (zds 1 [] (wIv (zad 0)) (wGN 0) zic (zcM r zba))))
noncomputable def zet:Nat→WSp
 |0=>zba
 |r+1=>zcI 1 1 (zbg (ziT (zjI oLe oLe (wC (.int 1)) (wB zgh (zab (zad 0) waNil)) (wC (.int 8))) (zam (zaV r) (zab (zad 0) waNil))))
noncomputable def zeR (r:Nat) (self:WSp):WS:=(zcL (wTb (wOp (oEq false) (wOp oIx (zad 2) (wC (.int 0))) (zad 1))) (zbg (zad 2)) zaO)
noncomputable def zaT:Nat→WSp
 |0=>zba
 |r+1=>zcI 3 2 (zas (zib (wIv (zad 0)) (wGN 2) (zeR r zba))
  (zbg (wC .non)))
noncomputable def zgw (r:Nat) (self:WSp):WE:=(zam self (zab (zad 0) waNil))
noncomputable def zcz:Nat→WSp
 |0=>zba
 |r+1=>zcI 1 1 (zbg (ziT (zam (zet r) (zab (wOp oIx (zad 0) (wC (.int 0))) waNil)) (wBL zlV (zds 1 [] (wIv (wSl (zad 0) (woS (wC (.int 1))) woN)) (wGN 0) zic (zgw r (zcz r))))))
noncomputable def zbC:Nat→WSp
 |0=>zba
 |r+1=>zcI 1 1 (zas (zcL (zvE (zlr (zam (zdR r) (zab (zad 0) waNil)))) zkG zaO)
  (zbg (zad 0)))
noncomputable def zeU (r:Nat) (self:WSp):WE:=(zam self (zab (zad 1) (zab (zad 0) (zab (zad 2) waNil))))
noncomputable def zcb:Nat→WSp
 |0=>zba
 |r+1=>zcI 5 3 (zas (wAsg (zdh (zds 1 [0,2] (wIv (wSl (zad 1) (woS (wC (.int 1))) woN)) (wGN 0) zic (zeU r (zcb r)))) (wGN 3))
  (zas (wAsg (zam (zaT r) (zab (zad 0) (zab (wOp oIx (zad 1) (wC (.int 0))) waNil))) (wGN 4))
  (zas (zcL (wTb (wOp (oIs false) (zad 4) (wC .non))) (zbg (wOp zem (zcf (zab (wOp oIx (zad 1) (wC (.int 0))) waNil)) (wB zdM (zab (zad 3) waNil)))) zaO)
  (zbg (zam (zcZ r) (zab (wOp oIx (zad 4) (zad 2)) (zab (zad 3) waNil)))))))
noncomputable def zhC:Nat→WSp
 |0=>zba
 |r+1=>zcI 2 2 (zbg (zam (zbC r) (zab (zam (zcb r) (zab (zad 0) (zab (zad 1) (zab (wC (.int 2)) waNil)))) waNil)))
noncomputable def zeD (r:Nat) (self:WSp):WE:=(zcf (zab (zad 0) waNil))
noncomputable def zbH:Nat→WSp
 |0=>zba
 |r+1=>zcI 3 2 (zas (wAsg (zam (zaT r) (zab (zad 0) (zab (wOp oIx (zad 1) (wC (.int 0))) waNil))) (wGN 2))
  (zas (zcL (wTb (wOp (oIs false) (zad 2) (wC .non))) (zbg (zdh (zds 1 [] (zuL (zab (wOp (zfA fun i j=> .int (i - j)) (wB zgh (zab (zad 1) waNil)) (wC (.int 1))) waNil)) (wGN 0) zic (zeD r zba)))) zaO)
  (zbg (zam (zbM r) (zab (wOp oIx (zad 2) (wC (.int 1))) waNil)))))
noncomputable def zel (r:Nat) (self:WSp):WS:=(zcL (wTb (wOp (oIs true) (zam (zbS r) (zab (wOp oIx (zad 2) (wC (.int 1))) (zab (zad 1) waNil))) (wC .non))) (zbg (zad 2)) zaO)
noncomputable def zbv:Nat→WSp
 |0=>zba
 |r+1=>zcI 3 2 (zas (zib (wIv (zad 0)) (wGN 2) (zel r zba))
  (zbg (wC .non)))
noncomputable def zdt (r:Nat) (self:WSp):WS:=(zdn (zam self (zab (zad 0) (zab (zad 6) (zab (wOp zem (zad 2) (zcf (zab (zad 5) waNil))) (zab (zad 3) waNil))))))
noncomputable def zbm:Nat→WSp
 |0=>zba
 |r+1=>zcI 7 4 (zas (wAsg (zam (zbv r) (zab (zad 0) (zab (zad 1) waNil))) (wGN 4))
  (zas (zcL (wTb (wOp (oIs true) (zad 4) (wC .non))) (zdn (wM rvL zce (zad 3) (zab (zcf (zab (zad 2) (zab (wOp oIx (zad 4) (wC (.int 0))) waNil))) waNil))) zaO)
  (zib (zpi (wSl (zad 1) (woS (wC (.int 1))) woN)) (wGT (zaG (wGN 5) (zaG (wGN 6) zdO))) (zdt r (zbm r)))))
noncomputable def zcA:Nat→WSp
 |0=>zba
 |r+1=>zcI 3 2 (zas (wAsg (zdh (zdW waNil)) (wGN 2))
  (zas (zdn (zam (zbm r) (zab (zad 0) (zab (zad 1) (zab (zcf waNil) (zab (zad 2) waNil))))))
  (zbg (zad 2))))
noncomputable def zgb (r:Nat) (self:WSp):WE:=(wOp oIx (zad 0) (wC (.int 0)))
noncomputable def zdj:Nat→WSp
 |0=>zba
 |r+1=>zcI 1 1 (zbg (zdh (zds 1 [] (wIv (zad 0)) (wGN 0) zic (zgb r zba))))
noncomputable def zcJ:Nat→WSp
 |0=>zba
 |r+1=>zcI 3 2 (zas (wAsg (zam (zbv r) (zab (zad 0) (zab (zad 1) waNil))) (wGN 2))
  (zbg (wOp zem (zcf (zab (wOp oIx (zad 2) (wC (.int 0))) waNil)) (wB zdM (zab (zam (zbS r) (zab (wOp oIx (zad 2) (wC (.int 1))) (zab (zad 1) waNil))) waNil)))))
noncomputable def zcC (r:Nat) (self:WSp):WS:=(zdn (wM rvL zce (zad 5) (zab (zam self (zab (zad 0) (zab (zad 7) (zab (wOp zem (zad 2) (zad 6)) (zab (zad 3) waNil))))) waNil)))
noncomputable def zaR:Nat→WSp
 |0=>zba
 |r+1=>zcI 8 4 (zas (wAsg (wIf (wTb (wOp (zwV false) (zad 2) (zad 3))) (zam (zcJ r) (zab (zad 0) (zab (zad 1) waNil))) (zad 1)) (wGN 4))
  (zas (wAsg (zdh (zdW waNil)) (wGN 5))
  (zas (zib (zuU (zam (zbH r) (zab (zad 0) (zab (zad 4) waNil))) (wSl (zad 4) (woS (wC (.int 1))) woN)) (wGT (zaG (wGN 6) (zaG (wGN 7) zdO))) (zcC r (zaR r)))
  (zbg (wOp zem (zcf (zab (wOp oIx (zad 4) (wC (.int 0))) waNil)) (wB zdM (zab (zad 5) waNil)))))))
noncomputable def zgy (r:Nat) (self:WSp):WE:=(zcf (zab (zad 0) (zab (wC (.bl true)) waNil)))
noncomputable def zdL:Nat→WSp
 |0=>zba
 |r+1=>zcI 3 3 (zbg (zam (zaR r) (zab (zad 0) (zab (zad 1) (zab (zcf waNil) (zab (wBL zkJ (zds 1 [] (wIv (zad 2)) (wGN 0) zic (zgy r zba))) waNil))))))
noncomputable def ziD (r:Nat) (self:WSp):WS:=(zcL (wTb (wOp (oIn true) (zad 4) (zad 3))) zkG zaO)
noncomputable def zfN:Nat→WSp
 |0=>zba
 |r+1=>zcI 5 3 (zas (wAsg (zam (zdj r) (zab (zam (zcA r) (zab (zad 0) (zab (zad 1) waNil))) waNil)) (wGN 3))
  (zas (zib (wIv (zad 2)) (wGN 4) (ziD r zba))
  (zbg (zam (zdL r) (zab (zad 0) (zab (zad 1) (zab (zad 2) waNil)))))))
noncomputable def zhP (r:Nat) (self:WSp):WE:=(zam self (zab (zad 2) (zab (zad 0) (zab (zad 1) waNil))))
noncomputable def zcR:Nat→WSp
 |0=>zba
 |r+1=>zcI 8 3 (zas (wAsg (zam (zaT r) (zab (zad 0) (zab (wOp oIx (zad 1) (wC (.int 0))) waNil))) (wGN 3))
  (zas (wAsg (zam (zaT r) (zab (zad 0) (zab (wOp oIx (zad 2) (wC (.int 0))) waNil))) (wGN 4))
  (zas (wAsg (wSl (zad 1) (woS (wC (.int 1))) woN) (wGN 5))
  (zas (wAsg (wSl (zad 2) (woS (wC (.int 1))) woN) (wGN 6))
  (zas (zcL (zqO (wTb (wOp (oIs false) (zad 3) (wC .non))) (wTb (wOp (oIs true) (zad 4) (wC .non)))) (wAsg (zam (zbS r) (zab (wOp oIx (zad 4) (wC (.int 1))) (zab (zad 1) waNil))) (wGN 5)) zaO)
  (zas (zcL (zqO (wTb (wOp (oIs true) (zad 3) (wC .non))) (wTb (wOp (oIs false) (zad 4) (wC .non)))) (wAsg (zam (zbS r) (zab (wOp oIx (zad 3) (wC (.int 1))) (zab (zad 2) waNil))) (wGN 6)) zaO)
  (zas (wAsg (zdh (zds 2 [0] (zuU (zad 5) (zad 6)) (wGT (zaG (wGN 0) (zaG (wGN 1) zdO))) zic (zhP r (zcR r)))) (wGN 7))
  (zas (zcL (wTb (wOp (oIs false) (zad 4) (wC .non))) (zbg (wOp zem (zcf (zab (wOp oIx (zad 1) (wC (.int 0))) waNil)) (wB zdM (zab (zad 7) waNil)))) zaO)
  (zbg (zam (zcZ r) (zab (wOp oIx (zad 4) (wC (.int 2))) (zab (zad 7) waNil))))))))))))
noncomputable def zdu (r:Nat) (self:WSp):WS:=(zdn (zam (zhC r) (zab (zad 0) (zab (zad 2) waNil))))
noncomputable def zbp:Nat→WSp
 |0=>zba
 |r+1=>zcI 3 2 (zib (wIv (zad 1)) (wGN 2) (zdu r zba))
noncomputable def zcn (r:Nat):WS:=(zbg (zad 3))
noncomputable def zbu (r:Nat):WS:=(zdn (wM rvL zce (zad 3) (zab (zad 5) waNil)))
noncomputable def zbs (r:Nat) (T:WS):WS:=(zas (zdn (zam (zbp r) (zab (zad 0) (zab (zdh (zdW (zab (zad 5) waNil))) waNil)))) T)
noncomputable def zbr (r:Nat) (T:WS):WS:=(zas (wAsg (zam (zcR r) (zab (zad 0) (zab (wOp oIx (zad 3) (zlN (wC (.int 1)))) (zab (zad 4) waNil)))) (wGN 5)) T)
noncomputable def zcg (r:Nat) (self:WSp):WS:=(zbr r (zbs r (zbu r)))
noncomputable def zcd (r:Nat) (T:WS):WS:=(zas (zib (wIv (zad 2)) (wGN 4) (zcg r zba)) T)
noncomputable def zci (r:Nat) (T:WS):WS:=(zas (wAsg (zdh (zdW (zab (zad 1) waNil))) (wGN 3)) T)
noncomputable def zck:Nat→WSp
 |0=>zba
 |r+1=>zcI 6 3 (zci r (zcd r (zcn r)))
noncomputable def zgN (r:Nat):WS:=(zbg (zcf (zab (zad 3) (zab (zad 5) waNil))))
noncomputable def zno (r:Nat) (self:WSp):WE:=(zam (zcR r) (zab (zad 2) (zab (zad 0) (zab (zad 1) waNil))))
noncomputable def zer (r:Nat):WS:=(zdn (wM rvL zce (zad 5) (zab (zad 4) waNil)))
noncomputable def zey (r:Nat) (T:WS):WS:=(zas (zdn (wM rvL zce (zad 3) (zab (zad 7) waNil))) T)
noncomputable def zev (r:Nat) (T:WS):WS:=(zas (wAsg (zdh (zds 2 [0] (zuU (zad 4) (zad 7)) (wGT (zaG (wGN 0) (zaG (wGN 1) zdO))) zic (zno r zba))) (wGN 4)) T)
noncomputable def zeq (r:Nat) (T:WS):WS:=(zas (wAsg (zam (zck r) (zab (zad 0) (zab (zad 6) (zab (zad 4) waNil)))) (wGN 7)) T)
noncomputable def zgK (r:Nat) (self:WSp):WS:=(zeq r (zev r (zey r (zer r))))
noncomputable def zgJ (r:Nat) (T:WS):WS:=(zas (zib (wIv (wOp oIx (zad 1) (wC (.int 1)))) (wGN 6) (zgK r zba)) T)
noncomputable def zga (r:Nat) (T:WS):WS:=(zas (wAsg (zdh (zdW (zab (zad 4) waNil))) (wGN 5)) T)
noncomputable def zfC (r:Nat) (T:WS):WS:=(zas (wAsg (zdh (zlO (wOp oIx (zad 2) (wC (.int 1))))) (wGN 4)) T)
noncomputable def zfT (r:Nat) (T:WS):WS:=(zas (wAsg (zdh (zdW waNil)) (wGN 3)) T)
noncomputable def zfR (r:Nat) (T:WS):WS:=(zas (zdn (zam (zbp r) (zab (zad 0) (zab (wOp oIx (zad 2) (wC (.int 1))) waNil)))) T)
noncomputable def zfB (r:Nat) (T:WS):WS:=(zas (zdn (zam (zbp r) (zab (zad 0) (zab (wOp oIx (zad 1) (wC (.int 1))) waNil)))) T)
noncomputable def zfV (r:Nat) (T:WS):WS:=(zas (zdn (zam (zbC r) (zab (wOp oIx (zad 1) (wC (.int 0))) waNil))) T)
noncomputable def zfZ (r:Nat) (T:WS):WS:=(zas (zcL (wTb (wOp (oEq true) (wOp oIx (zad 1) (wC (.int 0))) (wOp oIx (zad 2) (wC (.int 0))))) zkG zaO) T)
noncomputable def zhx:Nat→WSp
 |0=>zba
 |r+1=>zcI 8 3 (zfZ r (zfV r (zfB r (zfR r (zfT r (zfC r (zga r (zgJ r (zgN r)))))))))
noncomputable def zdk (r:Nat):WS:=(zbg (zcf (zab (wOp oIx (zad 1) (wC (.int 0))) (zab (wOp zem (wOp oIx (zad 1) (wC (.int 1))) (wOp oIx (zad 3) (zlN (wC (.int 1))))) waNil))))
noncomputable def zdv (r:Nat) (T:WS):WS:=(zas (wAsg (wOp oIx (zam (zhx r) (zab (zad 0) (zab (zad 1) (zab (zad 2) waNil)))) (wC (.int 1))) (wGN 3)) T)
noncomputable def zaC:Nat→WSp
 |0=>zba
 |r+1=>zcI 4 3 (zdv r (zdk r))
noncomputable def zfF (r:Nat) (self:WSp):WE:=(zam (zcz r) (zab (zad 0) waNil))
noncomputable def zbV:Nat→WSp
 |0=>zba
 |r+1=>zcI 1 1 (zbg (wBL zlV (zds 1 [] (wIv (zad 0)) (wGN 0) zic (zfF r zba))))
noncomputable def zeQ (r:Nat) (self:WSp):WE:=(wOp oIx (zad 0) (zlN (wC (.int 1))))
noncomputable def zbZ:Nat→WSp
 |0=>zba
 |r+1=>zcI 1 1 (zbg (zdh (zds 1 [] (wIv (wOp oIx (zad 0) (wC (.int 0)))) (wGN 0) zic (zeQ r zba))))
noncomputable def zbn:Nat→WSp
 |0=>zba
 |r+1=>zcI 3 3 (zbg (zam (zbV r) (zab (zam (zbZ r) (zab (zam (zhx r) (zab (zad 0) (zab (zad 1) (zab (zad 2) waNil)))) waNil)) waNil)))
noncomputable def zhq (r:Nat):WS:=(zbg (ziT (zam (zbV r) (zab (zam (zbZ r) (zab (zad 3) waNil)) waNil)) (zam (zbV r) (zab (wOp oIx (wOp oIx (zad 3) (wC (.int 1))) (zlN (wC (.int 1)))) waNil))))
noncomputable def zhZ (r:Nat) (T:WS):WS:=(zas (wAsg (zam (zhx r) (zab (zad 0) (zab (zad 1) (zab (zad 2) waNil)))) (wGN 3)) T)
noncomputable def zen:Nat→WSp
 |0=>zba
 |r+1=>zcI 4 3 (zhZ r (zhq r))
noncomputable def zav:Nat→WSp
 |0=>zba
 |r+1=>zcI 2 2 (zas (zcL (wTb (wOp oLt (zad 1) (wB zgh (zab (zad 0) waNil)))) (zbg (wOp oIx (zad 0) (zad 1))) zaO)
  (zbg (wC (.int 0))))
noncomputable def zeT (r:Nat) (self:WSp):WE:=(wOp oIx (zad 1) (wOp (zdC (fun _ j=>0<j) fun i j=> .int (i % j)) (wOp zem (wOp oIx (zad 2) (zad 0)) (wOp (zdC CMul fun i j=> .int (i*j)) (zad 3) (wB zvH (zab (wOp (oEq false) (zad 0) (zad 4)) waNil)))) (wC (.int 26))))
noncomputable def zeV (r:Nat) (self:WSp):WS:=(zas (wAsg (wML rvS zla (wC (.str "")) (zds 1 [3,5,6,7] (zuL (zab (wB zgh (zab (zad 5) waNil)) waNil)) (wGN 0) zic (zeT r zba))) (wGN 9))
  (zas (zcL (zlr (zad 2)) (wAsg (wOp zem (wM rvS znO (wOp oIx (zad 9) (wC (.int 0))) waNil) (wSl (zad 9) (woS (wC (.int 1))) woN)) (wGN 9)) zaO)
  (zdn (wM rvL zce (zad 8) (zab (zad 9) waNil)))))
noncomputable def zdK (r:Nat) (self:WSp):WS:=(zas (zdn (wM rvL zce (zad 5) (zab (wOp (zdC (fun _ j=>0<j) fun i j=> .int (i % j)) (zad 4) (wC (.int 26))) waNil)))
  (wAsg (wOp (zdC zjD fun i j=> .int (i / j)) (zad 4) (wC (.int 26))) (wGN 4)))
noncomputable def zaS:Nat→WSp
 |0=>zba
 |r+1=>zcI 10 3 (zas (wAsg (wC (.str "abcdefghijklmnopqrstuvwxyz")) (wGN 3))
  (zas (wAsg (wOp (zdC (fun _ j=>0<j) fun i j=> .int (i % j)) (zad 1) (wOp (zdC zzf fun i j=> .int (i ^ j.toNat)) (wC (.int 26)) (wC (.int 8)))) (wGN 4))
  (zas (wAsg (zdh (zdW waNil)) (wGN 5))
  (zas (zib (zuL (zab (wOp zem (wC (.int 1)) (wOp (zdC (fun _ j=>0<j) fun i j=> .int (i % j)) (zad 0) (wC (.int 8)))) waNil)) (wGN 6) (zdK r zba))
  (zas (wAsg (wOp (zdC (fun _ j=>0<j) fun i j=> .int (i % j)) (wOp (zdC zjD fun i j=> .int (i / j)) (zad 0) (wC (.int 8))) (wB zgh (zab (zad 5) waNil))) (wGN 7))
  (zas (wAsg (zdh (zdW waNil)) (wGN 8))
  (zas (zib (zuL (zab (wC (.int 6)) waNil)) (wGN 6) (zeV r zba))
  (zas (zcL (zqO (wTb (wOp (oEq false) (wOp (zdC (fun _ j=>0<j) fun i j=> .int (i % j)) (wOp (zdC zjD fun i j=> .int (i / j)) (zad 0) (wC (.int 64))) (wC (.int 2))) (wC (.int 1)))) (zvE (zlr (zad 2)))) (wAsg (zdh (zoo (zvC (zad 8) woN (woS (wC (.int 3)))) (zdW (zab (wOp oIx (zad 8) (wC (.int 2))) (zab (wOp oIx (zad 8) (wC (.int 2))) (zab (wOp oIx (zad 8) (wC (.int 5))) waNil)))))) (wGN 8)) zaO)
  (zbg (zad 8))))))))))
noncomputable def zdA (r:Nat) (self:WSp):WE:=(zam self (zab (zad 0) waNil))
noncomputable def zaA:Nat→WSp
 |0=>zba
 |r+1=>zcI 1 1 (zas (zcL (zlr (ztz "int" (zad 0))) (zbg (wC (.int 1))) zaO)
  (zbg (wBL zqw (zds 1 [] (wIv (wSl (zad 0) (woS (wC (.int 1))) woN)) (wGN 0) zic (zdA r (zaA r))))))
noncomputable def zes (r:Nat) (self:WSp):WE:=(zam self (zab (zad 0) (zab (zad 1) waNil)))
noncomputable def zbb:Nat→WSp
 |0=>zba
 |r+1=>zcI 2 2 (zas (zcL (zlr (ztz "int" (zad 0))) (zbg (wOp oIx (zad 1) (zad 0))) zaO)
  (zbg (wOp zem (wSl (zad 0) woN (woS (wC (.int 1)))) (wBL zhL (zds 1 [1] (wIv (wSl (zad 0) (woS (wC (.int 1))) woN)) (wGN 0) zic (zes r (zbb r)))))))
noncomputable def zcw:Nat→WSp
 |0=>zba
 |r+1=>zcI 3 3 (zas (zcL (zqO (wTb (wOp oGt (zad 1) (wC (.int 0)))) (wTb (wOp oGt (wOp (zdC (fun _ j=>0<j) fun i j=> .int (i % j)) (zad 0) (wC (.int 4))) (wC (.int 0))))) (zbg (wOp (zdC (fun _ j=>0<j) fun i j=> .int (i % j)) (wOp (zdC zjD fun i j=> .int (i / j)) (zad 0) (wC (.int 4))) (zad 1))) zaO)
  (zbg (zcf (zab (wOp oIx (zad 2) (zts (zdW (zab (wC (.int 2)) (zab (wC (.int 5)) waNil))) (wOp (zdC (fun _ j=>0<j) fun i j=> .int (i % j)) (wOp (zdC zjD fun i j=> .int (i / j)) (zad 0) (wC (.int 4))) (wC (.int 2))))) waNil))))
noncomputable def zcO:Nat→WSp
 |0=>zba
 |r+1=>zcI 6 3 (zas (wAsg (zam (zcw r) (zab (wOp (zdC zjD fun i j=> .int (i / j)) (zad 0) (wC (.int 7))) (zab (zad 1) (zab (zad 2) waNil)))) (wGN 3))
  (zas (wAsg (zam (zcw r) (zab (wOp (zdC zjD fun i j=> .int (i / j)) (zad 0) (wC (.int 700))) (zab (zad 1) (zab (zad 2) waNil)))) (wGN 4))
  (zas (wAsg (wOp (zdC (fun _ j=>0<j) fun i j=> .int (i % j)) (zad 0) (wC (.int 7))) (wGN 5))
  (zas (zcL (wTb (wOp (oEq false) (zad 5) (wC (.int 0)))) (zbg (zad 3)) zaO)
  (zas (zcL (wOr (wTb (wOp (oEq false) (zad 5) (wC (.int 1)))) (wTb (wOp (oEq false) (zad 1) (wC (.int 0))))) (zbg (zcf (zab (wOp oIx (zad 2) (wC (.int 3))) (zab (zad 3) waNil)))) zaO)
  (zas (zcL (wTb (wOp (oEq false) (zad 5) (wC (.int 2)))) (zbg (zcf (zab (wOp oIx (zad 2) (wC (.int 4))) (zab (zad 3) (zab (zad 4) waNil))))) zaO)
  (zas (zcL (wTb (wOp (oEq false) (zad 5) (wC (.int 3)))) (zbg (zcf (zab (wOp oIx (zad 2) (wC (.int 4))) (zab (zad 3) (zab (zad 3) waNil))))) zaO)
  (zas (zcL (wTb (wOp (oEq false) (zad 5) (wC (.int 4)))) (zbg (zcf (zab (wOp oIx (zad 2) (wC (.int 4))) (zab (zcf (zab (wOp oIx (zad 2) (wC (.int 3))) (zab (zad 3) waNil))) (zab (zad 4) waNil))))) zaO)
  (zas (zcL (wTb (wOp (oEq false) (zad 5) (wC (.int 5)))) (zbg (zcf (zab (wOp oIx (zad 2) (wC (.int 0))) (zab (zad 3) waNil)))) zaO)
  (zbg (zcf (zab (wOp oIx (zad 2) (wC (.int 1))) (zab (zad 3) (zab (zad 4) waNil))))))))))))))
noncomputable def zcN:Nat→WSp
 |0=>zba
 |r+1=>zcI 4 4 (zas (zcL (wTb (wOp (oEq false) (zad 0) (wC (.int 0)))) (zbg (zdh (zdW (zab (zcf (zab (zad 1) (zab (wC (.int 0)) waNil))) waNil)))) zaO)
  (zas (zcL (wTb (wOp (oEq false) (zad 0) (wC (.int 1)))) (zbg (zdh (zdW (zab (zcf (zab (zad 1) (zab (wC (.int 0)) (zab (wC (.int 1)) waNil)))) waNil)))) zaO)
  (zas (zcL (wTb (wOp (oEq false) (zad 0) (wC (.int 2)))) (zbg (zdh (zdW (zab (zcf (zab (zad 1) (zab (zcf (zab (zad 2) waNil)) waNil))) (zab (zcf (zab (zad 1) (zab (zcf (zab (zad 3) (zab (wC (.int 0)) waNil))) waNil))) waNil))))) zaO)
  (zas (zcL (wTb (wOp (oEq false) (zad 0) (wC (.int 3)))) (zbg (zdh (zdW (zab (zcf (zab (zad 1) (zab (zcf (zab (zad 2) waNil)) (zab (wC (.int 0)) waNil)))) (zab (zcf (zab (zad 1) (zab (zcf (zab (zad 3) (zab (wC (.int 0)) waNil))) (zab (wC (.int 1)) waNil)))) waNil))))) zaO)
  (zas (zcL (wTb (wOp (oEq false) (zad 0) (wC (.int 4)))) (zbg (zdh (zdW (zab (zcf (zab (zad 1) (zab (zcf (zab (zad 3) (zab (zcf (zab (zad 3) (zab (wC (.int 0)) waNil))) waNil))) (zab (wC (.int 1)) (zab (wC (.int 2)) waNil))))) (zab (zcf (zab (zad 1) (zab (zcf (zab (zad 3) (zab (zcf (zab (zad 2) waNil)) waNil))) (zab (wC (.int 0)) (zab (wC (.int 1)) waNil))))) waNil))))) zaO)
  (zbg (zdh (zdW (zab (zcf (zab (zad 1) waNil)) waNil)))))))))
noncomputable def zdY (r:Nat) (self:WSp):WS:=(zas (wAsg (zam (zcO r) (zab (zam (zav r) (zab (zad 0) (zab (wOp zem (wOp zem (wOp zem (zad 1) (wC (.int 2))) (wOp (zdC CMul fun i j=> .int (i*j)) (wC (.int 2)) (zad 5))) (zad 7)) waNil))) (zab (zam (zaA r) (zab (zad 8) waNil)) (zab (zad 2) waNil)))) (wGN 9))
  (zdn (wM rvL zce (zad 4) (zab (zcf (zab (wOp oIx (zad 3) (wB zgh (zab (zad 4) waNil))) (zab (zad 8) (zab (zad 9) waNil)))) waNil))))
noncomputable def zfP (r:Nat) (self:WSp):WS:=(zas (wAsg (zam (zcN r) (zab (wOp (zdC (fun _ j=>0<j) fun i j=> .int (i % j)) (zam (zav r) (zab (zad 0) (zab (wOp zem (zad 1) (zad 5)) waNil))) (wC (.int 6))) (zab (wOp oIx (zad 2) (zad 5)) (zab (wOp oIx (zad 2) (wC (.int 2))) (zab (wOp oIx (zad 2) (wC (.int 3))) waNil))))) (wGN 6))
  (zib (zpi (zad 6)) (wGT (zaG (wGN 7) (zaG (wGN 8) zdO))) (zdY r zba)))
noncomputable def zbW:Nat→WSp
 |0=>zba
 |r+1=>zcI 10 4 (zas (wAsg (zdh (zdW waNil)) (wGN 4))
  (zas (zib (zuL (zab (wC (.int 2)) waNil)) (wGN 5) (zfP r zba))
  (zbg (zad 4))))
noncomputable def zfo (r:Nat) (self:WSp):WS:=(wAsg (zdh (zoo (zvC (zad 4) woN (woS (zlN (wC (.int 2))))) (zdW (zab (zcf (zab (zlN (wC (.int 1))) (zab (wC (.int 0)) (zab (wOp oIx (zad 2) (wC (.int 4))) (zab (wSl (zad 4) (woS (zlN (wC (.int 2)))) woN) waNil))))) waNil)))) (wGN 4))
noncomputable def zfI (r:Nat) (self:WSp):WS:=(zas (wAsg (wOp (zdC (fun _ j=>0<j) fun i j=> .int (i % j)) (zad 6) (wC (.int 8))) (wGN 7))
  (zas (wAsg (zts (zdW (zab (wC (.int 0)) (zab (wC (.int 0)) (zab (wC (.int 1)) (zab (wC (.int 2)) waNil))))) (wB zld (zab (zad 7) (zab (wC (.int 3)) waNil)))) (wGN 8))
  (zas (wAsg (zcf (zab (zlN (wC (.int 1))) (zab (wC (.int 0)) (zab (wOp oIx (zad 2) (zts (zdW (zab (wC (.int 2)) (zab (wC (.int 5)) (zab (wC (.int 3)) (zab (wC (.int 4)) waNil))))) (wB zld (zab (zad 7) (zab (wC (.int 3)) waNil))))) waNil)))) (wGN 9))
  (zas (zcL (wTb (wOp oGt (zad 7) (wC (.int 3)))) (zas (wAsg (wOp (zdC (fun _ j=>0<j) fun i j=> .int (i % j)) (wOp (zdC zjD fun i j=> .int (i / j)) (zad 6) (wC (.int 8))) (wB zgh (zab (zad 1) waNil))) (wGN 10))
  (zas (wAsg (zam (zaA r) (zab (wOp oIx (wOp oIx (zad 1) (zad 10)) (wC (.int 1))) waNil)) (wGN 8))
  (zas (wAsg (zcf (zab (zad 10) (zab (wOp (zdC (fun _ j=>0<j) fun i j=> .int (i % j)) (wOp (zdC zjD fun i j=> .int (i / j)) (zad 6) (wC (.int 64))) (wC (.int 8))) (zab (wC (.str "")) waNil)))) (wGN 9))
  (wAsg (wOp zem (zad 5) (wC (.int 1))) (wGN 5))))) zaO)
  (zcL (zqO (wTb (wOp oGt (zad 3) (wC (.int 0)))) (wTb (wOp oLt (zad 5) (wC (.int 5))))) (zas (wAsg (wOp (zfA fun i j=> .int (i - j)) (zad 3) (wC (.int 1))) (wGN 3))
  (zas (wAsg (zdh (zsB (zsc (zdW (zab (zcf (zab (zlN (wC (.int 1))) (zab (wC (.int 0)) (zab (wOp oIx (zad 2) (wC (.int 2))) (zab (zdh (zdW waNil)) waNil))))) waNil)) (wOp (zfA fun i j=> .int (i - j)) (zad 8) (wB zgh (zab (zad 4) waNil)))) (zad 4))) (wGN 4))
  (zas (wAsg (wOp (zfA fun i j=> .int (i - j)) (wB zgh (zab (zad 4) waNil)) (zad 8)) (wGN 11))
  (wAsg (zdh (zoo (zvC (zad 4) woN (woS (zad 11))) (zdW (zab (wOp zem (zad 9) (zcf (zab (wSl (zad 4) (woS (zad 11)) woN) waNil))) waNil)))) (wGN 4))))) zaO)))))
noncomputable def zbF:Nat→WSp
 |0=>zba
 |r+1=>zcI 12 4 (zas (wAsg (zdh (zdW waNil)) (wGN 4))
  (zas (wAsg (wC (.int 0)) (wGN 5))
  (zas (zib (wIv (zad 0)) (wGN 6) (zfI r zba))
  (zas (zpp (wTb (wOp oGt (wB zgh (zab (zad 4) waNil)) (wC (.int 1)))) (zfo r zba))
  (zbg (zts (zrX (zad 4) (zdW (zab (zcf (zab (zlN (wC (.int 1))) (zab (wC (.int 0)) (zab (wOp oIx (zad 2) (wC (.int 5))) (zab (zdh (zdW waNil)) waNil))))) waNil))) (wC (.int 0))))))))
noncomputable def zgB (r:Nat) (self:WSp):WE:=(zam self (zab (zad 0) (zab (zad 1) (zab (zad 2) waNil))))
noncomputable def zbG:Nat→WSp
 |0=>zba
 |r+1=>zcI 8 3 (zas (wAsg (zad 0) (wGT (zaG (wGN 3) (zaG (wGN 4) (zaG (wGN 5) (zaG (wGN 6) zdO))))))
  (zas (wAsg (zdh (zds 1 [1,2] (wIv (zad 6)) (wGN 0) zic (zgB r (zbG r)))) (wGN 7))
  (zas (zcL (wTb (wOp oLt (zad 3) (wC (.int 0)))) (zbg (wOp zem (zcf (zab (zad 5) waNil)) (wB zdM (zab (zad 7) waNil)))) zaO)
  (zas (zcL (wTb (wOp (oEq false) (wOp (zdC (fun _ j=>0<j) fun i j=> .int (i % j)) (wOp (zdC zjD fun i j=> .int (i / j)) (zad 4) (zad 2)) (wC (.int 2))) (wC (.int 1)))) (zbg (wOp zem (zcf (zab (wOp oIx (wOp oIx (zad 1) (zad 3)) (wC (.int 0))) waNil)) (wB zdM (zab (zad 7) waNil)))) zaO)
  (zbg (zam (zbb r) (zab (wOp oIx (wOp oIx (zad 1) (zad 3)) (wC (.int 1))) (zab (zad 7) waNil))))))))
noncomputable def zfQ (r:Nat) (self:WSp):WS:=(zcL (wTb (wOp (oEq false) (wOp oIx (zad 4) (wC (.int 0))) (wOp oIx (zad 1) (wC (.int 0))))) (zbg (zam (zbb r) (zab (wOp oIx (zad 4) (zad 2)) (zab (zad 3) waNil)))) zaO)
noncomputable def zfJ (r:Nat) (self:WSp):WE:=(zam self (zab (zad 1) (zab (zad 0) (zab (zad 2) waNil))))
noncomputable def zbD:Nat→WSp
 |0=>zba
 |r+1=>zcI 5 3 (zas (wAsg (zdh (zds 1 [0,2] (wIv (wSl (zad 1) (woS (wC (.int 1))) woN)) (wGN 0) zic (zfJ r (zbD r)))) (wGN 3))
  (zas (zib (wIv (zad 0)) (wGN 4) (zfQ r zba))
  (zbg (wOp zem (wSl (zad 1) woN (woS (wC (.int 1)))) (wB zdM (zab (zad 3) waNil))))))
noncomputable def zde (r:Nat):WS:=(zbg (zcf (zab (zad 1) (zab (zad 4) waNil))))
noncomputable def zfy (r:Nat) (self:WSp):WE:=(wOp oIx (zad 0) (wC (.int 0)))
noncomputable def zbT (r:Nat):WS:=(wAsg (wOp zem (zad 6) (wB zgh (zab (zad 9) waNil))) (wGN 6))
noncomputable def zbP (r:Nat) (T:WS):WS:=(zas (wAsg (zam (zbD r) (zab (zad 0) (zab (wOp oIx (zad 4) (zlN (wC (.int 1)))) (zab (wC (.int 2)) waNil)))) (wGN 5)) T)
noncomputable def zbN (r:Nat) (T:WS):WS:=(zas (zdn (wM rvL zce (zad 4) (zab (zam (zfN r) (zab (zad 0) (zab (zad 5) (zab (zad 9) waNil)))) waNil))) T)
noncomputable def zbR (r:Nat) (T:WS):WS:=(zas (wAsg (wSl (zad 9) woN (woS (wOp zem (wC (.int 1)) (wB zvH (zab (ziT (wOp (oEq false) (wOp (zdC (fun _ j=>0<j) fun i j=> .int (i % j)) (wOp (zdC zjD fun i j=> .int (i / j)) (zad 7) (wC (.int 4096))) (wC (.int 2))) (wC (.int 1))) (wOp oLe (wOp zem (zad 6) (wC (.int 2))) (zad 3))) waNil))))) (wGN 9)) T)
noncomputable def zbO (r:Nat) (T:WS):WS:=(zas (wAsg (zdh (zdW (zab (wOp oIx (zad 8) (wOp (zdC (fun _ j=>0<j) fun i j=> .int (i % j)) (zad 7) (wB zgh (zab (zad 8) waNil)))) (zab (wOp oIx (zad 8) (wOp (zdC (fun _ j=>0<j) fun i j=> .int (i % j)) (wOp (zdC zjD fun i j=> .int (i / j)) (zad 7) (wC (.int 64))) (wB zgh (zab (zad 8) waNil)))) waNil)))) (wGN 9)) T)
noncomputable def zcH (r:Nat):WS:=(zcL (zqO (wTb (wOp oGt (wB zgh (zab (zad 8) waNil)) (wC (.int 0)))) (wTb (wOp oLt (zad 6) (zad 3)))) (zbO r (zbR r (zbN r (zbP r (zbT r))))) zaO)
noncomputable def zbK (r:Nat) (T:WS):WS:=(zas (wAsg (zdh (zds 1 [] (wIv (zam (zcA r) (zab (zad 0) (zab (zad 5) waNil)))) (wGN 0) zic (zfy r zba))) (wGN 8)) T)
noncomputable def zcF (r:Nat) (self:WSp):WS:=(zbK r (zcH r))
noncomputable def zdd (r:Nat) (T:WS):WS:=(zas (zib (wIv (zad 2)) (wGN 7) (zcF r zba)) T)
noncomputable def zdb (r:Nat) (T:WS):WS:=(zas (wAsg (wC (.int 0)) (wGN 6)) T)
noncomputable def zda (r:Nat) (T:WS):WS:=(zas (wAsg (zad 1) (wGN 5)) T)
noncomputable def zcY (r:Nat) (T:WS):WS:=(zas (wAsg (zdh (zdW waNil)) (wGN 4)) T)
noncomputable def zaJ:Nat→WSp
 |0=>zba
 |r+1=>zcI 10 4 (zcY r (zda r (zdb r (zdd r (zde r)))))
noncomputable def zdB (r:Nat):WS:=(zbg (zzb (ztW (ziT (zam (zbn r) (zab (zad 3) (zab (zad 7) (zab (zad 6) waNil)))) (zam (zbn r) (zab (zad 3) (zab (zad 6) (zab (zad 5) waNil)))))) (wOp (oIs false) (zam (zbn r) (zab (zad 3) (zab (zad 7) (zab (zad 5) waNil)))) (wC (.bl true)))))
noncomputable def zdz (r:Nat) (T:WS):WS:=(zas (zcL (wTb (wOp (oEq true) (zam (zbn r) (zab (zad 3) (zab (zad 8) (zab (zad 5) waNil)))) (zam (zbn r) (zab (zad 3) (zab (zad 6) (zab (zad 5) waNil)))))) (zbg (wC (.bl false))) zaO) T)
noncomputable def zdE (r:Nat) (T:WS):WS:=(zas (zcL (wTb (wOp (oEq true) (zam (zbn r) (zab (zad 3) (zab (zad 8) (zab (zad 7) waNil)))) (ziT (zam (zbn r) (zab (zad 3) (zab (zad 5) (zab (zad 7) waNil)))) (zam (zbn r) (zab (zad 3) (zab (zad 6) (zab (zad 7) waNil))))))) (zbg (wC (.bl false))) zaO) T)
noncomputable def zdF (r:Nat) (T:WS):WS:=(zas (zcL (wOr (wTb (wOp (oIs true) (zam (zen r) (zab (zad 3) (zab (zad 8) (zab (wOp oIx (zad 9) (wC (.int 3))) waNil)))) (wC (.bl true)))) (wTb (wOp (oIs true) (zam (zen r) (zab (zad 3) (zab (wOp oIx (zad 9) (wC (.int 0))) (zab (wOp oIx (zad 9) (wC (.int 1))) waNil)))) (wC (.bl true))))) (zbg (wC (.bl false))) zaO) T)
noncomputable def zfl (r:Nat) (self:WSp):WS:=(zcL (wTb (wOp (oIs true) (zam (zbn r) (zab (zad 3) (zab (zad 8) (zab (zad 10) waNil)))) (wC (.bl true)))) (zbg (wC (.bl false))) zaO)
noncomputable def zdy (r:Nat) (T:WS):WS:=(zas (zib (wIv (zad 9)) (wGN 10) (zfl r zba)) T)
noncomputable def zdx (r:Nat) (T:WS):WS:=(zas (wAsg (zdh (zrX (zad 9) (zdW (zab (zam (zaC r) (zab (zad 3) (zab (zam (zaC r) (zab (zad 3) (zab (zad 6) (zab (zad 7) waNil)))) (zab (zad 5) waNil)))) (zab (zam (zaC r) (zab (zad 3) (zab (zad 6) (zab (zad 5) waNil)))) waNil))))) (wGN 9)) T)
noncomputable def zei (r:Nat) (T:WS):WS:=(zas (wAsg (zdh (zdW (zab (zam (zaC r) (zab (zad 3) (zab (zad 8) (zab (zad 7) waNil)))) (zab (zam (zaC r) (zab (zad 3) (zab (zam (zaC r) (zab (zad 3) (zab (zad 7) (zab (zad 6) waNil)))) (zab (zad 5) waNil)))) waNil)))) (wGN 9)) T)
noncomputable def zeb (r:Nat) (T:WS):WS:=(zas (wAsg (zam (zaC r) (zab (zad 3) (zab (zad 5) (zab (zad 6) waNil)))) (wGN 8)) T)
noncomputable def zeZ (r:Nat) (T:WS):WS:=(zas (wAsg (zam (zaJ r) (zab (zad 3) (zab (zad 4) (zab (wSl (zad 0) (woS (wC (.int 13))) (woS (wC (.int 14)))) (zab (wC (.int 1)) waNil))))) (wGN 7)) T)
noncomputable def zfk (r:Nat) (T:WS):WS:=(zas (wAsg (zam (zaJ r) (zab (zad 3) (zab (zad 4) (zab (wSl (zad 0) (woS (wC (.int 12))) (woS (wC (.int 13)))) (zab (wC (.int 1)) waNil))))) (wGN 6)) T)
noncomputable def zfa (r:Nat) (T:WS):WS:=(zas (wAsg (zam (zaJ r) (zab (zad 3) (zab (zad 4) (zab (wSl (zad 0) (woS (wC (.int 10))) (woS (wC (.int 12)))) (zab (wC (.int 2)) waNil))))) (wGN 5)) T)
noncomputable def zfc (r:Nat) (T:WS):WS:=(zas (wAsg (zam (zbG r) (zab (zam (zbF r) (zab (wSl (zad 0) (woS (wC (.int 17))) woN) (zab (zad 3) (zab (zad 1) (zab (wC (.int 6)) waNil))))) (zab (zad 3) (zab (wC (.int 8)) waNil)))) (wGN 4)) T)
noncomputable def zfm (r:Nat) (T:WS):WS:=(zas (wAsg (zam (zbW r) (zab (zad 0) (zab (wC (.int 4)) (zab (zad 1) (zab (zad 2) waNil))))) (wGN 3)) T)
noncomputable def zfj (r:Nat) (T:WS):WS:=(zas (wAsg (zam (zaS r) (zab (zam (zav r) (zab (zad 0) (zab (wC (.int 2)) waNil))) (zab (zam (zav r) (zab (zad 0) (zab (wC (.int 3)) waNil))) (zab (wC (.bl true)) waNil)))) (wGN 2)) T)
noncomputable def zeX (r:Nat) (T:WS):WS:=(zas (wAsg (zam (zaS r) (zab (zam (zav r) (zab (zad 0) (zab (wC (.int 0)) waNil))) (zab (zam (zav r) (zab (zad 0) (zab (wC (.int 1)) waNil))) (zab (wC (.bl false)) waNil)))) (wGN 1)) T)
noncomputable def zdS:Nat→WSp
 |0=>zba
 |r+1=>zcI 11 1 (zeX r (zfj r (zfm r (zfc r (zfa r (zfk r (zeZ r (zeb r (zei r (zdx r (zdy r (zdF r (zdE r (zdz r (zdB r)))))))))))))))
theorem zgX{r:Nat}{t:Tr}{S:Sto}{Q:WK}{E:Str→Sto→Prop}(h:Q (.tup (encs t.kids)) S):zcs (r+1) [enc t] S Q E:=by
 rw [zcs];cases t with
 |bl n=>
  simp only[enc];walk_at "wp";exact⟨Nat.zero_le _,S, .refl,h⟩
 |nd s ts=>
  simp only[enc];walk_at "wp";exact⟨S, .refl,h⟩
mutual
noncomputable def Tr.pl (p:List Int):Tr→List (List Int)
 | .bl _=>[p]
 | .nd _ ts=>p::pls p 0 ts
noncomputable def pls (p:List Int) (i:Nat):List Tr→List (List Int)
 | []=>[]
 |t::ts=>t.pl (p++[(i:Int)])++pls p (i+1) ts
end
mutual
theorem ztr:∀(t:Tr) (p:List Int),(t.pl p).length=t.weight
 | .bl _,p=>by simp [Tr.pl,Tr.weight]
 | .nd _ ts,p=>by simp [Tr.pl,Tr.weight,zoV ts p 0];omega
theorem zoV:∀(ts:List Tr) (p:List Int) (i:Nat),(pls p i ts).length=wts ts
 | [],p,i=>by simp [pls,wts]
 |t::ts,p,i=>by simp [pls,wts,ztr t,zoV ts p (i+1)]
end
theorem zmS{p:List Int}{i:Int}{S:Sto}{Q:WK}:zem (zbc p) (.tup [.int i]) S Q=(p.length+1≤sizeLine∧Q (zbc (p++[i])) S):=by
 unfold zbc;rw [zhj];simp
mutual
theorem zjS:∀(t:Tr) {r:Nat}{p:List Int}{a:Addr}{xs:List W}{S:Sto}{Q:WK}{E:Str→Sto→Prop},t.depth≤r→S a=some (.lst xs)→xs.length+t.weight≤1000000→p.length+t.depth≤1000000→
  Q .non (put S a (.lst (xs++(t.pl p).map zbc)))→zaL (r+1) [enc t,zbc p, .ref a] S Q E
 | .bl n,r,p,a,xs,S,Q,E,hr,ha,hx,hp,h=>by
  obtain⟨r,rfl⟩:∃r',r=r'+1:=⟨r - 1,by simp [Tr.depth]at hr;omega⟩
  rw [zaL];walk_at "wp";simp only[zak ha,true_and];simp [Tr.weight]at hx;refine⟨zch (by omega),?_⟩;refine zgX ?_;simp only[Tr.kids,encs,zim,forL];simp only[Tr.pl,List.map_cons,List.map_nil]at h;exact⟨_, .refl,h⟩
 | .nd s ts,r,p,a,xs,S,Q,E,hr,ha,hx,hp,h=>by
  simp only[Tr.depth]at hr hp;simp only[Tr.weight]at hx;obtain⟨r,rfl⟩:∃r',r=r'+1:=⟨r - 1,by omega⟩
  rw [zaL];walk_at "wp";simp only[zak ha,true_and];refine⟨zch (by omega),?_⟩;refine zgX ?_;dsimp only[Tr.kids];refine zik ts (xs:=xs++[zbc p]) (by omega) zah (by simp;omega) (by omega) fun x y=>?_;rw [zbj];refine⟨_, .refl,?_⟩;simpa [Tr.pl,List.append_assoc]using h
theorem zik:∀(ts:List Tr) {r:Nat}{p:List Int}{i:Nat}{a:Addr}{xs:List W}{S:Sto}{E:WX}{D:WEnds}{t0 x y:Option W},dts ts≤r→S a=some (.lst xs)→xs.length+wts ts≤1000000→p.length+1+dts ts≤1000000→
  (∀x y,D.nx [t0,some (zbc p),some (.ref a),x,y] (put S a (.lst (xs++(pls p i ts).map zbc))))→
  forL (wGT (zaG (wGN 3) (zaG (wGN 4) zdO))) (zcu (r+1) (zaL (r+1))) E D (fun _=>True) (zim i (encs ts)) [t0,some (zbc p),some (.ref a),x,y] S
 | [],r,p,i,a,xs,S,E,D,t0,x,y,hr,ha,hx,hp,h=>by
  simp only[encs,zim,forL];have:=h x y;simp only[pls,List.map_nil,List.append_nil,zfx ha]at this;exact this
 |t::ts,r,p,i,a,xs,S,E,D,t0,x,y,hr,ha,hx,hp,h=>by
  simp only[dts]at hr hp;simp only[wts]at hx;simp only[encs,zim,forL,zcu];walk_at "wp";rw [zmS];refine⟨zan (by omega),zan (by omega),zjS t (p:=p++[(i:Int)]) (by omega) ha (by omega) (by simp;omega) ?_⟩;refine⟨_, .refl,zik ts (by omega) zah (by simp [ztr];omega) (by omega) fun x y=>?_⟩;rw [zbj];simpa [pls,List.append_assoc]using h x y
end
theorem zpf{t:Tr}{r:Nat}{S:Sto}{Q:WK}{E:Str→Sto→Prop}(hr:t.depth+1≤r) (hw:t.weight≤100000) (hd:t.depth≤100000) (h:∀a,S a=none→Q (.ref a) (put S a (.lst ((t.pl []).map zbc)))):zfr (r+1) [enc t] S Q E:=by
 obtain⟨r,rfl⟩:∃r',r=r'+1:=⟨r - 1,by omega⟩
 rw [zfr];walk_at "wp";refine⟨Nat.zero_le _,fun a ha=>⟨Nat.zero_le _,zjS t (p:=[]) (xs:=[]) (by omega) zah (by simp;omega) (by simp;omega) ?_⟩⟩;rw [zbj,List.nil_append];exact⟨_, .refl,h a ha⟩
noncomputable def Tr.at:Tr→List Int→Option Tr
 |t,[]=>some t
 | .bl _,_::_=>none
 | .nd _ ts,i::p=>if i<0 then none else match ts[i.toNat]? with
  |some u=>u.at p
  |none=>none
theorem zlR{t u:Tr}{i:Int}{r:Nat}{S:Sto}{Q:WK}{E:Str→Sto→Prop}(hi:0≤i) (hu:t.kids[i.toNat]? =some u) (h:Q (enc u) S):zbA (r+2) [enc t, .int i] S Q E:=by
 rw [zbA];walk_at "wp";refine zgX ?_;have hl:i.toNat<t.kids.length:=(List.getElem?_eq_some_iff.mp hu).1;walk_at "wp";rw [zbo];rw [if_neg (by omega),if_neg (by omega)];have e:atI (encs t.kids) i=some (enc u):=by
  have q:=zcD (xs:=encs t.kids) (n:=i.toNat);rw [Int.toNat_of_nonneg hi]at q;rw [q,zaK,List.getElem?_map,hu];rfl
 rw [e];exact⟨S, .refl,h⟩
theorem zlT{p:List Int}:∀{t u:Tr}{r:Nat}{S:Sto}{E:WX}{D:WEnds}{x y z:Option W},t.at p=some u→(∀z,D.nx [x,y,some (enc u),z] S)→
  forL (wGN 3) (zje (r+2) zba) E D (fun _=>True) (p.map W.int) [x,y,some (enc t),z] S:=by
 induction p with
 |nil=>
  intro t u r S E D x y z e h;unfold Tr.at at e;cases e;exact h z
 |cons i p ih=>
  intro t u r S E D x y z e h;cases t with
  |bl n=>cases e
  |nd s ts=>
   unfold Tr.at at e;split at e
   ·cases e
   ·rename_i hi;split at e
    ·rename_i v ev;simp only[List.map_cons,forL,zje];walk_at "wp";refine zlR (t:= .nd s ts) (u:=v) (by omega) ev ⟨S, .refl,?_⟩;exact ih e h
    ·cases e
theorem ztG{t u:Tr}{p:List Int}{r:Nat}{S:Sto}{Q:WK}{E:Str→Sto→Prop}(e:t.at p=some u) (h:Q (enc u) S):zle (r+3) [enc t,zbc p] S Q E:=by
 rw [zle];walk_at "wp";unfold zbc;dsimp only;exact zlT e fun z=>⟨S, .refl,h⟩
noncomputable def Low (c:Nat):Prop:=97≤c∧c≤122
noncomputable def zdw (x:Str):Prop:=1≤x.cps.toList.length∧x.cps.toList.length≤8∧ ∀c∈x.cps.toList,Low c
noncomputable def zdp (x:Str):Prop:=∃c r,x.cps.toList=c::r∧65≤c∧c≤90∧r.length≤7∧ ∀d∈r,Low d
theorem zuG:(Str.ofString "abcdefghijklmnopqrstuvwxyz").cps.toList=List.range' 97 26:=by decide +kernel
theorem zxa:(Str.ofString "abcdefghijklmnopqrstuvwxyz").length=26:=by decide +kernel
theorem zkz:∀cs:List Nat,(Str.join (Str.ofString "") (cs.map fun c=>(⟨#[c]⟩:Str))).cps.toList=cs
 | []=>rfl
 | [c]=>rfl
 |c::d::r=>by
  have ih:=zkz (d::r);show((⟨#[c]⟩:Str)++Str.ofString "" ++Str.join (Str.ofString "") ((d::r).map fun c=>(⟨#[c]⟩:Str))).cps.toList=_;show(#[c]++(Str.ofString "").cps++(Str.join (Str.ofString "") ((d::r).map fun c=>(⟨#[c]⟩:Str))).cps).toList=_;rw [Array.toList_append,Array.toList_append,ih];rfl
theorem zrV (cs:List Nat):((cs.map fun c=>(⟨#[c]⟩:Str)).map (·.length)).sum=cs.length:=by
 induction cs with
 |nil=>rfl
 |cons c r ih=>
  rw [List.map_cons,List.map_cons,List.sum_cons,ih,List.length_cons];show 1+r.length=r.length+1;omega
theorem zhH:∀cs:List Nat,zgu (cs.map fun c=>W.str ⟨#[c]⟩)=some (cs.map fun c=>(⟨#[c]⟩:Str))
 | []=>rfl
 |c::cs=>by rw [List.map_cons,zgu,zhH cs];rfl
theorem zqI (cs:List Nat) (h:cs.length≤1000):(List.map (fun x=>x.length) (cs.map fun c=>(⟨#[c]⟩:Str))).sum+(cs.map fun c=>(⟨#[c]⟩:Str)).length*(Str.ofString "").length≤16777216:=by
 have e:=zrV cs;have z:(Str.ofString "").length=0:=by decide +kernel
 rw [e,z];omega
theorem znl{lo:Int}{n:Nat}:(zoc lo n).length=n:=by simp [zoc]
theorem zpv{α:Type}{xs:List α}(n:Int) (h:xs≠ []):∃(i:Nat) (x:α),xs[i]? =some x∧atI xs (n % (xs.length:Int))=some x:=by
 have hp:0<xs.length:=List.length_pos_iff.mpr h;have h0:0≤n % (xs.length:Int):=Int.emod_nonneg _ (by omega);have h1:n % (xs.length:Int)<(xs.length:Int):=Int.emod_lt_of_pos _ (by omega);have hlt:(n % (xs.length:Int)).toNat<xs.length:=by omega
 refine⟨(n % (xs.length:Int)).toNat,xs[(n % (xs.length:Int)).toNat],List.getElem?_eq_getElem hlt,?_⟩;have e:=zpa (xs:=xs) (j:=(n % (xs.length:Int)).toNat) (v:=xs[(n % (xs.length:Int)).toNat]) (List.getElem?_eq_getElem hlt);rw [Int.toNat_of_nonneg h0]at e;exact e
theorem zhl (ts us:List Tr):encs (ts++us)=encs ts++encs us:=by rw [zaK,zaK,zaK,List.map_append]
mutual
noncomputable def Tr.plt (p:List Int):Tr→List (List Int×Tr)
 | .bl n=>[(p, .bl n)]
 | .nd s ts=>(p, .nd s ts)::zii p 0 ts
noncomputable def zii (p:List Int) (i:Nat):List Tr→List (List Int×Tr)
 | []=>[]
 |t::ts=>t.plt (p++[(i:Int)])++zii p (i+1) ts
end
mutual
theorem zrm:∀(t:Tr) (p:List Int),(t.plt p).map (·.1)=t.pl p
 | .bl _,p=>by simp [Tr.plt,Tr.pl]
 | .nd _ ts,p=>by simp [Tr.plt,Tr.pl,zmt ts p 0]
theorem zmt:∀(ts:List Tr) (p:List Int) (i:Nat),(zii p i ts).map (·.1)=pls p i ts
 | [],p,i=>by simp [zii,pls]
 |t::ts,p,i=>by simp [zii,pls,zrm t,zmt ts p (i+1)]
end
mutual
theorem zlo:∀(t:Tr) (p:List Int),(t.plt p).length=t.weight
 | .bl _,p=>by simp [Tr.plt,Tr.weight]
 | .nd _ ts,p=>by simp [Tr.plt,Tr.weight,zmw ts p 0];omega
theorem zmw:∀(ts:List Tr) (p:List Int) (i:Nat),(zii p i ts).length=wts ts
 | [],p,i=>by simp [zii,wts]
 |t::ts,p,i=>by simp [zii,wts,zlo t,zmw ts p (i+1)]
end
theorem zqB{s:Str}{ts:List Tr}{i:Nat}{q:List Int}{u:Tr}(h:ts[i]? =some u):(Tr.nd s ts).at ((i:Int)::q)=u.at q:=by
 rw [Tr.at,if_neg (by omega)];simp [h]
mutual
theorem znC:∀(t:Tr) (p q:List Int) (u:Tr),(q,u)∈t.plt p→ ∃r,q=p++r∧t.at r=some u∧r.length<t.depth
 | .bl n,p,q,u,h=>by
  simp only[Tr.plt,List.mem_singleton,Prod.mk.injEq]at h;obtain⟨rfl,rfl⟩:=h;exact⟨[],by simp,by simp [Tr.at],by simp [Tr.depth]⟩
 | .nd s ts,p,q,u,h=>by
  simp only[Tr.plt,List.mem_cons,Prod.mk.injEq]at h;rcases h with⟨rfl,rfl⟩ |h
  ·exact⟨[],by simp,by simp [Tr.at],by simp [Tr.depth];omega⟩
  ·obtain⟨j,v,r,h1,h2,h3,h4⟩:=zqm ts p 0 q u h;refine⟨(j:Int)::r,by rw [h2];simp,by rw [zqB h1];exact h3,by simp [Tr.depth];omega⟩
theorem zqm:∀(ts:List Tr) (p:List Int) (i:Nat) (q:List Int) (u:Tr),(q,u)∈zii p i ts→ ∃(j:Nat) (v:Tr) (r:List Int),ts[j]? =some v∧q=p++[((i+j:Nat):Int)]++r∧v.at r=some u∧r.length<dts ts
 | [],p,i,q,u,h=>by simp [zii]at h
 |t::ts,p,i,q,u,h=>by
  simp only[zii,List.mem_append]at h;rcases h with h |h
  ·obtain⟨r,h1,h2,h3⟩:=znC t _ q u h;exact⟨0,t,r,rfl,by simpa using h1,h2,by simp [dts];omega⟩
  ·obtain⟨j,v,r,h1,h2,h3,h4⟩:=zqm ts p (i+1) q u h;refine⟨j+1,v,r,by simpa using h1,?_,h3,by simp [dts];omega⟩
   rw [h2,show i+1+j=i+(j+1) by omega]
end
theorem keep{S:Sto}{a p:Addr}{o x:Ob}(f:S a=some o) (h:S p=none):put S p x a=some o:=by rw [zaI (zve f h)];exact f
theorem zcS{u:Tr}:∀{ts:List Tr},u∈ts→u.depth≤dts ts
 |t::ts,h=>by
  rcases List.mem_cons.mp h with rfl |h
  ·simp [dts];omega
  ·have:=zcS h;simp [dts];omega
theorem zaH{α:Type}{g:WG}{e:WE}{E:WX}{G:Sto→Prop}{Q:List W→Sto→Prop}{S:Sto}(I:WSt→Prop) (k f:α→W) (hG:G S):∀(xs:List α) (acc:List W) (σ:WSt),I σ→acc.length+xs.length≤1000000→
  (∀x∈xs,∀σ (R:WSt→W→Sto→Prop),I σ→(∀σ1 S3,I σ1→Sub S S3→R σ1 (f x) S3)→g (k x) σ S fun σ1 S1=>e E σ1 S1 fun y S3=>R σ1 y S3)→
  Q (acc++xs.map f) S→zgo g zic e E G Q (xs.map k) acc σ S
 | [],acc,σ,hI,hl,step,hQ=>by simpa [zgo]using hQ
 |x::xs,acc,σ,hI,hl,step,hQ=>by
  simp only[List.map_cons,zgo,zic,if_true];simp only[List.length_cons]at hl;refine step x List.mem_cons_self σ _ hI fun σ1 S3 hI1 sb=>⟨zch (by omega),S,sb,hG,zaH I k f hG xs (acc++[f x]) σ1 hI1 (by simp;omega) (fun y hy=>step y (List.mem_cons_of_mem _ hy)) ?_⟩;simpa using hQ
theorem zhc{α:Type}{g:WG}{c:WT}{e:WE}{E:WX}{G:Sto→Prop}{Q:List W→Sto→Prop}{S:Sto}(I:WSt→Prop) (k f:α→W) (P:α→Bool) (hG:G S):∀(xs:List α) (acc:List W) (σ:WSt),I σ→acc.length+xs.length≤1000000→
  (∀x∈xs,∀σ (R1:WSt→W→Sto→Prop) (R0:WSt→Sto→Prop),I σ→(P x=true→ ∀σ1 S3,I σ1→Sub S S3→R1 σ1 (f x) S3)→(P x=false→ ∀σ1 S3,I σ1→Sub S S3→R0 σ1 S3)→
   g (k x) σ S fun σ1 S1=>c E σ1 S1 fun b S2=>if b=true then e E σ1 S2 fun y S3=>R1 σ1 y S3 else R0 σ1 S2)→
  Q (acc++(xs.filter P).map f) S→zgo g c e E G Q (xs.map k) acc σ S
 | [],acc,σ,hI,hl,step,hQ=>by simpa [zgo]using hQ
 |x::xs,acc,σ,hI,hl,step,hQ=>by
  simp only[List.map_cons,zgo];simp only[List.length_cons]at hl;refine step x List.mem_cons_self σ _ _ hI (fun hp σ1 S3 hI1 sb=>⟨zch (by omega),S,sb,hG,zhc I k f P hG xs (acc++[f x]) σ1 hI1 (by simp;omega) (fun y hy=>step y (List.mem_cons_of_mem _ hy)) ?_⟩)
   fun hp σ1 S3 hI1 sb=>⟨S,sb,hG,zhc I k f P hG xs acc σ1 hI1 (by omega) (fun y hy=>step y (List.mem_cons_of_mem _ hy)) ?_⟩
  ·rw [List.filter_cons_of_pos hp]at hQ;simpa using hQ
  ·rw [List.filter_cons_of_neg (by rw [hp];simp)]at hQ;exact hQ
noncomputable def Tr.isBl:Tr→Bool
 | .bl _=>true
 | .nd _ _=>false
noncomputable def Tr.num:Tr→Int
 | .bl n=>n
 | .nd _ _=>0
noncomputable def Tr.bls (t:Tr):List (List Int×Tr):=(t.plt []).filter fun x=>x.2.isBl
theorem zpj{t:Tr}{x:List Int×Tr}(h:x∈t.bls):t.at x.1=some x.2∧x.2= .bl x.2.num∧x.1.length<t.depth:=by
 obtain⟨h1,h2⟩:=List.mem_filter.mp h;obtain⟨r,h3,h4,h5⟩:=znC t [] x.1 x.2 h1;simp at h3;subst h3;refine⟨h4,?_,h5⟩;obtain⟨p,u⟩:=x;cases u with
 |bl n=>rfl
 |nd s ts=>simp [Tr.isBl]at h2
theorem ztF (t:Tr):t.bls.length≤t.weight:=by
 unfold Tr.bls;exact Nat.le_trans (List.length_filter_le ..) (by rw [zlo];exact Nat.le_refl _)
theorem zoz{t:Tr}{r:Nat}{S:Sto}{Q:WK}{E:Str→Sto→Prop}(hr:t.depth+4≤r) (hw:t.weight≤90000) (h:∀a,S a=none→Q (.ref a) (put S a (.lst (t.bls.map fun x=>zbc x.1)))):zbM (r+1) [enc t] S Q E:=by
 have hd:=zep t;obtain⟨r,rfl⟩:∃r',r=r'+3:=⟨r - 3,by omega⟩
 rw [zbM];walk_at "wp";refine zpf (by omega) (by omega) (by omega) fun a ha=>?_;walk_at "wp";rw [←zrm,List.map_map];refine zhc (fun σ=>∃x,σ=[x,some (enc t)]) (fun x=>zbc x.1) (fun x=>zbc x.1) (fun x=>x.2.isBl) ?_ (t.plt []) [] _ ⟨none,rfl⟩ (by simp [zlo];omega) (fun x hx σ R1 R0 hI h1 h0=>?_) ?_
 ·exact zah
 ·obtain⟨y,rfl⟩:=hI;obtain⟨q,h3,h4,h5⟩:=znC t [] x.1 x.2 hx;simp at h3;subst h3;walk_at "wp";refine ztG h4 ?_;obtain⟨p,u⟩:=x;cases u with
  |bl n=>
   simp only[enc];walk_at "wp";exact h1 rfl _ _ ⟨_,rfl⟩ .refl
  |nd s ts=>
   simp only[enc];walk_at "wp";exact h0 rfl _ _ ⟨_,rfl⟩ .refl
 ·rw [List.nil_append];intro b hb;obtain⟨hb1,hb2⟩:=zed hb;exact⟨_, .put2 (.put .refl ha),h b hb1⟩
mutual
noncomputable def Tr.fill (us:List Tr):Tr→Tr
 | .bl n=>us.getD n.toNat (.bl n)
 | .nd s ts=> .nd s (fills us ts)
noncomputable def fills (us:List Tr):List Tr→List Tr
 | []=>[]
 |t::ts=>t.fill us::fills us ts
end
mutual
noncomputable def Tr.fits (m:Nat):Tr→Prop
 | .bl n=>0≤n∧n<m
 | .nd _ ts=>fitss m ts
noncomputable def fitss (m:Nat):List Tr→Prop
 | []=>True
 |t::ts=>t.fits m∧fitss m ts
end
theorem zhY (us:List Tr):∀ts:List Tr,fills us ts=ts.map (Tr.fill us)
 | []=>by simp [fills]
 |t::ts=>by simp [fills,zhY us ts]
theorem zhU{m:Nat}{t:Tr}:∀{ts:List Tr},fitss m ts→t∈ts→t.fits m
 |u::ts,h,hm=>by
  simp only[fitss]at h;rcases List.mem_cons.mp hm with rfl |hm
  ·exact h.1
  ·exact zhU h.2 hm
theorem zhk{us:List Tr}{a:Addr}:∀(d:Nat) {t:Tr}{r:Nat}{S:Sto}{Q:WK}{E:Str→Sto→Prop},t.depth≤d→d≤r+1→S a=some (.lst (encs us))→t.fits us.length→t.weight≤90000→Q (enc (t.fill us)) S→zcZ (r+1) [enc t, .ref a] S Q E
 |0,t,r,S,Q,E,hd,hr,ha,hf,hw,h=>by have:=zbq t;omega
 |d+1, .bl n,r,S,Q,E,hd,hr,ha,hf,hw,h=>by
  simp only[Tr.fits]at hf;simp only[Tr.fill]at h;rw [zcZ];simp only[enc];walk_at "wp";have e:atI (encs us) n=some (enc (us.getD n.toNat (.bl n))):=by
   have q:=zcD (xs:=encs us) (n:=n.toNat);rw [Int.toNat_of_nonneg hf.1]at q;rw [q,zaK,List.getElem?_map,List.getD_eq_getElem?_getD,List.getElem?_eq_getElem (by omega)];rfl
  rw [zak ha,e];exact⟨S, .refl,h⟩
 |d+1, .nd s ts,r,S,Q,E,hd,hr,ha,hf,hw,h=>by
  simp only[Tr.fits]at hf;simp only[Tr.fill]at h;simp only[Tr.depth]at hd;simp only[Tr.weight]at hw;have hk:=zcV ts;rw [zcZ];simp only[enc]at h⊢;walk_at "wp";refine⟨zan (by decide),?_⟩;rw [zaK];refine zaH (fun σ=>∃x,σ=[x,some (.ref a)]) enc (fun t=>enc (t.fill us)) trivial ts [] _ ⟨none,rfl⟩ (by simp;omega) (fun x hx σ R hI hR=>?_) ?_
  ·obtain⟨y,rfl⟩:=hI;have hdx:=zcS hx;have hwx:=zdi hx;have:=zbq x;obtain⟨r,rfl⟩:∃r',r=r'+1:=⟨r - 1,by omega⟩
   simp only[zio];walk_at "wp";exact zhk d (t:=x) (r:=r) (by omega) (by omega) ha (zhU hf hx) (by omega) (hR _ _ ⟨_,rfl⟩ .refl)
  ·rw [List.nil_append];refine⟨zan (by simp;omega),S, .refl,?_⟩;have e:encs (fills us ts)=ts.map fun t=>enc (t.fill us):=by rw [zaK,zhY,List.map_map];rfl
   rw [e]at h;exact h
theorem zwC (t:Tr):t.at []=some t:=by cases t<;>rfl
theorem zyA{s:Str}{ts:List Tr}{i:Int}{p:List Int}{u:Tr}(h:(Tr.nd s ts).at (i::p)=some u):∃v,0≤i∧ts[i.toNat]? =some v∧v.at p=some u:=by
 unfold Tr.at at h;split at h
 ·cases h
 ·split at h
  ·exact⟨_,by omega, ‹_›,h⟩
  ·cases h
theorem zsZ:∀(q:List Int) {D t:Tr}(r:List Int),D.at q=some t→D.at (q++r)=t.at r
 | [],D,t,r,h=>by rw [zwC]at h;cases h;rfl
 |i::q, .bl n,t,r,h=>by cases h
 |i::q, .nd s ts,t,r,h=>by
  obtain⟨v,h0,h1,h2⟩:=zyA h;rw [List.cons_append];have e:(i:Int)=((i.toNat:Nat):Int):=(Int.toNat_of_nonneg h0).symm;rw [e,zqB h1];exact zsZ q r h2
mutual
noncomputable def Tr.same:Tr→Tr→Bool
 | .bl n, .bl m=>n == m
 | .nd s ts, .nd z us=>s == z&&zgG ts us
 |_,_=>false
noncomputable def zgG:List Tr→List Tr→Bool
 | [],[]=>true
 |t::ts,u::us=>t.same u&&zgG ts us
 |_,_=>false
end
mutual
theorem zms:∀(t u:Tr),t.same u=true↔t=u
 | .bl n, .bl m=>by simp [Tr.same]
 | .nd s ts, .nd z us=>by simp [Tr.same,zkl ts us]
 | .bl n, .nd z us=>by simp [Tr.same]
 | .nd s ts, .bl m=>by simp [Tr.same]
theorem zkl:∀(ts us:List Tr),zgG ts us=true↔ts=us
 | [],[]=>by simp [zgG]
 |t::ts,u::us=>by simp [zgG,zms t u,zkl ts us]
 | [],u::us=>by simp [zgG]
 |t::ts,[]=>by simp [zgG]
end
theorem zoL (t:Tr):t.same t=true:=(zms t t).mpr rfl
theorem ztq{S:Sto}{n:Nat}{xs ys:List W}:eqF S (n+1) (.tup xs) (.tup ys)=zgc (eqF S n) xs ys:=Eq.trans (b:=zgc (eqF S n) xs ys) rfl rfl
theorem zxJ{S:Sto}{n:Nat}{x y:Str}:eqF S (n+1) (.str x) (.str y)=some (x == y):=Eq.trans (b:=some (x == y)) rfl rfl
theorem zty{S:Sto}{n:Nat}{x y:Int}:eqF S (n+1) (.int x) (.int y)=some (x == y):=Eq.trans (b:=some (x == y)) rfl rfl
theorem zxk{S:Sto}{n:Nat}{x:Int}{ys:List W}:eqF S (n+1) (.int x) (.tup ys)=some false:=Eq.trans (b:=some false) rfl rfl
theorem zwG{S:Sto}{n:Nat}{x:Int}{ys:List W}:eqF S (n+1) (.tup ys) (.int x)=some false:=Eq.trans (b:=some false) rfl rfl
mutual
theorem zwI{S:Sto}:∀(n:Nat) (t u:Tr),t.depth<n→eqF S n (enc t) (enc u)=some (t.same u)
 |0,t,u,h=>by omega
 |n+1, .bl k, .bl m,h=>by simp only[enc,zty,Tr.same]
 |n+1, .nd s ts, .nd z us,h=>by
  simp only[Tr.depth]at h;obtain⟨n,rfl⟩:∃m,n=m+1:=⟨n - 1,by omega⟩
  simp only[enc,ztq,zgc,zxJ,Tr.same];rw [ztm (n+1) ts us (by omega)]
 |n+1, .bl k, .nd z us,h=>by simp only[enc,zxk,Tr.same]
 |n+1, .nd s ts, .bl m,h=>by simp only[enc,zwG,Tr.same]
theorem ztm{S:Sto}:∀(n:Nat) (ts us:List Tr),dts ts<n→zgc (eqF S n) (encs ts) (encs us)=some (zgG ts us)
 |n,[],[],h=>by simp only[encs,zgc,zgG]
 |n,[],u::us,h=>by simp only[encs,zgc,zgG]
 |n,t::ts,[],h=>by simp only[encs,zgc,zgG]
 |n,t::ts,u::us,h=>by
  simp only[dts]at h;simp only[encs,zgc,zgG,zwI n t u (by omega),ztm n ts us (by omega)]
end
theorem zoE (n:Int):n % 2=0∨n % 2=1:=by omega
theorem zli (j:Int) (m:Nat):zoc j (m+1)= .int j::zoc (j+1) m:=by
 unfold zoc;rw [List.range_succ_eq_map,List.map_cons,List.map_map];congr 1
 ·simp
 ·apply List.map_congr_left;intro i _;simp only[Function.comp,W.int.injEq];omega
theorem zjJ{α:Type}{xs:List α}{i:Int}(h0:0≤i) (h1:i<xs.length):∃x,atI xs i=some x∧x∈xs:=by
 have q:=zcD (xs:=xs) (n:=i.toNat);rw [Int.toNat_of_nonneg h0,List.getElem?_eq_getElem (by omega)]at q;exact⟨_,q,List.getElem_mem ..⟩
theorem zva{ss:List Str}{i:Int}(h0:0≤i) (h1:i<ss.length):∃x,atI (ss.map W.str) i=some (.str x)∧x∈ss:=by
 obtain⟨w,h,m⟩:=zjJ (xs:=ss.map W.str) h0 (by simpa using h1);obtain⟨x,hx,rfl⟩:=List.mem_map.mp m;exact⟨x,h,hx⟩
theorem zoM{g:WG}{b:WS}{E:WX}{D:WEnds}(I:Nat→WSt→Sto→Prop) (n:Nat)
  (step:∀i,i<n→ ∀σ S (N:WSt→Sto→Prop),I i σ S→(∀σ' S' S'',Sub S'' S'→I (i+1) σ' S''→N σ' S')→g (.int i) σ S fun σ1 S1=>b E { D with nx:=N,ct:=N,bk:=D.nx } σ1 S1)
  (done:∀σ S,I n σ S→D.nx σ S) {σ:WSt}{S:Sto}(h:I 0 σ S):forL g b E D (fun _=>True) (zoc 0 n) σ S:=by
 refine zlt (fun ws σ S=>∃i,i≤n∧ws=zoc (i:Int) (n - i)∧I i σ S) ?_ ?_ _ _ _ ⟨0,Nat.zero_le _,rfl,h⟩
 ·rintro w ws σ S N ⟨i,hi,e,hI⟩ hN;obtain⟨m,hm⟩:∃m,n - i=m+1:=by
   rcases Nat.eq_zero_or_pos (n - i) with z |z
   ·rw [z]at e;cases e
   ·exact⟨n - i - 1,by omega⟩
  rw [hm,zli]at e;cases e;exact step i (by omega) σ S N hI fun σ' S' S'' sb h'=>hN σ' S' S'' sb trivial ⟨i+1,by omega,by rw [show n - (i+1)=m by omega];push_cast;rfl,h'⟩
 ·rintro σ S ⟨i,hi,e,hI⟩;have:n - i=0:=by
   rcases Nat.eq_zero_or_pos (n - i) with z |z
   ·exact z
   ·obtain⟨m,hm⟩:∃m,n - i=m+1:=⟨n - i - 1,by omega⟩
    rw [hm,zli]at e;cases e
  rw [show i=n by omega]at hI
  exact done σ S hI
mutual
theorem ziu{us:List Tr}{k:Nat}(hk:1≤k) (hu:∀u∈us,u.depth≤k):∀t:Tr,(t.fill us).depth≤t.depth+k
 | .bl n=>by
  simp only[Tr.fill,Tr.depth];rw [List.getD_eq_getElem?_getD];cases e:us[n.toNat]? with
  |none=>simp [Tr.depth]
  |some u=>
   have:=hu u (List.mem_of_getElem? e);simp only[Option.getD_some];omega
 | .nd s ts=>by
  have:=zhR hk hu ts;simp only[Tr.fill,Tr.depth];omega
theorem zhR{us:List Tr}{k:Nat}(hk:1≤k) (hu:∀u∈us,u.depth≤k):∀ts:List Tr,dts (fills us ts)≤dts ts+k
 | []=>by simp [fills,dts]
 |t::ts=>by
  have:=ziu hk hu t;have:=zhR hk hu ts;simp only[fills,dts];omega
end
theorem zkP{k:Nat}:∀{ts:List Tr},(∀t∈ts,t.depth≤k)→dts ts≤k
 | [],_=>by simp [dts]
 |t::ts,h=>by
  have:=h t List.mem_cons_self;have:=zkP (ts:=ts) fun u hu=>h u (List.mem_cons_of_mem _ hu);simp only[dts];omega
theorem zbz{g:WG}{b:WS}{E:WX}{D:WEnds}{G:Sto→Prop}{w:W}{ws:List W}{σ:WSt}{S:Sto}(h:∀N:WSt→Sto→Prop,(∀σ S S',Sub S' S→G S'→forL g b E D G ws σ S'→N σ S)→g w σ S fun σ1 S1=>b E { D with nx:=N,ct:=N,bk:=D.nx } σ1 S1):forL g b E D G (w::ws) σ S:=h _ fun σ S S' a c d=>⟨S',a,c,d⟩
mutual
noncomputable def Tr.mt:Tr→Tr→Option (List Tr)
 | .bl _,t=>some [t]
 | .nd s ls, .nd z us=>if s == z&&ls.length == us.length then mts ls us else none
 | .nd _ _, .bl _=>none
noncomputable def mts:List Tr→List Tr→Option (List Tr)
 | [],_=>some []
 |_::_,[]=>some []
 |l::ls,u::us=>match l.mt u with
  |none=>none
  |some xs=>match mts ls us with
   |none=>none
   |some ys=>some (xs++ys)
end
theorem zwx{s z:Str}{ls us:List Tr}{r:Nat}{S:Sto}{Q:WK}{E:Str→Sto→Prop}(h:Q (.bl (s == z&&ls.length == us.length)) S):zbL (r+1) [enc (.nd s ls),enc (.nd z us)] S Q E:=by
 rw [zbL];simp only[enc];walk_at "wp";cases e:s == z with
 |false=>
  rw [e]at h;exact⟨_, .refl,h⟩
 |true=>
  rw [e]at h;walk_at "wp";refine⟨_, .refl,?_⟩;have:(((encs ls).length+1:Nat):Int)=((encs us).length+1:Nat)↔ls.length=us.length:=by rw [zbo,zbo];omega
  have e2:((((encs ls).length+1:Nat):Int) == ((encs us).length+1:Nat))=(ls.length == us.length):=by
   rw [Bool.eq_iff_iff,beq_iff_eq,beq_iff_eq];exact this
  rw [e2];simpa using h
mutual
theorem zto:∀(l t:Tr) (ys:List Tr),l.mt t=some ys→ys.length≤l.weight
 | .bl _,t,ys,h=>by simp only[Tr.mt,Option.some.injEq]at h;subst h;simp [Tr.weight]
 | .nd s ls, .nd z us,ys,h=>by
  simp only[Tr.mt]at h;split at h
  ·have:=zpo ls us ys h;simp only[Tr.weight];omega
  ·cases h
 | .nd _ _, .bl _,ys,h=>by simp [Tr.mt]at h
theorem zpo:∀(ls us ys:List Tr),mts ls us=some ys→ys.length≤wts ls
 | [],us,ys,h=>by simp only[mts,Option.some.injEq]at h;subst h;simp
 |l::ls,[],ys,h=>by simp only[mts,Option.some.injEq]at h;subst h;simp
 |l::ls,u::us,ys,h=>by
  simp only[mts]at h;split at h
  ·cases h
  ·rename_i xs e1;split at h
   ·cases h
   ·rename_i zs e2;cases h;have:=zto l u xs e1;have:=zpo ls us zs e2;simp only[List.length_append,wts];omega
end
theorem zho{r:Nat}{a:Addr}{E:WX}{D:WEnds}{x0 x1:Option W}:∀(ls us:List Tr)
  (one:∀l∈ls,∀{t:Tr}{S:Sto}{xs:List W}{Q:WK}{E:Str→Sto→Prop},t.fits 0→S a=some (.lst xs)→xs.length+l.weight≤100000→(∀ys,l.mt t=some ys→Q (.bl true) (put S a (.lst (xs++encs ys))))→(l.mt t=none→ ∀ys,Q (.bl false) (put S a (.lst (xs++ys))))→zaB r [enc l,enc t, .ref a] S Q E)
  {S:Sto}{xs:List W}{x3 x4:Option W},fitss 0 us→S a=some (.lst xs)→xs.length+wts ls≤100000→
  (∀ys x3 x4,mts ls us=some ys→D.nx [x0,x1,some (.ref a),x3,x4] (put S a (.lst (xs++encs ys))))→(mts ls us=none→ ∀ys,D.rt (.bl false) (put S a (.lst (xs++ys))))→
  forL (wGT (zaG (wGN 3) (zaG (wGN 4) zdO))) (zcm r (zaB r)) E D (fun _=>True) (pairs (encs ls) (encs us)) [x0,x1,some (.ref a),x3,x4] S
 | [],us,one,S,xs,x3,x4,hf,ha,hl,h1,h0=>by
  have q:=h1 [] x3 x4 (by simp [mts]);simp only[encs,List.append_nil,zfx ha]at q;simpa [encs,pairs,forL]using q
 |l::ls,[],one,S,xs,x3,x4,hf,ha,hl,h1,h0=>by
  have q:=h1 [] x3 x4 (by simp [mts]);simp only[encs,List.append_nil,zfx ha]at q;simpa [encs,pairs,forL]using q
 |l::ls,u::us,one,S,xs,x3,x4,hf,ha,hl,h1,h0=>by
  simp only[fitss]at hf;simp only[wts]at hl;simp only[encs,pairs];refine zbz fun N hN=>?_;simp only[zcm];walk_at "wp";refine one l List.mem_cons_self hf.1 ha (by omega) (fun ys e=>?_) fun e ys=>?_
  ·walk_at "wp";have hyl:=zto l u ys e;refine hN _ _ _ .refl trivial (zho ls us (fun l' hl'=>one l' (List.mem_cons_of_mem _ hl')) hf.2 zah (by rw [List.length_append,zbo];omega) (fun zs x3 x4 e2=>?_) fun e2 zs=>?_)
   ·rw [zbj,List.append_assoc,←zhl];exact h1 _ _ _ (by simp only[mts,e,e2])
   ·rw [zbj,List.append_assoc];exact h0 (by simp only[mts,e,e2]) _
  ·walk_at "wp";exact h0 (by simp only[mts,e]) ys
theorem znj{a:Addr}:∀(d:Nat) {l t:Tr}{r:Nat}{S:Sto}{xs:List W}{Q:WK}{E:Str→Sto→Prop},l.depth≤d→d≤r→t.fits 0→S a=some (.lst xs)→xs.length+l.weight≤100000→
  (∀ys,l.mt t=some ys→Q (.bl true) (put S a (.lst (xs++encs ys))))→(l.mt t=none→ ∀ys,Q (.bl false) (put S a (.lst (xs++ys))))→zaB (r+1) [enc l,enc t, .ref a] S Q E
 |0,l,t,r,S,xs,Q,E,hd,hr,hf,ha,hl,h1,h0=>by have:=zbq l;omega
 |d+1, .bl n,t,r,S,xs,Q,E,hd,hr,hf,ha,hl,h1,h0=>by
  have hw:=zgd (.bl n);rw [zaB];simp only[enc];walk_at "wp";simp only[zak ha,true_and];refine⟨zch (by omega),_, .refl,?_⟩;have:=h1 [t] (by simp [Tr.mt]);simpa only[encs]using this
 |d+1, .nd s ls, .bl n,r,S,xs,Q,E,hd,hr,hf,ha,hl,h1,h0=>by
  simp only[Tr.fits]at hf;omega
 |d+1, .nd s ls, .nd z us,r,S,xs,Q,E,hd,hr,hf,ha,hl,h1,h0=>by
  simp only[Tr.fits]at hf;simp only[Tr.depth]at hd;simp only[Tr.weight]at hl;obtain⟨r,rfl⟩:∃r',r=r'+1:=⟨r - 1,by omega⟩
  have en:∀s ts,enc (.nd s ts)= .tup (.str s::encs ts):=fun s ts=>by simp [enc]
  rw [zaB];walk_at "wp";rw [en,en];walk_at "wp";rw [←en,←en];refine zwx ?_;rw [en,en];walk_at "wp";simp only[Tr.mt]at h1 h0;cases e:(s == z&&ls.length == us.length) with
  |false=>
   rw [e]at h0;have:=h0 (by simp) [];rw [List.append_nil,zfx ha]at this;exact⟨_, .refl,this⟩
  |true=>
   rw [e]at h0 h1;simp only[if_true]at h0 h1;walk_at "wp";refine zho ls us (fun l hl' {t S xs Q E} f1 f2 f3 f4 f5=>znj d (by have:=zcS hl';omega) (by omega) f1 f2 f3 f4 f5) hf ha (by omega) (fun ys x3 x4 e=>?_) fun e ys=>?_
   ·walk_at "wp";exact⟨_, .refl,h1 ys e⟩
   ·exact⟨_, .refl,h0 e ys⟩
theorem zeF{l t:Tr}{r:Nat}{S:Sto}{Q:WK}{E:Str→Sto→Prop}(hr:l.depth<r) (hf:t.fits 0) (hw:l.weight≤90000) (h1:∀ys,l.mt t=some ys→ ∀a,S a=none→Q (.ref a) (put S a (.lst (encs ys)))) (h0:l.mt t=none→Q .non S):zbS (r+1) [enc l,enc t] S Q E:=by
 obtain⟨r,rfl⟩:∃r',r=r'+1:=⟨r - 1,by omega⟩
 rw [zbS];walk_at "wp";refine⟨Nat.zero_le _,fun a ha=>znj l.depth (Nat.le_refl _) (by omega) hf zah (by simpa using(by omega:l.weight≤100000)) (fun ys e=>?_) fun e ys=>?_⟩
 ·walk_at "wp";exact⟨_, .refl,h1 ys e a ha⟩
 ·walk_at "wp";exact⟨_, .put .refl ha,h0 e⟩
mutual
theorem zkA:∀(l t:Tr) (ys:List Tr),l.mt t=some ys→wts ys≤t.weight
 | .bl _,t,ys,h=>by simp only[Tr.mt,Option.some.injEq]at h;subst h;simp [wts]
 | .nd s ls, .nd z us,ys,h=>by
  simp only[Tr.mt]at h;split at h
  ·have:=zgn ls us ys h;simp only[Tr.weight];omega
  ·cases h
 | .nd _ _, .bl _,ys,h=>by simp [Tr.mt]at h
theorem zgn:∀(ls us ys:List Tr),mts ls us=some ys→wts ys≤wts us
 | [],us,ys,h=>by simp only[mts,Option.some.injEq]at h;subst h;simp [wts]
 |l::ls,[],ys,h=>by simp only[mts,Option.some.injEq]at h;subst h;simp [wts]
 |l::ls,u::us,ys,h=>by
  simp only[mts]at h;split at h
  ·cases h
  ·rename_i xs e1;split at h
   ·cases h
   ·rename_i zs e2;cases h;have:=zkA l u xs e1;have:=zgn ls us zs e2;simp only[zeH,wts];omega
end
noncomputable def ziB (c:Nat):Bool:=decide (97≤c)&&decide (c≤122)
noncomputable def small (xs:List Nat):Bool:=xs.all ziB
theorem zuB{s:Str}{a:Nat}(hs:s.cps.toList=[a]) (c:Nat):(!decide ((⟨#[c]⟩:Str).cps.toList<s.cps.toList))=decide (a≤c):=by
 rw [hs];show(!decide (([c]:List Nat)< [a]))=_;by_cases h:a≤c
 ·rw [decide_eq_true h,decide_eq_false (fun z=>by have:=(zmE c a).mp z;omega)];rfl
 ·rw [decide_eq_false h,decide_eq_true ((zmE c a).mpr (by omega))];rfl
theorem zuR{s:Str}{a:Nat}(hs:s.cps.toList=[a]) (c:Nat):(!decide (s.cps.toList<(⟨#[c]⟩:Str).cps.toList))=decide (c≤a):=by
 rw [hs];show(!decide (([a]:List Nat)< [c]))=_;by_cases h:c≤a
 ·rw [decide_eq_true h,decide_eq_false (fun z=>by have:=(zmE a c).mp z;omega)];rfl
 ·rw [decide_eq_false h,decide_eq_true ((zmE a c).mpr (by omega))];rfl
theorem zxi:(Str.ofString "a").cps.toList=[97]:=by decide +kernel
theorem zxo:(Str.ofString "z").cps.toList=[122]:=by decide +kernel
theorem znc (x:Str):(Txt.slice x (some 1) none).cps.toList=x.cps.toList.drop 1:=by
 rw [zpM];unfold zyl;rw [HT.sIx_none];have ez:HT.sIx x.cps.toList.length 0 (some 1)=min 1 x.cps.toList.length:=HT.sIx_nat x.cps.toList.length 0 1;rw [ez];by_cases h:1≤x.cps.toList.length
 ·rw [Nat.min_eq_left h,List.take_of_length_le (by rw [List.length_drop];exact Nat.le_refl _)]
 ·have:x.cps.toList=[]:=List.eq_nil_of_length_eq_zero (by omega);rw [this];rfl
theorem zeW (x:Str):x.length=x.cps.toList.length:=by simp [Str.length]
theorem zjY (bs:List Bool):zhb (bs.map W.bl)=some bs:=by
 induction bs with
 |nil=>rfl
 |cons b bs ih=>rw [List.map_cons,zhb,ih];rfl
theorem zkt{α:Type}(xs:List α) (f:α→Bool):((xs.map f).all _root_.id)=xs.all f:=by rw [List.all_map];rfl
theorem zpc{x:Str}{r:Nat}{S:Sto}{Q:WK}{E:Str→Sto→Prop}(hx:x.length≤1000) (h:Q (.bl (small x.cps.toList)) S):zaV (r+1) [.str x] S Q E:=by
 rw [zeW]at hx;rw [zaV];walk_at "wp";unfold zkc;refine zaH (fun σ=>∃x,σ=[x]) (fun c=> .str ⟨#[c]⟩) (fun c=> .bl (ziB c)) ?_ x.cps.toList [] _ ⟨none,rfl⟩ (by rw [List.length_nil];omega) (fun c hc σ R hI hR=>?_) ?_
 ·exact trivial
 ·obtain⟨y,rfl⟩:=hI;simp only[zcM];walk_at "wp";rw [zuB zxi,zuR zxo];unfold ziB at hR;cases e:decide (97≤c) with
  |false=>rw [e]at hR;exact hR _ _ ⟨_,rfl⟩ .refl
  |true=>rw [e]at hR;exact hR _ _ ⟨_,rfl⟩ .refl
 ·have e:x.cps.toList.map (fun c=>W.bl (ziB c))=(x.cps.toList.map ziB).map W.bl:=by rw [List.map_map];rfl
  rw [List.nil_append,e,zjY];dsimp only;rw [zkt];exact⟨_, .refl,h⟩
theorem zut{t:Tr}{x:List Int×Tr}(h:x∈t.plt []):t.at x.1=some x.2∧x.1.length<t.depth:=by
 obtain⟨q,h3,h4,h5⟩:=znC t [] x.1 x.2 h;simp at h3;subst h3;exact⟨h4,h5⟩
theorem zfO{α:Type}{g:WG}{b:WS}{E:WX}{D:WEnds}{G:Sto→Prop}{S:Sto}(hG:G S) (I:WSt→Prop) (key:α→W) (f:α→Option W):∀(xs:List α) (σ:WSt),I σ→
  (∀x∈xs,∀σ (N:WSt→Sto→Prop),I σ→(f x=none→ ∀σ' S',I σ'→Sub S S'→N σ' S')→(∀w,f x=some w→ ∀S',Sub S S'→D.rt w S')→g (key x) σ S fun σ1 S1=>b E { D with nx:=N,ct:=N,bk:=D.nx } σ1 S1)→
  (xs.findSome? f=none→ ∀σ,I σ→D.nx σ S)→(∀w,xs.findSome? f=some w→ ∀S',Sub S S'→D.rt w S')→forL g b E D G (xs.map key) σ S
 | [],σ,hI,step,done,ret=>by
  have:=done rfl σ hI;simpa [forL]using this
 |x::xs,σ,hI,step,done,ret=>by
  rw [List.map_cons];refine zbz fun N hN=>?_;refine step x List.mem_cons_self σ N hI (fun e σ' S' hI' sb=>?_) fun w e S' sb=>ret w (by rw [List.findSome?_cons,e]) S' sb;refine hN _ _ S sb hG (zfO hG I key f xs σ' hI' (fun y hy=>step y (List.mem_cons_of_mem _ hy)) (fun e2=>done (by rw [List.findSome?_cons,e];exact e2)) fun w e2=>ret w (by rw [List.findSome?_cons,e];exact e2))
noncomputable abbrev Tn:=Str×Tr×Tr
noncomputable def zbd (t:Tn):W:= .tup [.str t.1,enc t.2.1,enc t.2.2]
noncomputable def Tn0:Tn:=("", .bl 0, .bl 0)
noncomputable def lf (ts:List Tn) (j:Nat):Tr:=(ts.getD j Tn0).2.1
theorem zoa (n:Nat):zoc 0 n=(List.range n).map fun(i:Nat)=>W.int i:=by
 unfold zoc;apply List.map_congr_left;intro i _;simp
theorem ziq{r:Nat}{a b:Addr}{ps:List W}{E:WX}{D:WEnds}{x0:Option W}(hba:b≠a):∀(ts:List Tr) {S:Sto}{us:List Tr}{x2:Option W},S a=some (.lst (encs us))→S b=some (.lst ps)→us.length+wts ts≤200000→
  (∀x2,D.nx [x0,some (.ref a),x2] (put S a (.lst (encs (us++ts.flatMap Tr.kids)))))→
  forL (wGN 2) (zcP (r+1) zba) E D (fun S'=>S' b=some (.lst ps)) (encs ts) [x0,some (.ref a),x2] S
 | [],S,us,x2,ha,hb,hl,h=>by
  have:=h x2;simp only[List.flatMap_nil,List.append_nil,zfx ha]at this;simpa [encs,forL]using this
 |t::ts,S,us,x2,ha,hb,hl,h=>by
  simp only[wts]at hl;have hk:=zcV t.kids;have hw:=zdX t;simp only[encs];refine zbz fun N hN=>?_;simp only[zcP];walk_at "wp";simp only[zak ha,true_and];refine zgX ?_;walk_at "wp";rw [zak ha];refine⟨zan (by rw [zbo,zbo];omega),hN _ _ _ .refl (by rw [zaI hba];exact hb) ?_⟩;rw [←zhl];refine ziq hba ts zah (by rw [zaI hba];exact hb) (by rw [List.length_append];omega) fun x2=>?_;rw [zbj];have:=h x2;rw [List.flatMap_cons,←List.append_assoc]at this;exact this
theorem zls{ts:List Tr}{b:Addr}{r:Nat}{S:Sto}{Q:WK}{E:Str→Sto→Prop}(hb:S b=some (.lst (encs ts))) (hw:wts ts≤100000) (h:∀a,S a=none→Q (.ref a) (put S a (.lst (encs (ts.flatMap Tr.kids))))):zbQ (r+2) [.ref b] S Q E:=by
 rw [zbQ];walk_at "wp";refine⟨Nat.zero_le _,fun a ha=>?_⟩;have hba:=zve hb ha;rw [zak (keep hb ha)];refine ziq (us:=[]) hba ts (by simp [zah,encs]) (keep hb ha) (by simpa using(by omega:wts ts≤200000)) fun x2=>?_;rw [zbj];walk_at "wp";exact⟨_, .refl,h a ha⟩
noncomputable def Tr.small (t:Tr):Bool:=decide (t.weight≤400)&&decide (t.depth≤40)
theorem zij{t:Tr}{r:Nat}{S:Sto}{Q:WK}{E:Str→Sto→Prop}(hw:t.weight≤90000) (h:Q (.bl t.small) S):zdR (r+3) [enc t] S Q E:=by
 rw [zdR];walk_at "wp";refine⟨zan (by decide),fun a ha=>?_⟩;refine⟨fun m σ S'=>∃(ts:List Tr) (k d:Nat) (b:Addr),m=wts ts∧k+wts ts=t.weight∧d+dts ts=t.depth∧k≤400∧d≤40∧S b=none∧S'=put S b (.lst (encs ts))∧σ=[some (enc t),some (.int k),some (.int d),some (.ref b)],⟨_,[t],0,0,a,rfl,by simp [wts],by simp [dts],by decide,by decide,ha,by simp [encs],rfl⟩,?_⟩
 rintro m σ S' ⟨ts,k,d,b,rfl,hwt,hk,hk4,hd4,hb,rfl,rfl⟩;walk_at "wp";cases ts with
 |nil=>
  simp only[encs,List.isEmpty_nil];walk_at "wp";simp only[dts,wts,Nat.add_zero]at hk hwt;have e:t.small=true:=by unfold Tr.small;rw [decide_eq_true (by omega),decide_eq_true (by omega)];rfl
  rw [e]at h;exact⟨_, .put .refl hb,h⟩
 |cons u us=>
  have hne:(encs (u::us)).isEmpty=false:=by simp [encs]
  rw [hne];have hfl:=znw (u::us);have hdf:=znv (ts:=u::us) (by simp);have hlw:=zcV (u::us);simp only[zgF];walk_at "wp";rw [zbo];have no:400<t.weight∨40<t.depth→ ∃S'',Sub S'' (put S b (Ob.lst (encs (u::us))))∧Q (W.bl false) S'':=fun z=>by
   have e:t.small=false:=by
    unfold Tr.small;rcases z with z |z
    ·rw [decide_eq_false (by omega)];rfl
    ·rw [decide_eq_false (p:=t.depth≤40) (by omega),Bool.and_false]
   rw [e]at h;exact⟨_, .put .refl hb,h⟩
  split
  ·exact no (.inl (by omega))
  ·split
   ·exact no (.inr (by omega))
   ·refine zls zah (by omega) fun c hc=>?_;obtain⟨hc1,hc2⟩:=zed hc;refine⟨wts ((u::us).flatMap Tr.kids),put S c (.lst (encs ((u::us).flatMap Tr.kids))),by simp only[List.length_cons]at hfl;omega, .put2 (.put .refl hb),_,k+(u::us).length,d+1,c,rfl,by omega,by omega,by omega,by omega,hc1,rfl,?_⟩
    push_cast
    rfl
theorem zgi{ns:List Int}{k:Int}{r:Nat}{S:Sto}{Q:WK}{E:Str→Sto→Prop}(h0:0≤k) (h:∀n:Int,Q (.int n) S):zav (r+1) [.scr ns, .int k] S Q E:=by
 rw [zav];walk_at "wp";split
 ·obtain⟨x,e,_⟩:=zjJ (xs:=ns) (i:=k) h0 (by omega);rw [e];exact⟨S, .refl,h _⟩
 ·exact⟨S, .refl,h _⟩
noncomputable def lt (rs:List Int) (pos:Int) (k j:Nat):Nat:=97+((rs.getD j 0+(k:Int)*(if(0+(j:Int) == pos)=true then 1 else 0)) % 26).toNat
noncomputable def zfW (rs:List Int) (pos:Int) (k:Nat):List Nat:=(List.range rs.length).map (lt rs pos k)
noncomputable def wd0 (rs:List Int) (pos:Int) (k:Nat):Str:=Str.join (Str.ofString "") ((zfW rs pos k).map fun c=>(⟨#[c]⟩:Str))
noncomputable def wd1 (rs:List Int) (pos:Int) (k:Nat):Str:=Txt.upper ⟨#[lt rs pos k 0]⟩++Txt.slice (wd0 rs pos k) (some 1) none
noncomputable def wd (great:Bool) (rs:List Int) (pos:Int) (k:Nat):Str:=if great then wd1 rs pos k else wd0 rs pos k
theorem zix (rs:List Int) (pos:Int) (k j:Nat):Low (lt rs pos k j):=by
 have h0:=Int.emod_nonneg (rs.getD j 0+(k:Int)*(if(0+(j:Int) == pos)=true then 1 else 0)) (show(26:Int)≠0 by decide)
 have h1:=Int.emod_lt_of_pos (rs.getD j 0+(k:Int)*(if(0+(j:Int) == pos)=true then 1 else 0)) (show(0:Int)<26 by decide)
 unfold lt Low;omega
theorem zvP{n:Int}(h0:0≤n) (h1:n<26):atI (Str.ofString "abcdefghijklmnopqrstuvwxyz").cps.toList n=some (97+n.toNat):=by
 have e:=zcD (xs:=(Str.ofString "abcdefghijklmnopqrstuvwxyz").cps.toList) (n:=n.toNat);rw [Int.toNat_of_nonneg h0]at e;rw [e,zuG,List.getElem?_range' (by omega)];simp
theorem zgM (rs:List Int) (pos:Int) (k:Nat):(wd0 rs pos k).cps.toList=zfW rs pos k:=zkz _
theorem zhM (rs:List Int) (pos:Int) (k:Nat):(zfW rs pos k).length=rs.length:=by simp [zfW]
theorem zkB{rs:List Int}{pos:Int}{k c:Nat}(h:c∈zfW rs pos k):Low c:=by
 obtain⟨j,_,rfl⟩:=List.mem_map.mp h;exact zix rs pos k j
theorem zoj{rs:List Int}(pos:Int) (k:Nat) (h:1≤rs.length):zfW rs pos k=lt rs pos k 0::(zfW rs pos k).drop 1:=by
 unfold zfW;obtain⟨n,hn⟩:∃n,rs.length=n+1:=⟨rs.length - 1,by omega⟩
 rw [hn,List.range_succ_eq_map];simp
theorem zjK{c:Nat}(h:Low c):Txt.upper ⟨#[c]⟩=⟨#[c - 32]⟩:=by
 unfold Low at h;rw [PySem.W.KOpn.upper_one (by omega),if_pos h]
theorem znt{rs:List Int}(pos:Int) (k:Nat):(wd1 rs pos k).cps.toList=(lt rs pos k 0 - 32)::(zfW rs pos k).drop 1:=by
 unfold wd1;rw [zjK (zix _ _ _ _)];show((#[lt rs pos k 0 - 32]:Array Nat)++(Txt.slice (wd0 rs pos k) (some 1) none).cps).toList=_;rw [Array.toList_append,znc,zgM];rfl
structure Base (rs:List Int) (pos:Int):Prop where
  l1:1≤rs.length
  l8:rs.length≤8
  p0:0≤pos
  p1:pos<rs.length
theorem znb{rs:List Int}{pos:Int}(b:Base rs pos) (k:Nat):zdw (wd0 rs pos k):=by
 unfold zdw;rw [zgM,zhM];exact⟨b.l1,b.l8,fun c hc=>zkB hc⟩
theorem zpn{rs:List Int}{pos:Int}(b:Base rs pos) (k:Nat):zdp (wd1 rs pos k):=by
 have:=zix rs pos k 0;have hl:=b.l8;unfold Low at this;refine⟨_,_,znt pos k,by omega,by omega,by rw [List.length_drop,zhM];omega,fun d hd=>zkB (List.mem_of_mem_drop hd)⟩
theorem zza{rs:List Int}{pos:Int}(b:Base rs pos) {k m:Nat}(hk:k<26) (hm:m<26) (h:k≠m):lt rs pos k pos.toNat≠lt rs pos m pos.toNat:=by
 have p0:=b.p0;have e:(0+((pos.toNat:Nat):Int) == pos)=true:=by rw [beq_iff_eq];omega
 unfold lt;rw [e,if_pos rfl];omega
theorem zwc{great:Bool}{rs:List Int}{pos:Int}(b:Base rs pos) {k m:Nat}(hk:k<26) (hm:m<26) (h:k≠m):wd great rs pos k≠wd great rs pos m:=by
 have hn:=zza b hk hm h;have p0:=b.p0;have p1:=b.p1;intro e;have e':=congrArg (fun x:Str=>x.cps.toList) e;cases great with
 |false=>
  simp only[wd,Bool.false_eq_true,if_false,zgM]at e';have e2:=congrArg (fun l=>l[pos.toNat]?) e';simp only[zfW,List.getElem?_map,List.getElem?_range (show pos.toNat<rs.length by omega),Option.map_some,Option.some.injEq]at e2
  exact hn e2
 |true=>
  simp only[wd,if_true,znt]at e';have e2:=congrArg (fun l=>l[pos.toNat]?) e';cases hp:pos.toNat with
  |zero=>
   rw [hp]at hn;have h1:=zix rs pos k 0;have h2:=zix rs pos m 0;unfold Low at h1 h2;simp only[hp,List.getElem?_cons_zero,Option.some.injEq]at e2;omega
  |succ n=>
   rw [hp]at hn;simp only[hp,List.getElem?_cons_succ,List.getElem?_drop,zfW,List.getElem?_map]at e2;rw [show 1+n=n+1 by omega,List.getElem?_range (show n+1<rs.length by omega)]at e2
   simp only[Option.map_some,Option.some.injEq]at e2;exact hn e2
noncomputable def zlP (great:Bool) (ws:List Str):Prop:=∃rs pos,Base rs pos∧(ws=(List.range 6).map (wd great rs pos)∨(great=false∧ws=[wd0 rs pos 0,wd0 rs pos 1,wd0 rs pos 2,wd0 rs pos 2,wd0 rs pos 2,wd0 rs pos 5]))
structure Signs (w0 w1 w2 w3 w4 w5:Str):Prop where
  ok:∀x∈ [w0,w1,w2,w3,w4,w5],zdw x
  n0:∀x∈ [w1,w2,w3,w4,w5],w0≠x
  n1:∀x∈ [w2,w3,w4,w5],w1≠x
  n5:∀x∈ [w2,w3,w4],w5≠x
theorem zlU{ws:List Str}(h:zlP false ws):∃w0 w1 w2 w3 w4 w5,ws=[w0,w1,w2,w3,w4,w5]∧Signs w0 w1 w2 w3 w4 w5:=by
 obtain⟨rs,pos,b,h⟩:=h;have hs:=fun k=>znb b k;have hn:∀k m:Nat,k<26→m<26→k≠m→wd0 rs pos k≠wd0 rs pos m:=fun k m h1 h2 h3=>zwc (great:=false) b h1 h2 h3;rcases h with rfl |⟨_,rfl⟩
 ·refine⟨_,_,_,_,_,_,rfl,⟨?_,?_,?_,?_⟩⟩
  ·simp only[List.mem_cons,List.not_mem_nil,or_false,forall_eq_or_imp,forall_eq];exact⟨hs 0,hs 1,hs 2,hs 3,hs 4,hs 5⟩
  ·simp only[List.mem_cons,List.not_mem_nil,or_false,forall_eq_or_imp,forall_eq];exact⟨hn 0 1 (by decide) (by decide) (by decide),hn 0 2 (by decide) (by decide) (by decide),hn 0 3 (by decide) (by decide) (by decide),hn 0 4 (by decide) (by decide) (by decide),hn 0 5 (by decide) (by decide) (by decide)⟩
  ·simp only[List.mem_cons,List.not_mem_nil,or_false,forall_eq_or_imp,forall_eq];exact⟨hn 1 2 (by decide) (by decide) (by decide),hn 1 3 (by decide) (by decide) (by decide),hn 1 4 (by decide) (by decide) (by decide),hn 1 5 (by decide) (by decide) (by decide)⟩
  ·simp only[List.mem_cons,List.not_mem_nil,or_false,forall_eq_or_imp,forall_eq];exact⟨hn 5 2 (by decide) (by decide) (by decide),hn 5 3 (by decide) (by decide) (by decide),hn 5 4 (by decide) (by decide) (by decide)⟩
 ·refine⟨_,_,_,_,_,_,rfl,⟨?_,?_,?_,?_⟩⟩
  ·simp only[List.mem_cons,List.not_mem_nil,or_false,forall_eq_or_imp,forall_eq];exact⟨hs 0,hs 1,hs 2,hs 2,hs 2,hs 5⟩
  ·simp only[List.mem_cons,List.not_mem_nil,or_false,forall_eq_or_imp,forall_eq];exact⟨hn 0 1 (by decide) (by decide) (by decide),hn 0 2 (by decide) (by decide) (by decide),hn 0 2 (by decide) (by decide) (by decide),hn 0 2 (by decide) (by decide) (by decide),hn 0 5 (by decide) (by decide) (by decide)⟩
  ·simp only[List.mem_cons,List.not_mem_nil,or_false,forall_eq_or_imp,forall_eq];exact⟨hn 1 2 (by decide) (by decide) (by decide),hn 1 2 (by decide) (by decide) (by decide),hn 1 2 (by decide) (by decide) (by decide),hn 1 5 (by decide) (by decide) (by decide)⟩
  ·simp only[List.mem_cons,List.not_mem_nil,or_false,forall_eq_or_imp,forall_eq];exact⟨hn 5 2 (by decide) (by decide) (by decide),hn 5 2 (by decide) (by decide) (by decide),hn 5 2 (by decide) (by decide) (by decide)⟩
structure Titles (ts:List Str):Prop where
  len:ts.length=6
  ok:∀x∈ts,zdp x
  nd:ts.Nodup
theorem zgE{ws:List Str}(h:zlP true ws):Titles ws:=by
 obtain⟨rs,pos,b,h⟩:=h;rcases h with rfl |⟨e,_⟩
 ·refine⟨by simp,fun x hx=>?_,?_⟩
  ·obtain⟨k,_,rfl⟩:=List.mem_map.mp hx;exact zpn b k
  ·rw [List.Nodup,List.pairwise_map];refine List.Pairwise.imp_of_mem (fun {a c} ha hc hne=>?_) (List.nodup_range (n:=6));have ha:=List.mem_range.mp ha;have hc:=List.mem_range.mp hc;exact zwc b (by omega) (by omega) hne
 ·cases e
theorem zjG:∀(ws:List W) {rs:List Int}{sp:Int}{a:Addr}{r:Nat}{S:Sto}{E:WX}{D:WEnds}{x0 x1 x2 x3 x6 x7 x8 x9:Option W},S a=some (.lst (rs.map W.int))→rs.length+ws.length≤1000→
  (∀(rs':List Int) sp' x6',rs'.length=rs.length+ws.length→D.nx [x0,x1,x2,x3,some (.int sp'),some (.ref a),x6',x7,x8,x9] (put S a (.lst (rs'.map W.int))))→
  forL (wGN 6) (zdK r zba) E D (fun _=>True) ws [x0,x1,x2,x3,some (.int sp),some (.ref a),x6,x7,x8,x9] S
 | [],rs,sp,a,r,S,E,D,x0,x1,x2,x3,x6,x7,x8,x9,ha,hl,h=>by
  simp only[forL];have:=h rs sp x6 (by simp);rw [zfx ha]at this;exact this
 |w::ws,rs,sp,a,r,S,E,D,x0,x1,x2,x3,x6,x7,x8,x9,ha,hl,h=>by
  simp only[forL,zdK];walk_at "wp";simp only[List.length_cons]at hl h;simp only[zak ha,true_and];refine⟨by decide,zch (by simp;omega),⟨by decide,by decide⟩,_, .refl,?_⟩
  refine zjG (r:=r) ws (rs:=rs++[sp % 26]) (by rw [zah];simp) (by simp;omega) fun rs' sp' x6' h1=>?_;rw [zbj];exact h rs' sp' x6' (by simp at h1;omega)
theorem zoJ{c:Prop} [Decidable c] {a b:Prop}(h1:c→a) (h2:¬c→b):if c then a else b:=by split<;>simp_all
theorem znn{A T:WS}{E:WX}{D:WEnds}{σ:WSt}{S:Sto}(h:∀T',T'=T→zas A T' E D σ S):zas A T E D σ S:=h T rfl
theorem zny{one two:Int}{great:Bool}{r:Nat}{S:Sto}{Q:WK}{E:Str→Sto→Prop}(h:∀(a:Addr) (ws:List Str),S a=none→zlP great ws→Q (.ref a) (put S a (.lst (ws.map W.str)))):zaS (r+1) [.int one, .int two, .bl great] S Q E:=by
 rw [zaS];walk_at "wp";have o0:0≤one % 8:=Int.emod_nonneg _ (by decide);have o1:one % 8<8:=Int.emod_lt_of_pos _ (by decide);refine⟨⟨by decide,by decide,by decide⟩,by decide,Nat.zero_le _,fun a ha=>⟨by decide,⟨by omega,by omega⟩,?_⟩⟩
 refine zjG _ (rs:=[]) zah (by simp [znl];omega) fun rs sp x6 hl=>?_;rw [zbj];simp only[List.length_nil,znl,Nat.zero_add]at hl;have hl':(rs.length:Int)=1+one % 8:=by rw [hl];omega
 have p0:0≤one / 8 % (rs.length:Int):=Int.emod_nonneg _ (by omega);have p1:one / 8 % (rs.length:Int)<(rs.length:Int):=Int.emod_lt_of_pos _ (by omega);have B:Base rs (one / 8 % (rs.length:Int)):=⟨by omega,by omega,p0,p1⟩
 walk_at "wp";simp only[List.length_map];refine⟨⟨by decide,by decide⟩,by omega,Nat.zero_le _,fun b hb=>⟨⟨by decide,by decide⟩,?_⟩⟩
 obtain⟨hb1,hb2⟩:=zed hb;generalize hpos:one / 8 % (rs.length:Int)=pos at B p0 p1⊢;refine zoM (fun i σ S'=>∃x6 x9,S'=put (put S a (.lst (rs.map W.int))) b (.lst (((List.range i).map (wd great rs pos)).map W.str))∧σ=[some (.int one),some (.int two),some (.bl great),some (.str (Str.ofString "abcdefghijklmnopqrstuvwxyz")),some (.int sp),some (.ref a),x6,some (.int pos),some (.ref b),x9]) 6 ?_ ?_ ⟨x6,none,rfl,rfl⟩
 ·rintro k hk σ S' N ⟨x6,x9,rfl,rfl⟩ hN;have ea:put (put S a (Ob.lst (rs.map W.int))) b (Ob.lst (((List.range k).map (wd great rs pos)).map W.str)) a=some (.lst (rs.map W.int)):=by rw [zaI (Ne.symm hb2),zah]
  simp only[zeV];walk_at "wp";rw [zak ea];simp only[List.length_map];refine⟨⟨by omega,by omega⟩,?_⟩
  rw [Int.toNat_natCast];refine zaH (fun σ=>∃x,σ=[x,some (.str (Str.ofString "abcdefghijklmnopqrstuvwxyz")),some (.ref a),some (.int (k:Int)),some (.int pos)]) (fun i:Nat=>W.int (0+(i:Int))) (fun i=>W.str ⟨#[lt rs pos k i]⟩) trivial (List.range rs.length) [] _ ⟨none,rfl⟩ (by simp;omega) (fun i hi σ R hI hR=>?_) ?_
  ·obtain⟨x,rfl⟩:=hI;have hi:=List.mem_range.mp hi;simp only[zeT];walk_at "wp";have e:=zcD (xs:=rs.map W.int) (n:=i);rw [show(i:Int)=0+(i:Int) by omega,List.getElem?_map,List.getElem?_eq_getElem hi]at e
   rw [zak ea,e];dsimp only[Option.map];walk_at "wp";have ec:=zvP (n:=(rs[i]+(k:Int)*(if(0+(i:Int) == pos)=true then 1 else 0)) % 26) (Int.emod_nonneg _ (by decide)) (Int.emod_lt_of_pos _ (by decide));rw [ec];have el:lt rs pos k i=97+((rs[i]+(k:Int)*(if(0+(i:Int) == pos)=true then 1 else 0)) % 26).toNat:=by
    unfold lt;rw [List.getD_eq_getElem?_getD,List.getElem?_eq_getElem hi];rfl
   rw [←el];exact⟨.inl ⟨by omega,by omega⟩,by decide,zan (by rw [zxa];decide),hR _ _ ⟨_,rfl⟩ .refl⟩
  ·have es:(List.range rs.length).map (fun i=>W.str ⟨#[lt rs pos k i]⟩)=(zfW rs pos k).map fun c=>W.str ⟨#[c]⟩:=by
    unfold zfW;rw [List.map_map];rfl
   have hw:=znb B k;rw [List.nil_append,es,zhH];refine⟨zqI _ (by rw [zhM];omega),?_⟩;show _;have ew:Str.join (Str.ofString "") ((zfW rs pos k).map fun c=>(⟨#[c]⟩:Str))=wd0 rs pos k:=rfl;rw [ew];have hl8:(wd0 rs pos k).length≤8:=by rw [zeW];exact hw.2.1
   have fin:∀z:Str,z=wd great rs pos k→ ∀x9:Option W,N [some (.int one),some (.int two),some (.bl great),some (.str (Str.ofString "abcdefghijklmnopqrstuvwxyz")),some (.int sp),some (.ref a),some (.int (k:Int)),some (.int pos),some (.ref b),x9] (put (put S a (.lst (rs.map W.int))) b (.lst (((List.range k).map (wd great rs pos)).map W.str++[.str z]))):=fun z hz x9=>by
    subst hz;refine hN _ _ _ .refl ⟨_,_,?_,rfl⟩;rw [List.range_succ,List.map_append,List.map_append];rfl
   have hxl:(((List.range k).map (wd great rs pos)).map W.str).length<sizeLine:=zch (by simp;omega);cases great with
   |false=>
    try walk_at "wp"
    try simp only[zgO,zbj,true_and]
    exact⟨hxl,fin _ rfl _⟩
   |true=>
    walk_at "wp";rw [zgM,zoj pos k B.l1,zjs];dsimp only
    try walk_at "wp"
    try simp only[zgO,zbj,true_and]
    refine⟨zan (by omega),?_⟩;have h1:(⟨#[lt rs pos k 0]⟩:Str).length=1:=rfl;have h2:(Txt.upper ⟨#[lt rs pos k 0]⟩).length=1:=by rw [zjK (zix _ _ _ _)];rfl
    have h3:(Txt.slice (wd0 rs pos k) (some 1) none).length≤8:=by
     rw [zeW,znc,List.length_drop,←zeW];omega
    exact⟨by omega,zan (by omega),zan (by omega),hxl,fin _ rfl _⟩
 ·rintro σ S' ⟨x6,x9,rfl,rfl⟩;have eb:put (put S a (Ob.lst (rs.map W.int))) b (Ob.lst (((List.range 6).map (wd great rs pos)).map W.str)) b=some (.lst (((List.range 6).map (wd great rs pos)).map W.str)):=zah;walk_at "wp";cases great with
  |true=>
   walk_at "wp";refine⟨⟨by decide,by decide⟩,by decide,?_⟩
   split
   ·exact⟨_, .put2 (.put .refl ha),h b _ hb1 ⟨rs,pos,B, .inl rfl⟩⟩
   ·exact⟨_, .put2 (.put .refl ha),h b _ hb1 ⟨rs,pos,B, .inl rfl⟩⟩
  |false=>
   walk_at "wp";refine⟨⟨by decide,by decide⟩,by decide,?_⟩
   split
   ·have e6:((List.range 6).map (wd false rs pos)).map W.str=[.str (wd0 rs pos 0), .str (wd0 rs pos 1), .str (wd0 rs pos 2), .str (wd0 rs pos 3), .str (wd0 rs pos 4), .str (wd0 rs pos 5)]:=rfl;simp only[e6]
    try walk_at "wp"
    have c3:zdN [W.str (wd0 rs pos 0), .str (wd0 rs pos 1), .str (wd0 rs pos 2), .str (wd0 rs pos 3), .str (wd0 rs pos 4), .str (wd0 rs pos 5)] none (some 3)=[.str (wd0 rs pos 0), .str (wd0 rs pos 1), .str (wd0 rs pos 2)]:=rfl;have a2:atI [W.str (wd0 rs pos 0), .str (wd0 rs pos 1), .str (wd0 rs pos 2), .str (wd0 rs pos 3), .str (wd0 rs pos 4), .str (wd0 rs pos 5)] 2=some (.str (wd0 rs pos 2)):=rfl;have a5:atI [W.str (wd0 rs pos 0), .str (wd0 rs pos 1), .str (wd0 rs pos 2), .str (wd0 rs pos 3), .str (wd0 rs pos 4), .str (wd0 rs pos 5)] 5=some (.str (wd0 rs pos 5)):=rfl;simp only[c3,a2,a5]
    try walk_at "wp"
    refine⟨zan (by decide),zan (by decide),fun c hc=>?_⟩;obtain⟨hc1,hc2⟩:=zed hc;obtain⟨hc1,hc3⟩:=zed hc1;exact⟨_, .put2 (.put (.put .refl ha) hb1),h c _ hc1 ⟨rs,pos,B, .inr ⟨rfl,rfl⟩⟩⟩
   ·exact⟨_, .put2 (.put .refl ha),h b _ hb1 ⟨rs,pos,B, .inl rfl⟩⟩
mutual
noncomputable def Tr.nb:Tr→Nat
 | .bl _=>1
 | .nd _ ts=>nbs ts
noncomputable def nbs:List Tr→Nat
 | []=>0
 |t::ts=>t.nb+nbs ts
end
mutual
theorem zth:∀(t:Tr) (p:List Int),((t.plt p).filter fun x=>x.2.isBl).length=t.nb
 | .bl n,p=>by simp [Tr.plt,Tr.isBl,Tr.nb]
 | .nd s ts,p=>by
  have:=zpx ts p 0;simpa [Tr.plt,Tr.isBl,Tr.nb]using this
theorem zpx:∀(ts:List Tr) (p:List Int) (i:Nat),((zii p i ts).filter fun x=>x.2.isBl).length=nbs ts
 | [],p,i=>by simp [zii,nbs]
 |t::ts,p,i=>by
  have h1:=zth t (p++[(i:Int)]);have h2:=zpx ts p (i+1);rw [zii,List.filter_append,List.length_append,h1,h2,nbs]
end
theorem zwq (t:Tr):t.bls.length=t.nb:=zth t []
theorem zpH:∀ts:List Tr,(ts.map fun t=>(t.nb:Int)).sum=(nbs ts:Int)
 | []=>by simp [nbs]
 |t::ts=>by
  rw [List.map_cons,List.sum_cons,zpH ts,nbs];omega
theorem zug (ts:List Tr):zcj (ts.map fun t=>W.int (t.nb:Int))=some (ts.map fun t=>(t.nb:Int)):=by
 have:=zgp (ts.map fun t=>(t.nb:Int));rw [List.map_map]at this;exact this
theorem zjA:∀(d:Nat) {t:Tr}{r:Nat}{S:Sto}{Q:WK}{E:Str→Sto→Prop},t.depth≤d→d≤r+1→t.weight≤90000→Q (.int t.nb) S→zaA (r+1) [enc t] S Q E
 |0,t,r,S,Q,E,hd,hr,hw,h=>by have:=zbq t;omega
 |d+1, .bl n,r,S,Q,E,hd,hr,hw,h=>by
  rw [zaA];simp only[enc];walk_at "wp";simp only[Tr.nb]at h;exact⟨S, .refl,h⟩
 |d+1, .nd s ts,r,S,Q,E,hd,hr,hw,h=>by
  simp only[Tr.depth]at hd;simp only[Tr.weight]at hw;have hk:=zcV ts;rw [zaA];simp only[enc];walk_at "wp";rw [zaK];refine zaH (fun σ=>∃x,σ=[x]) enc (fun t=> .int (t.nb:Int)) trivial ts [] _ ⟨none,rfl⟩ (by simp;omega) (fun x hx σ R hI hR=>?_) ?_
  ·obtain⟨y,rfl⟩:=hI;have hdx:=zcS hx;have hwx:=zdi hx;have:=zbq x;obtain⟨r,rfl⟩:∃r',r=r'+1:=⟨r - 1,by omega⟩
   simp only[zdA];walk_at "wp";exact zjA d (t:=x) (r:=r) (by omega) (by omega) (by omega) (hR _ _ ⟨_,rfl⟩ .refl)
  ·rw [List.nil_append,zug];dsimp only;rw [zpH];simp only[Tr.nb]at h;exact⟨S, .refl,h⟩
theorem zmK{w:W}{ws:List W}:zdN (w::ws) none (some 1)=[w]:=by
 rw [show(1:Int)=((1:Nat):Int) from rfl,zmC];rfl
theorem zgf{us:List Tr}{a:Addr}:∀(d:Nat) {t:Tr}{r:Nat}{S:Sto}{Q:WK}{E:Str→Sto→Prop},t.depth≤d→d≤r+1→S a=some (.lst (encs us))→t.fits us.length→t.weight≤90000→Q (enc (t.fill us)) S→zbb (r+1) [enc t, .ref a] S Q E
 |0,t,r,S,Q,E,hd,hr,ha,hf,hw,h=>by have:=zbq t;omega
 |d+1, .bl n,r,S,Q,E,hd,hr,ha,hf,hw,h=>by
  simp only[Tr.fits]at hf;simp only[Tr.fill]at h;rw [zbb];simp only[enc];walk_at "wp";have e:atI (encs us) n=some (enc (us.getD n.toNat (.bl n))):=by
   have q:=zcD (xs:=encs us) (n:=n.toNat);rw [Int.toNat_of_nonneg hf.1]at q;rw [q,zaK,List.getElem?_map,List.getD_eq_getElem?_getD,List.getElem?_eq_getElem (by omega)];rfl
  rw [zak ha,e];exact⟨S, .refl,h⟩
 |d+1, .nd s ts,r,S,Q,E,hd,hr,ha,hf,hw,h=>by
  simp only[Tr.fits]at hf;simp only[Tr.fill]at h;simp only[Tr.depth]at hd;simp only[Tr.weight]at hw;have hk:=zcV ts;rw [zbb];simp only[enc]at h⊢;walk_at "wp";rw [zmK];rw [zaK];refine zaH (fun σ=>∃x,σ=[x,some (.ref a)]) enc (fun t=>enc (t.fill us)) trivial ts [] _ ⟨none,rfl⟩ (by simp;omega) (fun x hx σ R hI hR=>?_) ?_
  ·obtain⟨y,rfl⟩:=hI;have hdx:=zcS hx;have hwx:=zdi hx;have:=zbq x;obtain⟨r,rfl⟩:∃r',r=r'+1:=⟨r - 1,by omega⟩
   simp only[zes];walk_at "wp";exact zgf d (t:=x) (r:=r) (by omega) (by omega) ha (zhU hf hx) (by omega) (hR _ _ ⟨_,rfl⟩ .refl)
  ·rw [List.nil_append];walk_at "wp";refine⟨zan (by simp;omega),S, .refl,?_⟩;have e:encs (fills us ts)=ts.map fun t=>enc (t.fill us):=by rw [zaK,zhY,List.map_map];rfl
   rw [e]at h;exact h
inductive Item (ws:List Str) (m:Nat):Tr→Prop
 |bl {n:Int}:0≤n→n<m→Item ws m (.bl n)
 |nd {s:Str}:s∈ws→Item ws m (.nd s [])
inductive RightT (ws:List Str) (m:Nat):Tr→Prop
 |one {t:Tr}:Item ws m t→RightT ws m t
 |un {s:Str}{t:Tr}:s∈ws→Item ws m t→RightT ws m (.nd s [t])
 |two {s:Str}{t u:Tr}:s∈ws→0<m→Item ws m t→Item ws m u→RightT ws m (.nd s [t,u])
 |deep {s z:Str}{t u:Tr}:s∈ws→z∈ws→0<m→Item ws m t→Item ws m u→RightT ws m (.nd s [.nd z [t],u])
noncomputable def leftsL (n:Nat) (h c d:Str):List Tr:=
 match n with
 |0=>[.nd h [.bl 0]]
 |1=>[.nd h [.bl 0, .bl 1]]
 |2=>[.nd h [.nd c []], .nd h [.nd d [.bl 0]]]
 |3=>[.nd h [.nd c [], .bl 0], .nd h [.nd d [.bl 0], .bl 1]]
 |4=>[.nd h [.nd d [.nd d [.bl 0]], .bl 1, .bl 2], .nd h [.nd d [.nd c []], .bl 0, .bl 1]]
 |_=>[.nd h []]
section
variable {w0 w1 w2 w3 w4 w5:Str}{r:Nat}{S:Sto}{Q:WK}{E:Str→Sto→Prop}{a:Addr}
noncomputable abbrev six (w0 w1 w2 w3 w4 w5:Str):List W:=[.str w0, .str w1, .str w2, .str w3, .str w4, .str w5]
theorem zAm:atI (six w0 w1 w2 w3 w4 w5) 0=some (.str w0):=rfl
theorem zAA:atI (six w0 w1 w2 w3 w4 w5) 1=some (.str w1):=rfl
theorem six2:atI (six w0 w1 w2 w3 w4 w5) 2=some (.str w2):=rfl
theorem zzS:atI (six w0 w1 w2 w3 w4 w5) 3=some (.str w3):=rfl
theorem six4:atI (six w0 w1 w2 w3 w4 w5) 4=some (.str w4):=rfl
theorem zAw:atI (six w0 w1 w2 w3 w4 w5) 5=some (.str w5):=rfl
theorem zpQ{draw:Int}{m:Nat}(ha:S a=some (.lst (six w0 w1 w2 w3 w4 w5))) (h:∀t,Item [w0,w1,w2,w3,w4,w5] m t→Q (enc t) S):zcw (r+1) [.int draw, .int m, .ref a] S Q E:=by
 rw [zcw];walk_at "wp";have fin:∀w:Str,w∈ [w0,w1,w2,w3,w4,w5]→ ∃S'',Sub S'' S∧Q (.tup [.str w]) S'':=fun w hw=>⟨S, .refl,by
  have:=h _ (.nd hw);simpa only[enc,encs]using this⟩
 have pick:∃x:Str,x∈ [w0,w1,w2,w3,w4,w5]∧ ∃i:Int,atI [W.int 2,W.int 5] (draw / 4 % 2)=some (.int i)∧atI (six w0 w1 w2 w3 w4 w5) i=some (.str x):=by
  rcases zoE (draw / 4) with e |e
  ·exact⟨w2,by simp,2,by rw [e];rfl,rfl⟩
  ·exact⟨w5,by simp,5,by rw [e];rfl,rfl⟩
 obtain⟨x,hx,i,e1,e2⟩:=pick;simp only[e1];walk_at "wp";simp only[zak ha,e2];have tail:2≤sizeLine∧zjD draw 4∧(0:Int)<2∧1≤sizeLine∧ ∃S'',Sub S'' S∧Q (.tup [.str x]) S'':=⟨zan (by decide),⟨by decide,by decide⟩,by decide,zan (by decide),fin x hx⟩
 split
 ·rename_i hm;refine⟨by decide,?_⟩;split
  ·refine⟨⟨by decide,by decide⟩,hm,S, .refl,?_⟩
   have:=h (.bl (draw / 4 % (m:Int))) (.bl (Int.emod_nonneg _ (by omega)) (Int.emod_lt_of_pos _ hm));simpa only[enc]using this
  ·exact tail
 ·exact tail
theorem zsN{draw:Int}{m:Nat}(ha:S a=some (.lst (six w0 w1 w2 w3 w4 w5))) (h:∀t,RightT [w0,w1,w2,w3,w4,w5] m t→Q (enc t) S):zcO (r+2) [.int draw, .int m, .ref a] S Q E:=by
 rw [zcO,zfK];refine⟨rfl,znn fun T hT=>?_⟩;walk_at "wp";refine⟨⟨by decide,by decide⟩,zpQ ha fun t ht=>?_⟩
 subst hT;refine znn fun T hT=>?_;walk_at "wp";refine⟨⟨by decide,by decide⟩,zpQ ha fun u hu=>?_⟩
 subst hT;refine znn fun T hT=>?_;walk_at "wp";refine⟨by decide,?_⟩;subst hT;have q1:=h _ (.one ht);have q2:=fun(s:Str) (hs:s∈ [w0,w1,w2,w3,w4,w5])=>h _ (.un hs ht);have q3:=fun(s:Str) (hs:s∈ [w0,w1,w2,w3,w4,w5]) (h0:0<m)=>h _ (.two hs h0 ht hu);have q4:=fun(s:Str) (hs:s∈ [w0,w1,w2,w3,w4,w5]) (h0:0<m)=>h _ (.two hs h0 ht ht);have q5:=fun(s z:Str) (hs:s∈ [w0,w1,w2,w3,w4,w5]) (hz:z∈ [w0,w1,w2,w3,w4,w5]) (h0:0<m)=>h _ (.deep hs hz h0 ht hu);simp only[enc,encs]at q2 q3 q4 q5;have l2:2≤sizeLine:=zan (by decide);have l3:3≤sizeLine:=zan (by decide);refine znn fun T hT=>?_;walk_at "wp";refine zoJ (fun _=>⟨S, .refl,q1⟩) fun _=>?_;subst hT;refine znn fun T hT=>?_;walk_at "wp";simp only[zak ha,zzS];refine zoJ (fun _=>⟨l2,S, .refl,q2 _ (by simp)⟩) fun _=>zoJ (fun _=>⟨l2,S, .refl,q2 _ (by simp)⟩) fun hm=>?_;subst hT;have h0:0<m:=by
  rcases Nat.eq_zero_or_pos m with z |z
  ·rw [z]at hm;exact absurd rfl hm
  ·exact z
 refine znn fun T hT=>?_;walk_at "wp";simp only[zak ha,six4];refine zoJ (fun _=>⟨l3,S, .refl,q3 _ (by simp) h0⟩) fun _=>?_;subst hT;refine znn fun T hT=>?_;walk_at "wp";simp only[zak ha,six4];refine zoJ (fun _=>⟨l3,S, .refl,q4 _ (by simp) h0⟩) fun _=>?_;subst hT;refine znn fun T hT=>?_;walk_at "wp";simp only[zak ha,zzS,six4];refine zoJ (fun _=>⟨l2,l3,S, .refl,q5 _ _ (by simp) (by simp) h0⟩) fun _=>?_;subst hT;refine znn fun T hT=>?_;walk_at "wp";simp only[zak ha,zAm];refine zoJ (fun _=>⟨l2,S, .refl,q2 _ (by simp)⟩) fun _=>?_;subst hT;walk_at "wp";simp only[zak ha,zAA];exact⟨l3,S, .refl,q3 _ (by simp) h0⟩
theorem zrs{n:Int}{h c d:Str}(H:∀(p:Addr) (k:Nat),S p=none→Q (.ref p) (put S p (.lst (encs (leftsL k h c d))))):zcN (r+1) [.int n, .str h, .str c, .str d] S Q E:=by
 rw [zcN,zfK];refine⟨rfl,?_⟩;have l1:1≤sizeLine:=zan (by decide);have l2:2≤sizeLine:=zan (by decide);have l3:3≤sizeLine:=zan (by decide);have l4:4≤sizeLine:=zan (by decide);refine znn fun T hT=>?_;walk_at "wp";refine zoJ (fun _=>⟨l2,l1,fun p hp=>⟨_, .refl,by simpa only[leftsL,enc,encs]using H p 0 hp⟩⟩) fun _=>?_
 subst hT;refine znn fun T hT=>?_;walk_at "wp";refine zoJ (fun _=>⟨l3,l1,fun p hp=>⟨_, .refl,by simpa only[leftsL,enc,encs]using H p 1 hp⟩⟩) fun _=>?_
 subst hT;refine znn fun T hT=>?_;walk_at "wp";refine zoJ (fun _=>⟨l1,l2,l2,l2,l2,fun p hp=>⟨_, .refl,by simpa only[leftsL,enc,encs]using H p 2 hp⟩⟩) fun _=>?_
 subst hT;refine znn fun T hT=>?_;walk_at "wp";refine zoJ (fun _=>⟨l1,l3,l2,l3,l2,fun p hp=>⟨_, .refl,by simpa only[leftsL,enc,encs]using H p 3 hp⟩⟩) fun _=>?_
 subst hT;refine znn fun T hT=>?_;walk_at "wp";refine zoJ (fun _=>⟨l2,l2,l4,l1,l2,l4,l2,fun p hp=>⟨_, .refl,by simpa only[leftsL,enc,encs]using H p 4 hp⟩⟩) fun _=>?_
 subst hT;walk_at "wp";exact⟨l1,l1,fun p hp=>⟨_, .refl,by simpa only[leftsL,enc,encs]using H p 5 hp⟩⟩
end
section
variable {w0 w1 w2 w3 w4 w5:Str}{tt:List Str}{ns:List Int}{aw at' ab al:Addr}{r:Nat}{E:WX}{D:WEnds}{k j:Int}
theorem zng (h6:tt.length=6) (k0:0≤k) (j0:0≤j):∀(ls:List Tr) {i:Nat}{C:List Tn}{S:Sto}{G:Sto→Prop}{x7 x8 x9:Option W},(∀L∈ls,L.depth≤4∧L.weight≤7)→C.length+ls.length≤6→S ab=some (.lst (C.map zbd))→S aw=some (.lst (six w0 w1 w2 w3 w4 w5))→S at'=some (.lst (tt.map W.str))→ab≠aw→ab≠at'→
  (∀o,G (put S ab o))→
  (∀(C':List Tn) (x7 x8 x9:Option W),C'.map (fun t=>t.2.1)=ls→(C.map (fun t=>t.1)=tt.take C.length→(C++C').map (fun t=>t.1)=tt.take (C++C').length)→(∀t∈C',RightT [w0,w1,w2,w3,w4,w5] t.2.1.nb t.2.2)→D.nx [some (.scr ns),some (.int k),some (.ref aw),some (.ref at'),some (.ref ab),some (.int j),some (.ref al),x7,x8,x9] (put S ab (.lst ((C++C').map zbd))))→
  forL (wGT (zaG (wGN 7) (zaG (wGN 8) zdO))) (zdY (r+6) zba) E D G (zim i (encs ls)) [some (.scr ns),some (.int k),some (.ref aw),some (.ref at'),some (.ref ab),some (.int j),some (.ref al),x7,x8,x9] S
 | [],i,C,S,G,x7,x8,x9,hL,hl,hb,hw,ht,n1,n2,hG,h=>by
  simp only[encs,zim,forL];have:=h [] x7 x8 x9 rfl (fun z=>by simpa using z) (fun _ h=>nomatch h)
  rw [List.append_nil,zfx hb]at this;exact this
 |L::ls,i,C,S,G,x7,x8,x9,hL,hl,hb,hw,ht,n1,n2,hG,h=>by
  have hLd:=hL L List.mem_cons_self;simp only[List.length_cons]at hl;simp only[encs,zim];refine zbz fun N hN=>?_;simp only[zdY];walk_at "wp";refine⟨.inl ⟨by decide,by decide⟩,zgi (by omega) fun draw=>zjA 4 hLd.1 (by omega) (by omega) (zsN hw fun R hR=>?_)⟩
  try walk_at "wp"
  obtain⟨ti,eti,_⟩:=zva (ss:=tt) (i:=(C.length:Int)) (by omega) (by omega);simp only[zak hb,zak ht,List.length_map,eti,true_and];refine⟨zan (by decide),zch (by omega),?_⟩;refine hN _ _ (put S ab (.lst ((C++[(ti,L,R)]).map zbd))) (by rw [List.map_append];exact .refl) (hG _) ?_;refine zng h6 k0 j0 ls (C:=C++[(ti,L,R)]) (fun M hM=>hL M (List.mem_cons_of_mem _ hM)) (by simp;omega) zah (by rw [zaI (Ne.symm n1)];exact hw) (by rw [zaI (Ne.symm n2)];exact ht) n1 n2 (fun o=>by rw [zbj];exact hG o) fun C' x7 x8 x9 e1 e2 e3=>?_
  rw [zbj];have:=h ((ti,L,R)::C') x7 x8 x9 (by rw [List.map_cons,e1]) (fun z=>?_) (fun t ht'=>?_)
  ·simpa using this
  ·have e:C++[(ti,L,R)]++C'=C++(ti,L,R)::C':=by simp
   rw [e]at e2;refine e2 ?_;rw [List.map_append,z,List.length_append,List.length_singleton,List.take_succ];congr 1;have e4:(tt.map W.str)[C.length]? =some (.str ti):=by rw [←zcD];exact eti
   rw [List.getElem?_map]at e4;cases q:tt[C.length]? with
   |none=>rw [q]at e4;cases e4
   |some y=>rw [q]at e4;cases e4;rfl
  ·rcases List.mem_cons.mp ht' with rfl |z
   ·exact hR
   ·exact e3 t z
theorem zlC (n:Nat) (h c d:Str):∀L∈leftsL n h c d,L.depth≤4∧L.weight≤7:=by
 intro L hL;unfold leftsL at hL;split at hL<;>simp only[List.mem_cons,List.not_mem_nil,or_false]at hL
 all_goals first
  | (subst hL;simp [Tr.depth,dts,Tr.weight,wts])
  | (rcases hL with rfl |rfl<;>simp [Tr.depth,dts,Tr.weight,wts])
theorem zfG (n:Nat) (h c d:Str):1≤(leftsL n h c d).length∧(leftsL n h c d).length≤2:=by
 unfold leftsL;split<;>simp
noncomputable def hdOf (w0 w1:Str) (j:Nat):Str:=if j=0 then w0 else w1
theorem ztM{S:Sto}{Q:WK}{E:Str→Sto→Prop}(h6:tt.length=6) (k0:0≤k) (hw:S aw=some (.lst (six w0 w1 w2 w3 w4 w5))) (ht:S at'=some (.lst (tt.map W.str)))
  (h:∀(p:Addr) (B:List Tn) (n m:Nat),S p=none→B.map (fun t=>t.2.1)=leftsL n w0 w2 w3++leftsL m w1 w2 w3→B.map (fun t=>t.1)=tt.take B.length→(∀t∈B,RightT [w0,w1,w2,w3,w4,w5] t.2.1.nb t.2.2)→Q (.ref p) (put S p (.lst (B.map zbd)))):zbW (r+7) [.scr ns, .int k, .ref aw, .ref at'] S Q E:=by
 rw [show r+7=r+6+1 from rfl,zbW];walk_at "wp";refine⟨Nat.zero_le _,fun ab hb=>⟨⟨by decide,by decide⟩,?_⟩⟩
 refine zoM (fun i σ S'=>∃(B:List Tn) (f:Nat→Nat) (x5 x6 x7 x8 x9:Option W),B.map (fun t=>t.2.1)=(List.range i).flatMap (fun j=>leftsL (f j) (hdOf w0 w1 j) w2 w3)∧B.map (fun t=>t.1)=tt.take B.length∧(∀t∈B,RightT [w0,w1,w2,w3,w4,w5] t.2.1.nb t.2.2)∧S'=put S ab (.lst (B.map zbd))∧
  σ=[some (.scr ns),some (.int k),some (.ref aw),some (.ref at'),some (.ref ab),x5,x6,x7,x8,x9]) 2 ?_ ?_ ⟨[],fun _=>0,none,none,none,none,none,rfl,rfl,(fun _ h=>nomatch h),rfl,rfl⟩
 ·rintro j hj σ S' N ⟨B,f,x5,x6,x7,x8,x9,e1,e2,e3,rfl,rfl⟩ hN;have fw:put S ab (Ob.lst (B.map zbd)) aw=some (.lst (six w0 w1 w2 w3 w4 w5)):=keep hw hb;have ft:put S ab (Ob.lst (B.map zbd)) at'=some (.lst (tt.map W.str)):=keep ht hb;have fb:put S ab (Ob.lst (B.map zbd)) ab=some (.lst (B.map zbd)):=zah;have n1:ab≠aw:=fun z=>by rw [z,hw]at hb;cases hb
  have n2:ab≠at':=fun z=>by rw [z,ht]at hb;cases hb
  have eh:atI (six w0 w1 w2 w3 w4 w5) (j:Int)=some (.str (hdOf w0 w1 j)):=by
   rcases(show j=0∨j=1 by omega) with rfl |rfl<;>rfl
  simp only[zfP];walk_at "wp";refine zgi (by omega) fun draw=>?_;walk_at "wp";simp only[zak fw,eh,six2,zzS];refine⟨by decide,zrs fun al n hal=>?_⟩;have hl:=zfG n (hdOf w0 w1 j) w2 w3;have hB:B.length≤4:=by
   have:=congrArg List.length e1;rw [List.length_map]at this;rcases(show j=0∨j=1 by omega) with rfl |rfl
   ·simp at this;rw [this];simp
   ·simp at this;have:=zfG (f 0) (hdOf w0 w1 0) w2 w3;omega
  have nal:al≠ab:=fun z=>by rw [z,fb]at hal;cases hal
  try walk_at "wp"
  refine zng h6 k0 (by omega) (leftsL n (hdOf w0 w1 j) w2 w3) (zlC _ _ _ _) (by omega) (keep fb hal) (keep fw hal) (keep ft hal) n1 n2 (fun o=>?_) fun C' x7 x8 x9 g1 g2 g3=>?_
  ·rw [zaI nal,zah]
  ·refine hN _ _ (put S ab (.lst ((B++C').map zbd))) ?_ ⟨B++C',fun i=>if i=j then n else f i,_,_,_,_,_,?_,g2 e2,fun t ht'=>?_,rfl,rfl⟩
   ·rw [znr nal];exact .put .refl (by rw [zaI nal];exact(zed hal).1)
   ·rw [List.map_append,e1,g1,List.range_succ,List.flatMap_append];congr 1
    ·rw [List.flatMap_def,List.flatMap_def];congr 1;refine List.map_congr_left fun i hi=>?_;have:=List.mem_range.mp hi;dsimp only;rw [if_neg (by omega)]
    ·simp
   ·rcases List.mem_append.mp ht' with z |z
    ·exact e3 t z
    ·exact g3 t z
 ·rintro σ S' ⟨B,f,x5,x6,x7,x8,x9,e1,e2,e3,rfl,rfl⟩;walk_at "wp";refine⟨_, .refl,h ab B (f 0) (f 1) hb ?_ e2 e3⟩;rw [e1];simp [List.range_succ,hdOf]
end
noncomputable def signB (x:Str):Bool:=decide (1≤x.cps.toList.length)&&(decide (x.cps.toList.length≤8)&&small x.cps.toList)
theorem zoS (xs:List Nat):small xs=true↔ ∀c∈xs,Low c:=by
 unfold small;rw [List.all_eq_true];simp only[ziB,Low,Bool.and_eq_true,decide_eq_true_eq]
theorem zfw (x:Str):signB x=true↔zdw x:=by
 unfold signB zdw;rw [Bool.and_eq_true,Bool.and_eq_true,decide_eq_true_eq,decide_eq_true_eq,zoS]
theorem zeL{x y:Str}(h:zdw x) (g:zdp y):x≠y:=by
 rintro rfl;obtain⟨c,r,e,h1,h2,_⟩:=g;have:=h.2.2 c (by rw [e];exact List.mem_cons_self);unfold Low at this;omega
theorem zpb{y:Str}(g:zdp y):1≤y.cps.toList.length∧y.cps.toList.length≤8:=by
 obtain⟨c,r,e,h1,h2,h3,_⟩:=g;rw [e,List.length_cons];omega
mutual
noncomputable def Tr.hd (P:Str→Prop):Tr→Prop
 | .bl _=>False
 | .nd s ts=>P s∧hds P ts
noncomputable def hds (P:Str→Prop):List Tr→Prop
 | []=>True
 |t::ts=>t.hd P∧hds P ts
end
mutual
noncomputable def Tr.hb (P:Str→Prop):Tr→Prop
 | .bl _=>True
 | .nd s ts=>P s∧hbs P ts
noncomputable def hbs (P:Str→Prop):List Tr→Prop
 | []=>True
 |t::ts=>t.hb P∧hbs P ts
end
theorem hds_iff{P:Str→Prop}:∀{ts:List Tr},hds P ts↔ ∀t∈ts,t.hd P
 | []=>by simp [hds]
 |t::ts=>by simp [hds,hds_iff (ts:=ts)]
mutual
theorem zlp{P P':Str→Prop}(h:∀s,P s→P' s):∀(t:Tr),t.hd P→t.hd P'
 | .bl _,q=>by simp [Tr.hd]at q
 | .nd s ts,q=>by
  simp only[Tr.hd]at q⊢;exact⟨h s q.1,zmA h ts q.2⟩
theorem zmA{P P':Str→Prop}(h:∀s,P s→P' s):∀(ts:List Tr),hds P ts→hds P' ts
 | [],_=>by simp [hds]
 |t::ts,q=>by
  simp only[hds]at q⊢;exact⟨zlp h t q.1,zmA h ts q.2⟩
end
mutual
theorem zjr{P P':Str→Prop}(h:∀s,P s→P' s):∀(t:Tr),t.hb P→t.hb P'
 | .bl _,q=>by simp [Tr.hb]
 | .nd s ts,q=>by
  simp only[Tr.hb]at q⊢;exact⟨h s q.1,znm h ts q.2⟩
theorem znm{P P':Str→Prop}(h:∀s,P s→P' s):∀(ts:List Tr),hbs P ts→hbs P' ts
 | [],_=>by simp [hbs]
 |t::ts,q=>by
  simp only[hbs]at q⊢;exact⟨zjr h t q.1,znm h ts q.2⟩
end
mutual
theorem zhs{P:Str→Prop}{us:List Tr}(hu:∀u∈us,u.hd P):∀(t:Tr),t.hb P→t.fits us.length→(t.fill us).hd P
 | .bl n,h,f=>by
  simp only[Tr.fits]at f;simp only[Tr.fill];rw [List.getD_eq_getElem?_getD,List.getElem?_eq_getElem (show n.toNat<us.length by omega)]
  exact hu _ (List.getElem_mem ..)
 | .nd s ts,h,f=>by
  simp only[Tr.fits]at f;simp only[Tr.hb]at h;simp only[Tr.fill,Tr.hd];exact⟨h.1,zns hu ts h.2 f⟩
theorem zns{P:Str→Prop}{us:List Tr}(hu:∀u∈us,u.hd P):∀(ts:List Tr),hbs P ts→fitss us.length ts→hds P (fills us ts)
 | [],h,f=>by simp [fills,hds]
 |t::ts,h,f=>by
  simp only[fitss]at f;simp only[hbs]at h;simp only[fills,hds];exact⟨zhs hu t h.1 f.1,zns hu ts h.2 f.2⟩
end
structure BookOk (w0 w1 w2 w3 w4 w5:Str) (tt:List Str) (B:List Tn):Prop where
  lf:∃n m:Nat,B.map (fun t=>t.2.1)=leftsL n w0 w2 w3++leftsL m w1 w2 w3
  ti:B.map (fun t=>t.1)=tt.take B.length
  ri:∀t∈B,RightT [w0,w1,w2,w3,w4,w5] t.2.1.nb t.2.2
structure LeftT (P:Str→Prop) (L:Tr):Prop where
  hb:L.hb P
  fits:L.fits L.nb
  wt:L.weight≤L.nb+3
  dp:L.depth≤4
  nb:L.nb≤3
  nd:∃s ts,L= .nd s ts
  fw:∀us:List Tr,us.length=L.nb→(L.fill us).weight≤3+wts us
  fw0:L.nb=0→(L.fill []).weight≤2
theorem zgT{P:Str→Prop}{n:Nat}{h c d:Str}(hh:P h) (hc:P c) (hd:P d):∀L∈leftsL n h c d,LeftT P L:=by
 unfold leftsL;intro L hL;split at hL<;>simp only[List.mem_cons,List.not_mem_nil,or_false]at hL
 all_goals first
  | (subst hL;exact⟨by simp [Tr.hb,hbs,hh,hc,hd],by simp [Tr.fits,fitss,Tr.nb,nbs],by simp [Tr.weight,wts,Tr.nb,nbs],by simp [Tr.depth,dts],by simp [Tr.nb,nbs],⟨_,_,rfl⟩,fun us hu=>by rcases us with _ |⟨u,_ |⟨v,_ |⟨x,_ |⟨y,us⟩⟩⟩⟩<;>simp [Tr.nb,nbs,Tr.fill,fills,Tr.weight,wts]at hu⊢ <;>omega,fun h0=>by simp [Tr.nb,nbs,Tr.fill,fills,Tr.weight,wts]at h0⊢⟩)
  | (rcases hL with rfl |rfl<;>exact⟨by simp [Tr.hb,hbs,hh,hc,hd],by simp [Tr.fits,fitss,Tr.nb,nbs],by simp [Tr.weight,wts,Tr.nb,nbs],by simp [Tr.depth,dts],by simp [Tr.nb,nbs],⟨_,_,rfl⟩,fun us hu=>by rcases us with _ |⟨u,_ |⟨v,_ |⟨x,_ |⟨y,us⟩⟩⟩⟩<;>simp [Tr.nb,nbs,Tr.fill,fills,Tr.weight,wts]at hu⊢ <;>omega,fun h0=>by simp [Tr.nb,nbs,Tr.fill,fills,Tr.weight,wts]at h0⊢⟩)
section
variable {w0 w1 w2 w3 w4 w5:Str}{tt:List Str}{B:List Tn}
theorem BookOk.len (b:BookOk w0 w1 w2 w3 w4 w5 tt B):2≤B.length∧B.length≤4:=by
 obtain⟨n,m,e⟩:=b.lf;have h1:=zfG n w0 w2 w3;have h2:=zfG m w1 w2 w3;have e':=congrArg List.length e;rw [List.length_map,List.length_append]at e';omega
theorem BookOk.left (b:BookOk w0 w1 w2 w3 w4 w5 tt B) {P:Str→Prop}(h0:P w0) (h1:P w1) (h2:P w2) (h3:P w3) {t:Tn}(ht:t∈B):LeftT P t.2.1:=by
 obtain⟨n,m,e⟩:=b.lf;have:t.2.1∈leftsL n w0 w2 w3++leftsL m w1 w2 w3:=by rw [←e];exact List.mem_map.mpr ⟨t,ht,rfl⟩
 rcases List.mem_append.mp this with z |z
 ·exact zgT h0 h2 h3 _ z
 ·exact zgT h1 h2 h3 _ z
theorem BookOk.nodup (b:BookOk w0 w1 w2 w3 w4 w5 tt B) (T:Titles tt):(B.map fun t=>t.1).Nodup:=by
 rw [b.ti];exact List.Nodup.sublist (List.take_sublist ..) T.nd
theorem BookOk.mem (b:BookOk w0 w1 w2 w3 w4 w5 tt B) {t:Tn}(ht:t∈B):t.1∈tt:=by
 have:t.1∈B.map fun t=>t.1:=List.mem_map.mpr ⟨t,ht,rfl⟩;rw [b.ti]at this;exact List.mem_of_mem_take this
end
noncomputable def zaZ (B:List Tn) (s:Str):Option Tn:=B.find? fun t=>t.1 == s
theorem zcG:∀{B:List Tn}{t:Tn},(B.map fun t=>t.1).Nodup→t∈B→zaZ B t.1=some t
 |u::B,t,hn,ht=>by
  unfold zaZ;rw [List.map_cons,List.nodup_cons]at hn;rw [List.find?_cons];rcases List.mem_cons.mp ht with rfl |ht
  ·simp
  ·have hne:u.1≠t.1:=fun z=>hn.1 (by rw [z];exact List.mem_map.mpr ⟨t,ht,rfl⟩);have:(u.1 == t.1)=false:=by simpa using hne
   rw [this];exact zcG hn.2 ht
theorem zhX{B:List Tn}{s:Str}(h:∀t∈B,t.1≠s):zaZ B s=none:=by
 unfold zaZ;rw [List.find?_eq_none];intro t ht;simpa using h t ht
noncomputable def topB (B:List Tn) (s:Str) (n:Nat):Bool:=match zaZ B s with
 |none=>signB s
 |some t=>n == t.2.1.nb
mutual
noncomputable def Tr.way (B:List Tn):Tr→Bool
 | .bl _=>false
 | .nd s ts=>topB B s ts.length&&zgL B ts
noncomputable def zgL (B:List Tn):List Tr→Bool
 | []=>true
 |t::ts=>t.way B&&zgL B ts
end
mutual
noncomputable def Tr.quiet:Tr→Bool
 | .bl _=>false
 | .nd s ts=>signB s&&zeS ts
noncomputable def zeS:List Tr→Bool
 | []=>true
 |t::ts=>t.quiet&&zeS ts
end
theorem zjl (B:List Tn):∀ts:List Tr,zgL B ts=ts.all (Tr.way B)
 | []=>by simp [zgL]
 |t::ts=>by simp [zgL,zjl B ts]
theorem ziA:∀ts:List Tr,zeS ts=ts.all Tr.quiet
 | []=>by simp [zeS]
 |t::ts=>by simp [zeS,ziA ts]
mutual
theorem ziz:∀t:Tr,t.hd zdw→t.quiet=true
 | .bl n,h=>by simp [Tr.hd]at h
 | .nd s ts,h=>by
  simp only[Tr.hd]at h;rw [Tr.quiet,(zfw s).mpr h.1,zhz ts h.2];rfl
theorem zhz:∀ts:List Tr,hds zdw ts→zeS ts=true
 | [],h=>by simp [zeS]
 |t::ts,h=>by
  simp only[hds]at h;rw [zeS,ziz t h.1,zhz ts h.2];rfl
end
mutual
theorem zjg{B:List Tn}(hB:∀t∈B,zdp t.1) {us:List Tr}(hu:∀u∈us,u.way B=true):∀(t:Tr),t.hb zdw→t.fits us.length→(t.fill us).way B=true
 | .bl n,h,f=>by
  simp only[Tr.fits]at f;simp only[Tr.fill];rw [List.getD_eq_getElem?_getD,List.getElem?_eq_getElem (show n.toNat<us.length by omega)]
  exact hu _ (List.getElem_mem ..)
 | .nd s ts,h,f=>by
  simp only[Tr.fits]at f;simp only[Tr.hb]at h;simp only[Tr.fill,Tr.way];rw [zke hB hu ts h.2 f,topB,zhX fun t ht=>(zeL h.1 (hB t ht)).symm,(zfw s).mpr h.1];rfl
theorem zke{B:List Tn}(hB:∀t∈B,zdp t.1) {us:List Tr}(hu:∀u∈us,u.way B=true):∀(ts:List Tr),hbs zdw ts→fitss us.length ts→zgL B (fills us ts)=true
 | [],h,f=>by simp [fills,zgL]
 |t::ts,h,f=>by
  simp only[fitss]at f;simp only[hbs]at h;rw [fills,zgL,zjg hB hu t h.1 f.1,zke hB hu ts h.2 f.2];rfl
end
inductive Pl where
  |nd (k bits:Int) (head:Str) (ps:List Pl)
mutual
noncomputable def Pl.wt:Pl→Nat
 | .nd _ _ _ ps=>1+pwts ps
noncomputable def pwts:List Pl→Nat
 | []=>0
 |p::ps=>p.wt+pwts ps
end
mutual
noncomputable def Pl.dp:Pl→Nat
 | .nd _ _ _ ps=>1+zoe ps
noncomputable def zoe:List Pl→Nat
 | []=>0
 |p::ps=>max p.dp (zoe ps)
end
mutual
noncomputable def Pl.nt:Pl→Nat
 | .nd k _ _ ps=>(if k<0 then 0 else 1)+pnts ps
noncomputable def pnts:List Pl→Nat
 | []=>0
 |p::ps=>p.nt+pnts ps
end
inductive PlOk (ws:List Str) (B:List Tn):Pl→Prop
 |sign {b:Int}{h:Str}{ps:List Pl}:h∈ws→(∀p∈ps,PlOk ws B p)→PlOk ws B (.nd (-1) b h ps)
 |turn {k:Nat}{b:Int}{h:Str}{ps:List Pl}{t:Tn}:B[k]? =some t→ps.length=t.2.1.nb→0≤b→b<8→(∀p∈ps,PlOk ws B p)→PlOk ws B (.nd k b h ps)
mutual
noncomputable def Pl.ev (B:List Tn) (c:Int→Nat):Pl→Tr
 | .nd k b h ps=>if k<0 then .nd h (evs B c ps) else match c b with
  |0=>(B.getD k.toNat (h, .bl 0, .bl 0)).2.1.fill (evs B c ps)
  |1=> .nd (B.getD k.toNat (h, .bl 0, .bl 0)).1 (evs B c ps)
  |_=>(B.getD k.toNat (h, .bl 0, .bl 0)).2.2.fill (evs B c ps)
noncomputable def evs (B:List Tn) (c:Int→Nat):List Pl→List Tr
 | []=>[]
 |p::ps=>p.ev B c::evs B c ps
end
theorem zll (B:List Tn) (c:Int→Nat):∀ps:List Pl,evs B c ps=ps.map (Pl.ev B c)
 | []=>by simp [evs]
 |p::ps=>by simp [evs,zll B c ps]
theorem zct:∀ps qs:List Pl,pwts (ps++qs)=pwts ps+pwts qs
 | [],qs=>by simp [pwts]
 |p::ps,qs=>by simp [pwts,zct ps qs];omega
theorem zbX:∀ps qs:List Pl,pnts (ps++qs)=pnts ps+pnts qs
 | [],qs=>by simp [pnts]
 |p::ps,qs=>by simp [pnts,zbX ps qs];omega
theorem zgI{p:Pl}:∀{ps:List Pl},p∈ps→p.dp≤zoe ps
 |q::ps,h=>by
  rcases List.mem_cons.mp h with rfl |h
  ·simp [zoe];omega
  ·have:=zgI h;simp [zoe];omega
mutual
theorem znf:∀p:Pl,p.dp≤p.wt
 | .nd k b h ps=>by have:=zrc ps;simp [Pl.dp,Pl.wt];omega
theorem zrc:∀ps:List Pl,zoe ps≤pwts ps
 | []=>by simp [zoe]
 |p::ps=>by have:=znf p;have:=zrc ps;simp [zoe,pwts];omega
end
theorem ztE (p:Pl):1≤p.dp:=by cases p;simp [Pl.dp]
theorem zuo (p:Pl):1≤p.wt:=by cases p;simp [Pl.wt]
theorem zaM{B:List Tn}{c:Int→Nat}{b:Int}{h:Str}{ps:List Pl}:(Pl.nd (-1) b h ps).ev B c= .nd h (ps.map (Pl.ev B c)):=by
 rw [Pl.ev,if_pos (by decide),zll]
noncomputable def evT (t:Tn) (n:Nat) (us:List Tr):Tr:=match n with
 |0=>t.2.1.fill us
 |1=> .nd t.1 us
 |_=>t.2.2.fill us
theorem zaE{B:List Tn}{c:Int→Nat}{b:Int}{h:Str}{ps:List Pl}{k:Nat}{t:Tn}(e:B[k]? =some t):(Pl.nd k b h ps).ev B c=evT t (c b) (ps.map (Pl.ev B c)):=by
 rw [Pl.ev,if_neg (by omega),zll,Int.toNat_natCast,List.getD_eq_getElem?_getD,e];rfl
section
variable {ws:List Str}{m:Nat}{t:Tr}
theorem zdg (h:Item ws m t):t.depth=1:=by
 cases h<;>simp [Tr.depth,dts]
theorem zec (h:RightT ws m t):t.depth≤3:=by
 cases h with
 |one h=>rw [zdg h];decide
 |un hs h=>simp [Tr.depth,dts,zdg h]
 |two hs h0 h h'=>simp [Tr.depth,dts,zdg h,zdg h']
 |deep hs hz h0 h h'=>simp [Tr.depth,dts,zdg h,zdg h']
theorem zdV (h:Item ws m t):t.fits m:=by
 cases h with
 |bl h0 h1=>exact⟨h0,h1⟩
 |nd hs=>simp [Tr.fits,fitss]
theorem zcx (h:RightT ws m t):t.fits m:=by
 cases h with
 |one h=>exact zdV h
 |un hs h=>simp [Tr.fits,fitss,zdV h]
 |two hs h0 h h'=>simp [Tr.fits,fitss,zdV h,zdV h']
 |deep hs hz h0 h h'=>simp [Tr.fits,fitss,zdV h,zdV h']
theorem zgg{P:Str→Prop}(hP:∀x∈ws,P x) (h:Item ws m t):t.hb P:=by
 cases h with
 |bl h0 h1=>simp [Tr.hb]
 |nd hs=>simp [Tr.hb,hbs,hP _ hs]
theorem zeK{P:Str→Prop}(hP:∀x∈ws,P x) (h:RightT ws m t):t.hb P:=by
 cases h with
 |one h=>exact zgg hP h
 |un hs h=>simp [Tr.hb,hbs,zgg hP h,hP _ hs]
 |two hs h0 h h'=>simp [Tr.hb,hbs,zgg hP h,zgg hP h',hP _ hs]
 |deep hs hz h0 h h'=>simp [Tr.hb,hbs,zgg hP h,zgg hP h',hP _ hs,hP _ hz]
theorem zcy (h:Item ws m t):t.weight=1:=by
 cases h<;>simp [Tr.weight,wts]
theorem zgv (h:RightT ws m t):t.weight≤4:=by
 cases h with
 |one h=>rw [zcy h];decide
 |un hs h=>simp [Tr.weight,wts,zcy h]
 |two hs h0 h h'=>simp [Tr.weight,wts,zcy h,zcy h']
 |deep hs hz h0 h h'=>simp [Tr.weight,wts,zcy h,zcy h']
theorem zdQ (h:Item ws m t) {us:List Tr}{M:Nat}(hl:us.length=m) (hM:1≤M) (hu:∀u∈us,u.weight≤M):(t.fill us).weight≤M:=by
 cases h with
 | @bl n h0 h1=>
  simp only[Tr.fill];rw [List.getD_eq_getElem?_getD,List.getElem?_eq_getElem (show n.toNat<us.length by omega)]
  exact hu _ (List.getElem_mem ..)
 |nd hs=>simp [Tr.fill,fills,Tr.weight,wts];omega
theorem ziy (h:RightT ws m t) {us:List Tr}{M:Nat}(hl:us.length=m) (hM:1≤M) (hu:∀u∈us,u.weight≤M):(t.fill us).weight≤2+2*M∧(m=0→(t.fill us).weight≤1+M):=by
 cases h with
 |one h=>
  have:=zdQ h hl hM hu;omega
 |un hs h=>
  have:=zdQ h hl hM hu;simp only[Tr.fill,fills,Tr.weight,wts];omega
 |two hs h0 h h'=>
  have:=zdQ h hl hM hu;have:=zdQ h' hl hM hu;simp only[Tr.fill,fills,Tr.weight,wts];omega
 |deep hs hz h0 h h'=>
  have:=zdQ h hl hM hu;have:=zdQ h' hl hM hu;simp only[Tr.fill,fills,Tr.weight,wts];omega
end
structure BkOk (ws hs:List Str) (B:List Tn):Prop where
  ti:∀t∈B,zdp t.1
  nd:(B.map fun t=>t.1).Nodup
  sg:∀x∈ws,zdw x
  sb:∀x∈hs,x∈ws
  lf:∀t∈B,LeftT zdw t.2.1
  ri:∀t∈B,RightT ws t.2.1.nb t.2.2
theorem BookOk.bk{w0 w1 w2 w3 w4 w5:Str}{tt:List Str}{B:List Tn}(b:BookOk w0 w1 w2 w3 w4 w5 tt B) (T:Titles tt) (G:Signs w0 w1 w2 w3 w4 w5):BkOk [w0,w1,w2,w3,w4,w5] [w2,w3,w4,w5] B:=
 ⟨fun t ht=>T.ok _ (b.mem ht),b.nodup T,G.ok,fun x hx=>List.mem_cons_of_mem _ (List.mem_cons_of_mem _ hx),fun t ht=>b.left (G.ok _ (by simp)) (G.ok _ (by simp)) (G.ok _ (by simp)) (G.ok _ (by simp)) ht,b.ri⟩
section
variable {ws hs:List Str}{B:List Tn}{c:Int→Nat}
theorem ztu (b:BkOk ws hs B) {p:Pl}(h:PlOk hs B p):(p.ev B c).way B=true:=by
 induction h with
 | @sign b' h ps hh hp ih=>
  rw [zaM,Tr.way,topB,zhX fun t ht=>(zeL (b.sg h (b.sb h hh)) (b.ti t ht)).symm,zjl,(zfw h).mpr (b.sg h (b.sb h hh))];simp only[List.all_map,Bool.true_and,List.all_eq_true];exact fun p hp=>ih p hp
 | @turn k b' h ps t e hl b0 b1 hp ih=>
  have ht:t∈B:=List.mem_of_getElem? e;have hu:∀u∈ps.map (Pl.ev B c),u.way B=true:=fun u hu=>by
   obtain⟨p,hp,rfl⟩:=List.mem_map.mp hu;exact ih p hp
  rw [zaE e];unfold evT;split
  ·exact zjg b.ti hu _ (b.lf t ht).hb (by rw [List.length_map,hl];exact(b.lf t ht).fits)
  ·rw [Tr.way,topB,zcG b.nd ht,zjl];simp only[List.length_map,hl,beq_self_eq_true,Bool.true_and,List.all_eq_true];exact hu
  ·exact zjg b.ti hu _ (zeK b.sg (b.ri t ht)) (by rw [List.length_map,hl];exact zcx (b.ri t ht))
theorem zzn (b:BkOk ws hs B) {P:Str→Prop}(hP:∀s,zdw s→P s) (hc:(∃b,0≤b∧b<8∧c b=1)→ ∀t∈B,P t.1) {p:Pl}(h:PlOk hs B p):(p.ev B c).hd P:=by
 induction h with
 | @sign b' h ps hh hp ih=>
  rw [zaM,Tr.hd,hds_iff];refine⟨hP _ (b.sg h (b.sb h hh)),fun t ht=>?_⟩;obtain⟨p,hp,rfl⟩:=List.mem_map.mp ht;exact ih p hp
 | @turn k b' h ps t e hl b0 b1 hp ih=>
  have ht:t∈B:=List.mem_of_getElem? e;have hu:∀u∈ps.map (Pl.ev B c),u.hd P:=fun u hu=>by
   obtain⟨p,hp,rfl⟩:=List.mem_map.mp hu;exact ih p hp
  rw [zaE e];unfold evT;split
  ·exact zhs hu _ (zjr hP _ (b.lf t ht).hb) (by rw [List.length_map,hl];exact(b.lf t ht).fits)
  ·rename_i ec;rw [Tr.hd,hds_iff];exact⟨hc ⟨b',b0,b1,ec⟩ t ht,hu⟩
  ·exact zhs hu _ (zjr hP _ (zeK b.sg (b.ri t ht))) (by rw [List.length_map,hl];exact zcx (b.ri t ht))
theorem zjw{p:Pl}:∀{ps:List Pl},p∈ps→p.nt≤pnts ps
 |q::ps,h=>by
  rcases List.mem_cons.mp h with rfl |h
  ·simp [pnts]
  ·have:=zjw h;simp [pnts];omega
theorem zni{p:Pl}:∀{ps:List Pl},p∈ps→p.wt≤pwts ps
 |q::ps,h=>by
  rcases List.mem_cons.mp h with rfl |h
  ·simp [pwts]
  ·have:=zni h;simp [pwts];omega
theorem zff (n:Nat):1≤2 ^ n:=Nat.one_le_two_pow
mutual
theorem zhD:∀t:Tr,(t.fill []).depth=t.depth
 | .bl n=>by simp [Tr.fill]
 | .nd s ts=>by simp [Tr.fill,Tr.depth,zgt ts]
theorem zgt:∀ts:List Tr,dts (fills [] ts)=dts ts
 | []=>by simp [fills]
 |t::ts=>by simp [fills,dts,zhD t,zgt ts]
end
end
mutual
noncomputable def Tr.mk (B:List Tn) (g:Tn→Tr):Tr→Tr
 | .bl n=> .bl n
 | .nd s ts=>match zaZ B s with
  |none=> .nd s (mks B g ts)
  |some t=>(g t).fill (mks B g ts)
noncomputable def mks (B:List Tn) (g:Tn→Tr):List Tr→List Tr
 | []=>[]
 |t::ts=>t.mk B g::mks B g ts
end
theorem zhr (B:List Tn) (g:Tn→Tr):∀ts:List Tr,mks B g ts=ts.map (Tr.mk B g)
 | []=>by simp [mks]
 |t::ts=>by simp [mks,zhr B g ts]
theorem zlD{B:List Tn}{g:Tn→Tr}{s:Str}{ts:List Tr}(h:zaZ B s=none):(Tr.nd s ts).mk B g= .nd s (ts.map (Tr.mk B g)):=by
 rw [Tr.mk,h,zhr]
theorem zmk{B:List Tn}{g:Tn→Tr}{s:Str}{ts:List Tr}{t:Tn}(h:zaZ B s=some t):(Tr.nd s ts).mk B g=(g t).fill (ts.map (Tr.mk B g)):=by
 rw [Tr.mk,h,zhr]
theorem zbi{B:List Tn}(hB:∀t∈B,zdp t.1) {s:Str}(h:zdw s):zaZ B s=none:=zhX fun t ht=>(zeL h (hB t ht)).symm
mutual
theorem ziS{B:List Tn}{g:Tn→Tr}(hB:∀t∈B,zdp t.1) {us:List Tr}:∀t:Tr,t.hb zdw→t.fits us.length→(t.fill us).mk B g=t.fill (us.map (Tr.mk B g))
 | .bl n,h,f=>by
  simp only[Tr.fits]at f;simp only[Tr.fill];rw [List.getD_eq_getElem?_getD,List.getD_eq_getElem?_getD,List.getElem?_map,List.getElem?_eq_getElem (show n.toNat<us.length by omega)]
  rfl
 | .nd s ts,h,f=>by
  simp only[Tr.hb]at h;simp only[Tr.fits]at f;simp only[Tr.fill];rw [Tr.mk,zbi hB h.1];simp only[];rw [znd hB ts h.2 f]
theorem znd{B:List Tn}{g:Tn→Tr}(hB:∀t∈B,zdp t.1) {us:List Tr}:∀ts:List Tr,hbs zdw ts→fitss us.length ts→mks B g (fills us ts)=fills (us.map (Tr.mk B g)) ts
 | [],h,f=>by simp [fills,mks]
 |t::ts,h,f=>by
  simp only[hbs]at h;simp only[fitss]at f;rw [fills,mks,fills,ziS hB t h.1 f.1,znd hB ts h.2 f.2]
end
section
variable {ws hs:List Str}{B:List Tn}{c d:Int→Nat}
theorem zxT (b:BkOk ws hs B) {g:Tn→Tr}(hg:∀t∈B,∀x:Int,0≤x→x<8→c x=1→ ∀us,(g t).fill us=evT t (d x) us) (h0:∀x:Int,0≤x→x<8→c x≠1→d x=c x) {p:Pl}(h:PlOk hs B p):(p.ev B c).mk B g=p.ev B d:=by
 induction h with
 | @sign b' h ps hh hp ih=>
  rw [zaM,zaM,zlD (zbi b.ti (b.sg h (b.sb h hh))),List.map_map];congr 1;exact List.map_congr_left fun p hp=>ih p hp
 | @turn k b' h ps t e hl b0 b1 hp ih=>
  have ht:t∈B:=List.mem_of_getElem? e;have em:(ps.map (Pl.ev B c)).map (Tr.mk B g)=ps.map (Pl.ev B d):=by
   rw [List.map_map];exact List.map_congr_left fun p hp=>ih p hp
  rw [zaE e,zaE e];by_cases hc:c b'=1
  ·rw [←hg t ht b' b0 b1 hc,hc];show(Tr.nd t.1 _).mk B g=_;rw [zmk (zcG b.nd ht),em]
  ·rw [h0 b' b0 b1 hc];unfold evT;split
   ·rw [ziS b.ti _ (b.lf t ht).hb (by rw [List.length_map,hl];exact(b.lf t ht).fits),em]
   ·rename_i z;exact absurd z hc
   ·rw [ziS b.ti _ (zeK b.sg (b.ri t ht)) (by rw [List.length_map,hl];exact zcx (b.ri t ht)),em]
noncomputable def zjE (c:Int→Nat):Int→Nat:=fun x=>if c x=1 then 0 else c x
noncomputable def zby (c:Int→Nat):Int→Nat:=fun x=>if c x=1 then 2 else c x
theorem zhy (b:BkOk ws hs B) {p:Pl}(h:PlOk hs B p):(p.ev B c).mk B (fun t=>t.2.1)=p.ev B (zjE c):=
 zxT b (fun t ht x _ _ hx us=>by rw [zjE,if_pos hx];rfl) (fun x _ _ hx=>by rw [zjE,if_neg hx]) h
theorem zcl (b:BkOk ws hs B) {p:Pl}(h:PlOk hs B p):(p.ev B c).mk B (fun t=>t.2.2)=p.ev B (zby c):=
 zxT b (fun t ht x _ _ hx us=>by rw [zby,if_pos hx];rfl) (fun x _ _ hx=>by rw [zby,if_neg hx]) h
theorem zcQ{p:Pl}(h:PlOk hs B p) (hc:∀x:Int,0≤x→x<8→c x=d x):p.ev B c=p.ev B d:=by
 induction h with
 | @sign b' h ps hh hp ih=>
  rw [zaM,zaM];congr 1;exact List.map_congr_left fun p hp=>ih p hp
 | @turn k b' h ps t e hl b0 b1 hp ih=>
  rw [zaE e,zaE e,hc b' b0 b1];congr 1;exact List.map_congr_left fun p hp=>ih p hp
end
theorem zmz{n:Nat}{h c d:Str}{L:Tr}(hL:L∈leftsL n h c d) {us:List Tr}(hu:us.length=L.nb):L.mt (L.fill us)=some us:=by
 unfold leftsL at hL;split at hL<;>simp only[List.mem_cons,List.not_mem_nil,or_false]at hL
 all_goals first
  | (subst hL;rcases us with _ |⟨u,_ |⟨v,_ |⟨x,_ |⟨y,us⟩⟩⟩⟩<;>simp [Tr.nb,nbs,Tr.fill,fills,Tr.mt,mts]at hu⊢ <;>omega)
  | (rcases hL with rfl |rfl<;>rcases us with _ |⟨u,_ |⟨v,_ |⟨x,_ |⟨y,us⟩⟩⟩⟩<;>simp [Tr.nb,nbs,Tr.fill,fills,Tr.mt,mts]at hu⊢ <;>omega)
noncomputable def zyj (B:List Tn):Prop:=∀t∈B,∀us:List Tr,us.length=t.2.1.nb→t.2.1.mt (t.2.1.fill us)=some us
theorem BookOk.mt{w0 w1 w2 w3 w4 w5:Str}{tt:List Str}{B:List Tn}(b:BookOk w0 w1 w2 w3 w4 w5 tt B):zyj B:=fun t ht us hu=>by
 obtain⟨n,m,e⟩:=b.lf;have:t.2.1∈leftsL n w0 w2 w3++leftsL m w1 w2 w3:=by rw [←e];exact List.mem_map.mpr ⟨t,ht,rfl⟩
 rcases List.mem_append.mp this with z |z
 ·exact zmz z hu
 ·exact zmz z hu
mutual
inductive Mv (B:List Tn):Nat→Tr→Tr→Tr→Prop
 |nn {n:Nat}{s z:Str}{ts us cs:List Tr}:zaZ B s=none→zaZ B z=none→Mvs B n ts us cs→Mv B (n+1) (.nd s ts) (.nd z us) (.nd s cs)
 |ns {n:Nat}{s z:Str}{ts us cs ms:List Tr}{t:Tn}:zaZ B s=none→zaZ B z=some t→t.2.1.mt (.nd s ts)=some ms→cs.length=t.2.1.nb→Mvs B n ms us cs→Mv B (n+1) (.nd s ts) (.nd z us) (t.2.2.fill cs)
 |sn {n:Nat}{s z:Str}{ts us cs ms:List Tr}{t:Tn}:zaZ B s=some t→zaZ B z=none→t.2.1.mt (.nd z us)=some ms→Mvs B n ts ms cs→Mv B (n+1) (.nd s ts) (.nd z us) (.nd s cs)
 |ss {n:Nat}{s z:Str}{ts us cs:List Tr}{t t':Tn}:zaZ B s=some t'→zaZ B z=some t→cs.length=t.2.1.nb→Mvs B n ts us cs→Mv B (n+1) (.nd s ts) (.nd z us) (t.2.2.fill cs)
inductive Mvs (B:List Tn):Nat→List Tr→List Tr→List Tr→Prop
 |nil {n:Nat}:Mvs B n [] [] []
 |cons {n:Nat}{a b c:Tr}{as bs cs:List Tr}:Mv B n a b c→Mvs B n as bs cs→Mvs B n (a::as) (b::bs) (c::cs)
end
mutual
theorem Mv.monoA{B:List Tn}:∀{n:Nat}{a b c:Tr},Mv B n a b c→ ∀m,n≤m→Mv B m a b c
 |_,_,_,_, .nn h1 h2 h3=>fun m h=>by
  obtain⟨m,rfl⟩:∃m',m=m'+1:=⟨m - 1,by omega⟩
  exact .nn h1 h2 (Mvs.monoA h3 m (by omega))
 |_,_,_,_, .ns h1 h2 h3 h4 h5=>fun m h=>by
  obtain⟨m,rfl⟩:∃m',m=m'+1:=⟨m - 1,by omega⟩
  exact .ns h1 h2 h3 h4 (Mvs.monoA h5 m (by omega))
 |_,_,_,_, .sn h1 h2 h3 h4=>fun m h=>by
  obtain⟨m,rfl⟩:∃m',m=m'+1:=⟨m - 1,by omega⟩
  exact .sn h1 h2 h3 (Mvs.monoA h4 m (by omega))
 |_,_,_,_, .ss h1 h2 h3 h4=>fun m h=>by
  obtain⟨m,rfl⟩:∃m',m=m'+1:=⟨m - 1,by omega⟩
  exact .ss h1 h2 h3 (Mvs.monoA h4 m (by omega))
theorem Mvs.monoA{B:List Tn}:∀{n:Nat}{a b c:List Tr},Mvs B n a b c→ ∀m,n≤m→Mvs B m a b c
 |_,_,_,_, .nil=>fun _ _=> .nil
 |_,_,_,_, .cons h1 h2=>fun m h=> .cons (Mv.monoA h1 m h) (Mvs.monoA h2 m h)
end
theorem Mv.mono{B:List Tn}{n m:Nat}{a b c:Tr}(h:n≤m) (M:Mv B n a b c):Mv B m a b c:=Mv.monoA M m h
theorem Mvs.mono{B:List Tn}{n m:Nat}{a b c:List Tr}(h:n≤m) (M:Mvs B n a b c):Mvs B m a b c:=Mvs.monoA M m h
theorem Mvs.get{B:List Tn}{n:Nat}:∀{as bs cs:List Tr}{i:Nat},Mvs B n as bs cs→i<cs.length→ ∃a b c,as[i]? =some a∧bs[i]? =some b∧cs[i]? =some c∧Mv B n a b c
 |_,_,_,i, .nil,h=>by simp at h
 |_,_,_,0, .cons h1 _,h=>⟨_,_,_,rfl,rfl,rfl,h1⟩
 |_,_,_,i+1, .cons _ h2,h=>by
  obtain⟨a,b,c,e1,e2,e3,q⟩:=Mvs.get (i:=i) h2 (by simpa using h);exact⟨a,b,c,by simpa using e1,by simpa using e2,by simpa using e3,q⟩
theorem Mvs.of{B:List Tn}{n:Nat}{α:Type}{f g h:α→Tr}:∀(xs:List α),(∀x∈xs,Mv B n (f x) (g x) (h x))→Mvs B n (xs.map f) (xs.map g) (xs.map h)
 | [],_=> .nil
 |x::xs,q=> .cons (q x List.mem_cons_self) (Mvs.of xs fun y hy=>q y (List.mem_cons_of_mem _ hy))
mutual
theorem zmh{B:List Tn}(hB:∀t∈B,zdp t.1) {n:Nat}{us vs cs:List Tr}(h:Mvs B n us vs cs):∀t:Tr,t.hb zdw→t.fits cs.length→Mv B (n+t.depth) (t.fill us) (t.fill vs) (t.fill cs)
 | .bl k,q,f=>by
  simp only[Tr.fits]at f;obtain⟨a,b,c,e1,e2,e3,m⟩:=h.get (i:=k.toNat) (by omega);simp only[Tr.fill,List.getD_eq_getElem?_getD,e1,e2,e3,Option.getD_some];exact m.mono (by omega)
 | .nd s ts,q,f=>by
  simp only[Tr.hb]at q;simp only[Tr.fits]at f;have:=znJ hB h ts q.2 f;simp only[Tr.fill,Tr.depth];rw [show n+(1+dts ts)=n+dts ts+1 by omega]
  exact .nn (zbi hB q.1) (zbi hB q.1) this
theorem znJ{B:List Tn}(hB:∀t∈B,zdp t.1) {n:Nat}{us vs cs:List Tr}(h:Mvs B n us vs cs):∀ts:List Tr,hbs zdw ts→fitss cs.length ts→Mvs B (n+dts ts) (fills us ts) (fills vs ts) (fills cs ts)
 | [],q,f=>by simp only[fills];exact .nil
 |t::ts,q,f=>by
  simp only[hbs]at q;simp only[fitss]at f;have h1:=zmh hB h t q.1 f.1;have h2:=znJ hB h ts q.2 f.2;simp only[fills,dts];exact .cons (h1.mono (by omega)) (h2.mono (by omega))
end
noncomputable def zgl (c d:Int→Nat):Int→Nat:=fun x=>if d x=1 then 2 else c x
theorem zdJ{ws hs:List Str}{B:List Tn}{c d:Int→Nat}(b:BkOk ws hs B) (hm:zyj B) (hc:∀x:Int,0≤x→x<8→(c x≤1∧d x≤1)∨(c x=2∧d x=2)) {p:Pl}(h:PlOk hs B p):Mv B (p.dp+3*p.nt) (p.ev B c) (p.ev B d) (p.ev B (zgl c d)):=by
 induction h with
 | @sign b' h ps hh hp ih=>
  rw [zaM,zaM,zaM,Pl.dp,Pl.nt,if_pos (by decide),show 1+zoe ps+3*(0+pnts ps)=zoe ps+3*pnts ps+1 by omega]
  refine .nn (zbi b.ti (b.sg h (b.sb h hh))) (zbi b.ti (b.sg h (b.sb h hh))) (.of ps fun p hp=>(ih p hp).mono ?_);have:=zgI hp;have:=zjw hp;omega
 | @turn k b' h ps t e hl b0 b1 hp ih=>
  have ht:t∈B:=List.mem_of_getElem? e;have en:(Pl.nd k b' h ps).nt=1+pnts ps:=by rw [Pl.nt,if_neg (by omega)]
  have M:Mvs B (zoe ps+3*pnts ps) (ps.map (Pl.ev B c)) (ps.map (Pl.ev B d)) (ps.map (Pl.ev B (zgl c d))):= .of ps fun p hp=>(ih p hp).mono (by
   have:=zgI hp;have:=zjw hp;omega)
  have lc:(ps.map (Pl.ev B (zgl c d))).length=t.2.1.nb:=by rw [List.length_map,hl]
  have l1:(ps.map (Pl.ev B c)).length=t.2.1.nb:=by rw [List.length_map,hl]
  have l2:(ps.map (Pl.ev B d)).length=t.2.1.nb:=by rw [List.length_map,hl]
  have tt:=zcG b.nd ht;have L:=b.lf t ht;have R:=b.ri t ht;have hd:=L.dp;rw [zaE e,zaE e,zaE e,Pl.dp,en,show 1+zoe ps+3*(1+pnts ps)=zoe ps+3*pnts ps+3+1 by omega]
  have lsign:∀us,∃s ts,t.2.1.fill us= .nd s ts∧zaZ B s=none:=fun us=>by
   obtain⟨s,ts,el⟩:=L.nd;have hb:=L.hb;rw [el,Tr.hb]at hb;exact⟨s,fills us ts,by rw [el,Tr.fill],zbi b.ti hb.1⟩
  have hp:zgl c d b'=if d b'=1 then 2 else c b':=rfl;rw [hp];rcases hc b' b0 b1 with⟨c1,d1⟩ |⟨c2,d2⟩
  ·by_cases dz:d b'=1
   ·rw [if_pos dz,dz];by_cases cz:c b'=1
    ·rw [cz];exact .ss tt tt lc (M.mono (by omega))
    ·rw [show c b'=0 by omega]
     obtain⟨s,ts,es,hs⟩:=lsign (ps.map (Pl.ev B c));have:=hm t ht _ l1;simp only[evT];rw [es]at this⊢;exact .ns hs tt this lc (M.mono (by omega))
   ·rw [if_neg dz,show d b'=0 by omega]
    by_cases cz:c b'=1
    ·rw [cz];obtain⟨s,ts,es,hs⟩:=lsign (ps.map (Pl.ev B d));have:=hm t ht _ l2;simp only[evT];rw [es]at this⊢;exact .sn tt hs this (M.mono (by omega))
    ·rw [show c b'=0 by omega]
     simp only[evT];exact(zmh b.ti M _ L.hb (by rw [lc];exact L.fits)).mono (by omega)
  ·rw [d2,if_neg (by decide),c2];simp only[evT];have:=zec R;exact(zmh b.ti M _ (zeK b.sg R) (by rw [lc];exact zcx R)).mono (by omega)
theorem zpP{P:Str→Prop}:∀{ts us:List Tr},hds P ts→hds P us→hds P (ts++us)
 | [],us,_,h=>h
 |t::ts,us,h,g=>by
  simp only[hds,List.cons_append]at h⊢;exact⟨h.1,zpP h.2 g⟩
mutual
inductive PlAt (S:Sto):Pl→W→Prop
 |nd {k b:Int}{h:Str}{ps:List Pl}{a:Addr}{vs:List W}:S a=some (.lst vs)→PlsAt S ps vs→PlAt S (.nd k b h ps) (.tup [.int k, .int b, .str h, .ref a])
inductive PlsAt (S:Sto):List Pl→List W→Prop
 |nil:PlsAt S [] []
 |cons {p:Pl}{v:W}{ps:List Pl}{vs:List W}:PlAt S p v→PlsAt S ps vs→PlsAt S (p::ps) (v::vs)
end
mutual
theorem PlAt.sub{S S':Sto}(h:Sub S S'):∀{p:Pl}{v:W},PlAt S p v→PlAt S' p v
 |_,_, .nd e q=> .nd (h _ _ e) (PlsAt.sub h q)
theorem PlsAt.sub{S S':Sto}(h:Sub S S'):∀{ps:List Pl}{vs:List W},PlsAt S ps vs→PlsAt S' ps vs
 |_,_, .nil=> .nil
 |_,_, .cons a b=> .cons (PlAt.sub h a) (PlsAt.sub h b)
end
section
variable {S:Sto}
theorem PlsAt.len:∀{ps:List Pl}{vs:List W},PlsAt S ps vs→ps.length=vs.length
 |_,_, .nil=>rfl
 |_,_, .cons _ h=>congrArg (· +1) (PlsAt.len h)
theorem PlsAt.app:∀{ps qs:List Pl}{vs us:List W},PlsAt S ps vs→PlsAt S qs us→PlsAt S (ps++qs) (vs++us)
 |_,_,_,_, .nil,h=>h
 |_,_,_,_, .cons a b,h=> .cons a (PlsAt.app b h)
theorem PlsAt.take:∀(n:Nat) {ps:List Pl}{vs:List W},PlsAt S ps vs→PlsAt S (ps.take n) (vs.take n)
 |0,_,_,_=> .nil
 |_+1,_,_, .nil=> .nil
 |n+1,_,_, .cons a b=> .cons a (PlsAt.take n b)
theorem PlsAt.drop:∀(n:Nat) {ps:List Pl}{vs:List W},PlsAt S ps vs→PlsAt S (ps.drop n) (vs.drop n)
 |0,_,_,h=>h
 |_+1,_,_, .nil=> .nil
 |n+1,_,_, .cons _ b=>PlsAt.drop n b
theorem PlsAt.rep{p:Pl}{v:W}(h:PlAt S p v):∀n:Nat,PlsAt S (List.replicate n p) (List.replicate n [v]).flatten
 |0=> .nil
 |n+1=>by
  rw [List.replicate_succ,List.replicate_succ,List.flatten_cons];exact .cons h (PlsAt.rep h n)
end
noncomputable def pad (w:Str):Pl:= .nd (-1) 0 w []
noncomputable def zbJ (need:Nat) (w:Str) (ps:List Pl):List Pl:=List.replicate (need - ps.length) (pad w)++ps
noncomputable def push (need:Nat) (w:Str) (k b:Int) (h:Str) (ps:List Pl):List Pl:=
 (zbJ need w ps).take ((zbJ need w ps).length - need)++[.nd k b h ((zbJ need w ps).drop ((zbJ need w ps).length - need))]
theorem zmQ (w:Str):∀n:Nat,pwts (List.replicate n (pad w))=n
 |0=>by simp [pwts]
 |n+1=>by rw [List.replicate_succ,pwts,zmQ w n];simp [pad,Pl.wt,pwts];omega
theorem znq (w:Str):∀n:Nat,pnts (List.replicate n (pad w))=0
 |0=>by simp [pnts]
 |n+1=>by rw [List.replicate_succ,pnts,znq w n];simp [pad,Pl.nt,pnts]
theorem zha:∀ps:List Pl,ps.length≤pwts ps
 | []=>by simp
 |p::ps=>by have:=zha ps;have:=zuo p;simp [pwts];omega
theorem zeE (need:Nat) (w:Str) (ps:List Pl):(zbJ need w ps).length=need - ps.length+ps.length:=by simp [zbJ]
theorem zpl{need:Nat}{w:Str}{k b:Int}{h:Str}{ps:List Pl}:pwts (push need w k b h ps)=need - ps.length+pwts ps+1∧pnts (push need w k b h ps)=pnts ps+(if k<0 then 0 else 1)∧(push need w k b h ps).length=need - ps.length+ps.length - need+1:=by
 have hl:=zeE need w ps;have h1:pwts (zbJ need w ps)=need - ps.length+pwts ps:=by rw [zbJ,zct,zmQ]
 have h2:pnts (zbJ need w ps)=pnts ps:=by rw [zbJ,zbX,znq];omega
 have h3:=zct ((zbJ need w ps).take ((zbJ need w ps).length - need)) ((zbJ need w ps).drop ((zbJ need w ps).length - need));have h4:=zbX ((zbJ need w ps).take ((zbJ need w ps).length - need)) ((zbJ need w ps).drop ((zbJ need w ps).length - need));rw [List.take_append_drop]at h3 h4;unfold push;refine⟨?_,?_,?_⟩
 ·rw [zct,pwts,pwts,Pl.wt];omega
 ·rw [zbX,pnts,pnts,Pl.nt];omega
 ·rw [List.length_append,List.length_take,List.length_singleton,hl];omega
theorem zot{need:Nat}{w:Str}(ps:List Pl):((zbJ need w ps).drop ((zbJ need w ps).length - need)).length=need:=by
 have hl:=zeE need w ps;rw [List.length_drop,hl];omega
theorem zkY{ws:List Str}{B:List Tn}{need:Nat}{w:Str}{ps:List Pl}(hw:w∈ws) (h:∀p∈ps,PlOk ws B p):∀p∈zbJ need w ps,PlOk ws B p:=fun p hp=>by
 rcases List.mem_append.mp hp with z |z
 ·rw [(List.mem_replicate.mp z).2];exact .sign hw fun q hq=>by cases hq
 ·exact h p z
theorem zum{ws:List Str}{B:List Tn}{need:Nat}{w:Str}{k b:Int}{h:Str}{ps:List Pl}(hw:w∈ws) (hp:∀p∈ps,PlOk ws B p) (hn:∀qs:List Pl,qs.length=need→(∀q∈qs,PlOk ws B q)→PlOk ws B (.nd k b h qs)):∀p∈push need w k b h ps,PlOk ws B p:=fun p hq=>by
 rcases List.mem_append.mp hq with z |z
 ·exact zkY hw hp p (List.mem_of_mem_take z)
 ·rw [List.mem_singleton.mp z];exact hn _ (zot ps) fun q hq=>zkY hw hp q (List.mem_of_mem_drop hq)
noncomputable def zsO:WS:=(zcL (zqO (wTb (wOp oGt (zad 3) (wC (.int 0)))) (wTb (wOp oLt (zad 5) (wC (.int 5))))) (zas (wAsg (wOp (zfA fun i j=> .int (i - j)) (zad 3) (wC (.int 1))) (wGN 3))
  (zas (wAsg (zdh (zsB (zsc (zdW (zab (zcf (zab (zlN (wC (.int 1))) (zab (wC (.int 0)) (zab (wOp oIx (zad 2) (wC (.int 2))) (zab (zdh (zdW waNil)) waNil))))) waNil)) (wOp (zfA fun i j=> .int (i - j)) (zad 8) (wB zgh (zab (zad 4) waNil)))) (zad 4))) (wGN 4))
  (zas (wAsg (wOp (zfA fun i j=> .int (i - j)) (wB zgh (zab (zad 4) waNil)) (zad 8)) (wGN 11))
  (wAsg (zdh (zoo (zvC (zad 4) woN (woS (zad 11))) (zdW (zab (wOp zem (zad 9) (zcf (zab (wSl (zad 4) (woS (zad 11)) woN) waNil))) waNil)))) (wGN 4))))) zaO)
theorem zrg{r:Nat}:zfI r zba=(zas (wAsg (wOp (zdC (fun _ j=>0<j) fun i j=> .int (i % j)) (zad 6) (wC (.int 8))) (wGN 7))
  (zas (wAsg (zts (zdW (zab (wC (.int 0)) (zab (wC (.int 0)) (zab (wC (.int 1)) (zab (wC (.int 2)) waNil))))) (wB zld (zab (zad 7) (zab (wC (.int 3)) waNil)))) (wGN 8))
  (zas (wAsg (zcf (zab (zlN (wC (.int 1))) (zab (wC (.int 0)) (zab (wOp oIx (zad 2) (zts (zdW (zab (wC (.int 2)) (zab (wC (.int 5)) (zab (wC (.int 3)) (zab (wC (.int 4)) waNil))))) (wB zld (zab (zad 7) (zab (wC (.int 3)) waNil))))) waNil)))) (wGN 9))
  (zas (zcL (wTb (wOp oGt (zad 7) (wC (.int 3)))) (zas (wAsg (wOp (zdC (fun _ j=>0<j) fun i j=> .int (i % j)) (wOp (zdC zjD fun i j=> .int (i / j)) (zad 6) (wC (.int 8))) (wB zgh (zab (zad 1) waNil))) (wGN 10))
  (zas (wAsg (zam (zaA r) (zab (wOp oIx (wOp oIx (zad 1) (zad 10)) (wC (.int 1))) waNil)) (wGN 8))
  (zas (wAsg (zcf (zab (zad 10) (zab (wOp (zdC (fun _ j=>0<j) fun i j=> .int (i % j)) (wOp (zdC zjD fun i j=> .int (i / j)) (zad 6) (wC (.int 64))) (wC (.int 8))) (zab (wC (.str "")) waNil)))) (wGN 9))
  (wAsg (wOp zem (zad 5) (wC (.int 1))) (wGN 5))))) zaO)
  zsO)))):=rfl
section
variable {w0 w1 w2 w3 w4 w5:Str}{r:Nat}{S:Sto}{aw st:Addr}{E:WX}{D:WEnds}
theorem zrf{need:Nat}{k b room spent:Int}{h:Str}{ps:List Pl}{vs:List W}{x0 x1 x6 x7 x10 x11:Option W}(hw:S aw=some (.lst (six w0 w1 w2 w3 w4 w5))) (hst:S st=some (.lst vs)) (hp:PlsAt S ps vs) (hn:need≤3) (hl:ps.length≤100)
  (h1:D.nx [x0,x1,some (.ref aw),some (.int room),some (.ref st),some (.int spent),x6,x7,some (.int need),some (.tup [.int k, .int b, .str h]),x10,x11] S)
  (h2:0<room→spent<5→ ∀(st':Addr) (S':Sto) (vs':List W) (x11:Option W),Sub S S'→S' st'=some (.lst vs')→PlsAt S' (push need w2 k b h ps) vs'→D.nx [x0,x1,some (.ref aw),some (.int (room - 1)),some (.ref st'),some (.int spent),x6,x7,some (.int need),some (.tup [.int k, .int b, .str h]),x10,x11] S') :
  zsO E D [x0,x1,some (.ref aw),some (.int room),some (.ref st),some (.int spent),x6,x7,some (.int need),some (.tup [.int k, .int b, .str h]),x10,x11] S:=by
 unfold zsO;walk_at "wp";split
 ·rename_i c1;split
  ·rename_i c2;simp only[zak hw,six2];have f1:=fun(a:Addr) (ha:S a=none)=>keep (x:=Ob.lst []) hst ha;refine⟨Nat.zero_le _,fun a ha=>⟨zan (by decide),zan (by decide),?_⟩⟩;rw [zak (f1 a ha),zak (f1 a ha)];have hlen:=hp.len;have en:((need:Int) - (vs.length:Int)).toNat=need - ps.length:=by omega
   rw [en];have pa:PlAt (put S a (Ob.lst [])) (pad w2) (.tup [.int (-1), .int 0, .str w2, .ref a]):= .nd zah .nil;have pp:PlsAt (put S a (Ob.lst [])) (zbJ need w2 ps) ((List.replicate (need - ps.length) [W.tup [.int (-1), .int 0, .str w2, .ref a]]).flatten++vs):=(PlsAt.rep pa _).app (hp.sub (.put .refl ha));have pl:=pp.len;have sub1:Sub S (put S a (Ob.lst [])):= .put .refl ha;have hfl:((List.replicate (need - ps.length) [W.tup [.int (-1), .int 0, .str w2, .ref a]]).flatten).length≤3:=by
    rw [List.length_append,zeE]at pl;omega
   have e0:(1*(need - ps.length))≤sizeLine:=zan (by omega);refine⟨⟨by omega,by omega,e0⟩,zan (by omega),?_⟩
   generalize (List.replicate (need - ps.length) [W.tup [.int (-1), .int 0, .str w2, .ref a]]).flatten++vs=ys at pp pl⊢;generalize put S a (Ob.lst [])=S1 at pp sub1⊢;intro b2 hb2;have sub2:Sub S1 (put S1 b2 (.lst ys)):= .put .refl hb2;generalize put S1 b2 (Ob.lst ys)=S2 at sub2⊢;have hpl:=zeE need w2 ps;have ea:((ys.length:Nat):Int) - (need:Int)=((ys.length - need:Nat):Int):=by omega
   rw [ea,zmC,znN];intro p hp3;have sub3:Sub S2 (put S2 p (.lst (ys.drop (ys.length - need)))):= .put .refl hp3;have fp:put S2 p (Ob.lst (ys.drop (ys.length - need))) p=some (.lst (ys.drop (ys.length - need))):=zah;generalize put S2 p (Ob.lst (ys.drop (ys.length - need)))=S3 at sub3 fp⊢;refine⟨zan (by decide),zan (by decide),zan (by decide),zan (by rw [List.length_take];omega),fun q hq=>?_⟩;have sub4:Sub S3 (put S3 q (.lst (ys.take (ys.length - need)++[.tup [.int k, .int b, .str h, .ref p]]))):= .put .refl hq;refine h2 c1 c2 q _ _ _ (((sub1.trans sub2).trans sub3).trans sub4) zah ?_;unfold push;have pp3:=pp.sub ((sub2.trans sub3).trans sub4);rw [←pl]at *;exact(pp3.take _).app (.cons (.nd (sub4 _ _ fp) (pp3.drop _)) .nil)
  ·exact h1
 ·exact h1
theorem ztT (n:Int) (h0:0≤n) (h1:n<8):∃m:Nat,m≤2∧atI [W.int 0,W.int 0,W.int 1,W.int 2] (if 3<n then 3 else n)=some (.int (m:Int)):=by
 rcases(show n=0∨n=1∨n=2∨(3≤n) by omega) with rfl |rfl |rfl |h
 ·exact⟨0,by decide,rfl⟩
 ·exact⟨0,by decide,rfl⟩
 ·exact⟨1,by decide,rfl⟩
 ·have:(if 3<n then 3 else n)=3:=by split<;>omega
  rw [this];exact⟨2,by decide,rfl⟩
theorem ztC (n:Int) (h0:0≤n) (h1:n<8):∃(i:Int) (x:Str),x∈ [w2,w3,w4,w5]∧atI [W.int 2,W.int 5,W.int 3,W.int 4] (if 3<n then 3 else n)=some (.int i)∧atI (six w0 w1 w2 w3 w4 w5) i=some (.str x):=by
 rcases(show n=0∨n=1∨n=2∨(3≤n) by omega) with rfl |rfl |rfl |h
 ·exact⟨2,w2,by simp,rfl,rfl⟩
 ·exact⟨5,w5,by simp,rfl,rfl⟩
 ·exact⟨3,w3,by simp,rfl,rfl⟩
 ·have:(if 3<n then 3 else n)=3:=by split<;>omega
  rw [this];exact⟨4,w4,by simp,rfl,rfl⟩
inductive PlI (S:Sto) (ac ab aw:Addr) (hs:List Str) (B:List Tn) (m:Nat) (ws:List W) (σ:WSt) (S':Sto):Prop
 |mk (ns:List Int) (ps:List Pl) (vs:List W) (st:Addr) (room spent:Int) (x6 x7 x8 x9 x10 x11:Option W):ws=ns.map W.int→Sub S S'→S' st=some (.lst vs)→PlsAt S' ps vs→(∀p∈ps,PlOk hs B p)→0≤room→room≤m→(pnts ps:Int)≤spent→pnts ps≤4→(pwts ps:Int)+ps.length≤2*(m - room)+pnts ps+2→
  σ=[some (.ref ac),some (.ref ab),some (.ref aw),some (.int room),some (.ref st),some (.int spent),x6,x7,x8,x9,x10,x11]→PlI S ac ab aw hs B m ws σ S'
inductive PlW (S:Sto) (hs:List Str) (B:List Tn) (m:Nat) (f:Addr→WSt) (mm:Nat) (σ:WSt) (S2:Sto):Prop
 |mk (ps:List Pl) (vs:List W) (st:Addr):mm=ps.length→Sub S S2→S2 st=some (.lst vs)→PlsAt S2 ps vs→(∀p∈ps,PlOk hs B p)→pnts ps≤4→pwts ps+ps.length≤2*m+pnts ps+2→σ=f st→PlW S hs B m f mm σ S2
theorem zsA{m:Nat}(hm9:m≤9) {Q:WK}{X:Str→Sto→Prop}{ac ab:Addr}{cells:List Int}{B:List Tn}(hc:S ac=some (.lst (cells.map W.int))) (hb:S ab=some (.lst (B.map zbd))) (hw:S aw=some (.lst (six w0 w1 w2 w3 w4 w5))) (bk:BkOk [w0,w1,w2,w3,w4,w5] [w2,w3,w4,w5] B) (hB:B≠ [])
  (h:∀(p:Pl) (v:W) (S':Sto),Sub S S'→PlAt S' p v→PlOk [w2,w3,w4,w5] B p→p.wt≤2*m+1+p.nt→p.nt≤4→Q v S'):zbF (r+10) [.ref ac, .ref ab, .ref aw, .int m] S Q X:=by
 rw [show r+10=r+9+1 from rfl,zbF];walk_at "wp";refine⟨Nat.zero_le _,fun st0 hst0=>?_⟩;rw [zak (keep hc hst0)];refine zlt (PlI S ac ab aw [w2,w3,w4,w5] B m) ?_ ?_ _ _ _ ⟨cells,[],[],st0,m,0,none,none,none,none,none,none,rfl, .put .refl hst0,zah, .nil,(fun _ h=>nomatch h),by omega,by omega,by simp [pnts],by simp [pnts],by simp [pnts,pwts],rfl⟩
 ·rintro w ws σ S' N ⟨ns,ps,vs,st,room,spent,x6,x7,x8,x9,x10,x11,ew,sub,hst,hp,ok,r0,r1,p0,p1,p2,rfl⟩ hN;cases ns with
  |nil=>cases ew
  |cons n ns=>
  cases ew;have fw:=sub _ _ hw;have fb:=sub _ _ hb;have fc:=sub _ _ hc;have m0:0≤n % 8:=Int.emod_nonneg _ (by decide);have m1:n % 8<8:=Int.emod_lt_of_pos _ (by decide);have hpl:=zha ps;obtain⟨need,hneed,en⟩:=ztT (n % 8) m0 m1;obtain⟨i,hd,hhd,e1,e2⟩:=ztC (w0:=w0) (w1:=w1) (w2:=w2) (w3:=w3) (w4:=w4) (w5:=w5) (n % 8) m0 m1;have go:∀(need:Nat) (k b:Int) (hh:Str) (sp:Int) (x10:Option W),need≤3→(∀qs:List Pl,qs.length=need→(∀q∈qs,PlOk [w2,w3,w4,w5] B q)→PlOk [w2,w3,w4,w5] B (.nd k b hh qs))→(k<0∧need≤2∧sp=spent∨ ¬k<0∧sp=spent+1)→
    ∀(E:WX) (D:WEnds),D.nx=N→zsO E D [some (.ref ac),some (.ref ab),some (.ref aw),some (.int room),some (.ref st),some (.int sp),some (.int n),some (.int (n % 8)),some (.int need),some (.tup [.int k, .int b, .str hh]),x10,x11] S':=fun need k b hh sp x10 hn hok hk E D hD=>by
   subst hD;refine zrf fw hst hp hn (by omega) ?_ fun c1 c2 st' S2 vs' x11 sub2 hst2 hp2=>?_
   ·refine hN _ _ S' .refl fc ⟨ns,ps,vs,st,room,sp,_,_,_,_,_,_,rfl,sub,hst,hp,ok,r0,r1,by omega,p1,p2,rfl⟩
   ·obtain⟨s1,s2,s3⟩:=zpl (need:=need) (w:=w2) (k:=k) (b:=b) (h:=hh) (ps:=ps);have hz:ps.length=0→pwts ps=0∧pnts ps=0:=fun z=>by
     cases ps with
     |nil=>exact⟨rfl,rfl⟩
     |cons _ _=>simp at z
    have fin:(pnts (push need w2 k b hh ps):Int)≤sp→pnts (push need w2 k b hh ps)≤4→(pwts (push need w2 k b hh ps):Int)+(push need w2 k b hh ps).length≤2*(m - (room - 1))+pnts (push need w2 k b hh ps)+2→D.nx [some (.ref ac),some (.ref ab),some (.ref aw),some (.int (room - 1)),some (.ref st'),some (.int sp),some (.int n),some (.int (n % 8)),some (.int need),some (.tup [.int k, .int b, .str hh]),x10,x11] S2:=fun f1 f2 f3=>
     hN _ _ S2 .refl (sub2 _ _ fc) ⟨ns,_,vs',st',room - 1,sp,_,_,_,_,_,_,rfl,sub.trans sub2,hst2,hp2,zum (by simp) ok hok,by omega,by omega,f1,f2,f3,rfl⟩
    rcases hk with⟨kn,n2,es⟩ |⟨kp,es⟩
    ·rw [if_pos kn]at s2;refine fin (by omega) (by omega) ?_;rcases Nat.eq_zero_or_pos ps.length with z |z
     ·have:=hz z;omega
     ·omega
    ·rw [if_neg kp]at s2;refine fin (by omega) (by omega) ?_;rcases Nat.eq_zero_or_pos ps.length with z |z
     ·have:=hz z;omega
     ·omega
  rw [zrg];walk_at "wp";simp only[en,e1];walk_at "wp";simp only[zak fw,e2];refine⟨by decide,zan (by decide),zan (by decide),zan (by decide),?_⟩;split
  ·have hbl:(B.map zbd)≠ []:=by simpa using hB
   obtain⟨j,x,ej,ex⟩:=zpv (n / 8) hbl;have hlt:0<(B.map zbd).length:=List.length_pos_iff.mpr hbl;have ek:n / 8 % ((B.map zbd).length:Int)=(((n / 8 % ((B.map zbd).length:Int)).toNat:Nat):Int):=by
    have:=Int.emod_nonneg (n / 8) (show((B.map zbd).length:Int)≠0 by omega)
    omega
   have ek2:=zcD (xs:=B.map zbd) (n:=(n / 8 % ((B.map zbd).length:Int)).toNat);rw [←ek,ex,List.getElem?_map]at ek2;cases et:B[(n / 8 % ((B.map zbd).length:Int)).toNat]? with
   |none=>rw [et]at ek2;cases ek2
   |some t=>
    rw [et]at ek2;have ext:x= .tup [.str t.1,enc t.2.1,enc t.2.2]:=by cases ek2;rfl
    have ht:t∈B:=List.mem_of_getElem? et;have LT:=bk.lf t ht;have hLd:=LT.dp;have hLw:=LT.wt;have hLn:=LT.nb;simp only[zak fb,ex,ext];walk_at "wp";rw [show atI [W.str t.1,enc t.2.1,enc t.2.2] 1=some (enc t.2.1) from rfl];refine⟨⟨by decide,by decide⟩,by omega,?_⟩
    refine zjA 4 hLd (by omega) (by omega) ⟨⟨by decide,by decide⟩,by decide,zan (by decide),?_⟩
    have b0:0≤n / 64 % 8:=Int.emod_nonneg _ (by decide);have b1:n / 64 % 8<8:=Int.emod_lt_of_pos _ (by decide);refine go t.2.1.nb _ _ _ _ _ hLn (fun qs hq hqs=>?_) (.inr ⟨by omega,rfl⟩) _ _ rfl;rw [ek];exact .turn et hq b0 b1 hqs
  ·exact go need (-1) 0 hd spent _ (by omega) (fun qs hq hqs=> .sign hhd hqs) (.inl ⟨by decide,hneed,rfl⟩) _ _ rfl
 ·rintro σ S' ⟨ns,ps,vs,st,room,spent,x6,x7,x8,x9,x10,x11,ew,sub,hst,hp,ok,r0,r1,p0,p1,p2,rfl⟩;have hpl:=zha ps;refine⟨PlW S [w2,w3,w4,w5] B m (fun st=>[some (.ref ac),some (.ref ab),some (.ref aw),some (.int room),some (.ref st),some (.int spent),x6,x7,x8,x9,x10,x11]),⟨_,ps,vs,st,rfl,sub,hst,hp,ok,p1,by omega,rfl⟩,?_⟩
  rintro mm σ S2 ⟨ps,vs,st,rfl,sub,hst,hp,ok,p1,p2,rfl⟩;have hlen:=hp.len;have fw:=sub _ _ hw;walk_at "wp";rw [zak hst];split
  ·rename_i hgt;simp only[zfo];walk_at "wp";simp only[zak hst,zak fw,six4];have c1:zdN vs none (some (-2))=vs.take (vs.length - 2):=zmn 2 (by decide);have c2:zdN vs (some (-2)) none=vs.drop (vs.length - 2):=zoW 2 (by decide);rw [c1,c2];intro p hp3;have sub3:Sub S2 (put S2 p (.lst (vs.drop (vs.length - 2)))):= .put .refl hp3;have fp:put S2 p (Ob.lst (vs.drop (vs.length - 2))) p=some (.lst (vs.drop (vs.length - 2))):=zah;generalize put S2 p (Ob.lst (vs.drop (vs.length - 2)))=S3 at sub3 fp⊢;refine⟨zan (by decide),zan (by decide),zan (by rw [List.length_take];omega),fun q hq=>?_⟩;have sub4:Sub S3 (put S3 q (.lst (vs.take (vs.length - 2)++[.tup [.int (-1), .int 0, .str w4, .ref p]]))):= .put .refl hq;have hp4:=hp.sub (sub3.trans sub4);have hw3:=zct (ps.take (vs.length - 2)) (ps.drop (vs.length - 2));have hn3:=zbX (ps.take (vs.length - 2)) (ps.drop (vs.length - 2));rw [List.take_append_drop]at hw3 hn3;refine⟨_,_,?_, .refl,ps.take (vs.length - 2)++[.nd (-1) 0 w4 (ps.drop (vs.length - 2))],_,q,rfl,(sub.trans sub3).trans sub4,zah,(hp4.take _).app (.cons (.nd (sub4 _ _ fp) (hp4.drop _)) .nil),fun x hx=>?_,?_,?_,rfl⟩
   ·rw [List.length_append,List.length_take,List.length_singleton];omega
   ·rcases List.mem_append.mp hx with z |z
    ·exact ok x (List.mem_of_mem_take z)
    ·rw [List.mem_singleton.mp z];exact .sign (by simp) fun y hy=>ok y (List.mem_of_mem_drop hy)
   ·rw [zbX,pnts,pnts,Pl.nt,if_pos (by decide)];omega
   ·rw [zct,pwts,pwts,Pl.wt,List.length_append,List.length_take,List.length_singleton,zbX,pnts,pnts,Pl.nt,if_pos (by decide)];omega
  ·rename_i hle
   try walk_at "wp"
   simp only[zak fw,zAw];refine⟨Nat.zero_le _,fun a ha=>⟨zan (by decide),zan (by decide),?_⟩⟩;rw [zak (keep hst ha)];refine⟨zan (by omega),?_⟩;cases hp with
   |nil=>
    exact⟨_, .refl,h (pad w5) _ _ (sub.trans (.put .refl ha)) (.nd zah .nil) (.sign (by simp) fun _ z=>nomatch z) (by simp [pad,Pl.wt,pwts];omega) (by simp [pad,Pl.nt,pnts])⟩
   | @cons p v ps vs h1 h2=>
    rw [List.cons_append,zjs];have e0:ps=[]:=by
     cases ps with
     |nil=>rfl
     |cons q qs=>
      have:=h2.len;simp only[List.length_cons]at this hle;omega
    subst e0;simp only[pwts,pnts,List.length_cons,List.length_nil]at p1 p2;exact⟨_, .refl,h p v _ (sub.trans (.put .refl ha)) (h1.sub (.put .refl ha)) (ok p List.mem_cons_self) (by omega) (by omega)⟩
end
section
variable {r:Nat}{S:Sto}{Q:WK}{E:Str→Sto→Prop}{a:Addr}{B:List Tn}
theorem zvc{x:Str}(hx:x.length≤1000) (h:Q (.bl (signB x)) S):zet (r+2) [.str x] S Q E:=by
 have hxl:=zeW x;rw [zet];walk_at "wp";unfold signB at h;rw [←hxl]at h;cases e1:decide (1≤x.length) with
 |false=>
  rw [e1]at h;have:¬1≤x.length:=by simpa using e1
  have e1':decide ((1:Int)≤(x.length:Int))=false:=by simp;omega
  rw [e1'];walk_at "wp";exact⟨zan (by omega),_, .refl,h⟩
 |true=>
  rw [e1]at h;have h1:1≤x.length:=by simpa using e1
  have e1':decide ((1:Int)≤(x.length:Int))=true:=by simp;omega
  rw [e1'];refine⟨zan (by omega),?_⟩;walk_at "wp";cases e2:decide (x.length≤8) with
  |false=>
   rw [e2]at h;have:¬x.length≤8:=by simpa using e2
   have e2':decide ((x.length:Int)≤8)=false:=by simp;omega
   rw [e2'];exact⟨_, .refl,h⟩
  |true=>
   rw [e2]at h;have h2:x.length≤8:=by simpa using e2
   have e2':decide ((x.length:Int)≤8)=true:=by simp;omega
   rw [e2'];walk_at "wp";exact zpc (by omega) ⟨_, .refl,h⟩
noncomputable def zew:Option Tn→W
 |some t=>zbd t
 |none=> .non
theorem zjP (B:List Tn) (s:Str):B.findSome? (fun t=>if t.1 == s then some (zbd t) else none)=(zaZ B s).map zbd:=by
 unfold zaZ
 induction B with
 |nil=>rfl
 |cons t B ih=>
  rw [List.findSome?_cons,List.find?_cons];cases e:t.1 == s with
  |true=>rfl
  |false=>simpa using ih
theorem zfE{s:Str}(ha:S a=some (.lst (B.map zbd))) (h:Q (zew (zaZ B s)) S):zaT (r+1) [.ref a, .str s] S Q E:=by
 rw [zaT];walk_at "wp";rw [zak ha];refine zfO (S:=S) ?_ (fun σ=>∃x,σ=[some (.ref a),some (.str s),x]) zbd (fun t=>if t.1 == s then some (zbd t) else none) B _ ⟨_,rfl⟩ (fun t ht σ N hI hno hret=>?_) (fun e σ hI=>?_) fun w e S' sb=>?_
 ·exact ha
 ·obtain⟨x,rfl⟩:=hI;simp only[zeR];have ee:zbd t= .tup [.str t.1,enc t.2.1,enc t.2.2]:=rfl;rw [ee];walk_at "wp";cases e:t.1 == s with
  |true=>
   rw [e]at hret;exact hret _ rfl _ .refl
  |false=>
   rw [e]at hno;exact hno rfl _ _ ⟨_,rfl⟩ .refl
 ·obtain⟨x,rfl⟩:=hI;walk_at "wp";rw [zjP]at e;have:zaZ B s=none:=by
   cases q:zaZ B s with
   |none=>rfl
   |some t=>rw [q]at e;cases e
  rw [this]at h;exact⟨_, .refl,h⟩
 ·rw [zjP]at e;cases q:zaZ B s with
  |none=>rw [q]at e;cases e
  |some t=>
   rw [q]at e h;cases e;exact⟨_,sb,h⟩
theorem zou (ts:List Tr):zhb (ts.map fun t=>W.bl t.quiet)=some (ts.map Tr.quiet):=by
 have:=zjY (ts.map Tr.quiet);rw [List.map_map]at this;exact this
theorem zmT:∀(d:Nat) {t:Tr}{r:Nat}{Q:WK}{E:Str→Sto→Prop},t.depth≤d→d+5≤r→t.hd (fun s=>s.length≤1000)→t.weight≤90000→Q (.bl t.quiet) S→zcz (r+1) [enc t] S Q E
 |0,t,r,Q,E,hd,hr,hh,hw,h=>by have:=zbq t;omega
 |d+1, .bl n,r,Q,E,hd,hr,hh,hw,h=>by simp [Tr.hd]at hh
 |d+1, .nd s ts,r,Q,E,hd,hr,hh,hw,h=>by
  simp only[Tr.depth]at hd;simp only[Tr.weight]at hw;simp only[Tr.hd]at hh;have hk:=zcV ts;obtain⟨r,rfl⟩:∃r',r=r'+2:=⟨r - 2,by omega⟩
  rw [zcz];simp only[enc];walk_at "wp";refine zvc hh.1 ?_;rw [Tr.quiet]at h;cases e:signB s with
  |false=>
   rw [e]at h;walk_at "wp";exact⟨_, .refl,h⟩
  |true=>
   rw [e]at h;walk_at "wp";rw [zaK];refine zaH (fun σ=>∃x,σ=[x]) enc (fun t=> .bl t.quiet) trivial ts [] _ ⟨none,rfl⟩ (by simp;omega) (fun x hx σ R hI hR=>?_) ?_
   ·obtain⟨y,rfl⟩:=hI;have hdx:=zcS hx;have hwx:=zdi hx;have:=zbq x;simp only[zgw];walk_at "wp";exact zmT d (t:=x) (r:=r+1) (by omega) (by omega) (hds_iff.mp hh.2 x hx) (by omega) (hR _ _ ⟨_,rfl⟩ .refl)
   ·rw [List.nil_append,zou];dsimp only;rw [ziA]at h;rw [zkt];exact⟨S, .refl,h⟩
end
noncomputable def byC (f:Int):Int→Nat:=fun b=>if b / f % 2=1 then 1 else 0
theorem PlsAt.zip{S:Sto}:∀{ps:List Pl}{vs:List W},PlsAt S ps vs→ ∀x∈ps.zip vs,PlAt S x.1 x.2∧x.1∈ps
 |_,_, .nil,x,h=>by simp at h
 |_,_, .cons a b,x,h=>by
  rw [List.zip_cons_cons]at h;rcases List.mem_cons.mp h with rfl |h
  ·exact⟨a,List.mem_cons_self⟩
  ·have:=PlsAt.zip b x h;exact⟨this.1,List.mem_cons_of_mem _ this.2⟩
theorem PlsAt.snd{S:Sto}{ps:List Pl}{vs:List W}(h:PlsAt S ps vs):(ps.zip vs).map Prod.snd=vs:=List.map_snd_zip (by rw [h.len];exact Nat.le_refl _)
theorem PlsAt.fst{S:Sto}{ps:List Pl}{vs:List W}(h:PlsAt S ps vs) {α:Type}(f:Pl→α):(ps.zip vs).map (fun x=>f x.1)=ps.map f:=by
 have:(ps.zip vs).map Prod.fst=ps:=List.map_fst_zip (by rw [h.len];exact Nat.le_refl _)
 conv=>rhs;rw [←this,List.map_map]
 rfl
section
variable {S:Sto}{a:Addr}{ws hs:List Str}{B:List Tn}
theorem ztl{f:Int}(hf:f=1∨f=2∨f=4∨f=8) (ha:S a=some (.lst (B.map zbd))) (b:BkOk ws hs B):∀(d:Nat) {p:Pl}{v:W}{r:Nat}{Q:WK}{E:Str→Sto→Prop},p.dp≤d→d+8≤r→PlAt S p v→PlOk hs B p→p.wt≤1000→Q (enc (p.ev B (byC f))) S→zbG (r+1) [v, .ref a, .int f] S Q E
 |0,p,v,r,Q,E,hd,hr,hp,ok,hw,h=>by have:=ztE p;omega
 |d+1, .nd k b' hh ps,v,r,Q,E,hd,hr,hp,ok,hw,h=>by
  cases hp with
  | @nd _ _ _ _ c vs hc hps=>
  simp only[Pl.dp]at hd;simp only[Pl.wt]at hw;have hlen:=zha ps;obtain⟨r,rfl⟩:∃r',r=r'+1:=⟨r - 1,by omega⟩
  rw [zbG];walk_at "wp";rw [zak hc];rw [←hps.snd];have okp:∀x∈ps,PlOk hs B x:=by
   cases ok with
   |sign _ h=>exact h
   |turn _ _ _ _ h=>exact h
  refine zaH (fun σ=>∃x,σ=[x,some (.ref a),some (.int f)]) Prod.snd (fun x=>enc (x.1.ev B (byC f))) ?_ (ps.zip vs) [] _ ⟨none,rfl⟩ (by simp;omega) (fun x hx σ R hI hR=>?_) ?_
  ·rw [hps.snd];exact hc
  ·obtain⟨y,rfl⟩:=hI;obtain⟨h1,h2⟩:=hps.zip x hx;have:=zgI h2;have:=zni h2;simp only[zgB];walk_at "wp";exact ztl hf ha b d (by omega) (by omega) h1 (okp _ h2) (by omega) (hR _ _ ⟨_,rfl⟩ .refl)
  ·rw [List.nil_append,hps.fst fun p=>enc (p.ev B (byC f))];intro q hq;have eu:(ps.map fun p=>enc (p.ev B (byC f)))=encs (ps.map (Pl.ev B (byC f))):=by rw [zaK,List.map_map];rfl
   rw [eu];have fq:put S q (Ob.lst (encs (ps.map (Pl.ev B (byC f))))) q=some (.lst (encs (ps.map (Pl.ev B (byC f))))):=zah;have fa:=keep (x:=Ob.lst (encs (ps.map (Pl.ev B (byC f))))) ha hq;have sub:Sub S (put S q (Ob.lst (encs (ps.map (Pl.ev B (byC f)))))):= .put .refl hq;generalize put S q (Ob.lst (encs (ps.map (Pl.ev B (byC f)))))=S1 at fq fa sub⊢
   try walk_at "wp"
   cases ok with
   |sign hs' _=>
    rw [if_pos (by decide)]
    try rw [zak fq]
    rw [zaM]at h;rw [zbo,List.length_map];simp only[enc]at h;exact⟨zan (by decide),zan (by omega),_,sub,h⟩
   | @turn k _ _ _ t e hl b0 b1 _=>
    have ek:atI (B.map zbd) (k:Int)=some (.tup [.str t.1,enc t.2.1,enc t.2.2]):=by
     rw [zcD,List.getElem?_map,e];rfl
    have hdiv:zjD b' f:=by rcases hf with rfl |rfl |rfl |rfl<;>exact⟨by decide,by decide⟩
    have ht:t∈B:=List.mem_of_getElem? e;rw [zaE e]at h;rw [if_neg (by omega)];refine⟨hdiv,by decide,?_⟩
    simp only[zak fa,ek];by_cases e1:b' / f % 2=1
    ·rw [e1];have:byC f b'=1:=by unfold byC;rw [if_pos e1]
     rw [this]at h;simp only[evT,enc]at h
     try walk_at "wp"
     try rw [zak fq]
     rw [zbo,List.length_map];exact⟨zan (by decide),zan (by omega),_,sub,h⟩
    ·have e2:(b' / f % 2 == 1)=false:=by simpa using e1
     rw [e2];have:byC f b'=0:=by unfold byC;rw [if_neg e1]
     rw [this]at h;simp only[evT]at h;walk_at "wp";rw [show atI [W.str t.1,enc t.2.1,enc t.2.2] 1=some (enc t.2.1) from rfl];dsimp only;have hLd:=(b.lf t ht).dp;have hLw:=(b.lf t ht).wt;have hLn:=(b.lf t ht).nb;exact zgf 4 hLd (by omega) fq (by rw [List.length_map,hl];exact(b.lf t ht).fits) (by omega) ⟨_,sub,h⟩
end
theorem zrU{x:Str}(h:zdw x):x.length≤1000:=by rw [zeW];have:=h.2.1;omega
theorem zoq{x:Str}(h:zdp x):x.length≤1000:=by rw [zeW];have:=(zpb h).2;omega
noncomputable def zaY (n:Int) (t:Tn):Tr:=if n=1 then t.2.1 else t.2.2
structure Sides (g:Tn→Tr) (B:List Tn):Prop where
  fits:∀t∈B,(g t).fits t.2.1.nb
  dp:∀t∈B,(g t).depth≤4
  wt:∀t∈B,(g t).weight≤10
mutual
noncomputable def Tr.ar (B:List Tn):Tr→Prop
 | .bl _=>False
 | .nd s ts=>(∀t,zaZ B s=some t→ts.length=t.2.1.nb)∧ars B ts
noncomputable def ars (B:List Tn):List Tr→Prop
 | []=>True
 |t::ts=>t.ar B∧ars B ts
end
theorem ars_iff{B:List Tn}:∀{ts:List Tr},ars B ts↔ ∀t∈ts,t.ar B
 | []=>by simp [ars]
 |t::ts=>by simp [ars,ars_iff (ts:=ts)]
mutual
theorem zuM{B:List Tn}:∀t:Tr,t.way B=true→t.ar B
 | .bl n,h=>by simp [Tr.way]at h
 | .nd s ts,h=>by
  simp only[Tr.way,Bool.and_eq_true]at h;simp only[Tr.ar];refine⟨fun t ht=>?_,zte ts h.2⟩;have:=h.1;rw [topB,ht]at this;simpa using this
theorem zte{B:List Tn}:∀ts:List Tr,zgL B ts=true→ars B ts
 | [],h=>by simp [ars]
 |t::ts,h=>by
  simp only[zgL,Bool.and_eq_true]at h;simp only[ars];exact⟨zuM t h.1,zte ts h.2⟩
end
section
variable {S:Sto}{a:Addr}{B:List Tn}{n:Int}
theorem zpu (t:Tn) (h:n=1∨n=2):atI [W.str t.1,enc t.2.1,enc t.2.2] n=some (enc (zaY n t)):=by
 rcases h with rfl |rfl<;>rfl
theorem zmM (ha:S a=some (.lst (B.map zbd))) (hn:n=1∨n=2) (hg:Sides (zaY n) B):∀(d:Nat) {t:Tr}{r:Nat}{Q:WK}{E:Str→Sto→Prop},t.depth≤d→d+10≤r→t.ar B→t.weight≤1000→Q (enc (t.mk B (zaY n))) S→zcb (r+1) [.ref a,enc t, .int n] S Q E
 |0,t,r,Q,E,hd,hr,hh,hw,h=>by have:=zbq t;omega
 |d+1, .bl k,r,Q,E,hd,hr,hh,hw,h=>by simp [Tr.ar]at hh
 |d+1, .nd s ts,r,Q,E,hd,hr,hh,hw,h=>by
  simp only[Tr.depth]at hd;simp only[Tr.weight]at hw;simp only[Tr.ar]at hh;have hk:=zcV ts;obtain⟨r,rfl⟩:∃r',r=r'+1:=⟨r - 1,by omega⟩
  rw [zcb];simp only[enc];walk_at "wp";rw [zaK];refine zaH (fun σ=>∃x,σ=[x,some (.ref a),some (.int n)]) enc (fun t=>enc (t.mk B (zaY n))) trivial ts [] _ ⟨none,rfl⟩ (by simp;omega) (fun x hx σ R hI hR=>?_) ?_
  ·obtain⟨y,rfl⟩:=hI;have hdx:=zcS hx;have hwx:=zdi hx;simp only[zeU];walk_at "wp";exact zmM ha hn hg d (by omega) (by omega) (ars_iff.mp hh.2 x hx) (by omega) (hR _ _ ⟨_,rfl⟩ .refl)
  ·rw [List.nil_append];intro q hq;have eu:(ts.map fun t=>enc (t.mk B (zaY n)))=encs (ts.map (Tr.mk B (zaY n))):=by rw [zaK,List.map_map];rfl
   rw [eu];have fq:put S q (Ob.lst (encs (ts.map (Tr.mk B (zaY n))))) q=some (.lst (encs (ts.map (Tr.mk B (zaY n))))):=zah;have fa:=keep (x:=Ob.lst (encs (ts.map (Tr.mk B (zaY n))))) ha hq;have sub:Sub S (put S q (Ob.lst (encs (ts.map (Tr.mk B (zaY n)))))):= .put .refl hq;generalize put S q (Ob.lst (encs (ts.map (Tr.mk B (zaY n)))))=S1 at fq fa sub⊢;refine zfE fa ?_;cases e:zaZ B s with
   |none=>
    rw [zlD e]at h;simp only[zew]
    try walk_at "wp"
    try rw [zak fq]
    rw [zbo,List.length_map];simp only[enc]at h;exact⟨zan (by decide),zan (by omega),_,sub,h⟩
   |some t=>
    have ht:t∈B:=List.mem_of_find?_eq_some e;have ee:zew (some t)= .tup [.str t.1,enc t.2.1,enc t.2.2]:=rfl;rw [zmk e]at h;rw [ee]
    try walk_at "wp"
    rw [zpu t hn];dsimp only;have hgw:=hg.wt t ht;exact zhk 4 (hg.dp t ht) (by omega) fq (by rw [List.length_map,hh.1 t e];exact hg.fits t ht) (by omega) ⟨_,sub,h⟩
theorem zmH{t:Tr}(h1:t.weight≤400) (h2:t.depth≤40):t.small=true:=by
 unfold Tr.small;rw [decide_eq_true h1,decide_eq_true h2];rfl
theorem ok_goal{t:Tr}{r:Nat}{Q:WK}{E:Str→Sto→Prop}(ha:S a=some (.lst (B.map zbd))) (hg:Sides (zaY 2) B) (hd:t.depth≤40) (hr:60≤r) (hh:t.ar B) (hw:t.weight≤1000) (h1:(t.mk B (zaY 2)).weight≤400) (h2:(t.mk B (zaY 2)).depth≤40) (h:Q (enc (t.mk B (zaY 2))) S):zhC (r+1) [.ref a,enc t] S Q E:=by
 obtain⟨r,rfl⟩:∃r',r=r'+5:=⟨r - 5,by omega⟩
 rw [zhC];walk_at "wp";refine zmM ha (.inr rfl) hg 40 (r:=r+4) hd (by omega) hh hw ?_;rw [zbC];walk_at "wp";refine zij (r:=r+1) (by omega) ?_;rw [zmH h1 h2]
 try walk_at "wp"
 exact⟨_, .refl,_, .refl,h⟩
end
noncomputable def zyo (r:Nat):WS:=(zas (wAsg (zdh (zds 2 [0] (zuU (zad 5) (zad 6)) (wGT (zaG (wGN 0) (zaG (wGN 1) zdO))) zic (zhP r (zcR r)))) (wGN 7))
  (zas (zcL (wTb (wOp (oIs false) (zad 4) (wC .non))) (zbg (wOp zem (zcf (zab (wOp oIx (zad 1) (wC (.int 0))) waNil)) (wB zdM (zab (zad 7) waNil)))) zaO)
  (zbg (zam (zcZ r) (zab (wOp oIx (zad 4) (wC (.int 2))) (zab (zad 7) waNil))))))
noncomputable def zsk (r:Nat) (T:WS):WS:=(zas (zcL (zqO (wTb (wOp (oIs false) (zad 3) (wC .non))) (wTb (wOp (oIs true) (zad 4) (wC .non)))) (wAsg (zam (zbS r) (zab (wOp oIx (zad 4) (wC (.int 1))) (zab (zad 1) waNil))) (wGN 5)) zaO)
  (zas (zcL (zqO (wTb (wOp (oIs true) (zad 3) (wC .non))) (wTb (wOp (oIs false) (zad 4) (wC .non)))) (wAsg (zam (zbS r) (zab (wOp oIx (zad 3) (wC (.int 1))) (zab (zad 2) waNil))) (wGN 6)) zaO)
  T))
theorem znX{r:Nat}:zcR (r+1)=zcI 8 3 (zas (wAsg (zam (zaT r) (zab (zad 0) (zab (wOp oIx (zad 1) (wC (.int 0))) waNil))) (wGN 3))
  (zas (wAsg (zam (zaT r) (zab (zad 0) (zab (wOp oIx (zad 2) (wC (.int 0))) waNil))) (wGN 4))
  (zas (wAsg (wSl (zad 1) (woS (wC (.int 1))) woN) (wGN 5))
  (zas (wAsg (wSl (zad 2) (woS (wC (.int 1))) woN) (wGN 6))
  (zsk r (zyo r)))))):=rfl
mutual
theorem zrn{P:Str→Prop}:∀(l t:Tr) (ys:List Tr),l.mt t=some ys→t.hd P→hds P ys∧wts ys≤t.weight
 | .bl _,t,ys,h,q=>by
  simp only[Tr.mt,Option.some.injEq]at h;subst h;simp only[hds,wts];exact⟨⟨q,trivial⟩,by omega⟩
 | .nd s ls, .nd z us,ys,h,q=>by
  simp only[Tr.mt]at h;simp only[Tr.hd]at q;split at h
  ·have:=zsV ls us ys h q.2;simp only[Tr.weight];exact⟨this.1,by omega⟩
  ·cases h
 | .nd _ _, .bl _,ys,h,q=>by simp [Tr.mt]at h
theorem zsV{P:Str→Prop}:∀(ls us ys:List Tr),mts ls us=some ys→hds P us→hds P ys∧wts ys≤wts us
 | [],us,ys,h,q=>by simp only[mts,Option.some.injEq]at h;subst h;simp [hds,wts]
 |l::ls,[],ys,h,q=>by simp only[mts,Option.some.injEq]at h;subst h;simp [hds,wts]
 |l::ls,u::us,ys,h,q=>by
  simp only[mts]at h;simp only[hds]at q;split at h
  ·cases h
  ·rename_i xs ex;split at h
   ·cases h
   ·rename_i zs ez;simp only[Option.some.injEq]at h;subst h;have h1:=zrn l u xs ex q.1;have h2:=zsV ls us zs ez q.2;rw [zeH,wts];exact⟨zpP h1.1 h2.1,by omega⟩
end
mutual
theorem zgr{P:Str→Prop}{m:Nat}:∀t:Tr,t.hd P→t.fits m
 | .bl n,h=>by simp [Tr.hd]at h
 | .nd s ts,h=>by
  simp only[Tr.hd]at h;simp only[Tr.fits];exact zmV ts h.2
theorem zmV{P:Str→Prop}{m:Nat}:∀ts:List Tr,hds P ts→fitss m ts
 | [],h=>by simp [fitss]
 |t::ts,h=>by
  simp only[hds]at h;simp only[fitss];exact⟨zgr t h.1,zmV ts h.2⟩
end
theorem Mvs.triples{B:List Tn}{n:Nat}:∀{as bs cs:List Tr},Mvs B n as bs cs→ ∃zs:List (Tr×Tr×Tr),as=zs.map (fun z=>z.1)∧bs=zs.map (fun z=>z.2.1)∧cs=zs.map (fun z=>z.2.2)∧ ∀z∈zs,Mv B n z.1 z.2.1 z.2.2
 |_,_,_, .nil=>⟨[],rfl,rfl,rfl,fun _ h=>nomatch h⟩
 |_,_,_, .cons (a:=a) (b:=b) (c:=c) h1 h2=>by
  obtain⟨zs,e1,e2,e3,h⟩:=Mvs.triples h2;exact⟨(a,b,c)::zs,by rw [e1];rfl,by rw [e2];rfl,by rw [e3];rfl,fun z hz=>(List.mem_cons.mp hz).elim (fun e=>by rw [e];exact h1) (h z)⟩
theorem zjZ:∀zs:List (Tr×Tr×Tr),pairs (encs (zs.map fun z=>z.1)) (encs (zs.map fun z=>z.2.1))=zs.map fun z=>W.tup [enc z.1,enc z.2.1]
 | []=>by simp [encs,pairs]
 |z::zs=>by simp [encs,pairs,zjZ zs]
noncomputable def zzg (f:Option Tn) (s:Str) (cs:List Tr):Tr:=match f with
 |none=> .nd s cs
 |some t=>t.2.2.fill cs
noncomputable def zxV (S:Sto) (v:W) (ws:List W):Prop:=v= .tup ws∨ ∃q,v= .ref q∧S q=some (.lst ws)
section
variable {S:Sto}{a:Addr}{B:List Tn}
theorem zpz{v:W}{ws:List W}{Q:List W→(Sto→Prop)→Prop}(h:zxV S v ws) (hq:∀G:Sto→Prop,G S→(∀S',Sub S S'→G S')→Q ws G):zoI v S Q:=by
 rcases h with rfl |⟨q,rfl,e⟩
 ·rw [zlc];exact hq _ trivial fun _ _=>trivial
 ·rw [zhI,zak e];exact hq _ e fun S' sb=>sb _ _ e
theorem zrI{n r:Nat}{x y:Tr}{as bs cs:List Tr}{va vb vf:W}{f:Option Tn}{x7:Option W}{s:Str}{ts:List Tr}(hx:x= .nd s ts) (ha:S a=some (.lst (B.map zbd))) (h1:zxV S va (encs as)) (h2:zxV S vb (encs bs)) (M:Mvs B n as bs cs) (hl:as.length≤1000)
  (hR:∀t,f=some t→t.2.2.depth≤4∧t.2.2.weight≤100∧t.2.2.fits cs.length) (hr:5≤r)
  (one:∀{a' b' c':Tr}{Q:WK}{E:Str→Sto→Prop},a'∈as→b'∈bs→Mv B n a' b' c'→Q (enc c') S→zcR r [.ref a,enc a',enc b'] S Q E) {E:WX}{D:WEnds}
  (hQ:∀S',Sub S S'→D.rt (enc (zzg f s cs)) S') :
  zyo r E D [some (.ref a),some (enc x),some (enc y),some vf,some (zew f),some va,some vb,x7] S:=by
 obtain⟨zs,rfl,rfl,rfl,hz⟩:=M.triples;unfold zyo;walk_at "wp";refine zpz h1 fun G1 g1 k1=>zpz h2 fun G2 g2 k2=>?_;rw [zjZ];rw [List.length_map]at hl;refine zaH (fun σ=>∃x y,σ=[x,y,some (.ref a)]) (fun z=>W.tup [enc z.1,enc z.2.1]) (fun z=>enc z.2.2) ?_ zs [] _ ⟨none,none,rfl⟩ (by simp;omega) (fun z hz' σ R hI hR=>?_) ?_
 ·exact⟨g1,g2⟩
 ·obtain⟨u,v,rfl⟩:=hI;simp only[zhP];walk_at "wp";refine one (a':=z.1) (b':=z.2.1) (c':=z.2.2) (List.mem_map.mpr ⟨z,hz',rfl⟩) (List.mem_map.mpr ⟨z,hz',rfl⟩) (hz z hz') ?_;exact hR _ _ ⟨_,_,rfl⟩ .refl
 ·rw [List.nil_append];intro q hq;have eu:(zs.map fun z=>enc z.2.2)=encs (zs.map fun z=>z.2.2):=by rw [zaK,List.map_map];rfl
  rw [eu];have fq:put S q (Ob.lst (encs (zs.map fun z=>z.2.2))) q=some (.lst (encs (zs.map fun z=>z.2.2))):=zah;have sub:Sub S (put S q (Ob.lst (encs (zs.map fun z=>z.2.2)))):= .put .refl hq;generalize put S q (Ob.lst (encs (zs.map fun z=>z.2.2)))=S1 at fq sub⊢;obtain⟨r,rfl⟩:∃r',r=r'+1:=⟨r - 1,by omega⟩
  cases f with
  |none=>
   subst hx;simp only[zew,enc,zzg]at hQ⊢
   try walk_at "wp"
   try rw [zak fq]
   rw [zbo,List.length_map];exact⟨zan (by decide),zan (by omega),hQ _ sub⟩
  |some t=>
   have ee:zew (some t)= .tup [.str t.1,enc t.2.1,enc t.2.2]:=rfl;rw [ee]
   try walk_at "wp"
   rw [show atI [W.str t.1,enc t.2.1,enc t.2.2] 2=some (enc t.2.2) from rfl];dsimp only;obtain⟨g1,g2,g3⟩:=hR t rfl;exact zhk 4 g1 (by omega) fq (by rw [List.length_map];rw [List.length_map]at g3;exact g3) (by omega) (hQ _ sub)
theorem Mv.nd{n:Nat}{x y z:Tr}:Mv B n x y z→ ∃s ts z' us,x= .nd s ts∧y= .nd z' us
 | .nn _ _ _=>⟨_,_,_,_,rfl,rfl⟩
 | .ns _ _ _ _ _=>⟨_,_,_,_,rfl,rfl⟩
 | .sn _ _ _ _=>⟨_,_,_,_,rfl,rfl⟩
 | .ss _ _ _ _=>⟨_,_,_,_,rfl,rfl⟩
section
variable {T:WS}{E:WX}{D:WEnds}{r:Nat}{x0 x1 x2 x5 x6 x7:Option W}
theorem ztY (h:T E D [x0,x1,x2,some (zew none),some (zew none),x5,x6,x7] S):zsk r T E D [x0,x1,x2,some (zew none),some (zew none),x5,x6,x7] S:=by
 rw [show zew none=W.non from rfl]at h⊢;unfold zsk;walk_at "wp";exact h
theorem zuv{t t':Tn}(h:T E D [x0,x1,x2,some (zew (some t')),some (zew (some t)),x5,x6,x7] S):zsk r T E D [x0,x1,x2,some (zew (some t')),some (zew (some t)),x5,x6,x7] S:=by
 have ee:∀t:Tn,zew (some t)= .tup [.str t.1,enc t.2.1,enc t.2.2]:=fun _=>rfl;rw [ee,ee]at h⊢;unfold zsk;walk_at "wp";exact h
theorem zuF{t:Tn}{x:Tr}{ms:List Tr}(e:t.2.1.mt x=some ms) (hr:t.2.1.depth<r) (ft:x.fits 0) (hw:t.2.1.weight≤90000) (h:∀q,S q=none→T E D [x0,some (enc x),x2,some (zew none),some (zew (some t)),some (.ref q),x6,x7] (put S q (.lst (encs ms)))):zsk (r+1) T E D [x0,some (enc x),x2,some (zew none),some (zew (some t)),x5,x6,x7] S:=by
 have ee:∀t:Tn,zew (some t)= .tup [.str t.1,enc t.2.1,enc t.2.2]:=fun _=>rfl;have a1:∀t:Tn,atI [W.str t.1,enc t.2.1,enc t.2.2] 1=some (enc t.2.1):=fun _=>rfl;rw [ee,show zew none=W.non from rfl]at *;unfold zsk;walk_at "wp";rw [a1];dsimp only;refine zeF hr ft hw (fun ys hys q hq=>?_) fun h0=>by rw [e]at h0;cases h0
 rw [e]at hys;cases hys
 try walk_at "wp"
 exact h q hq
theorem zud{t:Tn}{y:Tr}{ms:List Tr}(e:t.2.1.mt y=some ms) (hr:t.2.1.depth<r) (ft:y.fits 0) (hw:t.2.1.weight≤90000) (h:∀q,S q=none→T E D [x0,x1,some (enc y),some (zew (some t)),some (zew none),x5,some (.ref q),x7] (put S q (.lst (encs ms)))):zsk (r+1) T E D [x0,x1,some (enc y),some (zew (some t)),some (zew none),x5,x6,x7] S:=by
 have ee:∀t:Tn,zew (some t)= .tup [.str t.1,enc t.2.1,enc t.2.2]:=fun _=>rfl;have a1:∀t:Tn,atI [W.str t.1,enc t.2.1,enc t.2.2] 1=some (enc t.2.1):=fun _=>rfl;rw [ee,show zew none=W.non from rfl]at *;unfold zsk;walk_at "wp";rw [a1];dsimp only;refine zeF hr ft hw (fun ys hys q hq=>?_) fun h0=>by rw [e]at h0;cases h0
 rw [e]at hys;cases hys
 try walk_at "wp"
 exact h q hq
end
theorem znp (hB:∀t∈B,t.2.1.depth≤4∧t.2.1.weight≤100∧t.2.2.depth≤4∧t.2.2.weight≤100∧t.2.2.fits t.2.1.nb):∀(n:Nat) {S:Sto}{x y z:Tr}{r:Nat}{Q:WK}{E:Str→Sto→Prop},S a=some (.lst (B.map zbd))→Mv B n x y z→n+12≤r→x.hd (fun _=>True)→y.hd (fun _=>True)→x.weight≤1000→y.weight≤1000→Q (enc z) S→zcR (r+1) [.ref a,enc x,enc y] S Q E
 |0,S,x,y,z,r,Q,E,ha,M,hr,hx,hy,wx,wy,h=>by cases M
 |n+1,S,x,y,z,r,Q,E,ha,M,hr,hx,hy,wx,wy,h=>by
  obtain⟨r,rfl⟩:∃r',r=r'+1:=⟨r - 1,by omega⟩
  have one:∀{as bs:List Tr},hds (fun _=>True) as→hds (fun _=>True) bs→wts as≤1000→wts bs≤1000→ ∀(S1:Sto),Sub S S1→ ∀{a' b' c':Tr}{Q:WK}{E:Str→Sto→Prop},a'∈as→b'∈bs→Mv B n a' b' c'→Q (enc c') S1→zcR (r+1) [.ref a,enc a',enc b'] S1 Q E:=fun {as bs} h1 h2 h3 h4 S1 sb {a' b' c' Q E} m1 m2 M q=>
   znp hB n (sb _ _ ha) M (by omega) (hds_iff.mp h1 _ m1) (hds_iff.mp h2 _ m2) (by have:=zdi m1;omega) (by have:=zdi m2;omega) q
  have start:∀{s z:Str}{ts us:List Tr}{E':WX}{D:WEnds}{S1:Sto}{va vb vf:W}{f:Option Tn}{as bs cs:List Tr},S1 a=some (.lst (B.map zbd))→Sub S S1→zxV S1 va (encs as)→zxV S1 vb (encs bs)→Mvs B n as bs cs→hds (fun _=>True) as→hds (fun _=>True) bs→wts as≤1000→wts bs≤1000→(∀t,f=some t→t∈B∧cs.length=t.2.1.nb)→(∀S',Sub S S'→D.rt (enc (zzg f s cs)) S')→
    zyo (r+1) E' D [some (.ref a),some (W.tup (W.str s::encs ts)),some (W.tup (W.str z::encs us)),some vf,some (zew f),some va,some vb,none] S1:=fun {s z ts us E' D S1 va vb vf f as bs cs} hS1 sb q1 q2 M h1 h2 h3 h4 hf hQ=>by
   have hl:=zcV as;have:=zrI (x:= .nd s ts) (y:= .nd z us) (vf:=vf) (f:=f) (x7:=none) (E:=E') (D:=D) rfl hS1 q1 q2 M (by omega) (fun t ht=>by
    obtain⟨m,e⟩:=hf t ht;obtain⟨g1,g2,g3,g4,g5⟩:=hB t m;exact⟨g3,g4,by rw [e];exact g5⟩) (by omega) (one h1 h2 h3 h4 S1 sb) fun S' sb'=>hQ S' (sb.trans sb')
   simpa only[enc]using this
  obtain⟨s,ts,z',us,rfl,rfl⟩:=M.nd;have ex:enc (.nd s ts)= .tup (.str s::encs ts):=by simp only[enc]
  have ey:enc (.nd z' us)= .tup (.str z'::encs us):=by simp only[enc]
  have hx':=hx;have hy':=hy;have wx':=wx;have wy':=wy;simp only[Tr.hd]at hx' hy';simp only[Tr.weight]at wx' wy';rw [znX,ex,ey];walk_at "wp";refine zfE ha (zfE ha ?_);cases M with
  | @nn _ _ _ _ _ cs e1 e2 M=>
   rw [e1,e2];exact ztY (start (f:=none) ha .refl (.inl rfl) (.inl rfl) M hx'.2 hy'.2 (by omega) (by omega) (fun _ h=>nomatch h) fun S' sb=>⟨_,sb,h⟩)
  | @ns _ _ _ _ _ cs ms t e1 e2 e3 e4 M=>
   have ht:t∈B:=List.mem_of_find?_eq_some e2;have hm:=zrn t.2.1 _ _ e3 hx;have ft:=zgr (m:=0) _ hx;obtain⟨g1,g2,g3,g4,g5⟩:=hB t ht;rw [e1,e2,←ex];refine zuF e3 (by omega) ft (by omega) fun q hq=>?_;rw [ex];exact start (f:=some t) (keep ha hq) (.put .refl hq) (.inr ⟨q,rfl,zah⟩) (.inl rfl) M hm.1 hy'.2 (by omega) (by omega) (fun _ h=>by cases h;exact⟨ht,e4⟩) fun S' sb=>⟨_,sb,h⟩
  | @sn _ _ _ _ _ cs ms t e1 e2 e3 M=>
   have ht:t∈B:=List.mem_of_find?_eq_some e1;have hm:=zrn t.2.1 _ _ e3 hy;have ft:=zgr (m:=0) _ hy;obtain⟨g1,g2,g3,g4,g5⟩:=hB t ht;rw [e1,e2,←ey];refine zud e3 (by omega) ft (by omega) fun q hq=>?_;rw [ey];exact start (f:=none) (keep ha hq) (.put .refl hq) (.inl rfl) (.inr ⟨q,rfl,zah⟩) M hx'.2 hm.1 (by omega) (by omega) (fun _ h=>nomatch h) fun S' sb=>⟨_,sb,h⟩
  | @ss _ _ _ _ _ cs t t' e1 e2 e3 M=>
   have ht:t∈B:=List.mem_of_find?_eq_some e2;rw [e1,e2];exact zuv (start (f:=some t) ha .refl (.inl rfl) (.inl rfl) M hx'.2 hy'.2 (by omega) (by omega) (fun _ h=>by cases h;exact⟨ht,e3⟩) fun S' sb=>⟨_,sb,h⟩)
end
theorem zxF:zaY 2=fun t=>t.2.2:=by funext t;exact if_neg (by decide)
section
variable {ws hs:List Str}{B:List Tn}
theorem BkOk.s2 (b:BkOk ws hs B):Sides (zaY 2) B:=by
 rw [zxF];refine⟨fun t ht=>zcx (b.ri t ht),fun t ht=>?_,fun t ht=>?_⟩
 ·have:=zec (b.ri t ht);show t.2.2.depth≤4;omega
 ·have:=zgv (b.ri t ht);show t.2.2.weight≤10;omega
mutual
theorem zzQ:∀(L t:Tr) (ys:List Tr),L.mt t=some ys→ ∀y∈ys,y.depth≤t.depth
 | .bl n,t,ys,e,y,hy=>by
  rw [Tr.mt]at e;cases e;rw [List.mem_singleton]at hy;rw [hy];exact Nat.le_refl _
 | .nd s ls, .bl n,ys,e,y,hy=>by rw [Tr.mt]at e;cases e
 | .nd s ls, .nd z us,ys,e,y,hy=>by
  rw [Tr.mt]at e;split at e
  ·have:=znI ls us ys e y hy;rw [Tr.depth];omega
  ·cases e
theorem znI:∀(ls us ys:List Tr),mts ls us=some ys→ ∀y∈ys,y.depth≤dts us
 | [],us,ys,e,y,hy=>by rw [mts]at e;cases e;cases hy
 |l::ls,[],ys,e,y,hy=>by rw [mts]at e;cases e;cases hy
 |l::ls,u::us,ys,e,y,hy=>by
  rw [mts]at e;cases q1:l.mt u with
  |none=>rw [q1]at e;cases e
  |some xs=>
   rw [q1]at e;cases q2:mts ls us with
   |none=>rw [q2]at e;cases e
   |some zs=>
    rw [q2]at e;cases e;rw [dts];rcases List.mem_append.mp hy with hy |hy
    ·have:=zzQ l u xs q1 y hy;omega
    ·have:=znI ls us zs q2 y hy;omega
end
mutual
theorem Mv.fuel{B:List Tn}(hn:∀t∈B,∃s ts,t.2.1= .nd s ts):∀{n:Nat}{a b c:Tr},Mv B n a b c→Mv B a.depth a b c
 |_,_,_,_, .nn h1 h2 h3=>by
  rw [Tr.depth,Nat.add_comm];exact .nn h1 h2 ((Mvs.fuel hn h3).mono (Nat.le_refl _))
 |_,_,_,_, .ns (ms:=ms) (t:=t) h1 h2 h3 h4 h5=>by
  rw [Tr.depth,Nat.add_comm];refine .ns h1 h2 h3 h4 ((Mvs.fuel hn h5).mono (zkP fun y hy=>?_));obtain⟨s',ls,e⟩:=hn t (List.mem_of_find?_eq_some h2);rw [e,Tr.mt]at h3;split at h3
  ·exact znI _ _ _ h3 y hy
  ·cases h3
 |_,_,_,_, .sn h1 h2 h3 h4=>by
  rw [Tr.depth,Nat.add_comm];exact .sn h1 h2 h3 ((Mvs.fuel hn h4).mono (Nat.le_refl _))
 |_,_,_,_, .ss h1 h2 h3 h4=>by
  rw [Tr.depth,Nat.add_comm];exact .ss h1 h2 h3 ((Mvs.fuel hn h4).mono (Nat.le_refl _))
theorem Mvs.fuel{B:List Tn}(hn:∀t∈B,∃s ts,t.2.1= .nd s ts):∀{n:Nat}{as bs cs:List Tr},Mvs B n as bs cs→Mvs B (dts as) as bs cs
 |_,_,_,_, .nil=> .nil
 |_,_,_,_, .cons h1 h2=>by
  rw [dts];exact .cons ((Mv.fuel hn h1).mono (Nat.le_max_left _ _)) ((Mvs.fuel hn h2).mono (Nat.le_max_right _ _))
end
structure Pk (ws hs:List Str) (B:List Tn) (p:Pl):Prop where
  b:BkOk ws hs B
  m:zyj B
  o:PlOk hs B p
  dp:∀{c:Int→Nat},(p.ev B c).depth≤40
  wt:∀{c:Int→Nat},(p.ev B c).weight≤400
theorem Pk.ar (k:Pk ws hs B p):(p.ev B c).ar B:=zuM _ (ztu k.b k.o)
theorem Pk.hd (k:Pk ws hs B p):(p.ev B c).hd fun _=>True:=zzn k.b (fun _ _=>trivial) (fun _ _ _=>trivial) k.o
theorem Pk.goal (k:Pk ws hs B p):(p.ev B c).mk B (zaY 2)=p.ev B (zby c):=by rw [zxF];exact zcl k.b k.o
theorem Pk.ok_goal (k:Pk ws hs B p) (ha:S a=some (.lst (B.map zbd))) (hr:60≤r) (h:Q (enc (p.ev B (zby c))) S):zhC (r+1) [.ref a,enc (p.ev B c)] S Q E:=by
 have h1:=k.wt (c:=c);have h2:=k.dp (c:=c);have h3:=k.wt (c:=zby c);have h4:=k.dp (c:=zby c);exact L2.ok_goal ha k.b.s2 (by omega) hr k.ar (by omega) (by rw [k.goal];omega) (by rw [k.goal];omega) (by rw [k.goal];exact h)
noncomputable def Ok2 (c d:Int→Nat):Prop:=∀x:Int,0≤x→x<8→(c x≤1∧d x≤1)∨(c x=2∧d x=2)
theorem Pk.ok_move (k:Pk ws hs B p) (hc:Ok2 c d) (ha:S a=some (.lst (B.map zbd))) (hr:60≤r) (h:Q (enc (p.ev B (zgl c d))) S):zcR (r+1) [.ref a,enc (p.ev B c),enc (p.ev B d)] S Q E:=by
 have h1:=k.wt (c:=c);have h3:=k.wt (c:=d);have bd:=k.dp (c:=c);refine znp (fun t ht=>?_) (p.ev B c).depth ha ((zdJ k.b k.m hc k.o).fuel fun t ht=>(k.b.lf t ht).nd) (by omega) k.hd k.hd (by omega) (by omega) h;have L:=k.b.lf t ht;have R:=k.b.ri t ht;have g1:=L.dp;have g2:=L.wt;have g3:=L.nb;have g4:=zec R;have g5:=zgv R;exact⟨by omega,by omega,by omega,by omega,zcx R⟩
end
theorem zfU (f x:Int):byC f x≤1:=by unfold byC;split<;>omega
section
variable {S:Sto}{a:Addr}{B:List Tn}{n:Int}
theorem zlb (B:List Tn) (s:Str) (g:Tn→W):B.findSome? (fun t=>if t.1 == s then some (g t) else none)=(zaZ B s).map g:=by
 unfold zaZ
 induction B with
 |nil=>rfl
 |cons t B ih=>
  rw [List.findSome?_cons,List.find?_cons];cases e:t.1 == s with
  |true=>rfl
  |false=>simpa using ih
theorem zqM (hnd:(B.map fun t=>t.1).Nodup) (ha:S a=some (.lst (B.map zbd))) (hn:n=1∨n=2) (hg:Sides (zaY n) B):∀(d:Nat) {t:Tr}{r:Nat}{Q:WK}{E:Str→Sto→Prop},t.depth≤d→d+10≤r→t.ar B→t.weight≤1000→Q (enc (t.mk B (zaY n))) S→zbD (r+1) [.ref a,enc t, .int n] S Q E
 |0,t,r,Q,E,hd,hr,hh,hw,h=>by have:=zbq t;omega
 |d+1, .bl k,r,Q,E,hd,hr,hh,hw,h=>by simp [Tr.ar]at hh
 |d+1, .nd s ts,r,Q,E,hd,hr,hh,hw,h=>by
  simp only[Tr.depth]at hd;simp only[Tr.weight]at hw;simp only[Tr.ar]at hh;have hk:=zcV ts;obtain⟨r,rfl⟩:∃r',r=r'+1:=⟨r - 1,by omega⟩
  rw [zbD];simp only[enc];walk_at "wp";rw [zaK];refine zaH (fun σ=>∃x,σ=[x,some (.ref a),some (.int n)]) enc (fun t=>enc (t.mk B (zaY n))) trivial ts [] _ ⟨none,rfl⟩ (by simp;omega) (fun x hx σ R hI hR=>?_) ?_
  ·obtain⟨y,rfl⟩:=hI;have hdx:=zcS hx;have hwx:=zdi hx;simp only[zfJ];walk_at "wp";exact zqM hnd ha hn hg d (by omega) (by omega) (ars_iff.mp hh.2 x hx) (by omega) (hR _ _ ⟨_,rfl⟩ .refl)
  ·rw [List.nil_append];intro q hq;have eu:(ts.map fun t=>enc (t.mk B (zaY n)))=encs (ts.map (Tr.mk B (zaY n))):=by rw [zaK,List.map_map];rfl
   rw [eu,←zaK];have fq:put S q (Ob.lst (encs (ts.map (Tr.mk B (zaY n))))) q=some (.lst (encs (ts.map (Tr.mk B (zaY n))))):=zah;have fa:=keep (x:=Ob.lst (encs (ts.map (Tr.mk B (zaY n))))) ha hq;have sub:Sub S (put S q (Ob.lst (encs (ts.map (Tr.mk B (zaY n)))))):= .put .refl hq;generalize put S q (Ob.lst (encs (ts.map (Tr.mk B (zaY n)))))=S1 at fq fa sub⊢
   try walk_at "wp"
   rw [zak fa];refine zfO (S:=S1) ?_ (fun σ=>∃x,σ=[some (.ref a),some (.tup (.str s::encs ts)),some (.int n),some (.ref q),x]) zbd (fun t=>if t.1 == s then some (enc ((zaY n t).fill (ts.map (Tr.mk B (zaY n))))) else none) B _ ⟨_,rfl⟩ (fun t ht σ N hI hno hret=>?_) (fun e σ hI=>?_) fun w e S' sb=>?_
   ·exact fa
   ·obtain⟨x,rfl⟩:=hI;simp only[zfQ];have ee:zbd t= .tup [.str t.1,enc t.2.1,enc t.2.2]:=rfl;rw [ee];walk_at "wp";cases e:t.1 == s with
    |true=>
     rw [e]at hret
     try walk_at "wp"
     rw [zpu t hn];dsimp only;have et:t.1=s:=by simpa using e
     have hgw:=hg.wt t ht;refine zgf 4 (hg.dp t ht) (by omega) fq ?_ (by omega) (hret _ rfl _ .refl);rw [List.length_map,hh.1 t (by rw [←et];exact zcG hnd ht)];exact hg.fits t ht
    |false=>
     rw [e]at hno;exact hno rfl _ _ ⟨_,rfl⟩ .refl
   ·obtain⟨x,rfl⟩:=hI;rw [zlb]at e;have e0:zaZ B s=none:=by
     cases z:zaZ B s with
     |none=>rfl
     |some t=>rw [z]at e;cases e
    rw [zlD e0]at h
    try walk_at "wp"
    rw [zmK]
    try rw [zak fq]
    try walk_at "wp"
    simp only[enc]at h;refine⟨zan ?_,_,sub,h⟩;rw [zbo,List.length_map];omega
   ·rw [zlb]at e;cases z:zaZ B s with
    |none=>rw [z]at e;cases e
    |some t=>
     rw [z]at e;rw [zmk z]at h;cases e;exact⟨_,sub.trans sb,h⟩
end
section
variable {S:Sto}{a:Addr}{ws hs:List Str}{B:List Tn}{c:Int→Nat}{p:Pl}{r:Nat}{Q:WK}{E:Str→Sto→Prop}
theorem Pk.ok_made2 (k:Pk ws hs B p) (ha:S a=some (.lst (B.map zbd))) (hr:60≤r) (h:Q (enc (p.ev B (zby c))) S):zbD (r+1) [.ref a,enc (p.ev B c), .int 2] S Q E:=by
 have h1:=k.wt (c:=c);have h2:=k.dp (c:=c);exact zqM k.b.nd ha (.inr rfl) k.b.s2 40 h2 (by omega) k.ar (by omega) (by rw [k.goal];exact h)
end
theorem znF (c d e:Int→Nat) (h1:∀x,c x≤1) (h2:∀x,d x≤1) (h3:∀x,e x≤1):Ok2 (zgl c e) (zgl d e):=fun x _ _=>by
 have:=h1 x;have:=h2 x;unfold zgl;by_cases q:e x=1
 ·rw [if_pos q,if_pos q];exact .inr ⟨rfl,rfl⟩
 ·rw [if_neg q,if_neg q];exact .inl ⟨by omega,by omega⟩
noncomputable def pps (B:List Tn) (s:Str) (n:Nat):List (List Int):=match zaZ B s with
 |none=>(List.range n).map fun(i:Nat)=>[(i:Int)]
 |some t=>t.2.1.bls.map fun x=>x.1
noncomputable def zAQ (c:Int→Nat) (xs:List (List Int×Int×Str)):List (List Int×Str):=(xs.filter fun x=>c x.2.1 == 1).map fun x=>(x.1,x.2.2)
noncomputable def zfu (B:List Tn) (t:Tr):Option Tn:=B.find? fun u=>(u.2.1.mt t).isSome
mutual
noncomputable def Tr.op (B:List Tn) (p:List Int):Tr→List (List Int×Str)
 | .bl _=>[]
 | .nd s ts=>(match zfu B (.nd s ts) with
  |none=>[]
  |some t=>[(p,t.1)])++ops B p 0 ts
noncomputable def ops (B:List Tn) (p:List Int) (i:Nat):List Tr→List (List Int×Str)
 | []=>[]
 |t::ts=>t.op B (p++[(i:Int)])++ops B p (i+1) ts
end
theorem zdP{n:Nat}{h c d:Str}{L:Tr}(hL:L∈leftsL n h c d):∃ts,L= .nd h ts:=by
 unfold leftsL at hL;split at hL<;>simp only[List.mem_cons,List.not_mem_nil,or_false]at hL
 all_goals first
  | (subst hL;exact⟨_,rfl⟩)
  | (rcases hL with rfl |rfl<;>exact⟨_,rfl⟩)
theorem zml{s z:Str}{ls us:List Tr}(h:((Tr.nd s ls).mt (.nd z us)).isSome=true):s=z:=by
 simp only[Tr.mt]at h;split at h
 ·rename_i q;simp only[Bool.and_eq_true,beq_iff_eq]at q;exact q.1
 ·cases h
theorem zks{n:Nat}{h c d:Str}{L M x:Tr}(hL:L∈leftsL n h c d) (hM:M∈leftsL n h c d) (h1:(L.mt x).isSome=true) (h2:(M.mt x).isSome=true):L=M:=by
  cases x with
  |bl k=>
    obtain⟨ts,rfl⟩:=zdP hL;simp [Tr.mt]at h1
  |nd s ts=>
    unfold leftsL at hL hM;split at hL<;>simp only[List.mem_cons,List.not_mem_nil,or_false]at hL hM
    all_goals first
      | (rw [hL,hM])
      | (rcases hL with rfl |rfl<;>rcases hM with rfl |rfl<;>first
          |rfl
          | (exfalso
             rcases ts with _ |⟨u,us⟩
             · simp [Tr.mt]at h1
             · cases u with
               |bl k=>simp [Tr.mt,mts]at h1 h2
               |nd z vs=>
                 rcases vs with _ |⟨v,vs⟩
                 · simp [Tr.mt,mts]at h1 h2
                 · rcases vs with _ |⟨v',vs⟩
                   · cases v with
                     |bl k=>simp [Tr.mt,mts]at h1 h2
                     |nd z' xs=>
                       rcases xs with _ |⟨x',xs⟩
                       · simp [Tr.mt,mts]at h1 h2
                       · simp [Tr.mt,mts]at h1 h2
                   · simp [Tr.mt,mts]at h1 h2))
section
variable {w0 w1 w2 w3 w4 w5:Str}{tt:List Str}{B:List Tn}
theorem BookOk.one (b:BookOk w0 w1 w2 w3 w4 w5 tt B) (G:Signs w0 w1 w2 w3 w4 w5) {u v:Tn}(hu:u∈B) (hv:v∈B) {x:Tr}(h1:(u.2.1.mt x).isSome=true) (h2:(v.2.1.mt x).isSome=true):u.2.1=v.2.1:=by
 obtain⟨n,m,e⟩:=b.lf;have mu:u.2.1∈leftsL n w0 w2 w3++leftsL m w1 w2 w3:=by rw [←e];exact List.mem_map.mpr ⟨u,hu,rfl⟩
 have mv:v.2.1∈leftsL n w0 w2 w3++leftsL m w1 w2 w3:=by rw [←e];exact List.mem_map.mpr ⟨v,hv,rfl⟩
 have key:∀{L M:Tr},L∈leftsL n w0 w2 w3→M∈leftsL m w1 w2 w3→(L.mt x).isSome=true→(M.mt x).isSome=true→False:=fun {L M} hL hM k1 k2=>by
  obtain⟨ts,rfl⟩:=zdP hL;obtain⟨us,rfl⟩:=zdP hM;cases x with
  |bl k=>simp [Tr.mt]at k1
  |nd s vs=>exact G.n0 w1 (by simp) ((zml k1).trans (zml k2).symm)
 rcases List.mem_append.mp mu with z |z<;>rcases List.mem_append.mp mv with y |y
 ·exact zks z y h1 h2
 ·exact(key z y h1 h2).elim
 ·exact(key y z h2 h1).elim
 ·exact zks z y h1 h2
theorem zhS (n:Nat) (h c d:Str):(leftsL n h c d).Nodup:=by
 unfold leftsL;split<;>simp
theorem BookOk.inj (b:BookOk w0 w1 w2 w3 w4 w5 tt B) (G:Signs w0 w1 w2 w3 w4 w5):(B.map fun t=>t.2.1).Nodup:=by
 obtain⟨n,m,e⟩:=b.lf;rw [e,List.nodup_append];refine⟨zhS ..,zhS ..,fun x hx y hy=>?_⟩;obtain⟨ts,rfl⟩:=zdP hx;obtain⟨us,rfl⟩:=zdP hy;intro z;cases z;exact G.n0 _ (by simp) rfl
theorem ztA{α β:Type}{f:α→β}:∀{xs:List α}{x y:α},(xs.map f).Nodup→x∈xs→y∈xs→f x=f y→x=y
 |z::xs,x,y,h,hx,hy,e=>by
  rw [List.map_cons,List.nodup_cons]at h;rcases List.mem_cons.mp hx with h1 |h1
  ·rcases List.mem_cons.mp hy with h2 |h2
   ·rw [h1,h2]
   ·exact(h.1 (List.mem_map.mpr ⟨y,h2,by rw [←e,h1]⟩)).elim
  ·rcases List.mem_cons.mp hy with h2 |h2
   ·exact(h.1 (List.mem_map.mpr ⟨x,h1,by rw [e,h2]⟩)).elim
   ·exact ztA h.2 h1 h2 e
end
mutual
inductive Wi (B:List Tn) (wn:List (List Int)):Nat→List Int→Tr→Tr→Prop
 |no {n:Nat}{p:List Int}{s:Str}{ts us:List Tr}:p∉wn→zaZ B s=none→Wis B wn n p ((List.range ts.length).map fun(i:Nat)=>[(i:Int)]) ts us→Wi B wn (n+1) p (.nd s ts) (.nd s us)
 |yes {n:Nat}{p:List Int}{s:Str}{ts us ms:List Tr}{t:Tn}:p∈wn→zfu B (.nd s ts)=some t→t.2.1.mt (.nd s ts)=some ms→zaZ B t.1=some t→Wis B wn n p (t.2.1.bls.map fun x=>x.1) ms us→Wi B wn (n+1) p (.nd s ts) (.nd t.1 us)
inductive Wis (B:List Tn) (wn:List (List Int)):Nat→List Int→List (List Int)→List Tr→List Tr→Prop
 |nil {n:Nat}{p:List Int}:Wis B wn n p [] [] []
 |cons {n:Nat}{p q:List Int}{qs:List (List Int)}{t u:Tr}{ts us:List Tr}:Wi B wn n (p++q) t u→Wis B wn n p qs ts us→Wis B wn n p (q::qs) (t::ts) (u::us)
end
noncomputable def zlh (c:Int→Nat) (xs:List (List Int×Int×Str)):List (List Int):=(zAQ c xs).map fun x=>x.1
noncomputable def zlj (x:List Int×Str):W:= .tup [zbc x.1, .str x.2]
section
variable {a:Addr}{B:List Tn}
structure Lft (B:List Tn):Prop where
  d:∀t∈B,t.2.1.depth≤4
  w:∀t∈B,t.2.1.weight≤10
theorem zol{S:Sto}{r:Nat}{Q:WK}{E:Str→Sto→Prop}{s:Str}{ts:List Tr}(L:Lft B) (ha:S a=some (.lst (B.map zbd))) (hl:ts.length≤1000) (hr:20≤r) (h:∀q,S q=none→Q (.ref q) (put S q (.lst ((pps B s ts.length).map zbc)))):zbH (r+1) [.ref a,enc (.nd s ts)] S Q E:=by
 obtain⟨r,rfl⟩:∃r',r=r'+1:=⟨r - 1,by omega⟩
 rw [zbH];simp only[enc];walk_at "wp";refine zfE ha ?_;unfold pps at h;cases e:zaZ B s with
 |none=>
  rw [e]at h;simp only[zew]
  try walk_at "wp"
  rw [zbo];have e1:(((ts.length+1:Nat):Int) - 1).toNat=ts.length:=by omega
  rw [e1];refine⟨⟨by omega,by omega⟩,?_⟩
  rw [zoa];refine zaH (fun σ=>∃x,σ=[x]) (fun i:Nat=>W.int i) (fun i=>zbc [(i:Int)]) trivial (List.range ts.length) [] _ ⟨none,rfl⟩ (by simp;omega) (fun x hx σ R hI hR=>?_) ?_
  ·obtain⟨y,rfl⟩:=hI;simp only[zeD];walk_at "wp";exact⟨zan (by decide),hR _ _ ⟨_,rfl⟩ .refl⟩
  ·rw [List.nil_append];intro q hq;have:=h q hq;simp only[List.map_map]at this;exact⟨_, .refl,this⟩
 |some t=>
  rw [e]at h;have ht:t∈B:=List.mem_of_find?_eq_some e;have ee:zew (some t)= .tup [.str t.1,enc t.2.1,enc t.2.2]:=rfl;rw [ee]
  try walk_at "wp"
  rw [show atI [W.str t.1,enc t.2.1,enc t.2.2] 1=some (enc t.2.1) from rfl];dsimp only;have h1:=L.d t ht;have h2:=L.w t ht;refine zoz (by omega) (by omega) fun q hq=>?_;have:=h q hq;simp only[List.map_map]at this;exact⟨_, .refl,this⟩
theorem zkv (B:List Tn) (x:Tr):B.findSome? (fun t=>if(t.2.1.mt x).isSome then some (zbd t) else none)=(zfu B x).map zbd:=by
 unfold zfu
 induction B with
 |nil=>rfl
 |cons t B ih=>
  rw [List.findSome?_cons,List.find?_cons];cases e:(t.2.1.mt x).isSome with
  |true=>rfl
  |false=>simpa using ih
theorem zhE{S:Sto}{r:Nat}{Q:WK}{E:Str→Sto→Prop}{x:Tr}(L:Lft B) (ha:S a=some (.lst (B.map zbd))) (hf:x.fits 0) (hr:20≤r) (h:Q (zew (zfu B x)) S):zbv (r+1) [.ref a,enc x] S Q E:=by
 obtain⟨r,rfl⟩:∃r',r=r'+1:=⟨r - 1,by omega⟩
 rw [zbv];walk_at "wp";rw [zak ha];refine zfO (S:=S) ?_ (fun σ=>∃y,σ=[some (.ref a),some (enc x),y]) zbd (fun t=>if(t.2.1.mt x).isSome then some (zbd t) else none) B _ ⟨_,rfl⟩ (fun t ht σ N hI hno hret=>?_) (fun e σ hI=>?_) fun w e S' sb=>?_
 ·exact ha
 ·obtain⟨y,rfl⟩:=hI;simp only[zel];have ee:zbd t= .tup [.str t.1,enc t.2.1,enc t.2.2]:=rfl;rw [ee];walk_at "wp";rw [show atI [W.str t.1,enc t.2.1,enc t.2.2] 1=some (enc t.2.1) from rfl];dsimp only;have h1:=L.d t ht;have h2:=L.w t ht;refine zeF (by omega) hf (by omega) (fun ys hys q hq=>?_) fun h0=>?_
  ·try walk_at "wp"
   rw [hys]at hret;exact hret _ rfl _ (.put .refl hq)
  ·try walk_at "wp"
   rw [h0]at hno;exact hno rfl _ _ ⟨_,rfl⟩ .refl
 ·obtain⟨y,rfl⟩:=hI;walk_at "wp";rw [zkv]at e;have:zfu B x=none:=by
   cases q:zfu B x with
   |none=>rfl
   |some t=>rw [q]at e;cases e
  rw [this]at h;exact⟨_, .refl,h⟩
 ·rw [zkv]at e;cases q:zfu B x with
  |none=>rw [q]at e;cases e
  |some t=>
   rw [q]at e h;cases e;exact⟨_,sb,h⟩
end
mutual
theorem znz (B:List Tn):∀(t:Tr) (p:List Int),(t.op B p).length≤t.weight
 | .bl n,p=>by simp [Tr.op]
 | .nd s ts,p=>by
  have:=zpV B ts p 0;rw [Tr.op,List.length_append,Tr.weight];split<;>simp<;>omega
theorem zpV (B:List Tn):∀(ts:List Tr) (p:List Int) (i:Nat),(ops B p i ts).length≤wts ts
 | [],p,i=>by simp [ops]
 |t::ts,p,i=>by
  have h1:=znz B t (p++[(i:Int)]);have h2:=zpV B ts p (i+1);rw [ops,List.length_append,wts];omega
end
section
variable {a f:Addr}{B:List Tn}
mutual
theorem znG (L:Lft B) (haf:f≠a):∀(t:Tr) {r:Nat}{p:List Int}{xs:List W}{S:Sto}{Q:WK}{E:Str→Sto→Prop},t.depth+25≤r→S a=some (.lst (B.map zbd))→S f=some (.lst xs)→xs.length+t.weight≤100000→p.length+t.depth≤1000→t.hd (fun _=>True)→
  Q .non (put S f (.lst (xs++(t.op B p).map zlj)))→zbm (r+1) [.ref a,enc t,zbc p, .ref f] S Q E
 | .bl n,r,p,xs,S,Q,E,hr,ha,hf,hx,hp,hh,h=>by simp [Tr.hd]at hh
 | .nd s ts,r,p,xs,S,Q,E,hr,ha,hf,hx,hp,hh,h=>by
  have ft:=zgr (m:=0) _ hh;simp only[Tr.depth]at hr hp;simp only[Tr.weight]at hx;simp only[Tr.hd]at hh;obtain⟨r,rfl⟩:∃r',r=r'+1:=⟨r - 1,by omega⟩
  rw [zbm];have ee:enc (.nd s ts)= .tup (.str s::encs ts):=by simp only[enc]
  walk_at "wp";refine zhE L ha ft (by omega) ?_;rw [Tr.op]at h;cases e:zfu B (.nd s ts) with
  |none=>
   rw [e]at h;simp only[List.nil_append]at h;simp only[zew];rw [ee]
   try walk_at "wp"
   exact zhO L haf ts (by omega) ha hf (by omega) (by omega) hh.2 fun x5 x6=>⟨_, .refl,h⟩
  |some t=>
   rw [e]at h;have et:zew (some t)= .tup [.str t.1,enc t.2.1,enc t.2.2]:=rfl;rw [et,ee]
   try walk_at "wp"
   simp only[zak hf,true_and];refine⟨zan (by decide),zch (by omega),?_⟩;refine zhO L haf ts (xs:=xs++[zlj (p,t.1)]) (by omega) (by rw [zaI (Ne.symm haf)];exact ha) zah (by simp;omega) (by omega) hh.2 fun x5 x6=>⟨_, .refl,?_⟩;rw [zbj];simpa using h
theorem zhO (L:Lft B) (haf:f≠a):∀(ts:List Tr) {r:Nat}{p:List Int}{i:Nat}{xs:List W}{S:Sto}{E:WX}{D:WEnds}{t0 x4 x5 x6:Option W},dts ts+25≤r→S a=some (.lst (B.map zbd))→S f=some (.lst xs)→xs.length+wts ts≤100000→p.length+1+dts ts≤1000→hds (fun _=>True) ts→
  (∀x5 x6,D.nx [some (.ref a),t0,some (zbc p),some (.ref f),x4,x5,x6] (put S f (.lst (xs++(ops B p i ts).map zlj))))→
  forL (wGT (zaG (wGN 5) (zaG (wGN 6) zdO))) (zdt (r+1) (zbm (r+1))) E D (fun _=>True) (zim i (encs ts)) [some (.ref a),t0,some (zbc p),some (.ref f),x4,x5,x6] S
 | [],r,p,i,xs,S,E,D,t0,x4,x5,x6,hr,ha,hf,hx,hp,hh,h=>by
  simp only[encs,zim,forL];have:=h x5 x6;rw [ops,List.map_nil,List.append_nil,zfx hf]at this;exact this
 |t::ts,r,p,i,xs,S,E,D,t0,x4,x5,x6,hr,ha,hf,hx,hp,hh,h=>by
  simp only[dts]at hr hp;simp only[wts]at hx;simp only[hds]at hh;simp only[encs,zim];refine zbz fun N hN=>?_;simp only[zdt];walk_at "wp";rw [zmS];refine⟨zan (by decide),zan (by omega),?_⟩;have ol:=znz B t (p++[(i:Int)]);refine znG L haf t (by omega) ha hf (by omega) (by simp;omega) hh.1 ?_;refine hN _ _ _ .refl trivial (zhO L haf ts (xs:=xs++(t.op B (p++[(i:Int)])).map zlj) (by omega) (by rw [zaI (Ne.symm haf)];exact ha) zah (by simp;omega) (by omega) hh.2 fun x5 x6=>?_);rw [zbj];have:=h x5 x6;rw [ops,List.map_append]at this;simpa using this
end
theorem zxH{p q:List Int}{S:Sto}{Q:WK}:zem (zbc p) (zbc q) S Q=(p.length+q.length≤sizeLine∧Q (zbc (p++q)) S):=by
 unfold zbc;rw [zhj,List.length_map,List.length_map,List.map_append]
noncomputable def PB (B:List Tn):Prop:=∀t∈B,∀x∈t.2.1.bls,x.1.length≤4
theorem zpW{s:Str}{n:Nat}(h:PB B):∀q∈pps B s n,q.length≤4:=fun q hq=>by
 unfold pps at hq;cases e:zaZ B s with
 |none=>
  rw [e]at hq;obtain⟨i,_,rfl⟩:=List.mem_map.mp hq;simp
 |some t=>
  rw [e]at hq;obtain⟨x,hx,rfl⟩:=List.mem_map.mp hq;exact h t (List.mem_of_find?_eq_some e) x hx
end
section
variable {a:Addr}{B:List Tn}{S:Sto}{r:Nat}{Q:WK}{E:Str→Sto→Prop}{t:Tr}
theorem zhA (L:Lft B) (ha:S a=some (.lst (B.map zbd))) (hd:t.depth≤60) (hr:t.depth+30≤r) (hw:t.weight≤1000) (hh:t.hd (fun _=>True)) (h:∀q,S q=none→Q (.ref q) (put S q (.lst ((t.op B []).map zlj)))):zcA (r+1) [.ref a,enc t] S Q E:=by
 obtain⟨r,rfl⟩:∃r',r=r'+1:=⟨r - 1,by omega⟩
 rw [zcA];walk_at "wp";refine⟨Nat.zero_le _,fun q hq=>⟨Nat.zero_le _,?_⟩⟩;have hqa:q≠a:=fun z=>by rw [z,ha]at hq;cases hq
 refine znG L hqa t (p:=[]) (xs:=[]) (by omega) (keep ha hq) zah (by simp;omega) (by simp;omega) hh ?_;rw [zbj,List.nil_append];exact⟨_, .refl,h q hq⟩
theorem zlX{f:Addr}{xs:List (List Int×Str)}(hf:S f=some (.lst (xs.map zlj))) (hl:xs.length≤10000) (h:∀q,S q=none→Q (.ref q) (put S q (.lst ((xs.map fun x=>x.1).map zbc)))):zdj (r+1) [.ref f] S Q E:=by
 rw [zdj];walk_at "wp";rw [zak hf];refine zaH (fun σ=>∃y,σ=[y]) zlj (fun x=>zbc x.1) ?_ xs [] _ ⟨none,rfl⟩ (by simp;omega) (fun x hx σ R hI hR=>?_) ?_
 ·exact hf
 ·obtain⟨y,rfl⟩:=hI;simp only[zgb,zlj];walk_at "wp";exact hR _ _ ⟨_,rfl⟩ .refl
 ·rw [List.nil_append];intro q hq;have:=h q hq;rw [List.map_map]at this;exact⟨_, .refl,this⟩
theorem zkU{s:Str}{ts ms:List Tr}{u:Tn}(L:Lft B) (ha:S a=some (.lst (B.map zbd))) (hh:(Tr.nd s ts).hd (fun _=>True)) (hw:(Tr.nd s ts).weight≤1000) (hr:25≤r) (h1:zfu B (.nd s ts)=some u) (h2:u.2.1.mt (.nd s ts)=some ms) (h:Q (enc (.nd u.1 ms)) S):zcJ (r+1) [.ref a,enc (.nd s ts)] S Q E:=by
 obtain⟨r,rfl⟩:∃r',r=r'+1:=⟨r - 1,by omega⟩
 have ht:u∈B:=List.mem_of_find?_eq_some h1;have ft:=zgr (m:=0) _ hh;have hm:=zrn u.2.1 _ _ h2 hh;have hl:=zcV ms;rw [zcJ];walk_at "wp";refine zhE L ha ft (by omega) ?_;rw [h1];have et:zew (some u)= .tup [.str u.1,enc u.2.1,enc u.2.2]:=rfl;rw [et]
 try walk_at "wp"
 rw [show atI [W.str u.1,enc u.2.1,enc u.2.2] 1=some (enc u.2.1) from rfl];have g1:=L.d u ht;have g2:=L.w u ht;refine⟨zan (by decide),zeF (by omega) ft (by omega) (fun ys hys q hq=>?_) fun h0=>by rw [h2]at h0;cases h0⟩
 rw [h2]at hys;cases hys
 try walk_at "wp"
 rw [zbo];simp only[enc]at h;exact⟨zan (by omega),_, .put .refl hq,h⟩
end
theorem zsr{B:List Tn}{s:Str}{n:Nat}(h:zaZ B s=none):pps B s n=(List.range n).map fun(i:Nat)=>[(i:Int)]:=by unfold pps;rw [h]
theorem zst{B:List Tn}{s:Str}{n:Nat}{t:Tn}(h:zaZ B s=some t):pps B s n=t.2.1.bls.map fun x=>x.1:=by unfold pps;rw [h]
theorem Wis.len{B:List Tn}{wn:List (List Int)}{n:Nat}{p:List Int}:∀{qs:List (List Int)}{ts us:List Tr},Wis B wn n p qs ts us→us.length=ts.length
 |_,_,_, .nil=>rfl
 |_,_,_, .cons _ h=>by rw [List.length_cons,List.length_cons,Wis.len h]
section
variable {a w:Addr}{B:List Tn}{wn:List (List Int)}
theorem zhg (n:Nat) (hP4:∀{t u:Tr}{p:List Int}{r:Nat}{S:Sto}{Q:WK}{E:Str→Sto→Prop},Wi B wn n p t u→n+40≤r+1→S a=some (.lst (B.map zbd))→S w=some (.dct (zif wn))→t.hd (fun _=>True)→t.weight≤1000→p.length+4*n≤1000→Q (enc u) S→zaR (r+1) [.ref a,enc t,zbc p, .ref w] S Q E) :
  ∀{ts us:List Tr}{qs:List (List Int)}{p:List Int},Wis B wn n p qs ts us→ ∀{r:Nat}{xs:List W}{f:Addr}{S:Sto}{G:Sto→Prop}{E:WX}{D:WEnds}{t0 x4 x6 x7:Option W},(∀q∈qs,q.length≤4)→n+40≤r+1→S a=some (.lst (B.map zbd))→S w=some (.dct (zif wn))→S f=some (.lst xs)→f≠a→f≠w→xs.length+ts.length≤10000→wts ts≤1000→hds (fun _=>True) ts→p.length+4+4*n≤1000→(∀o,G (put S f o))→
  (∀x6 x7,D.nx [some (.ref a),t0,some (zbc p),some (.ref w),x4,some (.ref f),x6,x7] (put S f (.lst (xs++encs us))))→
  forL (wGT (zaG (wGN 6) (zaG (wGN 7) zdO))) (zcC (r+1) (zaR (r+1))) E D G (pairs (qs.map zbc) (encs ts)) [some (.ref a),t0,some (zbc p),some (.ref w),x4,some (.ref f),x6,x7] S
 |_,_,_,p, .nil=>by
  rename_i r xs f S G E D t0 x4 x6 x7;intro hq hr ha hw hf n1 n2 hx hwt hh hp hG h;simp only[List.map_nil,encs,pairs,forL];have:=h x6 x7;simp only[encs,List.append_nil,zfx hf]at this;exact this
 |_,_,_,p, .cons (q:=q) (t:=t) (u:=u) (ts:=ts) (us:=us) h1 h2=>by
  rename_i r xs f S G E D t0 x4 x6 x7 qs;intro hq hr ha hw hf n1 n2 hx hwt hh hp hG h;simp only[wts]at hwt;simp only[hds]at hh;simp only[List.length_cons]at hx;have hq4:=hq q List.mem_cons_self;simp only[List.map_cons,encs,pairs];refine zbz fun N hN=>?_;simp only[zcC];walk_at "wp";simp only[zak hf,true_and];rw [zxH];refine⟨zan (by omega),hP4 h1 hr ha hw hh.1 (by omega) (by simp;omega) ?_⟩
  try walk_at "wp"
  rw [zak hf];refine⟨zch (by omega),?_⟩;refine hN _ _ _ .refl (hG _) (zhg n hP4 h2 (xs:=xs++[enc u]) (fun q' hq'=>hq q' (List.mem_cons_of_mem _ hq')) hr (by rw [zaI (Ne.symm n1)];exact ha) (by rw [zaI (Ne.symm n2)];exact hw) zah n1 n2 (by simp;omega) (by omega) hh.2 hp (fun o=>by rw [zbj];exact hG o) fun x6 x7=>?_)
  rw [zbj];have:=h x6 x7;simpa [encs]using this
theorem zjV (L:Lft B) (hP:PB B):∀(n:Nat) {t u:Tr}{p:List Int}{r:Nat}{S:Sto}{Q:WK}{E:Str→Sto→Prop},Wi B wn n p t u→n+40≤r+1→S a=some (.lst (B.map zbd))→S w=some (.dct (zif wn))→t.hd (fun _=>True)→t.weight≤1000→p.length+4*n≤1000→Q (enc u) S→zaR (r+1) [.ref a,enc t,zbc p, .ref w] S Q E
 |0,t,u,p,r,S,Q,E,M,hr,ha,hw,hh,hwt,hp,h=>by cases M
 |n+1,t,u,p,r,S,Q,E,M,hr,ha,hw,hh,hwt,hp,h=>by
  obtain⟨r,rfl⟩:∃r',r=r'+1:=⟨r - 1,by omega⟩
  have tail:∀{s:Str}{ts us:List Tr}{t0:Option W}{E':WX},Wis B wn n p (pps B s ts.length) ts us→hds (fun _=>True) ts→wts ts≤1000→Q (enc (.nd s us)) S→
    (1:Nat)=1→ ∀f,S f=none→zbH (r+1) [.ref a, .tup (.str s::encs ts)] (put S f (.lst [])) (fun x S1=>zoI x S1 fun xs G=>forL (wGT (zaG (wGN 6) (zaG (wGN 7) zdO))) (zcC (r+1) (zaR (r+1))) E' { nx:=zbg (wOp zem (zcf (zab (wOp oIx (zad 4) (wC (W.int 0))) waNil)) (wB zdM (zab (zad 5) waNil))) E' { nx:=fun x S'=>∃S'',Sub S'' S'∧Q W.non S'',rt:=fun w S'=>∃S'',Sub S'' S'∧Q w S'' },rt:=fun w S'=>∃S'',Sub S'' S'∧Q w S'' } (fun S'=>G S'∧True) (pairs xs (encs ts)) [some (.ref a),t0,some (zbc p),some (.ref w),some (.tup (.str s::encs ts)),some (.ref f),none,none] S1) E:=fun {s ts us t0 E'} WW hd hw' hQ _ f hf=>by
   have hk:=zcV ts;have n1:f≠a:=fun z=>by rw [z,ha]at hf;cases hf
   have n2:f≠w:=fun z=>by rw [z,hw]at hf;cases hf
   have ee:W.tup (W.str s::encs ts)=enc (.nd s ts):=by simp only[enc]
   rw [ee];refine zol L (keep ha hf) (by omega) (by omega) fun q hq=>?_;rw [zhI,zgO,←ee];obtain⟨hq1,hq2⟩:=zed hq;refine zhg n (zjV L hP n) WW (zpW hP) (by omega) (keep (keep ha hf) hq) (keep (keep hw hf) hq) (keep zah hq) n1 n2 (by simp;omega) hw' hd (by omega) (fun o=>⟨?_,trivial⟩) fun x6 x7=>?_
   ·show put _ f o q=_;rw [zaI hq2];exact zah
   ·have hlu:us.length≤1000:=by
     have:=Wis.len WW;omega
    walk_at "wp";rw [zbo];simp only[enc]at hQ;refine⟨zan (by decide),zan (by omega),S,?_,hQ⟩;rw [znr hq2];exact .put (.put .refl hf) hq1
  cases M with
  | @no _ _ s ts us h1 h2 h3=>
   simp only[Tr.hd]at hh;simp only[Tr.weight]at hwt;rw [zaR];simp only[enc];walk_at "wp";rw [zlB hw,zjU,decide_eq_false h1]
   try walk_at "wp"
   refine⟨Nat.zero_le _,fun f hf=>?_⟩;have:=tail (t0:=some (.tup (.str s::encs ts))) (E':=fun c x S'=>E c S') (by rw [zsr h2];exact h3) hh.2 (by omega) h rfl f hf;simpa only[and_true]using this
  | @yes _ _ s ts us ms t h1 h2 h3 h4 h5=>
   have hm:=zrn t.2.1 _ _ h3 hh;rw [zaR];walk_at "wp";rw [zlB hw,zjU,decide_eq_true h1]
   try walk_at "wp"
   refine zkU L ha hh hwt (by omega) h2 h3 ?_;simp only[enc]
   try walk_at "wp"
   refine⟨Nat.zero_le _,fun f hf=>?_⟩;have:=tail (t0:=some (.tup (.str s::encs ts))) (E':=fun c x S'=>E c S') (by rw [zst h4];exact h5) hm.1 (by omega) h rfl f hf;simpa only[and_true]using this
end
theorem zjM{S:Sto}{n:Nat}:∀(p q:List Int),zgc (eqF S (n+1)) (p.map W.int) (q.map W.int)=some (decide (p=q))
 | [],[]=>by simp [zgc]
 | [],j::q=>by simp [zgc]
 |i::p,[]=>by simp [zgc]
 |i::p,j::q=>by
  rw [List.map_cons,List.map_cons,zgc,zty,zjM p q];simp only[Option.some.injEq];rw [Bool.eq_iff_iff];simp
theorem zzA{S:Sto}{n:Nat}(p q:List Int):eqF S (n+2) (zbc p) (zbc q)=some (decide (p=q)):=by
 unfold zbc;rw [ztq,zjM]
theorem zxw{S:Sto}{x:List Int}:∀ys:List (List Int),inF S (zbc x) (ys.map zbc)=some (decide (x∈ys))
 | []=>by simp [inF]
 |y::ys=>by
  rw [List.map_cons,inF,zzA (n:=57),zxw ys];simp only[Option.some.injEq];rw [Bool.eq_iff_iff];simp only[Bool.or_eq_true,decide_eq_true_eq,List.mem_cons];exact⟨fun h=>h.elim (fun e=> .inl e.symm) .inr,fun h=>h.elim (fun e=> .inl e.symm) .inr⟩
section
variable {a:Addr}{B:List Tn}{wn:List (List Int)}{S:Sto}{r n:Nat}{Q:WK}{E:Str→Sto→Prop}{t u:Tr}{f:Addr}
theorem zoH (L:Lft B) (hP:PB B) (M:Wi B wn n [] t u) (hn:n≤60) (hr:110≤r) (ha:S a=some (.lst (B.map zbd))) (hf:S f=some (.lst (wn.map zbc))) (hh:t.hd (fun _=>True)) (hw:t.weight≤1000) (hl:wn.length≤10000) (h:Q (enc u) S):zdL (r+1) [.ref a,enc t, .ref f] S Q E:=by
 obtain⟨r,rfl⟩:∃r',r=r'+1:=⟨r - 1,by omega⟩
 rw [zdL];walk_at "wp";refine⟨Nat.zero_le _,?_⟩;rw [zak hf];refine zaH (fun σ=>∃y,σ=[y]) zbc (fun p=>W.tup [zbc p, .bl true]) ?_ wn [] _ ⟨none,rfl⟩ (by simp;omega) (fun x hx σ R hI hR=>?_) ?_
 ·exact hf
 ·obtain⟨y,rfl⟩:=hI;simp only[zgy];walk_at "wp";exact⟨zan (by decide),hR _ _ ⟨_,rfl⟩ .refl⟩
 ·rw [List.nil_append];have e:zeO (wn.map fun p=>W.tup [zbc p, .bl true])=some wn:=zky wn;rw [e];refine⟨by omega,fun d hd=>?_⟩;have e0:W.tup []=zbc []:=rfl;rw [e0];exact zjV L hP n M (by omega) (keep ha hd) zah hh hw (by simp;omega) ⟨_, .put .refl hd,h⟩
theorem zsD{ks:List (List Int)}(L:Lft B) (hP:PB B) (M:Wi B wn n [] t u) (hn:n≤60) (hr:115≤r) (ha:S a=some (.lst (B.map zbd))) (hf:S f=some (.lst (wn.map zbc))) (hh:t.hd (fun _=>True)) (hw:t.weight≤1000) (hd:t.depth≤60) (hl:wn.length≤10000) (hks:((t.op B []).map fun x=>x.1)=ks) (hin:∀x∈wn,x∈ks) (h:Q (enc u) S):zfN (r+1) [.ref a,enc t, .ref f] S Q E:=by
 obtain⟨r,rfl⟩:∃r',r=r'+1:=⟨r - 1,by omega⟩
 have ol:=znz B t [];rw [zfN];walk_at "wp";refine zhA L ha hd (by omega) hw hh fun q hq=>?_;refine zlX zah (by omega) fun q2 hq2=>?_;rw [hks];have f2:put (put S q (Ob.lst ((t.op B []).map zlj))) q2 (Ob.lst (ks.map zbc)) q2=some (.lst (ks.map zbc)):=zah;have ff:=keep (x:=Ob.lst (ks.map zbc)) (keep (x:=Ob.lst ((t.op B []).map zlj)) hf hq) hq2;have fa:=keep (x:=Ob.lst (ks.map zbc)) (keep (x:=Ob.lst ((t.op B []).map zlj)) ha hq) hq2;have sub:Sub S (put (put S q (Ob.lst ((t.op B []).map zlj))) q2 (Ob.lst (ks.map zbc))):= .trans (.put .refl hq) (.put .refl hq2);generalize put (put S q (Ob.lst ((t.op B []).map zlj))) q2 (Ob.lst (ks.map zbc))=S2 at f2 ff fa sub⊢
 try walk_at "wp"
 rw [zak ff];refine zfO (S:=S2) ?_ (fun σ=>∃x,σ=[some (.ref a),some (enc t),some (.ref f),some (.ref q2),x]) zbc (fun _=>none) wn _ ⟨_,rfl⟩ (fun x hx σ N hI hno hret=>?_) (fun e σ hI=>?_) fun w e S' sb=>?_
 ·exact ff
 ·obtain⟨y,rfl⟩:=hI;unfold ziD;walk_at "wp";rw [zak f2,zxw,decide_eq_true (hin x hx)]
  try walk_at "wp"
  exact hno rfl _ _ ⟨_,rfl⟩ .refl
 ·obtain⟨y,rfl⟩:=hI
  try walk_at "wp"
  exact zoH L hP M hn (by omega) fa ff hh hw hl ⟨_,sub,h⟩
 ·rw [List.findSome?_eq_none_iff.mpr (fun _ _=>rfl)]at e;cases e
end
section
variable {c:Int→Nat}
noncomputable def One (c:Int→Nat):Prop:=∀x:Int,0≤x→x<8→c x≤1
theorem One.src (hc:One c):∀x:Int,0≤x→x<8→zjE c x=0:=fun x h0 h1=>by
 have:=hc x h0 h1;unfold zjE;split<;>omega
end
theorem zcX (f:Int):One (byC f):=fun x _ _=>zfU f x
noncomputable def zyk (B:List Tn) (x:List Int×Tr):List (List Int×Str):=(zfu B x.2).toList.map fun b=>(x.1,b.1)
mutual
theorem zsW (B:List Tn):∀(t:Tr) (p:List Int),t.fits 0→(t.plt p).flatMap (zyk B)=t.op B p
 | .bl n,p,h=>by
  simp only[Tr.fits]at h;omega
 | .nd s ts,p,h=>by
  simp only[Tr.fits]at h;rw [Tr.plt,List.flatMap_cons,zpr B ts p 0 h,Tr.op,zyk];cases zfu B (.nd s ts)<;>rfl
theorem zpr (B:List Tn):∀(ts:List Tr) (p:List Int) (i:Nat),fitss 0 ts→(zii p i ts).flatMap (zyk B)=ops B p i ts
 | [],p,i,h=>by simp [zii,ops]
 |t::ts,p,i,h=>by
  simp only[fitss]at h;rw [zii,ops,List.flatMap_append,zsW B t _ h.1,zpr B ts p (i+1) h.2]
end
theorem zsG (x:Int) (h0:0≤x) (h8:x<8):byC 8 x=0:=by
 have:∀n:Nat,n<8→byC 8 (n:Int)=0:=by decide
 obtain⟨n,rfl⟩:=Int.eq_ofNat_of_zero_le h0;exact this n (by omega)
structure Pre (S:Sto) (aw at' ab:Addr) (w0 w1 w2 w3 w4 w5:Str) (tt:List Str) (B:List Tn):Prop where
  G:Signs w0 w1 w2 w3 w4 w5
  T:Titles tt
  b:BookOk w0 w1 w2 w3 w4 w5 tt B
  fw:S aw=some (.lst (six w0 w1 w2 w3 w4 w5))
  ft:S at'=some (.lst (tt.map W.str))
  fb:S ab=some (.lst (B.map zbd))
theorem Pre.bk{S:Sto}{aw at' ab:Addr}{w0 w1 w2 w3 w4 w5:Str}{tt:List Str}{B:List Tn}(P:Pre S aw at' ab w0 w1 w2 w3 w4 w5 tt B):BkOk [w0,w1,w2,w3,w4,w5] [w2,w3,w4,w5] B:=P.b.bk P.T P.G
theorem Pre.ne{S:Sto}{aw at' ab:Addr}{w0 w1 w2 w3 w4 w5:Str}{tt:List Str}{B:List Tn}(P:Pre S aw at' ab w0 w1 w2 w3 w4 w5 tt B):B≠ []:=by
 have h:=P.b.len;rintro rfl;simp at h
theorem Pre.sub{S S':Sto}{aw at' ab:Addr}{w0 w1 w2 w3 w4 w5:Str}{tt:List Str}{B:List Tn}(P:Pre S aw at' ab w0 w1 w2 w3 w4 w5 tt B) (h:Sub S S'):Pre S' aw at' ab w0 w1 w2 w3 w4 w5 tt B:=⟨P.G,P.T,P.b,h _ _ P.fw,h _ _ P.ft,h _ _ P.fb⟩
theorem zvt{T:WS}{E:WX}{D:WEnds}{ns:List Int}{x1 x2 x3:Option W}{τ:WSt}{S:Sto}(h:∀(S':Sto) (aw at' ab:Addr) (w0 w1 w2 w3 w4 w5:Str) (tt:List Str) (B:List Tn),Pre S' aw at' ab w0 w1 w2 w3 w4 w5 tt B→T E D (some (.scr ns)::some (.ref aw)::some (.ref at')::some (.ref ab)::τ) S') :
  zas (wAsg (zam (zaS 199) (zab (zam (zav 199) (zab (zad 0) (zab (wC (.int 0)) waNil))) (zab (zam (zav 199) (zab (zad 0) (zab (wC (.int 1)) waNil))) (zab (wC (.bl false)) waNil)))) (wGN 1))
  (zas (wAsg (zam (zaS 199) (zab (zam (zav 199) (zab (zad 0) (zab (wC (.int 2)) waNil))) (zab (zam (zav 199) (zab (zad 0) (zab (wC (.int 3)) waNil))) (zab (wC (.bl true)) waNil)))) (wGN 2))
  (zas (wAsg (zam (zbW 199) (zab (zad 0) (zab (wC (.int 4)) (zab (zad 1) (zab (zad 2) waNil))))) (wGN 3)) T)) E D (some (.scr ns)::x1::x2::x3::τ) S:=by
 walk_at "wp";refine zgi (by decide) fun c0=>zgi (by decide) fun c1=>zny fun aw ws hw0 hws=>?_;obtain⟨w0,w1,w2,w3,w4,w5,rfl,G⟩:=zlU hws;have fw:put S aw (Ob.lst ([w0,w1,w2,w3,w4,w5].map W.str)) aw=some (.lst (six w0 w1 w2 w3 w4 w5)):=zah;generalize put S aw (Ob.lst ([w0,w1,w2,w3,w4,w5].map W.str))=S1 at fw⊢;refine zgi (by decide) fun c2=>zgi (by decide) fun c3=>zny fun at' tt ht0 htt=>?_;have ft:put S1 at' (Ob.lst (tt.map W.str)) at'=some (.lst (tt.map W.str)):=zah;replace fw:=keep (x:=Ob.lst (tt.map W.str)) fw ht0;generalize put S1 at' (Ob.lst (tt.map W.str))=S2 at fw ft⊢;refine ztM (r:=192) (zgE htt).len (by decide) fw ft fun ab B n m hb0 e1 e2 e3=>?_;exact h _ aw at' ab w0 w1 w2 w3 w4 w5 tt B ⟨G,zgE htt,⟨⟨n,m,e1⟩,e2,e3⟩,keep (x:=Ob.lst (B.map zbd)) fw hb0,keep (x:=Ob.lst (B.map zbd)) ft hb0,zah⟩
section
variable {c d:Int→Nat}
theorem zcv{c d:Int→Nat}(hc:One c) (hd:One d):Ok2 c d:=fun x h0 h1=> .inl ⟨hc x h0 h1,hd x h0 h1⟩
end
mutual
noncomputable def Tr.ord (k:Nat):Tr→Option Nat
 | .bl n=>if n=(k:Int) then some (k+1) else none
 | .nd _ ts=>zoC k ts
noncomputable def zoC (k:Nat):List Tr→Option Nat
 | []=>some k
 |t::ts=>match t.ord k with
  |some m=>zoC m ts
  |none=>none
end
noncomputable def zym (B:List Tn) (z:Str):Prop:=∀u∈B,∀s ls,u.2.1= .nd s ls→s≠z
structure Ort (B:List Tn):Prop where
  inn:∀t∈B,∃s ls,t.2.1= .nd s ls∧hbs (zym B) ls
  mt:zyj B
  fm:∀t∈B,∀x ys,t.2.1.mt x=some ys→x=t.2.1.fill ys∧ys.length=t.2.1.nb
  one:∀u∈B,∀v∈B,∀x:Tr,(u.2.1.mt x).isSome=true→(v.2.1.mt x).isSome=true→u=v
  od:∀t∈B,t.2.1.ord 0=some t.2.1.nb
mutual
theorem ztk:∀(L x:Tr) (ys:List Tr) (k m:Nat),L.ord k=some m→L.mt x=some ys→ys.length+k=m∧ ∀pre post:List Tr,pre.length=k→L.fill (pre++ys++post)=x
 | .bl n,x,ys,k,m,h,e=>by
  rw [Tr.ord]at h;split at h
  ·rename_i hn;cases h;rw [Tr.mt]at e;cases e;refine⟨by simp;omega,fun pre post hp=>?_⟩;rw [Tr.fill,hn,Int.toNat_natCast,List.getD_eq_getElem?_getD,List.append_assoc,List.getElem?_append_right (by omega),hp,Nat.sub_self];rfl
  ·cases h
 | .nd s ls, .bl n,ys,k,m,h,e=>by rw [Tr.mt]at e;cases e
 | .nd s ls, .nd z us,ys,k,m,h,e=>by
  rw [Tr.mt]at e;split at e
  ·rename_i hc;rw [Bool.and_eq_true,beq_iff_eq,beq_iff_eq]at hc;rw [Tr.ord]at h;obtain⟨h1,h2⟩:=zqa ls us ys k m hc.2 h e;exact⟨h1,fun pre post hp=>by rw [Tr.fill,h2 pre post hp,hc.1]⟩
  ·cases e
theorem zqa:∀(ls us ys:List Tr) (k m:Nat),ls.length=us.length→zoC k ls=some m→mts ls us=some ys→ys.length+k=m∧ ∀pre post:List Tr,pre.length=k→fills (pre++ys++post) ls=us
 | [],us,ys,k,m,hl,h,e=>by
  rw [zoC]at h;cases h;rw [mts]at e;cases e;cases us with
  |nil=>exact⟨by simp,fun _ _ _=>by rw [fills]⟩
  |cons _ _=>cases hl
 |l::ls,[],ys,k,m,hl,h,e=>by cases hl
 |l::ls,u::us,ys,k,m,hl,h,e=>by
  rw [zoC]at h;rw [mts]at e;cases q:l.ord k with
  |none=>rw [q]at h;cases h
  |some j=>
   rw [q]at h;cases q1:l.mt u with
   |none=>rw [q1]at e;cases e
   |some xs=>
    rw [q1]at e;cases q2:mts ls us with
    |none=>rw [q2]at e;cases e
    |some zs=>
     rw [q2]at e;cases e;obtain⟨h1,h2⟩:=ztk l u xs k j q q1;obtain⟨h3,h4⟩:=zqa ls us zs j m (by simpa using hl) h q2;refine⟨by rw [List.length_append];omega,fun pre post hp=>?_⟩;rw [fills];have e1:=h2 pre (zs++post) hp;have e2:=h4 (pre++xs) post (by rw [List.length_append];omega);have a1:pre++(xs++zs)++post=pre++xs++(zs++post):=by simp
     have a2:pre++(xs++zs)++post=pre++xs++zs++post:=by simp
     rw [a1,e1,←a1,a2,e2]
end
theorem zmP{n:Nat}{h c d:Str}{L:Tr}(hL:L∈leftsL n h c d):L.ord 0=some L.nb:=by
 unfold leftsL at hL;split at hL<;>simp only[List.mem_cons,List.not_mem_nil,or_false]at hL
 all_goals first
  | (subst hL;simp [Tr.ord,zoC,Tr.nb,nbs])
  | (rcases hL with rfl |rfl<;>simp [Tr.ord,zoC,Tr.nb,nbs])
theorem zgV{n:Nat}{h c d:Str}{P:Str→Prop}(hc:P c) (hd:P d) {L:Tr}(hL:L∈leftsL n h c d):∃ls,L= .nd h ls∧hbs P ls:=by
 unfold leftsL at hL;split at hL<;>simp only[List.mem_cons,List.not_mem_nil,or_false]at hL
 all_goals first
  | (subst hL;exact⟨_,rfl,by simp [hbs,Tr.hb,hc,hd]⟩)
  | (rcases hL with rfl |rfl<;>exact⟨_,rfl,by simp [hbs,Tr.hb,hc,hd]⟩)
section
variable {w0 w1 w2 w3 w4 w5:Str}{tt:List Str}{B:List Tn}
theorem BookOk.mem_lefts (b:BookOk w0 w1 w2 w3 w4 w5 tt B) {t:Tn}(ht:t∈B):∃n,t.2.1∈leftsL n w0 w2 w3∨t.2.1∈leftsL n w1 w2 w3:=by
 obtain⟨n,m,e⟩:=b.lf;have:t.2.1∈leftsL n w0 w2 w3++leftsL m w1 w2 w3:=by rw [←e];exact List.mem_map.mpr ⟨t,ht,rfl⟩
 rcases List.mem_append.mp this with z |z
 ·exact⟨n, .inl z⟩
 ·exact⟨m, .inr z⟩
theorem BookOk.ort (b:BookOk w0 w1 w2 w3 w4 w5 tt B) (G:Signs w0 w1 w2 w3 w4 w5):Ort B:=by
 have top:∀z,z≠w0→z≠w1→zym B z:=fun z h0 h1 u hu s ls e=>by
  obtain⟨n,z |z⟩:=b.mem_lefts hu
  ·obtain⟨l,e',_⟩:=zgV (P:=fun _=>True) trivial trivial z;rw [e]at e';cases e';exact h0.symm
  ·obtain⟨l,e',_⟩:=zgV (P:=fun _=>True) trivial trivial z;rw [e]at e';cases e';exact h1.symm
 have t2:=top w2 (G.n0 w2 (by simp)).symm (G.n1 w2 (by simp)).symm;have t3:=top w3 (G.n0 w3 (by simp)).symm (G.n1 w3 (by simp)).symm;have od:∀t∈B,t.2.1.ord 0=some t.2.1.nb:=fun t ht=>by
  obtain⟨n,z |z⟩:=b.mem_lefts ht
  ·exact zmP z
  ·exact zmP z
 refine⟨fun t ht=>?_,b.mt,fun t ht x ys e=>?_,fun u hu v hv x h1 h2=>ztA (b.inj G) hu hv (b.one G hu hv h1 h2),od⟩
 ·obtain⟨n,z |z⟩:=b.mem_lefts ht
  ·obtain⟨l,e',h⟩:=zgV t2 t3 z;exact⟨_,_,e',h⟩
  ·obtain⟨l,e',h⟩:=zgV t2 t3 z;exact⟨_,_,e',h⟩
 ·have ho:=od t ht;obtain⟨h1,h2⟩:=ztk _ _ _ _ _ ho e;have:=h2 [] [] rfl;simp only[List.nil_append,List.append_nil]at this;exact⟨this.symm,by omega⟩
end
structure Wy (ws:List Str) (B:List Tn) (a:Tr):Prop where
  hd:a.hd fun s=>s∈ws∨ ∃t∈B,t.1=s
  ar:a.ar B
noncomputable abbrev src (B:List Tn) (a:Tr):Tr:=a.mk B fun t=>t.2.1
noncomputable abbrev gol (B:List Tn) (a:Tr):Tr:=a.mk B fun t=>t.2.2
section
variable {ws:List Str}{B:List Tn}
theorem zlz{P:Str→Prop}:∀{ts:List Tr}{t:Tr},hds P ts→t∈ts→t.hd P
 |u::ts,t,h,ht=>by
  rw [hds]at h;rcases List.mem_cons.mp ht with rfl |ht
  ·exact h.1
  ·exact zlz h.2 ht
theorem zmi:∀{ts:List Tr}{t:Tr},ars B ts→t∈ts→t.ar B
 |u::ts,t,h,ht=>by
  rw [ars]at h;rcases List.mem_cons.mp ht with rfl |ht
  ·exact h.1
  ·exact zmi h.2 ht
theorem Wy.cases (b:BkOk ws ws B) {a:Tr}(h:Wy ws B a):(∃s as,a= .nd s as∧s∈ws∧zaZ B s=none∧ ∀x∈as,Wy ws B x)∨(∃t as,t∈B∧a= .nd t.1 as∧zaZ B t.1=some t∧as.length=t.2.1.nb∧ ∀x∈as,Wy ws B x):=by
 obtain⟨h1,h2⟩:=h;cases a with
 |bl n=>rw [Tr.hd]at h1;exact h1.elim
 |nd s as=>
  rw [Tr.hd]at h1;rw [Tr.ar]at h2;have kids:∀x∈as,Wy ws B x:=fun x hx=>⟨zlz h1.2 hx,zmi h2.2 hx⟩;rcases h1.1 with h |⟨t,ht,rfl⟩
  ·exact .inl ⟨s,as,rfl,h,zbi b.ti (b.sg s h),kids⟩
  ·have e:=zcG b.nd ht;exact .inr ⟨t,as,ht,rfl,e,h2.1 t e,kids⟩
theorem zdl{g:Tn→Tr}{s:Str}{as:List Tr}(h:zaZ B s=none):(Tr.nd s as).mk B g= .nd s (as.map (Tr.mk B g)):=by
 rw [Tr.mk,h,zhr]
theorem zdo{g:Tn→Tr}{t:Tn}{as:List Tr}(h:zaZ B t.1=some t):(Tr.nd t.1 as).mk B g=(g t).fill (as.map (Tr.mk B g)):=by
 rw [Tr.mk,h,zhr]
mutual
theorem zxq (b:BkOk ws ws B) (O:Ort B):∀(L a:Tr),L.hb (zym B)→Wy ws B a→(L.mt (src B a)).isSome=true→(L.mt a).isSome=true
 | .bl n,a,_,_,_=>by rw [Tr.mt];rfl
 | .nd z ls,a,hL,ha,h=>by
  rw [Tr.hb]at hL;rcases ha.cases b with⟨s,as,rfl,hs,e,kids⟩ |⟨t,as,ht,rfl,e,hl,kids⟩
  ·rw [show src B (.nd s as)= .nd s (as.map (src B)) from zdl e,Tr.mt,List.length_map]at h;rw [Tr.mt];split at h
   ·rename_i hc;rw [if_pos hc];exact zlq b O ls as hL.2 kids h
   ·cases h
  ·obtain⟨s0,l0,e0,_⟩:=O.inn t ht;rw [show src B (.nd t.1 as)=t.2.1.fill (as.map (src B)) from zdo e,e0,Tr.fill]at h;exact absurd (zml h).symm (hL.1 t ht s0 l0 e0)
theorem zlq (b:BkOk ws ws B) (O:Ort B):∀(ls as:List Tr),hbs (zym B) ls→(∀x∈as,Wy ws B x)→(mts ls (as.map (src B))).isSome=true→(mts ls as).isSome=true
 | [],as,_,_,_=>by rw [mts];rfl
 |l::ls,[],_,_,_=>by rw [mts];rfl
 |l::ls,a::as,hL,ha,h=>by
  rw [hbs]at hL;rw [List.map_cons,mts]at h;cases q1:l.mt (src B a) with
  |none=>rw [q1]at h;cases h
  |some xs=>
   rw [q1]at h;cases q2:mts ls (as.map (src B)) with
   |none=>rw [q2]at h;cases h
   |some zs=>
    have h1:=zxq b O l a hL.1 (ha a (by simp)) (by rw [q1];rfl);have h2:=zlq b O ls as hL.2 (fun x hx=>ha x (List.mem_cons_of_mem _ hx)) (by rw [q2];rfl);obtain⟨x1,h1⟩:=Option.isSome_iff_exists.mp h1;obtain⟨x2,h2⟩:=Option.isSome_iff_exists.mp h2;rw [mts,h1,h2];rfl
end
end
section
variable {ws:List Str}{B:List Tn}
theorem Wy.kids{s:Str}{as:List Tr}(h:Wy ws B (.nd s as)):∀x∈as,Wy ws B x:=fun x hx=>by
 obtain⟨h1,h2⟩:=h;rw [Tr.hd]at h1;rw [Tr.ar]at h2;exact⟨zlz h1.2 hx,zmi h2.2 hx⟩
mutual
theorem ztI:∀(L a:Tr) (ys:List Tr),L.mt a=some ys→Wy ws B a→ ∀y∈ys,Wy ws B y
 | .bl n,a,ys,e,h,y,hy=>by
  rw [Tr.mt]at e;cases e;rw [List.mem_singleton]at hy;rw [hy];exact h
 | .nd s ls, .bl n,ys,e,h,y,hy=>by rw [Tr.mt]at e;cases e
 | .nd s ls, .nd z us,ys,e,h,y,hy=>by
  rw [Tr.mt]at e;split at e
  ·exact ztc ls us ys e h.kids y hy
  ·cases e
theorem ztc:∀(ls us ys:List Tr),mts ls us=some ys→(∀x∈us,Wy ws B x)→ ∀y∈ys,Wy ws B y
 | [],us,ys,e,h,y,hy=>by rw [mts]at e;cases e;cases hy
 |l::ls,[],ys,e,h,y,hy=>by rw [mts]at e;cases e;cases hy
 |l::ls,u::us,ys,e,h,y,hy=>by
  rw [mts]at e;cases q1:l.mt u with
  |none=>rw [q1]at e;cases e
  |some xs=>
   rw [q1]at e;cases q2:mts ls us with
   |none=>rw [q2]at e;cases e
   |some zs=>
    rw [q2]at e;cases e;rcases List.mem_append.mp hy with hy |hy
    ·exact ztI l u xs q1 (h u (by simp)) y hy
    ·exact ztc ls us zs q2 (fun x hx=>h x (List.mem_cons_of_mem _ hx)) y hy
end
theorem zmU (b:BkOk ws ws B) {t:Tn}(ht:t∈B) {vs:List Tr}(hl:vs.length=t.2.1.nb) (g:Tn→Tr):(t.2.1.fill vs).mk B g=t.2.1.fill (vs.map (Tr.mk B g)):=
 ziS b.ti _ (b.lf t ht).hb (by rw [hl];exact(b.lf t ht).fits)
theorem zfi (b:BkOk ws ws B) (O:Ort B) {t:Tn}(ht:t∈B) {s:Str}{bs us:List Tr}(e:zaZ B s=none) (hw:Wy ws B (.nd s bs)) (hl:us.length=t.2.1.nb) (h:src B (.nd s bs)=t.2.1.fill us) :
  ∃vs, .nd s bs=t.2.1.fill vs∧vs.length=t.2.1.nb∧vs.map (src B)=us∧(∀x∈vs,Wy ws B x)∧wts vs≤(Tr.nd s bs).weight:=by
 obtain⟨s0,ls,e0,hin⟩:=O.inn t ht;have hm:t.2.1.mt (src B (.nd s bs))=some us:=by rw [h];exact O.mt t ht us hl
 have h1:(t.2.1.mt (.nd s bs)).isSome=true:=by
  have hm':=hm;rw [show src B (.nd s bs)= .nd s (bs.map (src B)) from zdl e,e0,Tr.mt,List.length_map]at hm';rw [e0,Tr.mt];split at hm'
  ·rename_i hc;rw [if_pos hc];exact zlq b O ls bs hin hw.kids (by rw [hm'];rfl)
  ·cases hm'
 obtain⟨vs,hv⟩:=Option.isSome_iff_exists.mp h1;obtain⟨h2,h3⟩:=O.fm t ht _ _ hv;refine⟨vs,h2,h3,?_,ztI _ _ _ hv hw,zkA _ _ _ hv⟩;rw [h2,show src B (t.2.1.fill vs)=_ from zmU b ht h3 _,O.mt t ht _ (by rw [List.length_map,h3])]at hm;exact Option.some.inj hm
theorem zdq{s:Str}{as:List Tr}:(Tr.nd s as).weight=1+wts as:=by rw [Tr.weight]
inductive PlB (P:Int→Prop):Pl→Prop
 |sign {b:Int}{h:Str}{ps:List Pl}:(∀p∈ps,PlB P p)→PlB P (.nd (-1) b h ps)
 |turn {k:Nat}{b:Int}{h:Str}{ps:List Pl}:P b→(∀p∈ps,PlB P p)→PlB P (.nd k b h ps)
noncomputable def zvI (x:Int):Prop:=x=1∨x=2∨x=3
theorem zrv (b:BkOk ws ws B) (O:Ort B):∀(n:Nat) (x y:Tr),x.weight+y.weight≤n→Wy ws B x→Wy ws B y→src B x=src B y→ ∃p,PlOk ws B p∧PlB zvI p∧p.ev B (byC 1)=x∧p.ev B (byC 2)=y
 |0,x,y,hn,hx,hy,e=>by
  rcases hx.cases b with⟨s,as,rfl,_⟩ |⟨t,as,_,rfl,_⟩<;>rw [zdq]at hn<;>omega
 |n+1,x,y,hn,hx,hy,e=>by
  have lists:∀(xs ys:List Tr),wts xs+wts ys≤n→(∀x∈xs,Wy ws B x)→(∀y∈ys,Wy ws B y)→xs.map (src B)=ys.map (src B)→ ∃ps:List Pl,(∀p∈ps,PlOk ws B p)∧(∀p∈ps,PlB zvI p)∧ps.map (Pl.ev B (byC 1))=xs∧ps.map (Pl.ev B (byC 2))=ys:=by
   intro xs
   induction xs with
   |nil=>
    intro ys _ _ _ e;cases ys with
    |nil=>exact⟨[],by simp,by simp,rfl,rfl⟩
    |cons y ys=>cases e
   |cons x xs ih=>
    intro ys hw h1 h2 e;cases ys with
    |nil=>cases e
    |cons y ys=>
     rw [List.map_cons,List.map_cons,List.cons.injEq]at e;rw [wts,wts]at hw;obtain⟨p,hp,hq,e1,e2⟩:=zrv b O n x y (by omega) (h1 x (by simp)) (h2 y (by simp)) e.1;obtain⟨ps,hps,hqs,e3,e4⟩:=ih ys (by omega) (fun z hz=>h1 z (List.mem_cons_of_mem _ hz)) (fun z hz=>h2 z (List.mem_cons_of_mem _ hz)) e.2;exact⟨p::ps,fun q hq=>by
      rcases List.mem_cons.mp hq with rfl |hq
      ·exact hp
      ·exact hps q hq,fun q hz=>by
      rcases List.mem_cons.mp hz with rfl |hz
      ·exact hq
      ·exact hqs q hz,by rw [List.map_cons,e1,e3],by rw [List.map_cons,e2,e4]⟩
  rcases hx.cases b with⟨s,as,rfl,hs,es,ka⟩ |⟨t,as,ht,rfl,et,la,ka⟩
  ·rcases hy.cases b with⟨s',bs,rfl,hs',es',kb⟩ |⟨t,bs,ht,rfl,et,lb,kb⟩
   ·rw [show src B (.nd s as)=_ from zdl es,show src B (.nd s' bs)=_ from zdl es']at e;injection e with e1 e2;subst e1;rw [zdq,zdq]at hn;obtain⟨ps,hps,hqs,e3,e4⟩:=lists as bs (by omega) ka kb e2;exact⟨.nd (-1) 0 s ps, .sign hs hps, .sign hqs,by rw [zaM,e3],by rw [zaM,e4]⟩
   ·rw [show src B (.nd t.1 bs)=_ from zdo et]at e;obtain⟨vs,ev,lv,ms,kv,wv⟩:=zfi b O ht es hx (by rw [List.length_map,lb]) e;rw [zdq (s:=t.1)]at hn;obtain⟨ps,hps,hqs,e3,e4⟩:=lists vs bs (by omega) kv kb ms;obtain⟨k,hk⟩:=List.getElem?_of_mem ht;refine⟨.nd k 2 t.1 ps, .turn hk (by rw [←lb,←e4,List.length_map]) (by decide) (by decide) hps, .turn (by unfold zvI;decide) hqs,?_,?_⟩
    ·rw [zaE hk,e3,ev,show byC 1 2=0 by decide];rfl
    ·rw [zaE hk,e4,show byC 2 2=1 by decide];rfl
  ·rcases hy.cases b with⟨s,bs,rfl,hs,es,kb⟩ |⟨u,bs,hu,rfl,eu,lb,kb⟩
   ·rw [show src B (.nd t.1 as)=_ from zdo et]at e;obtain⟨vs,ev,lv,ms,kv,wv⟩:=zfi b O ht es hy (by rw [List.length_map,la]) e.symm;rw [zdq (s:=t.1)]at hn;obtain⟨ps,hps,hqs,e3,e4⟩:=lists as vs (by omega) ka kv ms.symm;obtain⟨k,hk⟩:=List.getElem?_of_mem ht;refine⟨.nd k 1 t.1 ps, .turn hk (by rw [←la,←e3,List.length_map]) (by decide) (by decide) hps, .turn (by unfold zvI;decide) hqs,?_,?_⟩
    ·rw [zaE hk,e3,show byC 1 1=1 by decide];rfl
    ·rw [zaE hk,e4,ev,show byC 2 1=0 by decide];rfl
   ·rw [show src B (.nd t.1 as)=_ from zdo et,show src B (.nd u.1 bs)=_ from zdo eu]at e;have m1:=O.mt t ht (as.map (src B)) (by rw [List.length_map,la]);have m2:=O.mt u hu (bs.map (src B)) (by rw [List.length_map,lb]);have:t=u:=O.one t ht u hu _ (by rw [m1];rfl) (by rw [show(t.2.1.fill (as.map (src B)))=_ from e,m2];rfl)
    subst this;have e2:as.map (src B)=bs.map (src B):=by
     rw [show(t.2.1.fill (as.map (src B)))=_ from e,m2]at m1;exact(Option.some.inj m1).symm
    rw [zdq,zdq]at hn;obtain⟨ps,hps,hqs,e3,e4⟩:=lists as bs (by omega) ka kb e2;obtain⟨k,hk⟩:=List.getElem?_of_mem ht;refine⟨.nd k 3 t.1 ps, .turn hk (by rw [←la,←e3,List.length_map]) (by decide) (by decide) hps, .turn (by unfold zvI;decide) hqs,?_,?_⟩
    ·rw [zaE hk,e3,show byC 1 3=1 by decide];rfl
    ·rw [zaE hk,e4,show byC 2 3=1 by decide];rfl
end
theorem zqv:∀xs ys:List Tr,wts (xs++ys)=wts xs+wts ys
 | [],ys=>by rw [List.nil_append,wts,Nat.zero_add]
 |x::xs,ys=>by rw [List.cons_append,wts,wts,zqv xs ys,Nat.add_assoc]
mutual
theorem zjp:∀(L:Tr) (k m:Nat),L.ord k=some m→k≤m∧L.nb+k=m∧ ∀(us:List Tr),m≤us.length→(L.fill us).weight+(m - k)=L.weight+wts ((us.drop k).take (m - k))∧ ∀u∈(us.drop k).take (m - k),u.depth≤(L.fill us).depth
 | .bl n,k,m,h=>by
  rw [Tr.ord]at h;split at h
  ·rename_i hn;cases h;refine⟨by omega,by rw [Tr.nb];omega,fun us hu=>?_⟩
   have hk:k<us.length:=by omega
   have e:(us.drop k).take (k+1 - k)=[us[k]]:=by
    rw [show k+1 - k=1 by omega,List.drop_eq_getElem_cons hk]
    rfl
   have f:(Tr.bl n).fill us=us[k]:=by
    rw [Tr.fill,hn,Int.toNat_natCast,List.getD_eq_getElem?_getD,List.getElem?_eq_getElem hk];rfl
   rw [e,f];refine⟨?_,fun u hu=>?_⟩
   ·simp only[Tr.weight,wts];omega
   ·rw [List.mem_singleton]at hu;rw [hu];exact Nat.le_refl _
  ·cases h
 | .nd s ls,k,m,h=>by
  rw [Tr.ord]at h;obtain⟨h1,h2,h3⟩:=zfS ls k m h;refine⟨h1,by rw [Tr.nb];exact h2,fun us hu=>?_⟩
  obtain⟨h4,h5⟩:=h3 us hu;rw [Tr.fill,Tr.weight,Tr.weight,Tr.depth];exact⟨by omega,fun u hu'=>Nat.le_trans (h5 u hu') (by omega)⟩
theorem zfS:∀(ls:List Tr) (k m:Nat),zoC k ls=some m→k≤m∧nbs ls+k=m∧ ∀(us:List Tr),m≤us.length→wts (fills us ls)+(m - k)=wts ls+wts ((us.drop k).take (m - k))∧ ∀u∈(us.drop k).take (m - k),u.depth≤dts (fills us ls)
 | [],k,m,h=>by
  rw [zoC]at h;cases h;refine⟨Nat.le_refl _,by rw [nbs];omega,fun us _=>?_⟩
  rw [Nat.sub_self,List.take_zero,fills];exact⟨rfl,fun u hu=>by cases hu⟩
 |l::ls,k,m,h=>by
  rw [zoC]at h;cases q:l.ord k with
  |none=>rw [q]at h;cases h
  |some j=>
   rw [q]at h;obtain⟨h1,h2,h3⟩:=zjp l k j q;obtain⟨g1,g2,g3⟩:=zfS ls j m h;refine⟨by omega,by rw [nbs];omega,fun us hu=>?_⟩
   obtain⟨h4,h5⟩:=h3 us (by omega);obtain⟨g4,g5⟩:=g3 us hu;have e:(us.drop k).take (m - k)=(us.drop k).take (j - k)++(us.drop j).take (m - j):=by
    rw [show m - k=(j - k)+(m - j) by omega,List.take_add,List.drop_drop,show k+(j - k)=j by omega]
   rw [e,zqv,fills,wts,wts,dts];refine⟨by omega,fun u hu=>?_⟩;rcases List.mem_append.mp hu with hu |hu
   ·have:=h5 u hu;omega
   ·have:=g5 u hu;omega
end
theorem zhn:∀(L:Tr),L.nb≤L.weight:=fun L=>by rw [←zwq];exact ztF L
theorem zpS:∀ls:List Tr,nbs ls≤wts ls
 | []=>by rw [nbs,wts];exact Nat.le_refl _
 |l::ls=>by rw [nbs,wts];have:=zhn l;have:=zpS ls;omega
section
variable {B:List Tn}
theorem Ort.fill (O:Ort B) {t:Tn}(ht:t∈B) {us:List Tr}(hl:us.length=t.2.1.nb):(t.2.1.fill us).weight+t.2.1.nb=t.2.1.weight+wts us∧1+wts us≤(t.2.1.fill us).weight∧1+dts us≤(t.2.1.fill us).depth:=by
 obtain⟨s,ls,e,_⟩:=O.inn t ht;have ho:=O.od t ht;obtain⟨_,h2,h3⟩:=zjp _ _ _ ho;obtain⟨h4,_⟩:=h3 us (by omega);rw [Nat.sub_zero,List.drop_zero,List.take_of_length_le (by omega)]at h4;have hw:1+t.2.1.nb≤t.2.1.weight:=by
  rw [e,Tr.nb,Tr.weight];have:=zpS ls;omega
 refine⟨h4,by omega,?_⟩
 rw [e]at ho hl⊢;rw [Tr.ord]at ho;obtain⟨_,_,g3⟩:=zfS _ _ _ ho;obtain⟨_,g5⟩:=g3 us (by omega);rw [Nat.sub_zero,List.drop_zero,List.take_of_length_le (by omega)]at g5;rw [Tr.fill,Tr.depth];have:=zkP g5;omega
mutual
noncomputable def Pl.pn:Pl→Nat
 | .nd k _ _ ps=>(if k<0 then 0 else 1)+pns ps
noncomputable def pns:List Pl→Nat
 | []=>0
 |p::ps=>max p.pn (pns ps)
end
theorem zhp{p:Pl}:∀{ps:List Pl},p∈ps→p.pn≤pns ps
 |q::ps,h=>by
  rw [pns];rcases List.mem_cons.mp h with rfl |h
  ·omega
  ·have:=zhp h;omega
noncomputable def zr:Int→Nat:=fun _=>0
theorem zlH{c:Int→Nat}{n:Nat}:∀(ps:List Pl),(∀p∈ps,(p.ev B c).weight≤2 ^ n*(p.ev B zr).weight)→wts (ps.map (Pl.ev B c))≤2 ^ n*wts (ps.map (Pl.ev B zr))
 | [],_=>by simp [wts]
 |p::ps,h=>by
  have h1:=h p List.mem_cons_self;have h2:=zlH ps fun q hq=>h q (List.mem_cons_of_mem _ hq);rw [List.map_cons,List.map_cons,wts,wts,Nat.mul_add];omega
theorem zin{c:Int→Nat}(b:BkOk ws ws B) (O:Ort B) {p:Pl}(h:PlOk ws B p):(p.ev B c).weight≤2 ^ p.pn*(p.ev B zr).weight:=by
 induction h with
 | @sign b' h ps hh hp ih=>
  have hk:∀p∈ps,(p.ev B c).weight≤2 ^ pns ps*(p.ev B zr).weight:=fun p hp=>Nat.le_trans (ih p hp) (Nat.mul_le_mul_right _ (Nat.pow_le_pow_right (by decide) (zhp hp)));have:=zlH ps hk;have hp1:=zff (pns ps);rw [zaM,zaM,Tr.weight,Tr.weight,Pl.pn,if_pos (by decide),Nat.zero_add,Nat.mul_add,Nat.mul_one];omega
 | @turn k b' h ps t e hl b0 b1 hp ih=>
  have ht:t∈B:=List.mem_of_getElem? e;have hk:∀p∈ps,(p.ev B c).weight≤2 ^ pns ps*(p.ev B zr).weight:=fun p hp=>Nat.le_trans (ih p hp) (Nat.mul_le_mul_right _ (Nat.pow_le_pow_right (by decide) (zhp hp)));have hs:=zlH ps hk;have hp1:=zff (pns ps);have en:(Pl.nd k b' h ps).pn=1+pns ps:=by rw [Pl.pn,if_neg (by omega)]
  have l1:(ps.map (Pl.ev B c)).length=t.2.1.nb:=by rw [List.length_map,hl]
  have l0:(ps.map (Pl.ev B zr)).length=t.2.1.nb:=by rw [List.length_map,hl]
  obtain⟨f1,_,_⟩:=O.fill ht l1;obtain⟨f2,f3,_⟩:=O.fill ht l0;rw [zaE e,zaE e,en,show zr b'=0 from rfl];show(evT t (c b') _).weight≤2 ^ (1+pns ps)*(t.2.1.fill (ps.map (Pl.ev B zr))).weight;have hpow:2 ^ (1+pns ps)=2*2 ^ pns ps:=by rw [Nat.pow_add]
  have hm:2 ^ (1+pns ps)*(1+wts (ps.map (Pl.ev B zr)))=2*2 ^ pns ps+2*(2 ^ pns ps*wts (ps.map (Pl.ev B zr))):=by rw [hpow,Nat.mul_add,Nat.mul_one,Nat.mul_assoc]
  have hge:=Nat.mul_le_mul_left (2 ^ (1+pns ps)) f3;unfold evT;split
  ·have g1:2 ^ pns ps*(t.2.1.fill (ps.map (Pl.ev B zr))).weight≤2 ^ (1+pns ps)*(t.2.1.fill (ps.map (Pl.ev B zr))).weight:=Nat.mul_le_mul_right _ (Nat.pow_le_pow_right (by decide) (by omega));refine Nat.le_trans ?_ g1;have hc:(t.2.1.fill (ps.map (Pl.ev B zr))).weight=(t.2.1.weight - t.2.1.nb)+wts (ps.map (Pl.ev B zr)):=by
    have:=zhn t.2.1;omega
   have g2:t.2.1.weight - t.2.1.nb≤2 ^ pns ps*(t.2.1.weight - t.2.1.nb):=Nat.le_mul_of_pos_left _ hp1;rw [hc,Nat.mul_add];have:=zhn t.2.1;omega
  ·rw [Tr.weight];omega
  ·have hM:1≤2 ^ pns ps*(1+wts (ps.map (Pl.ev B zr))):=Nat.le_trans hp1 (Nat.le_mul_of_pos_right _ (by omega));cases hps:ps with
   |nil=>
    subst hps;have:=(ziy (b.ri t ht) l1 (M:=1) (by decide) (fun u hu=>by simp at hu)).2 (by simpa using hl.symm)
    simp only[List.map_nil]at *;have:pns []=0:=by rw [pns]
    rw [this]at *;simp only[wts]at *;omega
   |cons q qs=>
    rw [←hps];have hw1:1≤wts (ps.map (Pl.ev B zr)):=by
     rw [hps,List.map_cons,wts];have:=zgd (q.ev B zr);omega
    have hX:1≤2 ^ pns ps*wts (ps.map (Pl.ev B zr)):=Nat.le_trans hp1 (Nat.le_mul_of_pos_right _ hw1);have:=(ziy (b.ri t ht) l1 (M:=2 ^ pns ps*wts (ps.map (Pl.ev B zr))) hX fun u hu=>by
     obtain⟨p,hp,rfl⟩:=List.mem_map.mp hu;exact Nat.le_trans (hk p hp) (Nat.mul_le_mul_left _ (zdi (List.mem_map.mpr ⟨p,hp,rfl⟩)))).1
    omega
end
section
variable {ws:List Str}{B:List Tn}
theorem zkx{c:Int→Nat}(b:BkOk ws ws B) (O:Ort B) {p:Pl}(h:PlOk ws B p):(p.ev B c).depth≤(p.ev B zr).depth+3*p.pn:=by
 induction h with
 | @sign b' h ps hh hp ih=>
  rw [zaM,zaM,Tr.depth,Tr.depth,Pl.pn,if_pos (by decide)];have:dts (ps.map (Pl.ev B c))≤dts (ps.map (Pl.ev B zr))+3*pns ps:=zkP fun t ht=>by
   obtain⟨p,hp,rfl⟩:=List.mem_map.mp ht;have:=ih p hp;have:=zhp hp;have:=zcS (List.mem_map.mpr ⟨p,hp,rfl⟩:p.ev B zr∈ps.map (Pl.ev B zr));omega
  omega
 | @turn k b' h ps t e hl b0 b1 hp ih=>
  have ht:t∈B:=List.mem_of_getElem? e;have l0:(ps.map (Pl.ev B zr)).length=t.2.1.nb:=by rw [List.length_map,hl]
  obtain⟨_,_,f3⟩:=O.fill ht l0;have hk:∀u∈ps.map (Pl.ev B c),u.depth≤dts (ps.map (Pl.ev B zr))+3*pns ps:=fun t ht=>by
   obtain⟨p,hp,rfl⟩:=List.mem_map.mp ht;have:=ih p hp;have:=zhp hp;have:=zcS (List.mem_map.mpr ⟨p,hp,rfl⟩:p.ev B zr∈ps.map (Pl.ev B zr));omega
  have en:(Pl.nd k b' h ps).pn=1+pns ps:=by rw [Pl.pn,if_neg (by omega)]
  have fd:∀L:Tr,L.depth≤4→(L.fill (ps.map (Pl.ev B c))).depth≤4+dts (ps.map (Pl.ev B zr))+3*pns ps:=fun L hL=>by
   cases ps with
   |nil=>
    have:=zhD L;simp only[List.map_nil]at *;omega
   |cons q qs=>
    have h1:1≤(q.ev B zr).depth:=by
     have:=O.inn;cases q.ev B zr<;>simp [Tr.depth]
    have:=ziu (k:=dts ((q::qs).map (Pl.ev B zr))+3*pns (q::qs)) (by rw [List.map_cons,dts];omega) hk L;omega
  rw [zaE e,zaE e,en,show zr b'=0 from rfl];show(evT t (c b') _).depth≤(t.2.1.fill (ps.map (Pl.ev B zr))).depth+3*(1+pns ps);unfold evT;split
  ·have:=fd _ (b.lf t ht).dp;omega
  ·rw [Tr.depth];have:=zkP hk;omega
  ·have:=zec (b.ri t ht);have:=fd t.2.2 (by omega);omega
mutual
noncomputable def Tr.ne (B:List Tn):Tr→Nat
 | .bl _=>0
 | .nd s ts=>(match zaZ B s with
  |none=>0
  |some _=>1)+nes B ts
noncomputable def nes (B:List Tn):List Tr→Nat
 | []=>0
 |t::ts=>max (t.ne B) (nes B ts)
end
theorem zln{t:Tr}:∀{ts:List Tr},t∈ts→t.ne B≤nes B ts
 |u::ts,h=>by
  rw [nes];rcases List.mem_cons.mp h with rfl |h
  ·omega
  ·have:=zln h;omega
theorem ziG{n:Nat}:∀{ts:List Tr},(∀t∈ts,t.ne B≤n)→nes B ts≤n
 | [],_=>by rw [nes];omega
 |t::ts,h=>by
  rw [nes];have:=h t (by simp);have:=ziG fun u hu=>h u (List.mem_cons_of_mem _ hu);omega
mutual
theorem ziO (hB:∀t∈B,zdp t.1) {us:List Tr}:∀t:Tr,t.hb zdw→(t.fill us).ne B≤nes B us
 | .bl n,_=>by
  rw [Tr.fill,List.getD_eq_getElem?_getD];cases e:us[n.toNat]? with
  |none=>simp [Tr.ne]
  |some u=>exact zln (List.mem_of_getElem? e)
 | .nd s ts,h=>by
  rw [Tr.hb]at h;rw [Tr.fill,Tr.ne,zbi hB h.1];have:=znE hB (us:=us) ts h.2;simpa using this
theorem znE (hB:∀t∈B,zdp t.1) {us:List Tr}:∀ts:List Tr,hbs zdw ts→nes B (fills us ts)≤nes B us
 | [],_=>by rw [fills,nes];omega
 |t::ts,h=>by
  rw [hbs]at h;rw [fills,nes];have:=ziO hB (us:=us) t h.1;have:=znE hB (us:=us) ts h.2;omega
end
mutual
theorem ztg:∀(L:Tr) (k m:Nat),L.ord k=some m→ ∀(us:List Tr),m≤us.length→ ∀u∈(us.drop k).take (m - k),u.ne B≤(L.fill us).ne B
 | .bl n,k,m,h,us,hu,u,hm=>by
  rw [Tr.ord]at h;split at h
  ·rename_i hn;cases h;have hk:k<us.length:=by omega
   have e:(us.drop k).take (k+1 - k)=[us[k]]:=by
    rw [show k+1 - k=1 by omega,List.drop_eq_getElem_cons hk]
    rfl
   have f:(Tr.bl n).fill us=us[k]:=by
    rw [Tr.fill,hn,Int.toNat_natCast,List.getD_eq_getElem?_getD,List.getElem?_eq_getElem hk];rfl
   rw [e,List.mem_singleton]at hm;rw [f,hm];exact Nat.le_refl _
  ·cases h
 | .nd s ls,k,m,h,us,hu,u,hm=>by
  rw [Tr.ord]at h;have:=zqf ls k m h us hu u hm;rw [Tr.fill,Tr.ne];omega
theorem zqf:∀(ls:List Tr) (k m:Nat),zoC k ls=some m→ ∀(us:List Tr),m≤us.length→ ∀u∈(us.drop k).take (m - k),u.ne B≤nes B (fills us ls)
 | [],k,m,h,us,hu,u,hm=>by
  rw [zoC]at h;cases h;rw [Nat.sub_self,List.take_zero]at hm;cases hm
 |l::ls,k,m,h,us,hu,u,hm=>by
  rw [zoC]at h;cases q:l.ord k with
  |none=>rw [q]at h;cases h
  |some j=>
   rw [q]at h;obtain⟨h1,_,_⟩:=zjp l k j q;obtain⟨g1,_,_⟩:=zfS ls j m h;have e:(us.drop k).take (m - k)=(us.drop k).take (j - k)++(us.drop j).take (m - j):=by
    rw [show m - k=(j - k)+(m - j) by omega,List.take_add,List.drop_drop,show k+(j - k)=j by omega]
   rw [e]at hm;rw [fills,nes];rcases List.mem_append.mp hm with hm |hm
   ·have:=ztg l k j q us (by omega) u hm;omega
   ·have:=zqf ls j m h us hu u hm;omega
end
theorem Ort.ne (O:Ort B) {t:Tn}(ht:t∈B) {us:List Tr}(hl:us.length=t.2.1.nb):nes B us≤(t.2.1.fill us).ne B:=ziG fun u hu=>by
 refine ztg _ _ _ (O.od t ht) us (by omega) u ?_;rw [Nat.sub_zero,List.drop_zero,List.take_of_length_le (by omega)];exact hu
theorem zgj{c:Int→Nat}{p:Pl}{ps:List Pl}(hp:p∈ps):(p.ev B c).ne B≤nes B (ps.map (Pl.ev B c)):=zln (List.mem_map.mpr ⟨p,hp,rfl⟩)
theorem zoZ{n:Nat}:∀{ps:List Pl},(∀p∈ps,p.pn≤n)→pns ps≤n
 | [],_=>by rw [pns];omega
 |p::ps,h=>by
  rw [pns];have:=h p (by simp);have:=zoZ fun u hu=>h u (List.mem_cons_of_mem _ hu);omega
theorem zzi{c d:Int→Nat}(b:BkOk ws ws B) (O:Ort B) (hc:One c) (hd:One d) {p:Pl}(h:PlOk ws B p) (hb:PlB (fun x=>c x=1∨d x=1) p):p.pn≤(p.ev B c).ne B+(p.ev B d).ne B:=by
 induction h with
 | @sign b' h ps hh hp ih=>
  have kids:∀p∈ps,PlB (fun x=>c x=1∨d x=1) p:=by
   cases hb with
   |sign h=>exact h
  have:pns ps≤nes B (ps.map (Pl.ev B c))+nes B (ps.map (Pl.ev B d)):=zoZ fun p hp=>by
   have:=ih p hp (kids p hp);have:=zgj (B:=B) (c:=c) hp;have:=zgj (B:=B) (c:=d) hp;omega
  have e:=zbi b.ti (b.sg h hh);rw [zaM,zaM,Pl.pn,if_pos (by decide),Tr.ne,Tr.ne,e];simpa using this
 | @turn k b' h ps t e hl b0 b1 hp ih=>
  have ht:t∈B:=List.mem_of_getElem? e;obtain⟨hb1,kids⟩:(c b'=1∨d b'=1)∧ ∀p∈ps,PlB (fun x=>c x=1∨d x=1) p:=by
   cases hb with
   |turn h1 h2=>exact⟨h1,h2⟩
  have key:pns ps≤nes B (ps.map (Pl.ev B c))+nes B (ps.map (Pl.ev B d)):=zoZ fun p hp=>by
   have:=ih p hp (kids p hp);have:=zgj (B:=B) (c:=c) hp;have:=zgj (B:=B) (c:=d) hp;omega
  have en:(Pl.nd k b' h ps).pn=1+pns ps:=by rw [Pl.pn,if_neg (by omega)]
  have low:∀c:Int→Nat,One c→nes B (ps.map (Pl.ev B c))+c b'≤(evT t (c b') (ps.map (Pl.ev B c))).ne B:=fun c hc=>by
   have l1:(ps.map (Pl.ev B c)).length=t.2.1.nb:=by rw [List.length_map,hl]
   have:=hc b' b0 b1;by_cases h1:c b'=1
   ·rw [h1];show _≤(Tr.nd t.1 _).ne B;rw [Tr.ne,zcG b.nd ht];show _≤1+_;omega
   ·rw [show c b'=0 by omega]
    exact O.ne ht l1
  rw [zaE e,zaE e,en];have:=low c hc;have:=low d hd;omega
theorem zqF{c d:Int→Nat}(b:BkOk ws ws B) (O:Ort B) (hc:One c) (hd:One d) {p:Pl}(h:PlOk ws B p):(p.ev B (zgl c d)).ne B≤(p.ev B c).ne B:=by
 induction h with
 | @sign b' h ps hh hp ih=>
  have:nes B (ps.map (Pl.ev B (zgl c d)))≤nes B (ps.map (Pl.ev B c)):=ziG fun u hu=>by
   obtain⟨p,hp,rfl⟩:=List.mem_map.mp hu;exact Nat.le_trans (ih p hp) (zgj hp)
  have e:=zbi b.ti (b.sg h hh);rw [zaM,zaM,Tr.ne,Tr.ne,e];simpa using this
 | @turn k b' h ps t e hl b0 b1 hp ih=>
  have ht:t∈B:=List.mem_of_getElem? e;have key:nes B (ps.map (Pl.ev B (zgl c d)))≤nes B (ps.map (Pl.ev B c)):=ziG fun u hu=>by
   obtain⟨p,hp,rfl⟩:=List.mem_map.mp hu;exact Nat.le_trans (ih p hp) (zgj hp)
  have l1:(ps.map (Pl.ev B c)).length=t.2.1.nb:=by rw [List.length_map,hl]
  have low:nes B (ps.map (Pl.ev B c))+c b'≤(evT t (c b') (ps.map (Pl.ev B c))).ne B:=by
   have:=hc b' b0 b1;by_cases h1:c b'=1
   ·rw [h1];show _≤(Tr.nd t.1 _).ne B;rw [Tr.ne,zcG b.nd ht];show _≤1+_;omega
   ·rw [show c b'=0 by omega]
    exact O.ne ht l1
  rw [zaE e,zaE e];refine Nat.le_trans ?_ low;have hp:zgl c d b'=if d b'=1 then 2 else c b':=rfl;rw [hp];by_cases dz:d b'=1
  ·rw [if_pos dz];have:=ziO b.ti (us:=ps.map (Pl.ev B (zgl c d))) t.2.2 (zeK b.sg (b.ri t ht));show(t.2.2.fill _).ne B≤_;omega
  ·rw [if_neg dz];have:=hc b' b0 b1;by_cases h1:c b'=1
   ·rw [h1];show(Tr.nd t.1 _).ne B≤_;rw [Tr.ne,zcG b.nd ht];show 1+_≤_;omega
   ·rw [show c b'=0 by omega]
    have:=ziO b.ti (us:=ps.map (Pl.ev B (zgl c d))) t.2.1 (b.lf t ht).hb;show(t.2.1.fill _).ne B≤_;omega
end
mutual
theorem Mv.one{B:List Tn}:∀{n m:Nat}{a b c d:Tr},Mv B n a b c→Mv B m a b d→c=d
 |_,_,_,_,_,_, .nn h1 h2 h3,g=>by
  cases g with
  |nn g1 g2 g3=>rw [Mvs.one h3 g3]
  |ns g1 g2 g3 g4 g5=>rw [h2]at g2;cases g2
  |sn g1 g2 g3 g4=>rw [h1]at g1;cases g1
  |ss g1 g2 g3 g4=>rw [h1]at g1;cases g1
 |_,_,_,_,_,_, .ns h1 h2 h3 h4 h5,g=>by
  cases g with
  |nn g1 g2 g3=>rw [h2]at g2;cases g2
  |ns g1 g2 g3 g4 g5=>
   rw [h2]at g2;cases g2;rw [h3]at g3;cases g3;rw [Mvs.one h5 g5]
  |sn g1 g2 g3 g4=>rw [h1]at g1;cases g1
  |ss g1 g2 g3 g4=>rw [h1]at g1;cases g1
 |_,_,_,_,_,_, .sn h1 h2 h3 h4,g=>by
  cases g with
  |nn g1 g2 g3=>rw [h1]at g1;cases g1
  |ns g1 g2 g3 g4 g5=>rw [h1]at g1;cases g1
  |sn g1 g2 g3 g4=>
   rw [h1]at g1;cases g1;rw [h3]at g3;cases g3;rw [Mvs.one h4 g4]
  |ss g1 g2 g3 g4=>rw [h2]at g2;cases g2
 |_,_,_,_,_,_, .ss h1 h2 h3 h4,g=>by
  cases g with
  |nn g1 g2 g3=>rw [h1]at g1;cases g1
  |ns g1 g2 g3 g4 g5=>rw [h1]at g1;cases g1
  |sn g1 g2 g3 g4=>rw [h2]at g2;cases g2
  |ss g1 g2 g3 g4=>
   rw [h2]at g2;cases g2;rw [Mvs.one h4 g4]
theorem Mvs.one{B:List Tn}:∀{n m:Nat}{a b c d:List Tr},Mvs B n a b c→Mvs B m a b d→c=d
 |_,_,_,_,_,_, .nil,g=>by
  cases g;rfl
 |_,_,_,_,_,_, .cons h1 h2,g=>by
  cases g with
  |cons g1 g2=>rw [Mv.one h1 g1,Mvs.one h2 g2]
end
open Classical in
noncomputable def res (B:List Tn) (x y:Tr):Tr:=if h:∃z n,Mv B n x y z then choose h else x
theorem Mv.res{B:List Tn}{n:Nat}{x y z:Tr}(h:Mv B n x y z):res B x y=z:=by
 unfold L2.res;have e:∃z n,Mv B n x y z:=⟨z,n,h⟩;rw [dif_pos e];obtain⟨m,h'⟩:=Classical.choose_spec e;exact Mv.one h' h
structure Bk2 (ws:List Str) (B:List Tn):Prop where
  b:BkOk ws ws B
  O:Ort B
  lw:∀t∈B,t.2.1.hb fun s=>s∈ws
theorem BookOk.bk2{w0 w1 w2 w3 w4 w5:Str}{tt:List Str}{B:List Tn}(b:BookOk w0 w1 w2 w3 w4 w5 tt B) (T:Titles tt) (G:Signs w0 w1 w2 w3 w4 w5):Bk2 [w0,w1,w2,w3,w4,w5] B:=by
 have k:=b.bk T G;refine⟨⟨k.ti,k.nd,k.sg,fun x hx=>hx,k.lf,k.ri⟩,b.ort G,fun t ht=>?_⟩;obtain⟨n,z |z⟩:=b.mem_lefts ht
 ·exact(zgT (P:=fun s=>s∈ [w0,w1,w2,w3,w4,w5]) (by simp) (by simp) (by simp) _ z).hb
 ·exact(zgT (P:=fun s=>s∈ [w0,w1,w2,w3,w4,w5]) (by simp) (by simp) (by simp) _ z).hb
section
variable {ws:List Str}{B:List Tn}{x y:Tr}{p:Pl}
theorem Bk2.wy (K:Bk2 ws B) {c:Int→Nat}{p:Pl}(h:PlOk ws B p):Wy ws B (p.ev B c):=by
 refine⟨?_,zuM _ (ztu K.b h)⟩
 induction h with
 | @sign b' h ps hh hp ih=>
  rw [zaM,Tr.hd,hds_iff];refine⟨.inl hh,fun u hu=>?_⟩;obtain⟨p,hp,rfl⟩:=List.mem_map.mp hu;exact ih p hp
 | @turn k b' h ps t e hl b0 b1 hp ih=>
  have ht:t∈B:=List.mem_of_getElem? e;have hu:∀u∈ps.map (Pl.ev B c),u.hd fun s=>s∈ws∨ ∃t∈B,t.1=s:=fun u hu=>by
   obtain⟨p,hp,rfl⟩:=List.mem_map.mp hu;exact ih p hp
  rw [zaE e];unfold evT;split
  ·exact zhs hu _ (zjr (fun s hs=> .inl hs) _ (K.lw t ht)) (by rw [List.length_map,hl];exact(K.b.lf t ht).fits)
  ·rw [Tr.hd,hds_iff];exact⟨.inr ⟨t,ht,rfl⟩,hu⟩
  ·exact zhs hu _ (zeK (fun s hs=> .inl hs) (K.b.ri t ht)) (by rw [List.length_map,hl];exact zcx (K.b.ri t ht))
theorem zzI (x:Int) (h:zvI x):byC 1 x=1∨byC 2 x=1:=by
 rcases h with rfl |rfl |rfl
 ·exact .inl (by decide)
 ·exact .inr (by decide)
 ·exact .inl (by decide)
theorem PlB.imp{P Q:Int→Prop}(h:∀x,P x→Q x) {p:Pl}(hp:PlB P p):PlB Q p:=by
 induction hp with
 |sign _ ih=>exact .sign ih
 |turn hb _ ih=>exact .turn (h _ hb) ih
theorem znQ (K:Bk2 ws B) (hx:Wy ws B x) (hy:Wy ws B y) (e:src B x=src B y):∃p,PlOk ws B p∧p.ev B (byC 1)=x∧p.ev B (byC 2)=y∧p.pn≤x.ne B+y.ne B∧p.ev B zr=src B x:=by
 obtain⟨p,hp,hb,e1,e2⟩:=zrv K.b K.O _ x y (Nat.le_refl _) hx hy e;refine⟨p,hp,e1,e2,?_,?_⟩
 ·have:=zzi K.b K.O (zcX 1) (zcX 2) hp (hb.imp zzI);rw [e1,e2]at this;exact this
 ·rw [←e1];show _=(p.ev B (byC 1)).mk B fun t=>t.2.1;rw [zhy K.b hp];exact zcQ hp fun b h0 h1=>((zcX 1).src b h0 h1).symm
theorem Bk2.pk (K:Bk2 ws B) {p:Pl}(hp:PlOk ws B p) {n:Nat}(hn:p.pn≤n) (hw:2 ^ n*(p.ev B zr).weight≤400) (hd:(p.ev B zr).depth+3*n≤40):Pk ws ws B p:=by
 refine⟨K.b,K.O.mt,hp,fun {c}=>?_,fun {c}=>?_⟩
 ·have:=zkx (c:=c) K.b K.O hp;omega
 ·have h1:=zin (c:=c) K.b K.O hp;have h2:2 ^ p.pn*(p.ev B zr).weight≤2 ^ n*(p.ev B zr).weight:=Nat.mul_le_mul_right _ (Nat.pow_le_pow_right (by decide) hn);omega
structure Two (ws:List Str) (B:List Tn) (x y:Tr):Prop where
  K:Bk2 ws B
  ex:∃p c d,Pk ws ws B p∧One c∧One d∧p.ev B c=x∧p.ev B d=y
theorem Two.symm (h:Two ws B x y):Two ws B y x:=by
 obtain⟨p,c,d,k,hc,hd,e1,e2⟩:=h.ex;exact⟨h.K,p,d,c,k,hd,hc,e2,e1⟩
structure Moved (ws:List Str) (B:List Tn) (x y z:Tr):Prop where
  wy:Wy ws B z
  sr:src B z=gol B y
  go:gol B z=gol B (res B y x)
  ne:z.ne B≤x.ne B
theorem Two.moved (h:Two ws B x y):Moved ws B x y (res B x y):=by
 obtain⟨p,c,d,k,hc,hd,rfl,rfl⟩:=h.ex;have m1:=(zdJ (c:=c) (d:=d) k.b k.m (zcv hc hd) k.o).res;have m2:=(zdJ (c:=d) (d:=c) k.b k.m (zcv hd hc) k.o).res;rw [m1];refine⟨h.K.wy k.o,?_,?_,zqF h.K.b h.K.O hc hd k.o⟩
 ·show(p.ev B (zgl c d)).mk B (fun t=>t.2.1)=(p.ev B d).mk B fun t=>t.2.2;rw [zhy k.b k.o,zcl k.b k.o];refine zcQ k.o fun x h0 h1=>?_;have a:=hc x h0 h1;have b:=hd x h0 h1;unfold zjE zby zgl;generalize c x=m at a⊢;generalize d x=n at b⊢;obtain rfl |rfl:m=0∨m=1:=by omega
  all_goals obtain rfl |rfl:n=0∨n=1:=by omega
  all_goals rfl
 ·rw [m2];show(p.ev B (zgl c d)).mk B (fun t=>t.2.2)=(p.ev B (zgl d c)).mk B fun t=>t.2.2;rw [zcl k.b k.o,zcl k.b k.o];refine zcQ k.o fun x h0 h1=>?_;have a:=hc x h0 h1;have b:=hd x h0 h1;unfold zby zgl;generalize c x=m at a⊢;generalize d x=n at b⊢;obtain rfl |rfl:m=0∨m=1:=by omega
  all_goals obtain rfl |rfl:n=0∨n=1:=by omega
  all_goals rfl
end
section
variable {ws:List Str}{B:List Tn}{x y t:Tr}
structure Bd (t:Tr) (n:Nat):Prop where
  w:2 ^ n*t.weight≤400
  d:t.depth+3*n≤40
theorem Bd.mono{n m:Nat}(h:Bd t m) (hn:n≤m):Bd t n:=by
 have h1:=h.w;have h2:=h.d;have h3:2 ^ n*t.weight≤2 ^ m*t.weight:=Nat.mul_le_mul_right _ (Nat.pow_le_pow_right (by decide) hn);exact⟨by omega,by omega⟩
theorem zyZ (b:BkOk ws ws B) {p:Pl}(h:PlOk ws B p):(p.ev B zr).ne B=0:=by
 induction h with
 | @sign b' h ps hh hp ih=>
  have:nes B (ps.map (Pl.ev B zr))≤0:=ziG fun u hu=>by
   obtain⟨p,hp,rfl⟩:=List.mem_map.mp hu;rw [ih p hp];exact Nat.le_refl _
  have e:=zbi b.ti (b.sg h hh);rw [zaM,Tr.ne,e];show 0+_=0;omega
 | @turn k b' h ps t e hl b0 b1 hp ih=>
  have ht:t∈B:=List.mem_of_getElem? e;have:nes B (ps.map (Pl.ev B zr))≤0:=ziG fun u hu=>by
   obtain⟨p,hp,rfl⟩:=List.mem_map.mp hu;rw [ih p hp];exact Nat.le_refl _
  have:=ziO b.ti (us:=ps.map (Pl.ev B zr)) t.2.1 (b.lf t ht).hb;rw [zaE e];show(t.2.1.fill _).ne B=0;omega
theorem zAr:∀x:Int,0≤x→x<8→zr x=byC 8 x:=fun x h0 h8=>(zsG x h0 h8).symm
theorem Bk2.src (K:Bk2 ws B) (h:Wy ws B x):Wy ws B (src B x)∧L2.src B (src B x)=L2.src B x∧(L2.src B x).ne B=0∧gol B (L2.src B x)=L2.src B x:=by
 obtain⟨p,hp,_,rfl,_⟩:=zrv K.b K.O _ x x (Nat.le_refl _) h h rfl;have e:L2.src B (p.ev B (byC 1))=p.ev B zr:=by
  show(p.ev B (byC 1)).mk B (fun t=>t.2.1)=_;rw [zhy K.b hp];exact zcQ hp (zcX 1).src
 rw [e];refine⟨K.wy hp,?_,zyZ K.b hp,?_⟩
 ·show(p.ev B zr).mk B (fun t=>t.2.1)=_;rw [zhy K.b hp];rfl
 ·show(p.ev B zr).mk B (fun t=>t.2.2)=_;rw [zcl K.b hp];rfl
theorem Bk2.two (K:Bk2 ws B) (hx:Wy ws B x) (hy:Wy ws B y) (ex:L2.src B x=t) (ey:L2.src B y=t) (h:Bd t (x.ne B+y.ne B)):Two ws B x y:=by
 obtain⟨p,hp,e1,e2,hn,hs⟩:=znQ K hx hy (ex.trans ey.symm);exact⟨K,p,byC 1,byC 2,K.pk hp hn (by rw [hs,ex];exact h.w) (by rw [hs,ex];exact h.d),zcX 1,zcX 2,e1,e2⟩
theorem Bk2.ow (K:Bk2 ws B) (hx:Wy ws B x) (ex:L2.src B x=t) (h:Bd t (x.ne B)):Two ws B x t:=by
 obtain⟨h1,h2,h3,_⟩:=K.src hx;rw [ex]at h1 h2 h3;exact K.two hx h1 ex h2 (by rw [h3];exact h)
theorem Bk2.self (K:Bk2 ws B) (hx:Wy ws B x) (ex:L2.src B x=t) (h:Bd t (x.ne B)):Two ws B x x:=by
 obtain⟨p,c,d,k,hc,hd,e1,e2⟩:=(K.ow hx ex h).ex;exact⟨K,p,c,c,k,hc,hc,e1,e1⟩
theorem Bk2.goal (K:Bk2 ws B) (hx:Wy ws B x) (ex:L2.src B x=t) {n:Nat}(h:Bd t (x.ne B+n)):Bd (gol B x) n:=by
 have sx:=K.src hx;obtain⟨p,hp,e1,e2,hn,hs⟩:=znQ K hx sx.1 sx.2.1.symm;rw [sx.2.2.1,Nat.add_zero]at hn;have e:gol B x=p.ev B (zby (byC 1)):=by
  rw [←e1];exact zcl K.b hp
 have h1:=zin (c:=zby (byC 1)) K.b K.O hp;have h2:=zkx (c:=zby (byC 1)) K.b K.O hp;rw [hs,ex]at h1 h2;have hw:=h.w;have hd:=h.d;rw [e];refine⟨?_,by omega⟩
 have h3:2 ^ p.pn*t.weight≤2 ^ x.ne B*t.weight:=Nat.mul_le_mul_right _ (Nat.pow_le_pow_right (by decide) hn);have h4:2 ^ n*(p.ev B (zby (byC 1))).weight≤2 ^ n*(2 ^ x.ne B*t.weight):=Nat.mul_le_mul_left _ (Nat.le_trans h1 h3);rw [←Nat.mul_assoc,←Nat.pow_add,Nat.add_comm n]at h4;omega
theorem Bk2.gol (K:Bk2 ws B) (h:Wy ws B x):Wy ws B (gol B x)∧L2.src B (L2.gol B x)=L2.gol B x∧(L2.gol B x).ne B=0∧L2.gol B (L2.gol B x)=L2.gol B x:=by
 obtain⟨p,hp,_,rfl,_⟩:=zrv K.b K.O _ x x (Nat.le_refl _) h h rfl;have e:L2.gol B (p.ev B (byC 1))=p.ev B (zby (byC 1)):=zcl K.b hp;have tg:∀x,zby (byC 1) x≠1:=fun x=>by unfold zby;split<;>omega
 have s:L2.src B (p.ev B (zby (byC 1)))=p.ev B (zby (byC 1)):=by
  show(p.ev B (zby (byC 1))).mk B (fun t=>t.2.1)=_;rw [zhy K.b hp];exact zcQ hp fun b _ _=>by rw [zjE,if_neg (tg b)]
 have w:Wy ws B (p.ev B (zby (byC 1))):=K.wy hp;rw [e];refine⟨w,s,?_,?_⟩
 ·have:=(K.src w).2.2.1;rwa [s]at this
 ·have:=(K.src w).2.2.2;rwa [s]at this
end
section
variable {ws:List Str}{B:List Tn}{x y:Tr}{S:Sto}{a:Addr}{r:Nat}{Q:WK}{E:Str→Sto→Prop}
theorem Two.ok_move (h:Two ws B x y) (ha:S a=some (.lst (B.map zbd))) (hr:60≤r) (q:Q (enc (res B x y)) S):zcR (r+1) [.ref a,enc x,enc y] S Q E:=by
 obtain⟨p,c,d,k,hc,hd,rfl,rfl⟩:=h.ex;have m:=(zdJ (c:=c) (d:=d) k.b k.m (zcv hc hd) k.o).res;rw [m]at q;exact k.ok_move (zcv hc hd) ha hr q
theorem Two.ok_goal (h:Two ws B x y) (ha:S a=some (.lst (B.map zbd))) (hr:60≤r) (q:Q (enc (L2.gol B x)) S):zhC (r+1) [.ref a,enc x] S Q E:=by
 obtain⟨p,c,d,k,hc,hd,rfl,rfl⟩:=h.ex;rw [show L2.gol B (p.ev B c)=_ from zcl k.b k.o]at q;exact k.ok_goal ha hr q
theorem Two.ok_made2 (h:Two ws B x y) (ha:S a=some (.lst (B.map zbd))) (hr:60≤r) (q:Q (enc (L2.gol B x)) S):zbD (r+1) [.ref a,enc x, .int 2] S Q E:=by
 obtain⟨p,c,d,k,hc,hd,rfl,rfl⟩:=h.ex;rw [show L2.gol B (p.ev B c)=_ from zcl k.b k.o]at q;exact k.ok_made2 ha hr q
end
noncomputable def zbf (B:List Tn):Tr→List Tr→Tr
 |t,[]=>t
 |_,x::xs=>zbf B (gol B x) xs
noncomputable def Roa (ws:List Str) (B:List Tn):Tr→List Tr→Prop
 |_,[]=>True
 |t,x::xs=>Wy ws B x∧src B x=t∧Roa ws B (gol B x) xs
noncomputable def nR (B:List Tn):List Tr→Nat
 | []=>0
 |x::xs=>x.ne B+nR B xs
noncomputable def zef (B:List Tn):Tr→List Tr→List Tr
 |x,[]=>[x]
 |x,o::os=>x::zef B (res B x o) os
noncomputable def zdr (B:List Tn):Tr→List Tr→List Tr
 |_,[]=>[]
 |x,o::os=>res B o x::zdr B (res B x o) os
noncomputable def zco (B:List Tn):Tr→List Tr→Tr
 |x,[]=>x
 |x,o::os=>zco B (res B x o) os
noncomputable def zme (B:List Tn):List Tr→List Tr→List (List Tr)
 | [],_=>[]
 |x::xs,os=>zef B x os::zme B xs (zdr B x os)
noncomputable def zlY (B:List Tn):List Tr→List Tr→List (List Tr)
 | [],os=>[os]
 |x::xs,os=>os::zlY B xs (zdr B x os)
noncomputable def zai (B:List Tn):List Tr→List Tr→List Tr
 | [],_=>[]
 |x::xs,os=>zco B x os::zai B xs (zdr B x os)
noncomputable def zcK (B:List Tn):List Tr→List Tr→List Tr
 | [],os=>os
 |x::xs,os=>zcK B xs (zdr B x os)
section
variable {ws:List Str}{B:List Tn}
theorem znu:∀(os:List Tr) (x:Tr),(zef B x os).length=os.length+1
 | [],x=>rfl
 |o::os,x=>by rw [zef,List.length_cons,znu os];rfl
theorem zlk:∀(os:List Tr) (x:Tr),(zdr B x os).length=os.length
 | [],x=>rfl
 |o::os,x=>by rw [zdr,List.length_cons,zlk os];rfl
theorem zjW:∀(os:List Tr) (x:Tr),(zef B x os).getLast? =some (zco B x os)
 | [],x=>rfl
 |o::os,x=>by
  rw [zef,List.getLast?_cons,zjW os,zco];rfl
theorem zbU:∀(xs os:List Tr),(zai B xs os).length=xs.length
 | [],os=>rfl
 |x::xs,os=>by rw [zai,List.length_cons,zbU xs];rfl
theorem zju:∀(xs os:List Tr),(zcK B xs os).length=os.length
 | [],os=>rfl
 |x::xs,os=>by rw [zcK,zju xs,zlk]
structure RowOk (ws:List Str) (B:List Tn) (t x:Tr) (os:List Tr):Prop where
  row:Roa ws B (gol B x) (zdr B x os)
  nr:nR B (zdr B x os)≤nR B os
  wy:Wy ws B (zco B x os)
  sr:src B (zco B x os)=zbf B t os
  ne:(zco B x os).ne B≤x.ne B
  go:zbf B (gol B x) (zdr B x os)=gol B (zco B x os)
theorem zqW (K:Bk2 ws B):∀(os:List Tr) {x t:Tr},Wy ws B x→src B x=t→Roa ws B t os→Bd t (x.ne B+nR B os)→RowOk ws B t x os
 | [],x,t,hx,ex,_,_=>⟨trivial,Nat.le_refl _,hx,ex,Nat.le_refl _,rfl⟩
 |o::os,x,t,hx,ex,⟨ho,eo,hr⟩,hb=>by
  rw [nR]at hb;have h2:Two ws B x o:=K.two hx ho ex eo (hb.mono (by omega));have m:=h2.moved;have m':=h2.symm.moved;have b1:Bd (gol B o) (x.ne B+nR B os):=K.goal ho eo (hb.mono (by omega));have ih:=zqW K os m.wy m.sr hr (b1.mono (by have:=m.ne;omega));refine⟨?_,?_,ih.wy,ih.sr,Nat.le_trans ih.ne m.ne,?_⟩
  ·rw [zdr];refine⟨m'.wy,m'.sr,?_⟩;rw [m'.go];exact ih.row
  ·rw [zdr,nR,nR];have:=m'.ne;have:=ih.nr;omega
  ·rw [zdr,zbf,zco,m'.go];exact ih.go
structure GridOk (ws:List Str) (B:List Tn) (t:Tr) (xs os:List Tr):Prop where
  down:Roa ws B (zbf B t os) (zai B xs os)
  over:Roa ws B (zbf B t xs) (zcK B xs os)
  go:zbf B (zbf B t os) (zai B xs os)=zbf B (zbf B t xs) (zcK B xs os)
  nd:nR B (zai B xs os)≤nR B xs
  no:nR B (zcK B xs os)≤nR B os
theorem zjc (K:Bk2 ws B):∀(xs os:List Tr) {t:Tr},Roa ws B t xs→Roa ws B t os→Bd t (nR B xs+nR B os)→GridOk ws B t xs os
 | [],os,t,_,ho,_=>⟨trivial,ho,rfl,Nat.le_refl _,Nat.le_refl _⟩
 |x::xs,os,t,⟨hx,ex,hr⟩,ho,hb=>by
  rw [nR]at hb;have r:=zqW K os hx ex ho (hb.mono (by omega));have b1:Bd (gol B x) (nR B xs+nR B os):=K.goal hx ex (hb.mono (by omega));have ih:=zjc K xs (zdr B x os) hr r.row (b1.mono (by have:=r.nr;omega));have e:=r.go;refine⟨?_,?_,?_,?_,?_⟩
  ·rw [zai];refine⟨r.wy,r.sr,?_⟩;rw [←e];exact ih.down
  ·rw [zbf,zcK];exact ih.over
  ·rw [zai,zbf,zcK,zbf,←e];exact ih.go
  ·rw [zai,nR,nR];have:=r.ne;have:=ih.nd;omega
  ·rw [zcK];have:=ih.no;have:=r.nr;omega
theorem Roa.end_wy (K:Bk2 ws B):∀(xs:List Tr) {t:Tr},Roa ws B t xs→Wy ws B t→src B t=t→Wy ws B (zbf B t xs)∧src B (zbf B t xs)=zbf B t xs
 | [],t,_,h,e=>⟨h,e⟩
 |x::xs,t,⟨hx,ex,hr⟩,_,_=>Roa.end_wy K xs hr (K.gol hx).1 (K.gol hx).2.1
theorem Roa.end_bd (K:Bk2 ws B):∀(xs:List Tr) {t:Tr}{n:Nat},Roa ws B t xs→Bd t (nR B xs+n)→Bd (zbf B t xs) n
 | [],t,n,_,h=>by rw [nR,Nat.zero_add]at h;exact h
 |x::xs,t,n,⟨hx,ex,hr⟩,h=>by
  rw [nR]at h;exact Roa.end_bd K xs hr (K.goal hx ex (h.mono (by omega)))
inductive RowC (ws:List Str) (B:List Tn):Tr→List Tr→Prop
 |nil {x:Tr}:RowC ws B x []
 |cons {x o:Tr}{os:List Tr}:Two ws B x o→(∃y,Two ws B (res B x o) y)→RowC ws B (res B x o) os→RowC ws B x (o::os)
inductive Cells (ws:List Str) (B:List Tn):List Tr→List Tr→Prop
 |nil {os:List Tr}:Cells ws B [] os
 |cons {x:Tr}{xs os:List Tr}:RowC ws B x os→Cells ws B xs (zdr B x os)→Cells ws B (x::xs) os
theorem zkC (K:Bk2 ws B):∀(os:List Tr) {x t:Tr},Wy ws B x→src B x=t→Roa ws B t os→Bd t (x.ne B+nR B os)→RowC ws B x os
 | [],x,t,_,_,_,_=> .nil
 |o::os,x,t,hx,ex,⟨ho,eo,hr⟩,hb=>by
  rw [nR]at hb;have h2:Two ws B x o:=K.two hx ho ex eo (hb.mono (by omega));have m:=h2.moved;have b1:Bd (gol B o) (x.ne B+nR B os):=K.goal ho eo (hb.mono (by omega));have b2:Bd (gol B o) ((res B x o).ne B+nR B os):=b1.mono (by have:=m.ne;omega);exact .cons h2 ⟨_,K.ow m.wy m.sr (b2.mono (by omega))⟩ (zkC K os m.wy m.sr hr b2)
theorem zea (K:Bk2 ws B):∀(xs os:List Tr) {t:Tr},Roa ws B t xs→Roa ws B t os→Bd t (nR B xs+nR B os)→Cells ws B xs os
 | [],os,t,_,_,_=> .nil
 |x::xs,os,t,⟨hx,ex,hr⟩,ho,hb=>by
  rw [nR]at hb;have r:=zqW K os hx ex ho (hb.mono (by omega));have b1:Bd (gol B x) (nR B xs+nR B os):=K.goal hx ex (hb.mono (by omega));exact .cons (zkC K os hx ex ho (hb.mono (by omega))) (zea K xs _ hr r.row (b1.mono (by have:=r.nr;omega)))
end
theorem zgq{α β:Type}{R:α→β→Prop}:∀{xs:List α}{ys:List β}{xs':List α}{ys':List β},Paired R xs ys→Paired R xs' ys'→Paired R (xs++xs') (ys++ys')
 |_,_,_,_, .nil,h=>h
 |_,_,_,_, .cons h1 h2,h=> .cons h1 (zgq h2 h)
theorem zbY{α β:Type}{R R':α→β→Prop}(f:∀x y,R x y→R' x y):∀{xs:List α}{ys:List β},Paired R xs ys→Paired R' xs ys
 |_,_, .nil=> .nil
 |_,_, .cons h1 h2=> .cons (f _ _ h1) (zbY f h2)
mutual
theorem zxS:∀(L t:Tr) (ms:List Tr) (p:List Int),L.mt t=some ms→Paired (fun(x:List Int×Tr) m=>∃e,x.1=p++e∧t.at e=some m) ((L.plt p).filter fun x=>x.2.isBl) ms
 | .bl n,t,ms,p,e=>by
  rw [Tr.mt]at e;cases e;rw [Tr.plt];exact .cons ⟨[],by simp,by rw [Tr.at]⟩ .nil
 | .nd s ls, .bl n,ms,p,e=>by rw [Tr.mt]at e;cases e
 | .nd s ls, .nd z us,ms,p,e=>by
  rw [Tr.mt]at e;split at e
  ·rename_i hc;rw [Bool.and_eq_true,beq_iff_eq,beq_iff_eq]at hc;rw [Tr.plt,List.filter_cons_of_neg (by simp [Tr.isBl])];refine zbY ?_ (ztp ls us ms p 0 hc.2 e);rintro x m ⟨j,e,u,h1,h2,h3⟩;refine⟨(j:Int)::e,by rw [h1,Nat.zero_add],?_⟩
   rw [Tr.at,if_neg (by omega),Int.toNat_natCast,h2];exact h3
  ·cases e
theorem ztp:∀(ls us ms:List Tr) (p:List Int) (i:Nat),ls.length=us.length→mts ls us=some ms→Paired (fun(x:List Int×Tr) m=>∃(j:Nat) (e:List Int) (u:Tr),x.1=p++((i+j:Nat):Int)::e∧us[j]? =some u∧u.at e=some m) ((zii p i ls).filter fun x=>x.2.isBl) ms
 | [],us,ms,p,i,hl,e=>by
  rw [mts]at e;cases e;rw [zii];exact .nil
 |l::ls,[],ms,p,i,hl,e=>by cases hl
 |l::ls,u::us,ms,p,i,hl,e=>by
  rw [mts]at e;cases q1:l.mt u with
  |none=>rw [q1]at e;cases e
  |some xs=>
   rw [q1]at e;cases q2:mts ls us with
   |none=>rw [q2]at e;cases e
   |some zs=>
    rw [q2]at e;cases e;rw [zii,List.filter_append];refine zgq (zbY ?_ (zxS l u xs _ q1)) (zbY ?_ (ztp ls us zs p (i+1) (by simpa using hl) q2))
    ·rintro x m ⟨e,h1,h2⟩;exact⟨0,e,u,by rw [h1];simp,rfl,h2⟩
    ·rintro x m ⟨j,e,v,h1,h2,h3⟩;exact⟨j+1,e,v,by rw [h1,show i+1+j=i+(j+1) by omega],by rw [List.getElem?_cons_succ];exact h2,h3⟩
end
theorem zwk{L t:Tr}{ms:List Tr}(h:L.mt t=some ms):Paired (fun q m=>t.at q=some m) (L.bls.map fun x=>x.1) ms:=by
 have:=zxS L t ms [] h;clear h;unfold Tr.bls;generalize (L.plt []).filter (fun x=>x.2.isBl)=xs at this⊢
 induction this with
 |nil=>exact .nil
 |cons h1 h2 ih=>
  obtain⟨e,h3,h4⟩:=h1;rw [List.map_cons];rw [List.nil_append]at h3;exact .cons (by rw [h3];exact h4) ih
noncomputable def cnt (wn:List (List Int)) (p:List Int):Nat:=wn.countP fun q=>p.isPrefixOf q
theorem zqh (wn:List (List Int)) (p q:List Int):cnt wn (p++q)≤cnt wn p:=by
 unfold cnt;refine List.countP_mono_left fun x _ h=>?_;obtain⟨e,rfl⟩:=List.isPrefixOf_iff_prefix.mp h;exact List.isPrefixOf_iff_prefix.mpr ⟨q++e,by simp⟩
theorem zsS:∀(wn:List (List Int)) (p:List Int) (i:Int) (q:List Int),p∈wn→cnt wn (p++i::q)+1≤cnt wn p
 |w::wn,p,i,q,h=>by
  unfold cnt;rw [List.countP_cons,List.countP_cons];have hs:=zqh wn p (i::q);unfold cnt at hs;rcases List.mem_cons.mp h with rfl |h
  ·have h1:(p++i::q).isPrefixOf p=false:=by
    rw [Bool.eq_false_iff];intro z;obtain⟨e,z⟩:=List.isPrefixOf_iff_prefix.mp z;have:=congrArg List.length z;simp at this
   have h2:p.isPrefixOf p=true:=List.isPrefixOf_iff_prefix.mpr ⟨[],by simp⟩
   rw [h1,h2];simp;omega
  ·have ih:=zsS wn p i q h;unfold cnt at ih;have h3:(p++i::q).isPrefixOf w=true→p.isPrefixOf w=true:=fun z=>by
    obtain⟨e,rfl⟩:=List.isPrefixOf_iff_prefix.mp z;exact List.isPrefixOf_iff_prefix.mpr ⟨i::q++e,by simp⟩
   by_cases z:(p++i::q).isPrefixOf w=true
   ·rw [if_pos z,if_pos (h3 z)];omega
   ·rw [if_neg z];omega
theorem zlQ{B:List Tn}:∀{ts:List Tr},(∀t∈ts,t.ar B)→ars B ts
 | [],_=>by rw [ars];trivial
 |t::ts,h=>by rw [ars];exact⟨h t (by simp),zlQ fun u hu=>h u (List.mem_cons_of_mem _ hu)⟩
structure Sh (ws:List Str) (B:List Tn) (t:Tr):Prop where
  wy:Wy ws B t
  q:src B t=t
section
variable {ws:List Str}{B:List Tn}
theorem Sh.cases (K:Bk2 ws B) {t:Tr}(h:Sh ws B t):∃s ts,t= .nd s ts∧s∈ws∧zaZ B s=none∧ ∀x∈ts,Sh ws B x:=by
 rcases h.wy.cases K.b with⟨s,ts,rfl,hs,e,k⟩ |⟨u,ts,hu,rfl,e,hl,k⟩
 ·have q:=h.q;rw [show src B (.nd s ts)=_ from zdl e]at q;injection q with _ q;refine⟨s,ts,rfl,hs,e,fun x hx=>⟨k x hx,?_⟩⟩;obtain⟨i,hi,rfl⟩:=List.getElem_of_mem hx;have:=congrArg (fun l=>l[i]?) q;simp only[List.getElem?_map,List.getElem?_eq_getElem hi]at this;exact Option.some.inj this
 ·have q:=h.q;rw [show src B (.nd u.1 ts)=_ from zdo e]at q;obtain⟨s0,l0,e0,_⟩:=K.O.inn u hu;have hb:=(K.b.lf u hu).hb;rw [e0,Tr.hb]at hb;rw [e0,Tr.fill]at q;injection q with q _;exact absurd q (zeL hb.1 (K.b.ti u hu))
theorem Sh.parts (K:Bk2 ws B) {t:Tr}(h:Sh ws B t) {u:Tn}(hu:u∈B) {ms:List Tr}(e:u.2.1.mt t=some ms):t=u.2.1.fill ms∧ms.length=u.2.1.nb∧ ∀x∈ms,Sh ws B x:=by
 obtain⟨h1,h2⟩:=K.O.fm u hu _ _ e;refine⟨h1,h2,fun x hx=>⟨ztI _ _ _ e h.wy x hx,?_⟩⟩;have q:=h.q;rw [h1,show src B (u.2.1.fill ms)=_ from zmU K.b hu h2 _]at q;have m1:=K.O.mt u hu ms h2;have m2:=K.O.mt u hu (ms.map (src B)) (by rw [List.length_map,h2]);rw [show u.2.1.fill (ms.map (src B))=_ from q,m1]at m2;have q:=Option.some.inj m2;obtain⟨i,hi,rfl⟩:=List.getElem_of_mem hx;have:=congrArg (fun l=>l[i]?) q;simp only[List.getElem?_map,List.getElem?_eq_getElem hi]at this;exact(Option.some.inj this).symm
noncomputable def zvF (B:List Tn) (wn:List (List Int)) (p:List Int) (t:Tr):Prop:=∀q∈wn,∀e v,q=p++e→t.at e=some v→(zfu B v).isSome=true
theorem zxO{s:Str}{ts:List Tr}{i:Nat}{u:Tr}(h:ts[i]? =some u) (e:List Int):(Tr.nd s ts).at ((i:Int)::e)=u.at e:=by
 rw [Tr.at,if_neg (by omega),Int.toNat_natCast,h]
theorem zpt{wn:List (List Int)}{n:Nat}{p:List Int}{c:Nat}(ih:∀(t:Tr) (p:List Int),t.depth≤n→Sh ws B t→zvF B wn p t→ ∃u,Wi B wn n p t u∧src B u=t∧Wy ws B u∧u.ne B≤cnt wn p) :
  ∀{qs:List (List Int)}{ts:List Tr},Paired (fun q t=>t.depth≤n∧Sh ws B t∧zvF B wn (p++q) t∧cnt wn (p++q)≤c) qs ts→ ∃us,Wis B wn n p qs ts us∧us.map (src B)=ts∧(∀u∈us,Wy ws B u)∧nes B us≤c
 |_,_, .nil=>⟨[], .nil,rfl,by simp,by rw [nes];omega⟩
 |_,_, .cons ⟨h1,h2,h3,h4⟩ h=>by
  obtain⟨u,w,e,y,k⟩:=ih _ _ h1 h2 h3;obtain⟨us,ws',es,ys,ks⟩:=zpt ih h;refine⟨u::us, .cons w ws',by rw [List.map_cons,e,es],fun v hv=>?_,by rw [nes];omega⟩
  rcases List.mem_cons.mp hv with rfl |hv
  ·exact y
  ·exact ys v hv
theorem zub (K:Bk2 ws B) {wn:List (List Int)}:∀(n:Nat) (t:Tr) (p:List Int),t.depth≤n→Sh ws B t→zvF B wn p t→ ∃u,Wi B wn n p t u∧src B u=t∧Wy ws B u∧u.ne B≤cnt wn p
 |0,t,p,hd,h,_=>by
  obtain⟨s,ts,rfl,_⟩:=h.cases K;rw [Tr.depth]at hd;omega
 |n+1,t,p,hd,h,hw=>by
  obtain⟨s,ts,rfl,hs,e,k⟩:=h.cases K;rw [Tr.depth]at hd;by_cases hp:p∈wn
  ·have ho:=hw p hp [] (.nd s ts) (by simp) (by rw [Tr.at]);obtain⟨u,ho⟩:=Option.isSome_iff_exists.mp ho;have hu:u∈B:=List.mem_of_find?_eq_some ho;have hm:(u.2.1.mt (.nd s ts)).isSome=true:=by simpa using List.find?_some ho
   obtain⟨ms,hm⟩:=Option.isSome_iff_exists.mp hm;obtain⟨f1,f2,f3⟩:=h.parts K hu hm;have ba:=zwk hm;have hdm:∀y∈ms,y.depth≤n:=fun y hy=>by
    obtain⟨s0,l0,e0,_⟩:=K.O.inn u hu;rw [e0,Tr.mt]at hm;split at hm
    ·have:=znI _ _ _ hm y hy;omega
    ·cases hm
   have hne:∀q∈u.2.1.bls.map (fun x=>x.1),∃i e,q=i::e:=fun q hq=>by
    obtain⟨z,hz,rfl⟩:=List.mem_map.mp hq;obtain⟨h1,h2,_⟩:=zpj hz;cases hq:z.1 with
    |nil=>
     rw [hq,Tr.at]at h1;have h3:u.2.1=z.2:=Option.some.inj h1;obtain⟨s0,l0,e0,_⟩:=K.O.inn u hu;rw [←h3,e0]at h2;cases h2
    |cons i is=>exact⟨i,is,rfl⟩
   have pr:∀{qs:List (List Int)}{xs:List Tr},(∀q∈qs,∃i e,q=i::e)→(∀x∈xs,x.depth≤n∧Sh ws B x)→Paired (fun q m=>(Tr.nd s ts).at q=some m) qs xs→Paired (fun q t=>t.depth≤n∧Sh ws B t∧zvF B wn (p++q) t∧cnt wn (p++q)≤cnt wn p - 1) qs xs:=by
    intro qs xs h1 h2 h3
    induction h3 with
    |nil=>exact .nil
    | @cons q m qs xs h4 _ ih=>
     obtain⟨i,e,rfl⟩:=h1 q (by simp);obtain⟨g1,g2⟩:=h2 m (by simp);refine .cons ⟨g1,g2,fun q' hq' e' v' h5 h6=>hw q' hq' (i::e++e') v' (by rw [h5];simp) (by rw [zsZ _ e' h4];exact h6),?_⟩ (ih (fun q hq=>h1 q (List.mem_cons_of_mem _ hq)) fun x hx=>h2 x (List.mem_cons_of_mem _ hx));have:=zsS wn p i e hp;omega
   obtain⟨us,wi,es,ys,ks⟩:=zpt (zub K n) (pr hne (fun x hx=>⟨hdm x hx,f3 x hx⟩) ba);have et:=zcG K.b.nd hu;have lu:us.length=u.2.1.nb:=by rw [←f2,←es,List.length_map]
   refine⟨.nd u.1 us, .yes hp ho hm et wi,?_,⟨?_,?_⟩,?_⟩
   ·rw [show src B (.nd u.1 us)=_ from zdo et,es,f1]
   ·rw [Tr.hd,hds_iff];exact⟨.inr ⟨u,hu,rfl⟩,fun x hx=>(ys x hx).hd⟩
   ·rw [Tr.ar];refine⟨fun t ht=>?_,zlQ fun x hx=>(ys x hx).ar⟩;rw [et]at ht;cases ht;exact lu
   ·rw [Tr.ne,et];have h1:1≤cnt wn p:=by
     unfold cnt;exact List.countP_pos_iff.mpr ⟨p,hp,List.isPrefixOf_iff_prefix.mpr ⟨[],by simp⟩⟩
    show 1+_≤_;omega
  ·have pr:∀(i:Nat) (xs:List Tr),(∀(j:Nat) x,xs[j]? =some x→ts[i+j]? =some x)→Paired (fun q t=>t.depth≤n∧Sh ws B t∧zvF B wn (p++q) t∧cnt wn (p++q)≤cnt wn p) ((List.range' i xs.length).map fun(i:Nat)=>[(i:Int)]) xs:=by
    intro i xs
    induction xs generalizing i with
    |nil=>intro _;exact .nil
    |cons x xs ih=>
     intro hx;have hi:=hx 0 x rfl;rw [Nat.add_zero]at hi;have hm:x∈ts:=List.mem_of_getElem? hi;have hdx:=zcS hm;rw [List.length_cons,List.range'_succ,List.map_cons];refine .cons ⟨by omega,k x hm,fun q' hq' e' v' h5 h6=>hw q' hq' ((i:Int)::e') v' (by rw [h5];simp) (by rw [zxO hi];exact h6),zqh wn p _⟩ (ih (i+1) fun j y hy=>?_);have:=hx (j+1) y (by rw [List.getElem?_cons_succ];exact hy);rw [show i+1+j=i+(j+1) by omega]
     exact this
   have pr0:=pr 0 ts fun j x h=>by rw [Nat.zero_add];exact h
   rw [←List.range_eq_range']at pr0;obtain⟨us,wi,es,ys,ks⟩:=zpt (zub K n) pr0;refine⟨.nd s us, .no hp e wi,?_,⟨?_,?_⟩,?_⟩
   ·rw [show src B (.nd s us)=_ from zdl e,es]
   ·rw [Tr.hd,hds_iff];exact⟨.inl hs,fun x hx=>(ys x hx).hd⟩
   ·rw [Tr.ar];exact⟨fun t ht=>(by rw [e]at ht;cases ht),zlQ fun x hx=>(ys x hx).ar⟩
   ·rw [Tr.ne,e];show 0+_≤_;omega
end
mutual
theorem zgC:∀t:Tr,t.depth≤t.weight
 | .bl _=>by rw [Tr.depth,Tr.weight];exact Nat.le_refl _
 | .nd _ ts=>by rw [Tr.depth,Tr.weight];have:=zfs ts;omega
theorem zfs:∀ts:List Tr,dts ts≤wts ts
 | []=>by rw [dts,wts];exact Nat.le_refl _
 |t::ts=>by rw [dts,wts];have:=zgC t;have:=zfs ts;omega
end
theorem zpR{B:List Tn}:∀(ps:List Pl),(∀p∈ps,(p.ev B zr).weight≤p.wt+2*p.nt)→wts (ps.map (Pl.ev B zr))≤pwts ps+2*pnts ps
 | [],_=>by simp [wts]
 |p::ps,h=>by
  have h1:=h p List.mem_cons_self;have h2:=zpR ps fun q hq=>h q (List.mem_cons_of_mem _ hq);rw [List.map_cons,wts,pwts,pnts];omega
theorem zpE{ws hs:List Str}{B:List Tn}(b:BkOk ws hs B) {p:Pl}(h:PlOk hs B p):(p.ev B zr).weight≤p.wt+2*p.nt:=by
 induction h with
 | @sign b' h ps hh hp ih=>
  have:=zpR ps ih;rw [zaM,Tr.weight,Pl.wt,Pl.nt,if_pos (by decide)];omega
 | @turn k b' h ps t e hl b0 b1 hp ih=>
  have ht:t∈B:=List.mem_of_getElem? e;have:=zpR ps ih;have:=(b.lf t ht).fw (ps.map (Pl.ev B zr)) (by rw [List.length_map,hl]);rw [zaE e,Pl.wt,Pl.nt,if_neg (by omega)];show(t.2.1.fill _).weight≤_;omega
theorem PlOk.sub{ws hs:List Str}{B:List Tn}(h:∀x∈hs,x∈ws) {p:Pl}(hp:PlOk hs B p):PlOk ws B p:=by
 induction hp with
 |sign h1 _ ih=>exact .sign (h _ h1) ih
 |turn e hl b0 b1 _ ih=>exact .turn e hl b0 b1 ih
section
variable {w0 w1 w2 w3 w4 w5:Str}{tt:List Str}{B:List Tn}{S:Sto}{aw at' ab ac:Addr}{cs:List Int}{Q:WK}{X:Str→Sto→Prop}
theorem Pre.bk2 (P:Pre S aw at' ab w0 w1 w2 w3 w4 w5 tt B):Bk2 [w0,w1,w2,w3,w4,w5] B:=P.b.bk2 P.T P.G
theorem Pre.lft (P:Pre S aw at' ab w0 w1 w2 w3 w4 w5 tt B):Lft B:=⟨fun t ht=>(P.bk.lf t ht).dp,fun t ht=>by
 have h1:=(P.bk.lf t ht).wt;have h2:=(P.bk.lf t ht).nb;omega⟩
theorem Pre.ok_shape{Y:Str→Sto→Prop}{v8:Int}(h8:v8=8) (P:Pre S aw at' ab w0 w1 w2 w3 w4 w5 tt B) (hc:S ac=some (.lst (cs.map W.int)))
  (h:∀(t:Tr) (S':Sto),Sub S S'→Sh [w0,w1,w2,w3,w4,w5] B t→Bd t 4→Q (enc t) S'):zbF 199 [.ref ac, .ref ab, .ref aw, .int 6] S (fun v S1=>zbG 199 [v, .ref ab, .int v8] S1 Q Y) X:=by
 subst h8;refine L2.zsA (r:=189) (m:=6) (by decide) hc P.fb P.fw P.bk P.ne fun p v S' sub pa po pw pn=>?_;have K:=P.bk2;have po2:PlOk [w0,w1,w2,w3,w4,w5] B p:=po.sub fun x hx=>List.mem_cons_of_mem _ (List.mem_cons_of_mem _ hx);have hdp:=znf p;refine L2.ztl (r:=198) (by decide) (sub _ _ P.fb) P.bk 23 (by omega) (by omega) pa po (by omega) ?_;have e:p.ev B (byC 8)=p.ev B zr:=zcQ po fun x h0 h1=>(zAr x h0 h1).symm;rw [e];have hw:=zpE P.bk po;have hd:=zgC (p.ev B zr);refine h _ S' sub ⟨K.wy po2,?_⟩ ⟨by omega,by omega⟩
 show(p.ev B zr).mk B (fun t=>t.2.1)=_;rw [zhy K.b po2];rfl
end
section
variable {ws:List Str}{B:List Tn}{a l q:Addr}{r:Nat}{E:WX}{D:WEnds}
theorem zqG{S:Sto}{G:Sto→Prop}(hG:G S) (ha:S a=some (.lst (B.map zbd))) (hr:60≤r):∀(xs:List Tr) (y1 y2:Option W),(∀x∈xs,∃y,Two ws B x y)→(∀z,D.nx [some (.ref a),y1,z] S)→forL (wGN 2) (zdu (r+1) zba) E D G (xs.map enc) [some (.ref a),y1,y2] S
 | [],y1,y2,_,h=>h y2
 |x::xs,y1,y2,hx,h=>by
  rw [List.map_cons];refine zbz fun N hN=>?_;rw [zhG,zdu];walk_at "wp";obtain⟨y,h2⟩:=hx x (by simp);exact h2.ok_goal ha (by omega) (hN _ _ _ .refl hG (zqG hG ha hr xs y1 _ (fun z hz=>hx z (List.mem_cons_of_mem _ hz)) h))
theorem zeh{S:Sto}{xs:List Tr}{Q:WK}{X:Str→Sto→Prop}(ha:S a=some (.lst (B.map zbd))) (hl:S l=some (.lst (xs.map enc))) (hx:∀x∈xs,∃y,Two ws B x y) (hr:60≤r) (h:Q .non S):zbp (r+2) [.ref a, .ref l] S Q X:=by
 rw [show r+2=r+1+1 from rfl,zbp];walk_at "wp";rw [zak hl];exact zqG hl ha hr xs _ _ hx fun z=>⟨_, .refl,h⟩
theorem zhe{α:Type}(xs:List α) (x:α):atI (xs++[x]) (-1)=some x:=by
 unfold atI ixN;rw [if_neg (by decide),List.length_append,List.length_singleton];rw [if_pos (by omega)];show(xs++[x])[_]? =some x;rw [show((-1+((xs.length+1:Nat):Int)).toNat)=xs.length by omega,List.getElem?_concat_length]
theorem zzM{S:Sto}{T:WS}{x y:Tr}{xs:List W}{y1 y2 y5:Option W}(ha:S a=some (.lst (B.map zbd))) (hq:S q=some (.lst (xs++[enc x]))) (h2:Two ws B x y) (hr:61≤r) (h:T E D [some (.ref a),y1,y2,some (.ref q),some (enc y),some (enc (res B x y))] S) :
  zbr r T E D [some (.ref a),y1,y2,some (.ref q),some (enc y),y5] S:=by
 rw [zbr];walk_at "wp";rw [zak hq,zhe];obtain⟨r,rfl⟩:∃r',r=r'+1:=⟨r - 1,by omega⟩
 exact h2.ok_move ha (by omega) h
theorem zyT{S:Sto}{T:WS}{x:Tr}{y1 y2 y3 y4:Option W}(ha:S a=some (.lst (B.map zbd))) (h2:∃y,Two ws B x y) (hr:62≤r) (h:∀S',Sub S S'→T E D [some (.ref a),y1,y2,y3,y4,some (enc x)] S') :
  zbs r T E D [some (.ref a),y1,y2,y3,y4,some (enc x)] S:=by
 rw [zbs];walk_at "wp";refine⟨by decide,fun t ht=>?_⟩;obtain⟨r,rfl⟩:∃r',r=r'+2:=⟨r - 2,by omega⟩
 exact zeh (xs:=[x]) (keep ha ht) zah (fun z hz=>by rw [List.mem_singleton.mp hz];exact h2) (by omega) (h _ (.put .refl ht))
theorem zzd{S:Sto}{x:Tr}{xs:List W}{y1 y2 y3 y4:Option W}(hq:S q=some (.lst xs)) (hl:xs.length≤1000) (h:D.nx [y1,y2,y3,some (.ref q),y4,some (enc x)] (put S q (.lst (xs++[enc x])))) :
  zbu r E D [y1,y2,y3,some (.ref q),y4,some (enc x)] S:=by
 rw [zbu];walk_at "wp";rw [zak hq,zak hq];exact⟨trivial,zch (by omega),h⟩
theorem zpU{S0:Sto}{G:Sto→Prop}(ha:S0 a=some (.lst (B.map zbd))) (h0:S0 q=none) (hG:∀S,Sub S0 S→G S) (hr:62≤r):∀(os:List Tr) {x:Tr},RowC ws B x os→ ∀(xs:List W) {S:Sto}{y1 y2 y4 y5:Option W},xs.length+os.length≤900→Sub S0 S→S q=some (.lst (xs++[enc x]))→
  (∀S' y4 y5,Sub S0 S'→S' q=some (.lst (xs++(zef B x os).map enc))→D.nx [some (.ref a),y1,y2,some (.ref q),y4,y5] S')→
  forL (wGN 4) (zcg r zba) E D G (os.map enc) [some (.ref a),y1,y2,some (.ref q),y4,y5] S
 | [],x,_=>fun xs S y1 y2 y4 y5 hl sb hq h=>h S _ _ sb hq
 |o::os,x, .cons h2 h3 hc=>by
  intro xs S y1 y2 y4 y5 hl sb hq h;rw [List.map_cons];rw [List.length_cons]at hl;refine zbz fun N hN=>?_;rw [zhG,zcg];refine zzM (sb _ _ ha) hq h2 (by omega) ?_;refine zyT (sb _ _ ha) h3 hr fun S1 s1=>?_;refine zzd (s1 _ _ hq) (by rw [List.length_append,List.length_singleton];omega) ?_;have sb2:Sub S0 (put S1 q (.lst (xs++[enc x]++[enc (res B x o)]))):= .put (sb.trans s1) h0;refine hN _ _ _ .refl (hG _ sb2) (zpU ha h0 hG hr os hc (xs++[enc x]) (by rw [List.length_append,List.length_singleton];omega) sb2 zah fun S' z4 z5 s' hq'=>?_);refine h S' z4 z5 s' ?_;rw [hq',zef,List.map_cons];simp
theorem zjn{S:Sto}{x:Tr}{os:List Tr}{Q:WK}{X:Str→Sto→Prop}(ha:S a=some (.lst (B.map zbd))) (hl:S l=some (.lst (os.map enc))) (hc:RowC ws B x os) (hn:os.length≤800) (hr:62≤r)
  (h:∀S' q,Sub S S'→S q=none→S' q=some (.lst ((zef B x os).map enc))→Q (.ref q) S'):zck (r+1) [.ref a,enc x, .ref l] S Q X:=by
 rw [zck,zfK];refine⟨rfl,?_⟩;rw [zci];walk_at "wp";refine⟨by decide,fun q hq=>?_⟩;rw [zcd];walk_at "wp";rw [zak (keep hl hq)];refine zpU ha hq (fun S' sb=>sb _ _ hl) hr os (x:=x) hc [] (by simp;omega) (.put .refl hq) zah fun S' y4 y5 sb hq'=>?_;rw [zcn];walk_at "wp";exact⟨_, .refl,h S' q sb hq (by rw [hq',List.nil_append])⟩
end
theorem zuT{S:Sto}{t:Tr}(h:t.depth≤57):eqF S 60 (enc t) (enc t)=some true:=by
 rw [zwI 60 _ _ (by omega),zoL]
structure At (S0 S:Sto) (d o b:Addr) (xs:List Tr):Prop where
  d:b≠d
  o:b≠o
  e:S b=some (.lst (xs.map enc))
  z:S0 b=none
theorem zne{S0 S:Sto}{q:Addr}(s:Sub S0 S) (h:S q=none):S0 q=none:=by
 cases e:S0 q with
 |none=>rfl
 |some v=>rw [s _ _ e]at h;cases h
theorem At.sub{S0 S S':Sto}{d o b:Addr}{xs:List Tr}(h:At S0 S d o b xs) (s:Sub S S'):At S0 S' d o b xs:=⟨h.d,h.o,s _ _ h.e,h.z⟩
theorem At.pd{S0 S:Sto}{d o b:Addr}{xs:List Tr}{v:Ob}(h:At S0 S d o b xs):At S0 (put S d v) d o b xs:=⟨h.d,h.o,by rw [zaI h.d];exact h.e,h.z⟩
theorem At.po{S0 S:Sto}{d o b:Addr}{xs:List Tr}{v:Ob}(h:At S0 S d o b xs):At S0 (put S o v) d o b xs:=⟨h.d,h.o,by rw [zaI h.o];exact h.e,h.z⟩
noncomputable abbrev Ats (S0 S:Sto) (d o:Addr) (bs:List Addr) (xss:List (List Tr)):Prop:=Paired (At S0 S d o) bs xss
theorem zeY{α β:Type}{R:α→β→Prop}{xs:List α}{ys:List β}{x:α}{y:β}(h:Paired R xs ys) (g:R x y):Paired R (xs++[x]) (ys++[y]):=zgq h (.cons g .nil)
theorem zse{t:Tr}{r:Nat}{S:Sto}{Q:WK}{X:Str→Sto→Prop}(hw:t.weight≤400) (hd:t.depth≤40) (h:Q (enc t) S):zbC (r+5) [enc t] S Q X:=by
 rw [show r+5=r+4+1 from rfl,zbC];walk_at "wp";refine zij (r:=r+3) (by omega) ?_;rw [zmH hw hd]
 try walk_at "wp"
 exact⟨_, .refl,h⟩
theorem zku{α β:Type}(f:α→W) (g:β→W):∀(xs:List α) (ys:List β),pairs (xs.map f) (ys.map g)=(xs.zip ys).map fun p=> .tup [f p.1,g p.2]
 | [],ys=>by simp [pairs]
 |x::xs,[]=>by simp [pairs]
 |x::xs,y::ys=>by rw [List.map_cons,List.map_cons,pairs,zku f g xs ys];rfl
theorem zql{B:List Tn}:∀(os:List Tr) (x:Tr),(os.zip (zef B x os)).map (fun p=>res B p.1 p.2)=zdr B x os
 | [],x=>rfl
 |o::os,x=>by rw [zef,List.zip_cons_cons,List.map_cons,zql os,zdr]
theorem zmq{ws:List Str}{B:List Tn}:∀(os:List Tr) {x:Tr},RowC ws B x os→ ∀p∈os.zip (zef B x os),Two ws B p.1 p.2
 | [],x,_,p,hp=>by cases hp
 |o::os,x, .cons h2 _ hc,p,hp=>by
  rw [zef,List.zip_cons_cons]at hp;rcases List.mem_cons.mp hp with rfl |hp
  ·exact h2.symm
  ·exact zmq os hc p hp
section
variable {ws:List Str}{B:List Tn}{a l1 l2 d o ρ:Addr}{r:Nat}{E:WX}{D:WEnds}{T:WS}{t:Tr}{xs os:List Tr}{S:Sto}{y0 y1 y2 y3 y4 y5 y6 y7:Option W}
theorem zBn (hd:t.depth≤57) (h:T E D [y0,some (.tup [enc t, .ref l1]),some (.tup [enc t, .ref l2]),y3,y4,y5,y6,y7] S) :
  zfZ r T E D [y0,some (.tup [enc t, .ref l1]),some (.tup [enc t, .ref l2]),y3,y4,y5,y6,y7] S:=by
 rw [zfZ];walk_at "wp";rw [zuT hd];exact h
theorem zAR (hw:t.weight≤400) (hd:t.depth≤40) (hr:60≤r) (h:T E D [y0,some (.tup [enc t, .ref l1]),y2,y3,y4,y5,y6,y7] S) :
  zfV r T E D [y0,some (.tup [enc t, .ref l1]),y2,y3,y4,y5,y6,y7] S:=by
 rw [zfV];walk_at "wp";obtain⟨r,rfl⟩:∃r',r=r'+5:=⟨r - 5,by omega⟩
 exact zse hw hd h
theorem zBi (ha:S a=some (.lst (B.map zbd))) (hl:S l1=some (.lst (xs.map enc))) (hx:∀x∈xs,∃y,Two ws B x y) (hr:62≤r) (h:T E D [some (.ref a),some (.tup [enc t, .ref l1]),y2,y3,y4,y5,y6,y7] S) :
  zfB r T E D [some (.ref a),some (.tup [enc t, .ref l1]),y2,y3,y4,y5,y6,y7] S:=by
 rw [zfB];walk_at "wp";obtain⟨r,rfl⟩:∃r',r=r'+2:=⟨r - 2,by omega⟩
 exact zeh ha hl hx (by omega) h
theorem zBa (ha:S a=some (.lst (B.map zbd))) (hl:S l2=some (.lst (os.map enc))) (hx:∀x∈os,∃y,Two ws B x y) (hr:62≤r) (h:T E D [some (.ref a),y1,some (.tup [enc t, .ref l2]),y3,y4,y5,y6,y7] S) :
  zfR r T E D [some (.ref a),y1,some (.tup [enc t, .ref l2]),y3,y4,y5,y6,y7] S:=by
 rw [zfR];walk_at "wp";obtain⟨r,rfl⟩:∃r',r=r'+2:=⟨r - 2,by omega⟩
 exact zeh ha hl hx (by omega) h
theorem zAt (h:∀d,S d=none→T E D [y0,y1,y2,some (.ref d),y4,y5,y6,y7] (put S d (.lst []))):zfT r T E D [y0,y1,y2,y3,y4,y5,y6,y7] S:=by
 rw [zfT];walk_at "wp";exact⟨Nat.zero_le _,h⟩
theorem zBd{vs:List W}(hl:S l2=some (.lst vs)) (h:∀ρ,S ρ=none→T E D [y0,y1,some (.tup [enc t, .ref l2]),y3,some (.ref ρ),y5,y6,y7] (put S ρ (.lst vs))):zfC r T E D [y0,y1,some (.tup [enc t, .ref l2]),y3,y4,y5,y6,y7] S:=by
 rw [zfC];walk_at "wp";show zcp S l2 fun ws=>∀ρ,S ρ=none→T E D [y0,y1,some (.tup [enc t, .ref l2]),y3,some (.ref ρ),y5,y6,y7] (put S ρ (.lst ws));rw [zak hl];exact h
theorem zAX (h:∀o,S o=none→T E D [y0,y1,y2,y3,some (.ref ρ),some (.ref o),y6,y7] (put S o (.lst [.ref ρ]))):zga r T E D [y0,y1,y2,y3,some (.ref ρ),y5,y6,y7] S:=by
 rw [zga];walk_at "wp";exact⟨by decide,h⟩
theorem zyI{x:Tr}(ha:S a=some (.lst (B.map zbd))) (hl:S ρ=some (.lst (os.map enc))) (hc:RowC ws B x os) (hn:os.length≤800) (hr:63≤r)
  (h:∀S' q,Sub S S'→S q=none→S' q=some (.lst ((zef B x os).map enc))→T E D [some (.ref a),y1,y2,y3,some (.ref ρ),y5,some (enc x),some (.ref q)] S') :
  zeq r T E D [some (.ref a),y1,y2,y3,some (.ref ρ),y5,some (enc x),y7] S:=by
 rw [zeq];walk_at "wp";obtain⟨r,rfl⟩:∃r',r=r'+1:=⟨r - 1,by omega⟩
 exact zjn ha hl hc hn (by omega) h
theorem zzG{x:Tr}{q:Addr}(ha:S a=some (.lst (B.map zbd))) (hl:S ρ=some (.lst (os.map enc))) (hq:S q=some (.lst ((zef B x os).map enc))) (hc:RowC ws B x os) (hn:os.length≤800) (hr:63≤r)
  (h:∀ρ',S ρ'=none→T E D [some (.ref a),y1,y2,y3,some (.ref ρ'),y5,y6,some (.ref q)] (put S ρ' (.lst ((zdr B x os).map enc)))) :
  zev r T E D [some (.ref a),y1,y2,y3,some (.ref ρ),y5,y6,some (.ref q)] S:=by
 rw [zev];walk_at "wp";rw [zak hl,zak hq,zku];refine zaH (fun σ=>∃u v,σ=[u,v,some (.ref a)]) (fun p:Tr×Tr=> .tup [enc p.1,enc p.2]) (fun p=>enc (res B p.1 p.2)) ⟨hl,hq⟩ (os.zip (zef B x os)) [] _ ⟨none,none,rfl⟩ (by rw [List.length_zip,znu];simp;omega) (fun p hp σ R hI hR=>?_) ?_
 ·obtain⟨u,v,rfl⟩:=hI;have h2:=zmq os hc p hp;rw [zwn];show zaG (wGN 0) (zaG (wGN 1) zdO) [enc p.1,enc p.2] _ S _;rw [ziZ];show wGN 0 _ _ _ _;rw [zhG,ziZ];show wGN 1 _ _ _ _;rw [zhG,zoK,zno];show zam _ _ _ [some (enc p.1),some (enc p.2),some (.ref a)] _ _;walk_at "wp";obtain⟨r,rfl⟩:∃r',r=r'+1:=⟨r - 1,by omega⟩
  exact h2.ok_move ha (by omega) (hR _ _ ⟨_,_,rfl⟩ .refl)
 ·intro ρ' hρ;have:=h ρ' hρ;rw [←zql,List.map_map]at this;exact this
theorem zys{q:Addr}{vs:List W}(hd:S d=some (.lst vs)) (hn:vs.length≤1000) (h:T E D [y0,y1,y2,some (.ref d),y4,y5,y6,some (.ref q)] (put S d (.lst (vs++[.ref q])))) :
  zey r T E D [y0,y1,y2,some (.ref d),y4,y5,y6,some (.ref q)] S:=by
 rw [zey];walk_at "wp";rw [zak hd,zak hd];exact⟨trivial,zch (by omega),h⟩
theorem zzZ{vs:List W}(hd:S o=some (.lst vs)) (hn:vs.length≤1000) (h:D.nx [y0,y1,y2,y3,some (.ref ρ),some (.ref o),y6,y7] (put S o (.lst (vs++[.ref ρ])))) :
  zer r E D [y0,y1,y2,y3,some (.ref ρ),some (.ref o),y6,y7] S:=by
 rw [zer];walk_at "wp";rw [zak hd,zak hd];exact⟨trivial,zch (by omega),h⟩
theorem zpg{S0:Sto}{G:Sto→Prop}(ha:S0 a=some (.lst (B.map zbd))) (hd0:S0 d=none) (ho0:S0 o=none) (hdo:d≠o) (hG:∀S,Sub S0 S→G S) (hr:64≤r):∀(xs:List Tr) {os:List Tr},Cells ws B xs os→ ∀{S:Sto}{ρ:Addr}{ds rs:List Addr}{Ds Rs:List (List Tr)}{y1 y2 y6 y7:Option W},os.length≤800→ds.length+xs.length≤800→rs.length+xs.length≤800→Sub S0 S→S d=some (.lst (ds.map W.ref))→S o=some (.lst (rs.map W.ref++[.ref ρ]))→Ats S0 S d o ds Ds→Ats S0 S d o rs Rs→At S0 S d o ρ os→
  (∀S' ds' rs' y4 y6 y7,Sub S0 S'→S' d=some (.lst (ds'.map W.ref))→S' o=some (.lst (rs'.map W.ref))→Ats S0 S' d o ds' (Ds++zme B xs os)→Ats S0 S' d o rs' (Rs++zlY B xs os)→D.nx [some (.ref a),y1,y2,some (.ref d),y4,some (.ref o),y6,y7] S')→
  forL (wGN 6) (zgK r zba) E D G (xs.map enc) [some (.ref a),y1,y2,some (.ref d),some (.ref ρ),some (.ref o),y6,y7] S
 | [],os,hz=>by
  rename_i S ρ ds rs Ds Rs y1 y2 y6 y7;intro _ _ _ sb hd ho AD AR Aρ h;refine h S ds (rs++[ρ]) _ _ _ sb hd ?_ ?_ ?_
  ·rw [ho,List.map_append];rfl
  ·rw [zme,List.append_nil];exact AD
  ·rw [zlY];exact zeY AR Aρ
 |x::xs,os, .cons hc hcs=>by
  rename_i S ρ ds rs Ds Rs y1 y2 y6 y7;intro n1 n2 n3 sb hd ho AD AR Aρ h;rw [List.length_cons]at n2 n3;rw [List.map_cons];refine zbz fun N hN=>?_;rw [zhG,zgK];refine zyI (sb _ _ ha) Aρ.e hc n1 (by omega) fun S1 q s1 hq0 hq=>?_;refine zzG (s1 _ _ (sb _ _ ha)) (s1 _ _ Aρ.e) hq hc n1 (by omega) fun ρ' hρ=>?_;have s2:Sub S (put S1 ρ' (.lst ((zdr B x os).map enc))):=s1.trans (.put .refl hρ);have qd:q≠d:=by rintro rfl;rw [hd]at hq0;cases hq0
  have qo:q≠o:=by rintro rfl;rw [ho]at hq0;cases hq0
  have ρd:ρ'≠d:=by rintro rfl;rw [s1 _ _ hd]at hρ;cases hρ
  have ρo:ρ'≠o:=by rintro rfl;rw [s1 _ _ ho]at hρ;cases hρ
  have Aq:At S0 (put S1 ρ' (.lst ((zdr B x os).map enc))) d o q (zef B x os):=⟨qd,qo,keep hq hρ,zne sb hq0⟩;have Aρ':At S0 (put S1 ρ' (.lst ((zdr B x os).map enc))) d o ρ' (zdr B x os):=⟨ρd,ρo,zah,zne (sb.trans s1) hρ⟩;have AD':=zbY (fun _ _ z=>At.sub z s2) AD;have AR':=zbY (fun _ _ z=>At.sub z s2) AR;have A0:=Aρ.sub s2;have hd2:=s2 _ _ hd;have ho2:=s2 _ _ ho;have sb2:=sb.trans s2;generalize put S1 ρ' (.lst ((zdr B x os).map enc))=S2 at Aq Aρ' AD' AR' A0 hd2 ho2 sb2⊢;have ld:(ds.map W.ref).length≤1000:=by rw [List.length_map];omega
  have lo:(rs.map W.ref++[W.ref ρ]).length≤1000:=by rw [List.length_append,List.length_map,List.length_singleton];omega
  refine zys hd2 ld ?_;refine zzZ (vs:=rs.map W.ref++[.ref ρ]) (by rw [zaI hdo.symm];exact ho2) lo ?_;have sb3:Sub S0 (put (put S2 d (.lst (ds.map W.ref++[.ref q]))) o (.lst (rs.map W.ref++[.ref ρ]++[.ref ρ']))):= .put (.put sb2 hd0) ho0;refine hN _ _ _ .refl (hG _ sb3) (zpg ha hd0 ho0 hdo hG hr xs (ds:=ds++[q]) (rs:=rs++[ρ]) (Ds:=Ds++[zef B x os]) (Rs:=Rs++[os]) hcs (by rw [zlk];exact n1) (by rw [List.length_append,List.length_singleton];omega) (by rw [List.length_append,List.length_singleton];omega) sb3 ?_ ?_ ?_ ?_ Aρ'.pd.po fun S' ds' rs' z4 z6 z7 s' h1 h2 h3 h4=>?_)
  ·rw [zaI hdo,zah,List.map_append];rfl
  ·rw [zah,List.map_append];rfl
  ·exact zeY (zbY (fun _ _ z=>At.po (At.pd z)) AD') Aq.pd.po
  ·exact zeY (zbY (fun _ _ z=>At.po (At.pd z)) AR') A0.pd.po
  ·refine h S' ds' rs' z4 z6 z7 s' h1 h2 ?_ ?_
   ·rw [zme];rw [List.append_assoc]at h3;exact h3
   ·rw [zlY];rw [List.append_assoc]at h4;exact h4
theorem Roa.two (K:Bk2 ws B):∀(xs:List Tr) {t:Tr},Roa ws B t xs→Bd t (nR B xs)→ ∀x∈xs,∃y,Two ws B x y
 | [],t,_,_,x,hx=>by cases hx
 |z::xs,t,⟨hz,ez,hr⟩,hb,x,hx=>by
  rw [nR]at hb;rcases List.mem_cons.mp hx with rfl |hx
  ·exact⟨_,K.ow hz ez (hb.mono (by omega))⟩
  ·exact Roa.two K xs hr (K.goal hz ez hb) x hx
structure Grd (S0 S:Sto) (B:List Tn) (xs os:List Tr) (d o:Addr):Prop where
  sub:Sub S0 S
  d0:S0 d=none
  o0:S0 o=none
  ne:d≠o
  ex:∃ds rs,S d=some (.lst (ds.map W.ref))∧S o=some (.lst (rs.map W.ref))∧Ats S0 S d o ds (zme B xs os)∧Ats S0 S d o rs (zlY B xs os)
theorem zlK{Q:WK}{X:Str→Sto→Prop}(ha:S a=some (.lst (B.map zbd))) (h1:S l1=some (.lst (xs.map enc))) (h2:S l2=some (.lst (os.map enc))) (hc:Cells ws B xs os) (tx:∀x∈xs,∃y,Two ws B x y) (to:∀x∈os,∃y,Two ws B x y) (hw:t.weight≤400) (hd:t.depth≤40) (nx:xs.length≤700) (no:os.length≤700) (hr:64≤r)
  (h:∀S' d o,Grd S S' B xs os d o→Q (.tup [.ref d, .ref o]) S'):zhx (r+1) [.ref a, .tup [enc t, .ref l1], .tup [enc t, .ref l2]] S Q X:=by
 rw [zhx,zfK];refine⟨rfl,?_⟩;refine zBn (by omega) (zAR hw (by omega) (by omega) (zBi ha h1 tx (by omega) (zBa ha h2 to (by omega) (zAt fun d hd=>zBd (keep h2 hd) fun ρ hρ=>zAX fun o h0=>?_))));have ρd:ρ≠d:=by rintro rfl;rw [zah]at hρ;cases hρ
 have od:o≠d:=by rintro rfl;rw [zaI ρd.symm,zah]at h0;cases h0
 have oρ:o≠ρ:=by rintro rfl;rw [zah]at h0;cases h0
 have oS:S o=none:=by rw [zaI oρ,zaI od]at h0;exact h0
 have sb:Sub S (put (put (put S d (.lst [])) ρ (.lst (os.map enc))) o (.lst [.ref ρ])):=(Sub.put .refl hd).trans ((Sub.put .refl hρ).trans (.put .refl h0));rw [zgJ];walk_at "wp";show zcp _ l1 _;rw [zak (sb _ _ h1)];refine zpg ha hd oS od.symm (fun S' s'=>s' _ _ h1) hr xs (ds:=[]) (rs:=[]) (Ds:=[]) (Rs:=[]) hc (by omega) (by simp;omega) (by simp;omega) sb ?_ zah .nil .nil ⟨ρd,oρ.symm,?_,by rw [zaI ρd]at hρ;exact hρ⟩ fun S' ds rs y4 y6 y7 s' g1 g2 g3 g4=>?_
 ·rw [zaI od.symm,zaI ρd.symm,zah];rfl
 ·rw [zaI oρ.symm,zah]
 ·rw [zgN];walk_at "wp";exact⟨by decide,_, .refl,h S' d o ⟨s',hd,oS,od.symm,ds,rs,g1,g2,g3,g4⟩⟩
end
noncomputable def opl (B:List Tn) (t:Tr):List (List Int):=(t.op B []).map fun x=>x.1
theorem Sh.hdT{ws:List Str}{B:List Tn}{t:Tr}(h:Sh ws B t):t.hd fun _=>True:=zlp (fun _ _=>trivial) _ h.wy.hd
theorem Sh.wn{ws:List Str}{B:List Tn}{t:Tr}(h:Sh ws B t) {wn:List (List Int)}(hw:∀q∈wn,q∈opl B t):zvF B wn [] t:=by
 intro q hq e v he hv;rw [List.nil_append]at he;subst he;obtain⟨x,hx,rfl⟩:=List.mem_map.mp (hw q hq);rw [←zsW B t [] (zgr _ h.hdT)]at hx;obtain⟨y,hy,hx⟩:=List.mem_flatMap.mp hx;unfold zyk at hx;obtain⟨u,hu,rfl⟩:=List.mem_map.mp hx;have:=(zut hy).1;rw [this]at hv;cases hv;cases e:zfu B y.2 with
 |none=>rw [e]at hu;cases hu
 |some _=>rfl
section
variable {ws:List Str}{B:List Tn}{a l1 lw m:Addr}{r:Nat}{E:WX}{D:WEnds}{T:WS}{t:Tr}{xs:List Tr}{S:Sto}{y0 y1 y2 y3 y4 y5 y6 y7 y8 y9:Option W}{lim sp c:Int}
theorem zyK (L:Lft B) (ha:S a=some (.lst (B.map zbd))) (h:Sh ws B t) (hw:t.weight≤400) (hd:t.depth≤40) (hr:80≤r) (k:∀S' m,Sub S S'→S' m=some (.lst ((opl B t).map zbc))→T E D [some (.ref a),y1,y2,y3,y4,some (enc t),y6,y7,some (.ref m),y9] S') :
  zbK r T E D [some (.ref a),y1,y2,y3,y4,some (enc t),y6,y7,y8,y9] S:=by
 rw [zbK];walk_at "wp";obtain⟨r,rfl⟩:∃r',r=r'+1:=⟨r - 1,by omega⟩
 refine zhA L ha (by omega) (by omega) (by omega) h.hdT fun q hq=>?_;show zcp (put S q (.lst ((t.op B []).map zlj))) q _;rw [zak zah];have hol:=znz B t [];refine zaH (fun σ=>∃y,σ=[y]) zlj (fun x=>zbc x.1) zah (t.op B []) [] _ ⟨none,rfl⟩ (by simp;omega) (fun x hx σ R hI hR=>?_) ?_
 ·obtain⟨y,rfl⟩:=hI;rw [zfy];unfold zlj;walk_at "wp";exact hR _ _ ⟨_,rfl⟩ .refl
 ·intro m hm;refine k _ m ((Sub.put .refl hq).trans (.put .refl hm)) ?_;rw [zah,List.nil_append];unfold opl;rw [List.map_map];rfl
theorem zzO{ps:List (List Int)}(hm:S m=some (.lst (ps.map zbc))) (hp:0<ps.length) (k:∀p1 p2 b,p1∈ps→p2∈ps→S b=none→T E D [y0,y1,y2,y3,y4,y5,y6,some (.int c),some (.ref m),some (.ref b)] (put S b (.lst [zbc p1,zbc p2]))) :
  zbO r T E D [y0,y1,y2,y3,y4,y5,y6,some (.int c),some (.ref m),y9] S:=by
 rw [zbO];walk_at "wp";rw [zak hm];have hne:ps.map zbc≠ []:=by
  intro z;rw [List.map_eq_nil_iff]at z;rw [z]at hp;exact absurd hp (by decide)
 obtain⟨j1,x1,e1,f1⟩:=zpv c hne;obtain⟨j2,x2,e2,f2⟩:=zpv (c / 64) hne;obtain⟨p1,m1,rfl⟩:=List.mem_map.mp (List.mem_of_getElem? e1);obtain⟨p2,m2,rfl⟩:=List.mem_map.mp (List.mem_of_getElem? e2);have hl:(0:Int)<((ps.map zbc).length:Int):=by rw [List.length_map];omega
 refine⟨hl,?_⟩;rw [zak hm,f1];refine⟨⟨by decide,by decide⟩,?_⟩
 rw [zak hm];refine⟨hl,?_⟩;rw [zak hm,f2];exact⟨by decide,fun b hb=>k p1 p2 b m1 m2 hb⟩
theorem zyM{p1 p2:List Int}{b:Addr}(hb:S b=some (.lst [zbc p1,zbc p2])) (h0:sp<lim) (k:∀wn b',(wn=[p1]∨wn=[p1,p2]∧sp+2≤lim)→S b'=none→T E D [y0,y1,y2,some (.int lim),y4,y5,some (.int sp),some (.int c),y8,some (.ref b')] (put S b' (.lst (wn.map zbc)))) :
  zbR r T E D [y0,y1,y2,some (.int lim),y4,y5,some (.int sp),some (.int c),y8,some (.ref b)] S:=by
 rw [zbR];walk_at "wp";refine⟨⟨by decide,by decide⟩,by decide,?_⟩
 have c1:zdN [zbc p1,zbc p2] none (some 1)=[p1].map zbc:=rfl;have c2:zdN [zbc p1,zbc p2] none (some 2)=[p1,p2].map zbc:=rfl;cases(c / 4096 % 2 == 1) with
 |false=>
  show zcp S b _;rw [zak hb];intro p hp;rw [show zdN [zbc p1,zbc p2] none (some (1+0))=_ from c1];exact k [p1] p (.inl rfl) hp
 |true=>
  show zcp S b _;rw [zak hb];intro p hp;split
  ·rename_i h2;rw [show zdN [zbc p1,zbc p2] none (some (1+1))=_ from c2];exact k [p1,p2] p (.inr ⟨rfl,h2⟩) hp
  ·rw [show zdN [zbc p1,zbc p2] none (some (1+0))=_ from c1];exact k [p1] p (.inl rfl) hp
theorem zAb{wn:List (List Int)}{b:Addr}{vs:List W}(K:Bk2 ws B) (L:Lft B) (hP:PB B) (ha:S a=some (.lst (B.map zbd))) (hb:S b=some (.lst (wn.map zbc))) (hv:S lw=some (.lst vs)) (hn:vs.length≤900) (h:Sh ws B t) (hw:t.weight≤400) (hd:t.depth≤40) (hi:∀q∈wn,q∈opl B t) (hl:wn.length≤2) (hr:120≤r)
  (k:∀u,Wy ws B u→src B u=t→u.ne B≤wn.length→T E D [some (.ref a),y1,y2,y3,some (.ref lw),some (enc t),y6,y7,y8,some (.ref b)] (put S lw (.lst (vs++[enc u])))) :
  zbN r T E D [some (.ref a),y1,y2,y3,some (.ref lw),some (enc t),y6,y7,y8,some (.ref b)] S:=by
 rw [zbN];walk_at "wp";rw [zak hv];refine⟨trivial,?_⟩;obtain⟨u,wi,e,y,hne⟩:=zub K t.depth t [] (Nat.le_refl _) h (h.wn hi);obtain⟨r,rfl⟩:∃r',r=r'+1:=⟨r - 1,by omega⟩
 refine zsD (ks:=opl B t) L hP wi (by omega) (by omega) ha hb h.hdT (by omega) (by omega) (by omega) rfl hi ?_;rw [zak hv];refine⟨zch (by omega),k u y e ?_⟩;have:cnt wn []≤wn.length:=List.countP_le_length;omega
theorem zzN{u y:Tr}{vs:List W}(ha:S a=some (.lst (B.map zbd))) (hv:S lw=some (.lst (vs++[enc u]))) (h2:Two ws B u y) (hr:62≤r) (k:T E D [some (.ref a),y1,y2,y3,some (.ref lw),some (enc (gol B u)),y6,y7,y8,y9] S) :
  zbP r T E D [some (.ref a),y1,y2,y3,some (.ref lw),y5,y6,y7,y8,y9] S:=by
 rw [zbP];walk_at "wp";rw [zak hv,zhe];obtain⟨r,rfl⟩:∃r',r=r'+1:=⟨r - 1,by omega⟩
 exact h2.ok_made2 ha (by omega) k
theorem zyE{vs:List W}{b:Addr}(hb:S b=some (.lst vs)) (k:D.nx [y0,y1,y2,y3,y4,y5,some (.int (sp+vs.length)),y7,y8,some (.ref b)] S) :
  zbT r E D [y0,y1,y2,y3,y4,y5,some (.int sp),y7,y8,some (.ref b)] S:=by
 rw [zbT];walk_at "wp";rw [zak hb];exact k
theorem Roa.snoc:∀(xs:List Tr) {t u:Tr},Roa ws B t xs→Wy ws B u→src B u=zbf B t xs→Roa ws B t (xs++[u])
 | [],t,u,_,hu,e=>⟨hu,e,trivial⟩
 |x::xs,t,u,⟨h1,h2,h3⟩,hu,e=>⟨h1,h2,Roa.snoc xs h3 hu e⟩
theorem zmv:∀(xs:List Tr) (t u:Tr),zbf B t (xs++[u])=gol B u
 | [],t,u=>rfl
 |x::xs,t,u=>zmv xs (gol B x) u
theorem zhJ:∀(xs ys:List Tr),nR B (xs++ys)=nR B xs+nR B ys
 | [],ys=>by rw [List.nil_append,nR,Nat.zero_add]
 |x::xs,ys=>by rw [List.cons_append,nR,nR,zhJ xs ys,Nat.add_assoc]
theorem Bd.small{n:Nat}(h:Bd t n):t.weight≤400∧t.depth≤40:=by
 have h1:=h.w;have h2:=h.d;exact⟨Nat.le_trans (Nat.le_mul_of_pos_left _ (zff _)) h1,by omega⟩
theorem zlM{S0:Sto}{G:Sto→Prop}{N:Nat}(K:Bk2 ws B) (L:Lft B) (hP:PB B) (ha:S0 a=some (.lst (B.map zbd))) (h0:S0 lw=none) (hG:∀S,Sub S0 S→G S) (ht:Sh ws B t) (hb:Bd t N) (hlim:lim≤N) (hr:120≤r):∀(cs:List Int) {xs:List Tr}{S:Sto}{sp:Int}{y1 y2 y7 y8 y9:Option W},Sub S0 S→S lw=some (.lst (xs.map enc))→Roa ws B t xs→(nR B xs:Int)≤sp→sp≤lim→xs.length+cs.length≤800→
  (∀S' zs y5 y6 y7 y8 y9,Sub S0 S'→S' lw=some (.lst (zs.map enc))→Roa ws B t zs→(nR B zs:Int)≤lim→zs.length≤xs.length+cs.length→D.nx [some (.ref a),y1,y2,some (.int lim),some (.ref lw),y5,y6,y7,y8,y9] S')→
  forL (wGN 7) (zcF r zba) E D G (cs.map W.int) [some (.ref a),y1,y2,some (.int lim),some (.ref lw),some (enc (zbf B t xs)),some (.int sp),y7,y8,y9] S
 | [],xs,S,sp,y1,y2,y7,y8,y9,sb,hw,hx,h1,h2,hl,h=>h S xs _ _ _ _ _ sb hw hx (by omega) (by simp)
 |c::cs,xs,S,sp,y1,y2,y7,y8,y9,sb,hw,hx,h1,h2,hl,h=>by
  rw [List.length_cons]at hl;have he:=Roa.end_wy K xs hx ht.wy ht.q;have sh:Sh ws B (zbf B t xs):=⟨he.1,he.2⟩;have bd:Bd (zbf B t xs) (N - nR B xs):=Roa.end_bd K xs hx (hb.mono (by omega));obtain⟨w1,w2⟩:=bd.small;rw [List.map_cons];refine zbz fun F hF=>?_;rw [zhG,zcF];refine zyK L (sb _ _ ha) sh w1 w2 (by omega) fun S1 m s1 hm=>?_;have sb1:=sb.trans s1;have hw1:=s1 _ _ hw;have skip:∀y7 y8 y9,F [some (.ref a),y1,y2,some (.int lim),some (.ref lw),some (enc (zbf B t xs)),some (.int sp),y7,y8,y9] S1:=fun y7 y8 y9=>hF _ _ _ .refl (hG _ sb1) (zlM K L hP ha h0 hG ht hb hlim hr cs sb1 hw1 hx h1 h2 (by omega) fun S' zs z5 z6 z7 z8 z9 g1 g2 g3 g4 g5=>h S' zs z5 z6 z7 z8 z9 g1 g2 g3 g4 (by rw [List.length_cons];omega));rw [zcH];walk_at "wp";rw [zak hm];split
  ·rename_i hp;rw [List.length_map]at hp;split
   ·rename_i hs;refine zzO hm (by omega) fun p1 p2 b m1 m2 hb0=>?_;have s2:Sub S1 (put S1 b (.lst [zbc p1,zbc p2])):= .put .refl hb0;refine zyM zah hs fun wn b' hwn hb'=>?_;have s3:=s2.trans (.put .refl hb':Sub _ (put (put S1 b (.lst [zbc p1,zbc p2])) b' (.lst (wn.map zbc))));have fb':put (put S1 b (.lst [zbc p1,zbc p2])) b' (.lst (wn.map zbc)) b'=some (.lst (wn.map zbc)):=zah;have hin:∀q∈wn,q∈opl B (zbf B t xs):=fun q hq=>by
     rcases hwn with rfl |⟨rfl,_⟩
     ·rw [List.mem_singleton.mp hq];exact m1
     ·rcases List.mem_cons.mp hq with rfl |hq
      ·exact m1
      ·rw [List.mem_singleton.mp hq];exact m2
    have hwl:wn.length≤2∧sp+wn.length≤lim:=by
     rcases hwn with rfl |⟨rfl,z⟩
     ·exact⟨by simp,by simp;omega⟩
     ·exact⟨by simp,by simpa using z⟩
    have nb:b'≠lw:=by rintro rfl;rw [s2 _ _ hw1]at hb';cases hb'
    generalize put (put S1 b (.lst [zbc p1,zbc p2])) b' (.lst (wn.map zbc))=S3 at s3 fb'⊢;have sb3:=sb1.trans s3;refine zAb K L hP (sb3 _ _ ha) fb' (s3 _ _ hw1) (by rw [List.length_map];omega) sh w1 w2 hin hwl.1 hr fun u yu eu nu=>?_;have sb4:Sub S0 (put S3 lw (.lst (xs.map enc++[enc u]))):= .put sb3 h0;have fl:put S3 lw (.lst (xs.map enc++[enc u])) lw=some (.lst (xs.map enc++[enc u])):=zah;have fb4:put S3 lw (.lst (xs.map enc++[enc u])) b'=some (.lst (wn.map zbc)):=by rw [zaI nb];exact fb'
    generalize put S3 lw (.lst (xs.map enc++[enc u]))=S4 at sb4 fl fb4⊢;have bu:Bd (zbf B t xs) (u.ne B):=bd.mono (by omega);refine zzN (sb4 _ _ ha) fl (K.ow yu eu bu) (by omega) ?_;refine zyE fb4 ?_;have hx':=Roa.snoc xs hx yu eu;have nx':nR B (xs++[u])=nR B xs+u.ne B:=by rw [zhJ,nR,nR,Nat.add_zero]
    have go:=zlM K L hP ha h0 hG ht hb hlim hr cs (xs:=xs++[u]) (S:=S4) (sp:=sp+(wn.map zbc).length) (y1:=y1) (y2:=y2) (y7:=some (.int c)) (y8:=some (.ref m)) (y9:=some (.ref b')) sb4 (by rw [List.map_append];exact fl) hx' (by rw [nx',List.length_map];omega) (by rw [List.length_map];omega) (by rw [List.length_append,List.length_singleton];omega) fun S' zs z5 z6 z7 z8 z9 g1 g2 g3 g4 g5=>h S' zs z5 z6 z7 z8 z9 g1 g2 g3 g4 (by rw [List.length_append,List.length_singleton]at g5;rw [List.length_cons];omega);rw [zmv]at go;exact hF _ _ _ .refl (hG _ sb4) go
   ·exact skip _ _ _
  ·exact skip _ _ _
theorem zlI{N:Nat}{cs:List Int}{Q:WK}{X:Str→Sto→Prop}(K:Bk2 ws B) (L:Lft B) (hP:PB B) (ha:S a=some (.lst (B.map zbd))) (hc:S l1=some (.lst (cs.map W.int))) (ht:Sh ws B t) (hb:Bd t N) (hlim:lim≤N) (h0:0≤lim) (hn:cs.length≤700) (hr:120≤r)
  (h:∀S' l xs,Sub S S'→S l=none→S' l=some (.lst (xs.map enc))→Roa ws B t xs→(nR B xs:Int)≤lim→xs.length≤cs.length→Q (.tup [enc t, .ref l]) S'):zaJ (r+1) [.ref a,enc t, .ref l1, .int lim] S Q X:=by
 rw [zaJ,zfK];refine⟨rfl,?_⟩;rw [zcY];walk_at "wp";refine⟨Nat.zero_le _,fun lw hlw=>?_⟩;rw [zda];walk_at "wp";rw [zdb];walk_at "wp";rw [zdd];walk_at "wp";rw [zak (keep hc hlw)];refine zlM (xs:=[]) (N:=N) K L hP ha hlw (fun S' s'=>s' _ _ hc) ht hb hlim hr cs (.put .refl hlw) zah trivial (by rw [nR];simp) h0 (by simp;omega) fun S' zs y5 y6 y7 y8 y9 s' g1 g2 g3 g4=>?_;rw [zde];walk_at "wp";exact⟨by decide,_, .refl,h S' lw zs s' hlw g1 g2 g3 (by simpa using g4)⟩
end
theorem zih{α β:Type}{R:α→β→Prop}:∀{xs:List α}{ys:List β},Paired R xs ys→ ∃zs:List (α×β),zs.map (fun z=>z.1)=xs∧zs.map (fun z=>z.2)=ys∧ ∀z∈zs,R z.1 z.2
 |_,_, .nil=>⟨[],rfl,rfl,by simp⟩
 |_,_, .cons h1 h2=>by
  obtain⟨zs,e1,e2,h3⟩:=zih h2;exact⟨(_,_)::zs,by rw [List.map_cons,e1],by rw [List.map_cons,e2],fun z hz=>by
   rcases List.mem_cons.mp hz with rfl |hz
   ·exact h1
   ·exact h3 z hz⟩
theorem zhm{α β γ:Type}{R:α→β→Prop}{R':β→γ→Prop}:∀{xs:List α}{ys:List β}{zs:List γ},Paired R xs ys→Paired R' ys zs→Paired (fun x z=>∃y,R x y∧R' y z) xs zs
 |_,_,_, .nil, .nil=> .nil
 |_,_,_, .cons h1 h2, .cons g1 g2=> .cons ⟨_,h1,g1⟩ (zhm h2 g2)
theorem zfh{α β:Type}{R:α→β→Prop}:∀{ys:List β}{xs:List α}{y:β},Paired R xs (ys++[y])→ ∃pre x,xs=pre++[x]∧R x y
 | [],_,y, .cons h .nil=>⟨[],_,rfl,h⟩
 |_::ys,_,y, .cons (a:=a) h g=>by
  obtain⟨pre,x,e,h⟩:=zfh g;exact⟨a::pre,x,by rw [e];rfl,h⟩
section
variable {ws:List Str}{B:List Tn}
theorem zoO (os:List Tr) (x:Tr):∃l,zef B x os=l++[zco B x os]:=by
 have:=zjW (B:=B) os x;rw [List.getLast?_eq_some_iff]at this;exact this
theorem zjQ:∀(xs os:List Tr),Paired (fun line u=>∃l,line=l++[u]) (zme B xs os) (zai B xs os)
 | [],os=> .nil
 |x::xs,os=> .cons (zoO os x) (zjQ xs _)
theorem zhW:∀(xs os:List Tr),∃l,zlY B xs os=l++[zcK B xs os]
 | [],os=>⟨[],rfl⟩
 |x::xs,os=>by
  obtain⟨l,e⟩:=zhW xs (zdr B x os);exact⟨os::l,by rw [zlY,e,zcK];rfl⟩
theorem zex:∀(os:List Tr) (x:Tr) (xs:List Tr),zai B os (x::xs)=zai B (zdr B x os) xs
 | [],x,xs=>by rw [zai,zdr,zai]
 |o::os,x,xs=>by rw [zai,zdr,zdr,zco,zai,zex os]
theorem zcE:∀(os:List Tr),zai B os []=os
 | []=>by rw [zai]
 |o::os=>by rw [zai,zdr,zco,zcE os]
theorem zaD:∀(xs os:List Tr),zcK B xs os=zai B os xs
 | [],os=>by rw [zcK,zcE]
 |x::xs,os=>by rw [zcK,zex,zaD xs]
theorem zhd:∀(xs ys:List Tr) (t:Tr),zbf B t (xs++ys)=zbf B (zbf B t xs) ys
 | [],ys,t=>rfl
 |x::xs,ys,t=>zhd xs ys (gol B x)
theorem Roa.app:∀(xs:List Tr) {ys:List Tr}{t:Tr},Roa ws B t xs→Roa ws B (zbf B t xs) ys→Roa ws B t (xs++ys)
 | [],_,_,_,h=>h
 |x::xs,_,_,⟨h1,h2,h3⟩,h=>⟨h1,h2,Roa.app xs h3 h⟩
end
section
variable {ws:List Str}{B:List Tn}{a l l1 l2 d o:Addr}{r:Nat}{t:Tr}{xs os:List Tr}{S:Sto}{Q:WK}{X:Str→Sto→Prop}
theorem zgA{S0:Sto}{ds:List Addr}(hd:S d=some (.lst (ds.map W.ref))) (hn:xs.length≤700) (AD:Ats S0 S d o ds (zme B xs os)) (h:∀q,S q=none→Q (.ref q) (put S q (.lst ((zai B xs os).map enc)))):zbZ (r+1) [.tup [.ref d, .ref o]] S Q X:=by
 obtain⟨zs,e1,e2,h3⟩:=zih (zhm AD (zjQ xs os));rw [zbZ];walk_at "wp";rw [zak hd];have e3:ds.map W.ref=zs.map fun z=>W.ref z.1:=by rw [←e1,List.map_map];rfl
 have hz:zs.length=xs.length:=by rw [←zbU (B:=B) xs os,←e2,List.length_map]
 rw [e3];refine zaH (fun σ=>∃y,σ=[y]) (fun z:Addr×Tr=>W.ref z.1) (fun z=>enc z.2) (by rw [←e3];exact hd) zs [] _ ⟨none,rfl⟩ (by simp;omega) (fun z hz σ R hI hR=>?_) ?_
 ·obtain⟨y,rfl⟩:=hI;obtain⟨line,A,l,rfl⟩:=h3 z hz;rw [zeQ];walk_at "wp";have Ae:=A.e;rw [List.map_append]at Ae;rw [zak Ae,show [z.2].map enc=[enc z.2] from rfl,zhe];exact hR _ _ ⟨_,rfl⟩ .refl
 ·intro q hq;have:=h q hq;rw [←e2,List.map_map]at this;exact⟨_, .refl,this⟩
theorem ziL (ha:S a=some (.lst (B.map zbd))) (h1:S l1=some (.lst (xs.map enc))) (h2:S l2=some (.lst (os.map enc))) (hc:Cells ws B xs os) (tx:∀x∈xs,∃y,Two ws B x y) (to:∀x∈os,∃y,Two ws B x y) (hw:t.weight≤400) (hd:t.depth≤40) (nx:xs.length≤700) (no:os.length≤700) (hr:66≤r)
  (h:∀S' q,Sub S S'→S q=none→S' q=some (.lst ((xs++zcK B xs os).map enc))→Q (.tup [enc t, .ref q]) S'):zaC (r+1) [.ref a, .tup [enc t, .ref l1], .tup [enc t, .ref l2]] S Q X:=by
 obtain⟨r,rfl⟩:∃r',r=r'+1:=⟨r - 1,by omega⟩
 rw [zaC,zfK];refine⟨rfl,?_⟩;rw [zdv];walk_at "wp";refine zlK ha h1 h2 hc tx to hw hd nx no (by omega) fun S1 d o g=>?_;obtain⟨ds,rs,g1,g2,g3,g4⟩:=g.ex;obtain⟨pl,el⟩:=zhW (B:=B) xs os;rw [el]at g4;obtain⟨pre,ρ,rfl,Aρ⟩:=zfh g4;rw [List.map_append]at g2;rw [zdk];walk_at "wp";rw [show atI [W.ref d,W.ref o] 1=some (.ref o) from rfl,show atI [enc t,W.ref l1] 1=some (.ref l1) from rfl];walk_at "wp";rw [zak g2,show [ρ].map W.ref=[W.ref ρ] from rfl,zhe];walk_at "wp";have h1':=g.sub _ _ h1;have Ae:=Aρ.e;have lo:(zcK B xs os).length≤700:=by rw [zju];exact no
 rw [zak h1',zak Ae];refine⟨zan (by rw [List.length_map,List.length_map];omega),fun q hq=>⟨by decide,_, .refl,?_⟩⟩;have q0:S q=none:=by
  cases e:S q with
  |none=>rfl
  |some v=>rw [g.sub _ _ e]at hq;cases hq
 exact h _ q (g.sub.trans (.put .refl hq)) q0 (by rw [zah,List.map_append])
end
structure Rds (S:Sto) (ws:List Str) (B:List Tn) (ab:Addr) (t:Tr) (l1 l2:Addr) (xs os:List Tr):Prop where
  K:Bk2 ws B
  fb:S ab=some (.lst (B.map zbd))
  sh:Sh ws B t
  bd:Bd t 4
  f1:S l1=some (.lst (xs.map enc))
  f2:S l2=some (.lst (os.map enc))
  r1:Roa ws B t xs
  r2:Roa ws B t os
  n:nR B xs+nR B os≤4
  x3:xs.length≤3
  o3:os.length≤3
  hB:B.length≤1000
theorem Rds.symm{S:Sto}{ws:List Str}{B:List Tn}{ab:Addr}{t:Tr}{l1 l2:Addr}{xs os:List Tr}(h:Rds S ws B ab t l1 l2 xs os):Rds S ws B ab t l2 l1 os xs:=⟨h.K,h.fb,h.sh,h.bd,h.f2,h.f1,h.r2,h.r1,by have:=h.n;omega,h.o3,h.x3,h.hB⟩
theorem Pre.pb{S:Sto}{aw at' ab:Addr}{w0 w1 w2 w3 w4 w5:Str}{tt:List Str}{B:List Tn}(P:Pre S aw at' ab w0 w1 w2 w3 w4 w5 tt B):PB B:=fun t ht x hx=>by
 have h1:=(zpj hx).2.2;have h2:=(P.bk.lf t ht).dp;omega
section
variable {w0 w1 w2 w3 w4 w5:Str}{tt:List Str}{B:List Tn}{S:Sto}{aw at' ab:Addr}{ns:List Int}{t:Tr}{E:WX}{D:WEnds}{T:WS}{τ:WSt}{x4:Option W}
theorem rp4 (P:Pre S aw at' ab w0 w1 w2 w3 w4 w5 tt B) (h:∀t S',Pre S' aw at' ab w0 w1 w2 w3 w4 w5 tt B→Sh [w0,w1,w2,w3,w4,w5] B t→Bd t 4→T E D (some (.scr ns)::some (.ref aw)::some (.ref at')::some (.ref ab)::some (enc t)::τ) S') :
  zas (wAsg (zam (zbG 199) (zab (zam (zbF 199) (zab (wSl (zad 0) (woS (wC (.int 17))) woN) (zab (zad 3) (zab (zad 1) (zab (wC (.int 6)) waNil))))) (zab (zad 3) (zab (wC (.int 8)) waNil)))) (wGN 4)) T E D (some (.scr ns)::some (.ref aw)::some (.ref at')::some (.ref ab)::x4::τ) S:=by
 walk_at "wp";intro ac hc;exact(P.sub (.put .refl hc)).ok_shape rfl zah fun t S' sb sh bd=>h t S' (P.sub ((Sub.put .refl hc).trans sb)) sh bd
end
section
variable {ws:List Str}{B:List Tn}{ab l1 l2:Addr}{t:Tr}{xs os:List Tr}{S:Sto}
theorem Rds.grid (R:Rds S ws B ab t l1 l2 xs os):GridOk ws B t xs os:=zjc R.K xs os R.r1 R.r2 (R.bd.mono R.n)
theorem Rds.cells (R:Rds S ws B ab t l1 l2 xs os):Cells ws B xs os:=zea R.K xs os R.r1 R.r2 (R.bd.mono R.n)
theorem Rds.bdown (R:Rds S ws B ab t l1 l2 xs os):Bd (zbf B t os) (nR B (zai B xs os)):=by
 have g:=R.grid;have:=g.nd;have:=R.n;exact Roa.end_bd R.K os R.r2 (R.bd.mono (by omega))
end
theorem zAS{x y:W}:atI [x,y] 1=some y:=by
 have h:([x,y]:List W)[1]? =some y:=by simp
 exact zpa (j:=1) h
section
variable {ws:List Str}{B:List Tn}{ab l1 l2:Addr}{t:Tr}{xs os:List Tr}{S:Sto}
theorem Rds.same (R:Rds S ws B ab t l1 l2 xs os):zbf B (zbf B t xs) (zai B os xs)=zbf B (zbf B t os) (zai B xs os):=by
 rw [R.grid.go,zaD]
theorem Rds.send (R:Rds S ws B ab t l1 l2 xs os):Sh ws B (zbf B (zbf B t os) (zai B xs os)):=by
 have h1:=Roa.end_wy R.K os R.r2 R.sh.wy R.sh.q;have h2:=Roa.end_wy R.K _ R.grid.down h1.1 h1.2;exact⟨h2.1,h2.2⟩
end
section
variable {ws:List Str}{B:List Tn}{x t g:Tr}
theorem zsY:One zr:=fun _ _ _=>Nat.zero_le _
theorem Bk2.plan1 (K:Bk2 ws B) (h:Wy ws B x):∃p,PlOk ws B p∧p.ev B (byC 1)=x∧p.ev B zr=L2.src B x:=by
 obtain⟨p,hp,e1,_,_,hs⟩:=znQ K h h rfl;exact⟨p,hp,e1,hs⟩
theorem Bk2.res_src (K:Bk2 ws B) (h:Wy ws B x):res B x (L2.src B x)=x:=by
 obtain⟨p,hp,e1,hs⟩:=K.plan1 h;have m:=(zdJ (c:=byC 1) (d:=zr) K.b K.O.mt (zcv (zcX 1) zsY) hp).res;rw [hs,e1]at m;rw [m];exact e1▸zcQ hp fun b _ _=>rfl
theorem Bk2.src_res (K:Bk2 ws B) (h:Wy ws B x):res B (L2.src B x) x=L2.gol B x:=by
 obtain⟨p,hp,e1,hs⟩:=K.plan1 h;have m:=(zdJ (c:=zr) (d:=byC 1) K.b K.O.mt (zcv zsY (zcX 1)) hp).res;rw [hs,e1]at m;rw [m,←e1];show _=(p.ev B (byC 1)).mk B fun t=>t.2.2;rw [zcl K.b hp];refine zcQ hp fun b h0 h1=>?_;have:=zcX 1 b h0 h1;unfold zgl zby zr;split<;>omega
theorem Bk2.res_self (K:Bk2 ws B) (h:Wy ws B x):res B x x=L2.gol B x:=by
 obtain⟨p,hp,e1,hs⟩:=K.plan1 h;have m:=(zdJ (c:=byC 1) (d:=byC 1) K.b K.O.mt (zcv (zcX 1) (zcX 1)) hp).res;rw [e1]at m;rw [m,←e1];show _=(p.ev B (byC 1)).mk B fun t=>t.2.2;rw [zcl K.b hp];exact zcQ hp fun b h0 h1=>rfl
theorem zdT (K:Bk2 ws B):∀(os:List Tr) {g:Tr},Roa ws B g os→zdr B g os=os∧zco B g os=zbf B g os
 | [],g,_=>⟨rfl,rfl⟩
 |o::os,g,⟨ho,eo,hr⟩=>by
  have h1:=K.res_src ho;have h2:=K.src_res ho;rw [eo]at h1 h2;obtain⟨h3,h4⟩:=zdT K os hr;rw [zdr,zco,h1,h2,h3,h4];exact⟨rfl,rfl⟩
theorem znM:∀(xs ys os:List Tr),zcK B (xs++ys) os=zcK B ys (zcK B xs os)
 | [],ys,os=>rfl
 |x::xs,ys,os=>by rw [List.cons_append,zcK,zcK,znM xs ys]
theorem zdc:∀(xs ys os:List Tr),zai B (xs++ys) os=zai B xs os++zai B ys (zcK B xs os)
 | [],ys,os=>rfl
 |x::xs,ys,os=>by rw [List.cons_append,zai,zai,zcK,zdc xs ys,List.cons_append]
theorem zcB (xs os zs:List Tr):zai B xs (os++zs)=zai B (zai B xs os) zs:=by
 rw [←zaD,znM,zaD,zaD]
theorem Roa.left:∀(xs:List Tr) {ys:List Tr}{t:Tr},Roa ws B t (xs++ys)→Roa ws B t xs
 | [],_,_,_=>trivial
 |x::xs,_,_,⟨h1,h2,h3⟩=>⟨h1,h2,Roa.left xs h3⟩
theorem ziJ (K:Bk2 ws B):∀(os:List Tr) {g:Tr},Roa ws B g os→Bd g (nR B os)→RowC ws B g os
 | [],g,_,_=> .nil
 |o::os,g,⟨ho,eo,hr⟩,hb=>by
  rw [nR]at hb;have h2:=(K.ow ho eo (hb.mono (by omega))).symm;have h3:=K.src_res ho;rw [eo]at h3;have b1:=K.goal ho eo hb;have hg:=K.gol ho;refine .cons h2 ?_ ?_
  ·rw [h3];exact⟨_,K.ow hg.1 hg.2.1 (b1.mono (by rw [hg.2.2.1];omega))⟩
  ·rw [h3];exact ziJ K os hr b1
theorem zfg (K:Bk2 ws B):∀(xs os:List Tr) {g:Tr},Roa ws B g xs→Bd g (nR B xs)→Cells ws B xs os→Cells ws B xs (g::os)
 | [],os,g,_,_,_=> .nil
 |x::xs,os,g,⟨hx,ex,hr⟩,hb, .cons hc hcs=>by
  rw [nR]at hb;have h1:=K.res_src hx;have h2:=K.src_res hx;rw [ex]at h1 h2;have ow:=K.ow hx ex (hb.mono (by omega));refine .cons (.cons ow ⟨_,by rw [h1];exact ow⟩ (by rw [h1];exact hc)) ?_
  rw [zdr,h1,h2];exact zfg K xs _ hr (K.goal hx ex hb) hcs
theorem zfz (K:Bk2 ws B):∀(xs zs:List Tr) {t:Tr},Roa ws B t (xs++zs)→Bd t (nR B (xs++zs))→Cells ws B xs (xs++zs)
 | [],zs,t,_,_=> .nil
 |x::xs,zs,t,⟨hx,ex,hr⟩,hb=>by
  rw [List.cons_append,nR]at hb;have hs:=K.self hx ex (hb.mono (by omega));have b1:=K.goal hx ex hb;have hg:=K.gol hx;obtain⟨q1,q2⟩:=zdT K (xs++zs) hr;have e:=K.res_self hx;refine .cons (.cons hs ⟨_,by rw [e];exact K.ow hg.1 hg.2.1 (b1.mono (by rw [hg.2.2.1];omega))⟩ (by rw [e];exact ziJ K _ hr b1)) ?_
  rw [List.cons_append,zdr,e,q1];have hrx:Roa ws B (gol B x) xs:=Roa.left xs hr;exact zfg K xs _ hrx (b1.mono (by rw [zhJ];omega)) (zfz K xs zs hr b1)
theorem znB:∀(os zs:List Tr) {x:Tr},RowC ws B x os→RowC ws B (zco B x os) zs→RowC ws B x (os++zs)
 | [],zs,x,_,h=>h
 |o::os,zs,x, .cons h1 h2 h3,h=> .cons h1 h2 (znB os zs h3 h)
theorem zqd:∀(os zs:List Tr) (x:Tr),zdr B x (os++zs)=zdr B x os++zdr B (zco B x os) zs
 | [],zs,x=>rfl
 |o::os,zs,x=>by rw [List.cons_append,zdr,zdr,zco,zqd os zs,List.cons_append]
theorem zfY:∀(xs os zs:List Tr),Cells ws B xs os→Cells ws B (zai B xs os) zs→Cells ws B xs (os++zs)
 | [],os,zs,_,_=> .nil
 |x::xs,os,zs, .cons h1 h2,h=>by
  rw [zai]at h;cases h with
  |cons g1 g2=>
   refine .cons (znB os zs h1 g1) ?_;rw [zqd];exact zfY xs _ _ h2 g2
end
section
variable {ws:List Str}{B:List Tn}{x y t:Tr}{a l l1 l2:Addr}{r:Nat}{xs os:List Tr}{S:Sto}{Q:WK}{X:Str→Sto→Prop}
theorem Sh.quiet (K:Bk2 ws B) (h:Sh ws B x):x.quiet=true:=by
 refine ziz x ?_;have:∀(n:Nat) (x:Tr),x.depth≤n→Sh ws B x→x.hd zdw:=by
  intro n
  induction n with
  |zero=>
   intro x hd h;have:=zbq x;omega
  |succ n ih=>
   intro x hd h;obtain⟨s,ts,rfl,hs,_,k⟩:=h.cases K;rw [Tr.depth]at hd;rw [Tr.hd,hds_iff];exact⟨K.b.sg s hs,fun u hu=>ih u (by have:=zcS hu;omega) (k u hu)⟩
 exact this _ x (Nat.le_refl _) h
theorem Wy.len (K:Bk2 ws B) (h:Wy ws B x):x.hd fun s=>s.length≤1000:=zlp (fun s hs=>by
 rcases hs with hs |⟨t,ht,rfl⟩
 ·exact zrU (K.b.sg s hs)
 ·exact zoq (K.b.ti t ht)) _ h.hd
theorem Two.ok_isquiet (h:Two ws B x y) (hr:60≤r) (q:Q (.bl x.quiet) S):zcz (r+1) [enc x] S Q X:=by
 obtain⟨p,c,d,k,hc,hd,rfl,rfl⟩:=h.ex;have h1:=k.wt (c:=c);have h2:=k.dp (c:=c);exact L2.zmT 40 h2 (by omega) ((h.K.wy k.o).len h.K) (by omega) q
theorem zmy{α:Type}(f:α→Bool):∀(xs:List α),zhb (xs.map fun x=>W.bl (f x))=some (xs.map f)
 | []=>rfl
 |x::xs=>by rw [List.map_cons,zhb,zmy f xs];rfl
theorem zfe (hl:S l=some (.lst (xs.map enc))) (tx:∀x∈xs,∃y,Two ws B x y) (hn:xs.length≤1000) (hr:62≤r) (h:Q (.bl (xs.all Tr.quiet)) S):zbV (r+1) [.ref l] S Q X:=by
 rw [zbV];walk_at "wp";rw [zak hl];obtain⟨r,rfl⟩:∃r',r=r'+1:=⟨r - 1,by omega⟩
 refine zaH (fun σ=>∃y,σ=[y]) enc (fun x=>W.bl x.quiet) hl xs [] _ ⟨none,rfl⟩ (by simp;omega) (fun x hx σ R hI hR=>?_) ?_
 ·obtain⟨y,rfl⟩:=hI;obtain⟨z,h2⟩:=tx x hx;rw [zfF];walk_at "wp";exact h2.ok_isquiet (by omega) (hR _ _ ⟨_,rfl⟩ .refl)
 ·rw [List.nil_append,zmy];refine⟨_, .refl,?_⟩;rw [List.all_map];exact h
theorem zrk (ha:S a=some (.lst (B.map zbd))) (h1:S l1=some (.lst (xs.map enc))) (h2:S l2=some (.lst (os.map enc))) (hc:Cells ws B xs os) (tx:∀x∈xs,∃y,Two ws B x y) (to:∀x∈os,∃y,Two ws B x y) (td:∀x∈zai B xs os,∃y,Two ws B x y) (hw:t.weight≤400) (hd:t.depth≤40) (nx:xs.length≤700) (no:os.length≤700) (hr:66≤r)
  (h:∀S',Sub S S'→Q (.bl ((zai B xs os).all Tr.quiet)) S'):zbn (r+1) [.ref a, .tup [enc t, .ref l1], .tup [enc t, .ref l2]] S Q X:=by
 obtain⟨r,rfl⟩:∃r',r=r'+1:=⟨r - 1,by omega⟩
 rw [zbn];walk_at "wp";refine zlK ha h1 h2 hc tx to hw hd nx no (by omega) fun S1 d o g=>?_;obtain⟨ds,rs,g1,g2,g3,g4⟩:=g.ex;refine zgA g1 nx g3 fun q hq=>?_;refine zfe zah td (by rw [zbU];omega) (by omega) ?_;exact⟨_, .refl,h _ (g.sub.trans (.put .refl hq))⟩
theorem zja (ha:S a=some (.lst (B.map zbd))) (h1:S l1=some (.lst (xs.map enc))) (h2:S l2=some (.lst (os.map enc))) (hc:Cells ws B xs os) (tx:∀x∈xs,∃y,Two ws B x y) (to:∀x∈os,∃y,Two ws B x y) (td:∀x∈zai B xs os,∃y,Two ws B x y) (te:∀x∈zcK B xs os,∃y,Two ws B x y) (hw:t.weight≤400) (hd:t.depth≤40) (nx:xs.length≤700) (no:os.length≤700) (hr:66≤r)
  (h:∀S',Sub S S'→Q (.bl ((zai B xs os).all Tr.quiet&&(zcK B xs os).all Tr.quiet)) S'):zen (r+1) [.ref a, .tup [enc t, .ref l1], .tup [enc t, .ref l2]] S Q X:=by
 obtain⟨r,rfl⟩:∃r',r=r'+1:=⟨r - 1,by omega⟩
 rw [zen,zfK];refine⟨rfl,?_⟩;rw [zhZ];walk_at "wp";refine zlK ha h1 h2 hc tx to hw hd nx no (by omega) fun S1 d o g=>?_;obtain⟨ds,rs,g1,g2,g3,g4⟩:=g.ex;rw [zhq];walk_at "wp";refine zgA g1 nx g3 fun q hq=>?_;refine zfe zah td (by rw [zbU];omega) (by omega) ?_;have sb:Sub S1 (put S1 q (.lst ((zai B xs os).map enc))):= .put .refl hq;cases e:(zai B xs os).all Tr.quiet with
 |false=>
  have:=h _ (g.sub.trans sb);rw [e,Bool.false_and]at this;exact⟨_, .refl,this⟩
 |true=>
  obtain⟨pl,el⟩:=zhW (B:=B) xs os;rw [el]at g4;obtain⟨pre,ρ,rfl,Aρ⟩:=zfh g4;rw [List.map_append]at g2;have g2':=sb _ _ g2;have Ae:=(Aρ.sub sb).e;simp only[zAS]
  try walk_at "wp"
  rw [zak g2',show [ρ].map W.ref=[W.ref ρ] from rfl,zhe];refine zfe Ae te (by rw [zju];omega) (by omega) ?_;have:=h _ (g.sub.trans sb);rw [e,Bool.true_and]at this;exact⟨_, .refl,this⟩
end
section
variable {ws:List Str}{B:List Tn}
theorem zpB (K:Bk2 ws B):∀(xs zs:List Tr) {t:Tr},Roa ws B t (xs++zs)→ ∀u∈zai B xs (xs++zs),u=zbf B t (xs++zs)
 | [],zs,t,_,u,hu=>by rw [zai]at hu;cases hu
 |x::xs,zs,t,⟨hx,ex,hr⟩,u,hu=>by
  obtain⟨q1,q2⟩:=zdT K (xs++zs) hr;obtain⟨q3,_⟩:=zdT K xs (Roa.left xs hr);rw [List.cons_append,zex,zdr,K.res_self hx,q3,zai,q1,q2]at hu;rcases List.mem_cons.mp hu with rfl |hu
  ·rfl
  ·exact zpB K xs zs hr u hu
theorem zoY (K:Bk2 ws B) {g:Tr}(hg:Sh ws B g) {us:List Tr}(h:∀u∈us,u=g):us.all Tr.quiet=true:=List.all_eq_true.mpr fun u hu=>by
 rw [h u hu];exact hg.quiet K
end
section
variable {ws:List Str}{B:List Tn}
theorem zue (b:BkOk ws ws B) (O:Ort B) {t:Tn}(ht:t∈B) {x:Tr}{us:List Tr}(hx:Wy ws B x) (hl:us.length=t.2.1.nb) (h:src B x=t.2.1.fill us) :
  ∃(m:Nat) (vs:List Tr),m≤1∧x=evT t m vs∧vs.map (src B)=us∧(∀y∈vs,Wy ws B y)∧wts vs+1≤x.weight:=by
 rcases hx.cases b with⟨s,as,rfl,hs,es,ka⟩ |⟨u,as,hu,rfl,eu,la,ka⟩
 ·obtain⟨vs,ev,lv,ms,kv,wv⟩:=zfi b O ht es hx hl h;have hm:=O.mt t ht vs lv;rw [←ev]at hm;obtain⟨s0,ls,e0,_⟩:=O.inn t ht;rw [e0,Tr.mt]at hm;split at hm
  ·have:=zgn _ _ _ hm;exact⟨0,vs,by omega,ev,ms,kv,by rw [zdq];omega⟩
  ·cases hm
 ·rw [show src B (.nd u.1 as)=_ from zdo eu]at h;have m1:=O.mt t ht us hl;have m2:=O.mt u hu (as.map (src B)) (by rw [List.length_map,la]);have:u=t:=O.one u hu t ht _ (by rw [m2];rfl) (by rw [show u.2.1.fill (as.map (src B))=_ from h,m1];rfl)
  subst this;rw [show u.2.1.fill (as.map (src B))=_ from h,m1]at m2;exact⟨1,as,by omega,rfl,(Option.some.inj m2).symm,ka,by rw [zdq];omega⟩
theorem zsR (b:BkOk ws ws B) (O:Ort B):∀(n:Nat) (x y z:Tr),x.weight+y.weight+z.weight≤n→Wy ws B x→Wy ws B y→Wy ws B z→src B x=src B y→src B z=src B y→ ∃p,PlOk ws B p∧p.ev B (byC 1)=x∧p.ev B (byC 2)=y∧p.ev B (byC 4)=z
 |0,x,y,z,hn,hx,hy,hz,e,e'=>by
  rcases hx.cases b with⟨s,as,rfl,_⟩ |⟨t,as,_,rfl,_⟩<;>rw [zdq]at hn<;>omega
 |n+1,x,y,z,hn,hx,hy,hz,e,e'=>by
  have lists:∀(xs ys zs:List Tr),wts xs+wts ys+wts zs≤n→(∀x∈xs,Wy ws B x)→(∀y∈ys,Wy ws B y)→(∀z∈zs,Wy ws B z)→xs.map (src B)=ys.map (src B)→zs.map (src B)=ys.map (src B)→ ∃ps:List Pl,(∀p∈ps,PlOk ws B p)∧ps.map (Pl.ev B (byC 1))=xs∧ps.map (Pl.ev B (byC 2))=ys∧ps.map (Pl.ev B (byC 4))=zs:=by
   intro xs
   induction xs with
   |nil=>
    intro ys zs _ _ _ _ e e';cases ys with
    |nil=>
     cases zs with
     |nil=>exact⟨[],by simp,rfl,rfl,rfl⟩
     |cons z zs=>cases e'
    |cons y ys=>cases e
   |cons x xs ih=>
    intro ys zs hw h1 h2 h3 e e';cases ys with
    |nil=>cases e
    |cons y ys=>
     cases zs with
     |nil=>cases e'
     |cons z zs=>
      rw [List.map_cons,List.map_cons,List.cons.injEq]at e e';rw [wts,wts,wts]at hw;obtain⟨p,hp,e1,e2,e3⟩:=zsR b O n x y z (by omega) (h1 x (by simp)) (h2 y (by simp)) (h3 z (by simp)) e.1 e'.1;obtain⟨ps,hps,f1,f2,f3⟩:=ih ys zs (by omega) (fun z hz=>h1 z (List.mem_cons_of_mem _ hz)) (fun z hz=>h2 z (List.mem_cons_of_mem _ hz)) (fun z hz=>h3 z (List.mem_cons_of_mem _ hz)) e.2 e'.2;exact⟨p::ps,fun q hq=>by
       rcases List.mem_cons.mp hq with rfl |hq
       ·exact hp
       ·exact hps q hq,by rw [List.map_cons,e1,f1],by rw [List.map_cons,e2,f2],by rw [List.map_cons,e3,f3]⟩
  by_cases h:∃t us,t∈B∧us.length=t.2.1.nb∧src B x=t.2.1.fill us
  ·obtain⟨t,us,ht,hl,h⟩:=h;obtain⟨m1,v1,l1,e1,s1,k1,w1⟩:=zue b O ht hx hl h;obtain⟨m2,v2,l2,e2,s2,k2,w2⟩:=zue b O ht hy hl (e▸h);obtain⟨m3,v3,l3,e3,s3,k3,w3⟩:=zue b O ht hz hl (by rw [e',←e];exact h);obtain⟨ps,hps,f1,f2,f3⟩:=lists v1 v2 v3 (by omega) k1 k2 k3 (s1.trans s2.symm) (s3.trans s2.symm);obtain⟨k,hk⟩:=List.getElem?_of_mem ht;have a:∃i:Int,0≤i∧i<8∧byC 1 i=m1∧byC 2 i=m2∧byC 4 i=m3:=by
    obtain rfl |rfl:m1=0∨m1=1:=by omega
    all_goals obtain rfl |rfl:m2=0∨m2=1:=by omega
    all_goals obtain rfl |rfl:m3=0∨m3=1:=by omega
    ·exact⟨0,by decide⟩
    ·exact⟨4,by decide⟩
    ·exact⟨2,by decide⟩
    ·exact⟨6,by decide⟩
    ·exact⟨1,by decide⟩
    ·exact⟨5,by decide⟩
    ·exact⟨3,by decide⟩
    ·exact⟨7,by decide⟩
   obtain⟨i,i0,i8,a1,a2,a3⟩:=a;have lp:ps.length=t.2.1.nb:=by
    rw [←hl,←s1,←f1,List.length_map,List.length_map]
   refine⟨.nd k i t.1 ps, .turn hk lp i0 i8 hps,?_,?_,?_⟩
   ·rw [zaE hk,f1,a1,e1]
   ·rw [zaE hk,f2,a2,e2]
   ·rw [zaE hk,f3,a3,e3]
  ·rcases hx.cases b with⟨s,as,rfl,hs,es,ka⟩ |⟨t,as,ht,rfl,et,la,ka⟩
   ·rcases hy.cases b with⟨s',bs,rfl,hs',es',kb⟩ |⟨t,bs,ht,rfl,et,lb,kb⟩
    ·rcases hz.cases b with⟨s'',cs,rfl,hs'',es'',kc⟩ |⟨t,cs,ht,rfl,et,lc,kc⟩
     ·rw [show src B (.nd s as)=_ from zdl es,show src B (.nd s' bs)=_ from zdl es']at e;rw [show src B (.nd s'' cs)=_ from zdl es'',show src B (.nd s' bs)=_ from zdl es']at e';injection e with e1 e2;injection e' with e3 e4;subst e1;subst e3;rw [zdq,zdq,zdq]at hn;obtain⟨ps,hps,f1,f2,f3⟩:=lists as bs cs (by omega) ka kb kc e2 e4;exact⟨.nd (-1) 0 _ ps, .sign hs hps,by rw [zaM,f1],by rw [zaM,f2],by rw [zaM,f3]⟩
     ·exact absurd ⟨t,cs.map (src B),ht,by rw [List.length_map,lc],by rw [e,←e'];exact zdo et⟩ h
    ·exact absurd ⟨t,bs.map (src B),ht,by rw [List.length_map,lb],by rw [e];exact zdo et⟩ h
   ·exact absurd ⟨t,as.map (src B),ht,by rw [List.length_map,la],zdo et⟩ h
theorem Bk2.cube (K:Bk2 ws B) {x y z t:Tr}(hx:Wy ws B x) (hy:Wy ws B y) (hz:Wy ws B z) (ex:L2.src B x=t) (ey:L2.src B y=t) (ez:L2.src B z=t):res B (res B x y) (res B z y)=res B (res B x z) (res B y z):=by
 obtain⟨p,hp,rfl,rfl,rfl⟩:=zsR K.b K.O _ x y z (Nat.le_refl _) hx hy hz (ex.trans ey.symm) (ez.trans ey.symm);have o1:=zcX 1;have o2:=zcX 2;have o4:=zcX 4;have m:∀{c d:Int→Nat},Ok2 c d→res B (p.ev B c) (p.ev B d)=p.ev B (zgl c d):=fun h=>(zdJ K.b K.O.mt h hp).res;rw [m (zcv o1 o2),m (zcv o4 o2),m (zcv o1 o4),m (zcv o2 o4),m (znF _ _ _ (zfU 1) (zfU 4) (zfU 2)),m (znF _ _ _ (zfU 1) (zfU 2) (zfU 4))];refine zcQ hp fun i _ _=>?_;have l1:=zfU 1 i;have l2:=zfU 2 i;have l4:=zfU 4 i;unfold zgl;generalize byC 1 i=a at *;generalize byC 2 i=b at *;generalize byC 4 i=c at *;obtain rfl |rfl:a=0∨a=1:=by omega
 all_goals obtain rfl |rfl:b=0∨b=1:=by omega
 all_goals obtain rfl |rfl:c=0∨c=1:=by omega
 all_goals rfl
theorem Bk2.moved (K:Bk2 ws B) {x y:Tr}(hx:Wy ws B x) (hy:Wy ws B y) (e:L2.src B x=L2.src B y):Moved ws B x y (res B x y):=by
 obtain⟨p,hp,rfl,rfl,_,_⟩:=znQ K hx hy e;have o1:=zcX 1;have o2:=zcX 2;have m1:=(zdJ (c:=byC 1) (d:=byC 2) K.b K.O.mt (zcv o1 o2) hp).res;have m2:=(zdJ (c:=byC 2) (d:=byC 1) K.b K.O.mt (zcv o2 o1) hp).res;rw [m1];refine⟨K.wy hp,?_,?_,zqF K.b K.O o1 o2 hp⟩
 ·show(p.ev B (zgl (byC 1) (byC 2))).mk B (fun t=>t.2.1)=(p.ev B (byC 2)).mk B fun t=>t.2.2;rw [zhy K.b hp,zcl K.b hp];refine zcQ hp fun x h0 h1=>?_;have a:=zfU 1 x;have b:=zfU 2 x;unfold zjE zby zgl;generalize byC 1 x=m at a⊢;generalize byC 2 x=n at b⊢;obtain rfl |rfl:m=0∨m=1:=by omega
  all_goals obtain rfl |rfl:n=0∨n=1:=by omega
  all_goals rfl
 ·rw [m2];show(p.ev B (zgl (byC 1) (byC 2))).mk B (fun t=>t.2.2)=(p.ev B (zgl (byC 2) (byC 1))).mk B fun t=>t.2.2;rw [zcl K.b hp,zcl K.b hp];refine zcQ hp fun x h0 h1=>?_;have a:=zfU 1 x;have b:=zfU 2 x;unfold zby zgl;generalize byC 1 x=m at a⊢;generalize byC 2 x=n at b⊢;obtain rfl |rfl:m=0∨m=1:=by omega
  all_goals obtain rfl |rfl:n=0∨n=1:=by omega
  all_goals rfl
theorem zjz (K:Bk2 ws B):∀(os:List Tr) {x t:Tr},Wy ws B x→L2.src B x=t→Roa ws B t os→Roa ws B (gol B x) (zdr B x os)∧Wy ws B (zco B x os)∧L2.src B (zco B x os)=zbf B t os∧zbf B (gol B x) (zdr B x os)=gol B (zco B x os)
 | [],x,t,hx,ex,_=>⟨trivial,hx,ex,rfl⟩
 |o::os,x,t,hx,ex,⟨ho,eo,hr⟩=>by
  have m:=K.moved hx ho (ex.trans eo.symm);have m':=K.moved ho hx (eo.trans ex.symm);obtain⟨h1,h2,h3,h4⟩:=zjz K os m.wy m.sr hr;refine⟨?_,h2,h3,?_⟩
  ·rw [zdr];refine⟨m'.wy,m'.sr,?_⟩;rw [m'.go];exact h1
  ·rw [zdr,zbf,zco,m'.go];exact h4
theorem zax (K:Bk2 ws B):∀(xs os:List Tr) {t:Tr},Roa ws B t xs→Roa ws B t os→Roa ws B (zbf B t os) (zai B xs os)
 | [],os,t,_,_=>trivial
 |x::xs,os,t,⟨hx,ex,hr⟩,ho=>by
  obtain⟨h1,h2,h3,h4⟩:=zjz K os hx ex ho;rw [zai];refine⟨h2,h3,?_⟩;rw [←h4];exact zax K xs _ hr h1
theorem zgP (K:Bk2 ws B):∀(xs os:List Tr) {t:Tr},Roa ws B t xs→Roa ws B t os→zbf B (zbf B t os) (zai B xs os)=zbf B (zbf B t xs) (zai B os xs)
 | [],os,t,_,_=>by rw [zcE,zai];rfl
 |x::xs,os,t,⟨hx,ex,hr⟩,ho=>by
  obtain⟨h1,h2,h3,h4⟩:=zjz K os hx ex ho;rw [zai,zbf,←h4,zgP K xs _ hr h1,zbf,zex]
theorem ziM (x y:Tr):zai B [x] [y]=[res B x y]:=by
 rw [zai,zco,zco,zai]
theorem zxK (K:Bk2 ws B):∀(as:List Tr) {y z t:Tr},Roa ws B t as→Wy ws B y→Wy ws B z→L2.src B y=t→L2.src B z=t→zai B (zai B as [y]) (zai B [z] [y])=zai B (zai B as [z]) (zai B [y] [z])
 | [],y,z,t,_,_,_,_,_=>by rw [zai,zai,zai,zai]
 |x::as,y,z,t,⟨hx,ex,hr⟩,hy,hz,ey,ez=>by
  have hc:=K.cube hx hy hz ex ey ez;have hc1:=K.cube hz hy hx ez ey ex;have hc2:=K.cube hy hz hx ey ez ex;have my:=K.moved hy hx (ey.trans ex.symm);have mz:=K.moved hz hx (ez.trans ex.symm);have ih:=zxK K as hr my.wy mz.wy my.sr mz.sr;rw [ziM,ziM]at ih⊢;have d:∀u,zai B (x::as) [u]=res B x u::zai B as [res B u x]:=fun u=>by
   rw [zai,zco,zco,zdr,zdr]
  rw [d,d];have d':∀v w u,zai B (v::w) [u]=res B v u::zai B w [res B u v]:=fun v w u=>by
   rw [zai,zco,zco,zdr,zdr]
  rw [d',d',hc,hc1,ih,←hc2]
theorem zxz (K:Bk2 ws B):∀(bs as:List Tr) {z t:Tr},Roa ws B t as→Roa ws B t bs→Wy ws B z→L2.src B z=t→zai B (zai B as bs) (zai B [z] bs)=zai B (zai B as [z]) (zai B bs [z])
 | [],as,z,t,_,_,_,_=>by rw [zcE,zcE,zai,zcE]
 |y::bs,as,z,t,ha,⟨hy,ey,hb⟩,hz,ez=>by
  have h1:=zxK K as ha hy hz ey ez;have ra:=zax K as [y] ha ⟨hy,ey,trivial⟩;have mz:=K.moved hz hy (ez.trans ey.symm);have ih:=zxz K bs (zai B as [y]) ra hb mz.wy mz.sr;have e1:∀X:List Tr,zai B X (y::bs)=zai B (zai B X [y]) bs:=fun X=>by rw [←zcB];rfl
  have e2:zai B (y::bs) [z]=zai B [y] [z]++zai B bs (zai B [z] [y]):=by
   rw [show y::bs=[y]++bs from rfl,zdc,zaD]
  rw [e1,e1,e2,zcB,←h1,ziM z y,ih]
theorem cube (K:Bk2 ws B):∀(cs bs as:List Tr) {t:Tr},Roa ws B t as→Roa ws B t bs→Roa ws B t cs→zai B (zai B as bs) (zai B cs bs)=zai B (zai B as cs) (zai B bs cs)
 | [],bs,as,t,_,_,_=>by rw [zai,zcE,zcE,zcE]
 |z::cs,bs,as,t,ha,hb,⟨hz,ez,hc⟩=>by
  have h1:=zxz K bs as ha hb hz ez;have ra:=zax K as [z] ha ⟨hz,ez,trivial⟩;have rb:=zax K bs [z] hb ⟨hz,ez,trivial⟩;have ih:=cube K cs (zai B bs [z]) (zai B as [z]) ra rb hc;have e1:∀X:List Tr,zai B X (z::cs)=zai B (zai B X [z]) cs:=fun X=>by rw [←zcB];rfl
  have e2:zai B (z::cs) bs=zai B [z] bs++zai B cs (zai B bs [z]):=by
   rw [show z::cs=[z]++cs from rfl,zdc,zaD]
  rw [e1,e1,e2,zcB,h1,ih]
end
structure Rd3 (S:Sto) (ws:List Str) (B:List Tn) (ab:Addr) (t:Tr) (l1 l2 l3:Addr) (xs ys zs:List Tr):Prop where
  K:Bk2 ws B
  fb:S ab=some (.lst (B.map zbd))
  sh:Sh ws B t
  bd:Bd t 4
  f1:S l1=some (.lst (xs.map enc))
  f2:S l2=some (.lst (ys.map enc))
  f3:S l3=some (.lst (zs.map enc))
  r1:Roa ws B t xs
  r2:Roa ws B t ys
  r3:Roa ws B t zs
  n:nR B xs+nR B ys+nR B zs≤4
  x3:xs.length≤3
  y3:ys.length≤3
  z3:zs.length≤3
  hB:B.length≤1000
section
variable {ws:List Str}{B:List Tn}{ab l1 l2 l3:Addr}{t:Tr}{xs ys zs:List Tr}{S S':Sto}
theorem Rd3.sub (h:Rd3 S ws B ab t l1 l2 l3 xs ys zs) (s:Sub S S'):Rd3 S' ws B ab t l1 l2 l3 xs ys zs:=⟨h.K,s _ _ h.fb,h.sh,h.bd,s _ _ h.f1,s _ _ h.f2,s _ _ h.f3,h.r1,h.r2,h.r3,h.n,h.x3,h.y3,h.z3,h.hB⟩
theorem Rd3.rot (h:Rd3 S ws B ab t l1 l2 l3 xs ys zs):Rd3 S ws B ab t l2 l3 l1 ys zs xs:=⟨h.K,h.fb,h.sh,h.bd,h.f2,h.f3,h.f1,h.r2,h.r3,h.r1,by have:=h.n;omega,h.y3,h.z3,h.x3,h.hB⟩
theorem Rd3.swap (h:Rd3 S ws B ab t l1 l2 l3 xs ys zs):Rd3 S ws B ab t l1 l3 l2 xs zs ys:=⟨h.K,h.fb,h.sh,h.bd,h.f1,h.f3,h.f2,h.r1,h.r3,h.r2,by have:=h.n;omega,h.x3,h.z3,h.y3,h.hB⟩
theorem Rd3.two (h:Rd3 S ws B ab t l1 l2 l3 xs ys zs):Rds S ws B ab t l1 l2 xs ys:=⟨h.K,h.fb,h.sh,h.bd,h.f1,h.f2,h.r1,h.r2,by have:=h.n;omega,h.x3,h.y3,h.hB⟩
theorem Rd3.room (h:Rd3 S ws B ab t l1 l2 l3 xs ys zs):Bd (zbf B t ys) (nR B (zai B xs ys)+nR B (zai B zs ys)):=by
 have g1:=h.two.grid.nd;have g2:=h.rot.two.symm.grid.nd;have:=h.n;exact Roa.end_bd h.K ys h.r2 (h.bd.mono (by omega))
end
section
variable {w0 w1 w2 w3 w4 w5:Str}{tt:List Str}{B:List Tn}{S:Sto}{aw at' ab:Addr}{ns:List Int}{t:Tr}{E:WX}{D:WEnds}{T:WS}{τ:WSt}{x1 x2 x3 x4 x5 x6 x7:Option W}
theorem zvD (ns:List Int) (i k:Nat):(zdN ns (some (i:Int)) (some ((i+k:Nat):Int))).length≤k:=by
 rw [zuV i (i+k),List.length_take];omega
theorem rq5 (P:Pre S aw at' ab w0 w1 w2 w3 w4 w5 tt B) (sh:Sh [w0,w1,w2,w3,w4,w5] B t) (bd:Bd t 4) (h:∀S' l xs,Pre S' aw at' ab w0 w1 w2 w3 w4 w5 tt B→S' l=some (.lst (xs.map enc))→Roa [w0,w1,w2,w3,w4,w5] B t xs→(nR B xs:Int)≤2→xs.length≤2→T E D (some (.scr ns)::x1::x2::some (.ref ab)::some (enc t)::some (.tup [enc t, .ref l])::τ) S') :
  zas (wAsg (zam (zaJ 199) (zab (zad 3) (zab (zad 4) (zab (wSl (zad 0) (woS (wC (.int 10))) (woS (wC (.int 12)))) (zab (wC (.int 2)) waNil))))) (wGN 5)) T E D (some (.scr ns)::x1::x2::some (.ref ab)::some (enc t)::x5::τ) S:=by
 walk_at "wp";intro p hp;refine zlI (r:=198) (N:=4) P.bk2 P.lft P.pb (keep P.fb hp) zah sh bd (by omega) (by omega) (Nat.le_trans (zvD ns 10 2) (by decide)) (by omega) fun S' l xs sb _ hl hx hn h3'=>?_;exact h S' l xs (P.sub ((Sub.put .refl hp).trans sb)) hl hx hn (Nat.le_trans h3' (zvD ns 10 2))
theorem rq6{l:Addr}{xs:List Tr}(P:Pre S aw at' ab w0 w1 w2 w3 w4 w5 tt B) (sh:Sh [w0,w1,w2,w3,w4,w5] B t) (bd:Bd t 4) (fl:S l=some (.lst (xs.map enc))) (h:∀S' l2 ys,Pre S' aw at' ab w0 w1 w2 w3 w4 w5 tt B→S' l=some (.lst (xs.map enc))→S' l2=some (.lst (ys.map enc))→Roa [w0,w1,w2,w3,w4,w5] B t ys→(nR B ys:Int)≤1→ys.length≤1→T E D (some (.scr ns)::x1::x2::some (.ref ab)::some (enc t)::x5::some (.tup [enc t, .ref l2])::τ) S') :
  zas (wAsg (zam (zaJ 199) (zab (zad 3) (zab (zad 4) (zab (wSl (zad 0) (woS (wC (.int 12))) (woS (wC (.int 13)))) (zab (wC (.int 1)) waNil))))) (wGN 6)) T E D (some (.scr ns)::x1::x2::some (.ref ab)::some (enc t)::x5::x6::τ) S:=by
 walk_at "wp";intro p hp;refine zlI (r:=198) (N:=4) P.bk2 P.lft P.pb (keep P.fb hp) zah sh bd (by omega) (by omega) (Nat.le_trans (zvD ns 12 1) (by decide)) (by omega) fun S' l2 ys sb _ hl hx hn h3'=>?_;have sb2:=(Sub.put .refl hp).trans sb;exact h S' l2 ys (P.sub sb2) (sb2 _ _ fl) hl hx hn (Nat.le_trans h3' (zvD ns 12 1))
theorem rq7{l l2:Addr}{xs ys:List Tr}(P:Pre S aw at' ab w0 w1 w2 w3 w4 w5 tt B) (sh:Sh [w0,w1,w2,w3,w4,w5] B t) (bd:Bd t 4) (fl:S l=some (.lst (xs.map enc))) (fl2:S l2=some (.lst (ys.map enc))) (h:∀S' l3 zs,Pre S' aw at' ab w0 w1 w2 w3 w4 w5 tt B→S' l=some (.lst (xs.map enc))→S' l2=some (.lst (ys.map enc))→S' l3=some (.lst (zs.map enc))→Roa [w0,w1,w2,w3,w4,w5] B t zs→(nR B zs:Int)≤1→zs.length≤1→T E D (some (.scr ns)::x1::x2::some (.ref ab)::some (enc t)::x5::x6::some (.tup [enc t, .ref l3])::τ) S') :
  zas (wAsg (zam (zaJ 199) (zab (zad 3) (zab (zad 4) (zab (wSl (zad 0) (woS (wC (.int 13))) (woS (wC (.int 14)))) (zab (wC (.int 1)) waNil))))) (wGN 7)) T E D (some (.scr ns)::x1::x2::some (.ref ab)::some (enc t)::x5::x6::x7::τ) S:=by
 walk_at "wp";intro p hp;refine zlI (r:=198) (N:=4) P.bk2 P.lft P.pb (keep P.fb hp) zah sh bd (by omega) (by omega) (Nat.le_trans (zvD ns 13 1) (by decide)) (by omega) fun S' l3 zs sb _ hl hx hn h3'=>?_;have sb2:=(Sub.put .refl hp).trans sb;exact h S' l3 zs (P.sub sb2) (sb2 _ _ fl) (sb2 _ _ fl2) hl hx hn (Nat.le_trans h3' (zvD ns 13 1))
theorem zra{S:Sto}(h:∀(S':Sto) (ws:List Str) (B:List Tn) (ab:Addr) (t:Tr) (l1 l2 l3:Addr) (xs ys zs:List Tr) (z1 z2:Option W),Rd3 S' ws B ab t l1 l2 l3 xs ys zs→T E D (some (.scr ns)::z1::z2::some (.ref ab)::some (enc t)::some (.tup [enc t, .ref l1])::some (.tup [enc t, .ref l2])::some (.tup [enc t, .ref l3])::τ) S') :
  zas (wAsg (zam (zaS 199) (zab (zam (zav 199) (zab (zad 0) (zab (wC (.int 0)) waNil))) (zab (zam (zav 199) (zab (zad 0) (zab (wC (.int 1)) waNil))) (zab (wC (.bl false)) waNil)))) (wGN 1))
  (zas (wAsg (zam (zaS 199) (zab (zam (zav 199) (zab (zad 0) (zab (wC (.int 2)) waNil))) (zab (zam (zav 199) (zab (zad 0) (zab (wC (.int 3)) waNil))) (zab (wC (.bl true)) waNil)))) (wGN 2))
  (zas (wAsg (zam (zbW 199) (zab (zad 0) (zab (wC (.int 4)) (zab (zad 1) (zab (zad 2) waNil))))) (wGN 3))
  (zas (wAsg (zam (zbG 199) (zab (zam (zbF 199) (zab (wSl (zad 0) (woS (wC (.int 17))) woN) (zab (zad 3) (zab (zad 1) (zab (wC (.int 6)) waNil))))) (zab (zad 3) (zab (wC (.int 8)) waNil)))) (wGN 4))
  (zas (wAsg (zam (zaJ 199) (zab (zad 3) (zab (zad 4) (zab (wSl (zad 0) (woS (wC (.int 10))) (woS (wC (.int 12)))) (zab (wC (.int 2)) waNil))))) (wGN 5))
  (zas (wAsg (zam (zaJ 199) (zab (zad 3) (zab (zad 4) (zab (wSl (zad 0) (woS (wC (.int 12))) (woS (wC (.int 13)))) (zab (wC (.int 1)) waNil))))) (wGN 6))
  (zas (wAsg (zam (zaJ 199) (zab (zad 3) (zab (zad 4) (zab (wSl (zad 0) (woS (wC (.int 13))) (woS (wC (.int 14)))) (zab (wC (.int 1)) waNil))))) (wGN 7)) T)))))) E D (some (.scr ns)::x1::x2::x3::x4::x5::x6::x7::τ) S:=
 zvt fun S1 aw at' ab w0 w1 w2 w3 w4 w5 tt B P=>rp4 P fun t S2 P sh bd=>rq5 P sh bd fun S3 l1 xs P f1 r1 n1 m1=>rq6 P sh bd f1 fun S4 l2 ys P f1 f2 r2 n2 m2=>rq7 P sh bd f1 f2 fun S5 l3 zs P f1 f2 f3 r3 n3 m3=>h S5 _ B ab t l1 l2 l3 xs ys zs _ _ ⟨P.bk2,P.fb,sh,bd,f1,f2,f3,r1,r2,r3,by omega,by omega,by omega,by omega,by have:=P.b.len;omega⟩
end
section
variable {ws:List Str}{B:List Tn}{t g:Tr}
theorem zeA:∀(xs ys os:List Tr),Cells ws B xs os→Cells ws B ys (zcK B xs os)→Cells ws B (xs++ys) os
 | [],ys,os,_,h=>h
 |x::xs,ys,os, .cons h1 h2,h=> .cons h1 (zeA xs ys _ h2 h)
theorem Sh.ne (K:Bk2 ws B) (h:Sh ws B g):g.ne B=0:=by
 have:=(K.src h.wy).2.2.1;rwa [h.q]at this
theorem Sh.go (K:Bk2 ws B) (h:Sh ws B g):gol B g=g:=by
 have:=(K.src h.wy).2.2.2;rwa [h.q]at this
theorem zfH (K:Bk2 ws B) {xs:List Tr}(h:Roa ws B t xs) (ht:Sh ws B t):Sh ws B (zbf B t xs):=by
 have:=Roa.end_wy K xs h ht.wy ht.q;exact⟨this.1,this.2⟩
theorem zil (K:Bk2 ws B) (h:Sh ws B g):∀n,nR B (List.replicate n g)=0
 |0=>rfl
 |n+1=>by rw [List.replicate_succ,nR,zil K h n,h.ne K]
theorem zhi (K:Bk2 ws B) (h:Sh ws B g):∀n,zbf B g (List.replicate n g)=g
 |0=>rfl
 |n+1=>by rw [List.replicate_succ,zbf,h.go K,zhi K h n]
theorem zeI (K:Bk2 ws B) (h:Sh ws B g):∀n,Roa ws B g (List.replicate n g)
 |0=>trivial
 |n+1=>⟨h.wy,h.q,by rw [h.go K];exact zeI K h n⟩
theorem zuk (K:Bk2 ws B) (h:Sh ws B g) (n:Nat) {xs:List Tr}(hx:Roa ws B g xs):Roa ws B g (List.replicate n g++xs):=Roa.app _ (zeI K h n) (by rw [zhi K h];exact hx)
theorem zgZ (K:Bk2 ws B):∀(n:Nat) {xs:List Tr},Roa ws B g xs→zai B xs (List.replicate n g)=xs
 |0,xs,_=>by rw [List.replicate_zero,zcE]
 |n+1,xs,h=>by rw [List.replicate_succ,zex,(zdT K xs h).1,zgZ K n h]
theorem zeJ (K:Bk2 ws B):∀(n:Nat) {zs:List Tr},Roa ws B g zs→zai B (List.replicate n g) zs=List.replicate n (zbf B g zs)
 |0,zs,_=>by rw [List.replicate_zero,zai,List.replicate_zero]
 |n+1,zs,h=>by
  obtain⟨q1,q2⟩:=zdT K zs h;rw [List.replicate_succ,zai,q1,q2,zeJ K n h,List.replicate_succ]
theorem ziX (K:Bk2 ws B) (xs zs:List Tr) (h:Roa ws B t (xs++zs)):zai B xs (xs++zs)=List.replicate xs.length (zbf B t (xs++zs)):=by
 have:=List.eq_replicate_of_mem (zpB K xs zs h);rwa [zbU]at this
theorem zdf (K:Bk2 ws B) (xs:List Tr) (h:Roa ws B t xs):zai B xs xs=List.replicate xs.length (zbf B t xs):=by
 have:=ziX K xs [] (t:=t) (by rw [List.append_nil];exact h);rwa [List.append_nil]at this
theorem zgm (K:Bk2 ws B) (xs:List Tr) (h:Roa ws B t xs) (hb:Bd t (nR B xs)):Cells ws B xs xs:=by
 have:=zfz K xs [] (t:=t) (by rw [List.append_nil];exact h) (by rw [List.append_nil];exact hb);rwa [List.append_nil]at this
theorem zkQ (K:Bk2 ws B):∀(n:Nat) {xs os:List Tr},Roa ws B g xs→Bd g (nR B xs)→Cells ws B xs os→Cells ws B xs (List.replicate n g++os)
 |0,xs,os,_,_,h=>h
 |n+1,xs,os,hx,hb,h=>zfg K xs _ hx hb (zkQ K n hx hb h)
theorem zhh (K:Bk2 ws B) (hg:Sh ws B g) (n:Nat):(List.replicate n g).all Tr.quiet=true:=zoY K hg fun _ h=>List.eq_of_mem_replicate h
theorem znT:∀(os:List Tr) {x:Tr},RowC ws B x os→(∃y,Two ws B x y)→ ∃y,Two ws B (zco B x os) y
 | [],x,_,h=>h
 |o::os,x, .cons _ h2 h3,_=>znT os h3 h2
theorem zfX:∀(xs os:List Tr),Cells ws B xs os→(∀x∈xs,∃y,Two ws B x y)→ ∀u∈zai B xs os,∃y,Two ws B u y
 | [],os,_,_,u,hu=>by rw [zai]at hu;cases hu
 |x::xs,os, .cons h1 h2,tx,u,hu=>by
  rw [zai]at hu;rcases List.mem_cons.mp hu with rfl |hu
  ·exact znT os h1 (tx x (by simp))
  ·exact zfX xs _ h2 (fun z hz=>tx z (List.mem_cons_of_mem _ hz)) u hu
end
section
variable {ws:List Str}{B:List Tn}{a l1 l2:Addr}{r:Nat}{t:Tr}{xs os:List Tr}{S:Sto}{Q:WK}{X:Str→Sto→Prop}
theorem zox (ha:S a=some (.lst (B.map zbd))) (h1:S l1=some (.lst (xs.map enc))) (h2:S l2=some (.lst (os.map enc))) (hc:Cells ws B xs os) (tx:∀x∈xs,∃y,Two ws B x y) (to:∀x∈os,∃y,Two ws B x y) (hw:t.weight≤400) (hd:t.depth≤40) (nx:xs.length≤700) (no:os.length≤700) (hr:66≤r)
  (h:∀S',Sub S S'→Q (.bl ((zai B xs os).all Tr.quiet)) S'):zbn (r+1) [.ref a, .tup [enc t, .ref l1], .tup [enc t, .ref l2]] S Q X:=
 zrk ha h1 h2 hc tx to (zfX _ _ hc tx) hw hd nx no hr h
theorem zrl (ha:S a=some (.lst (B.map zbd))) (h1:S l1=some (.lst (xs.map enc))) (h2:S l2=some (.lst (os.map enc))) (hc:Cells ws B xs os) (hc':Cells ws B os xs) (tx:∀x∈xs,∃y,Two ws B x y) (to:∀x∈os,∃y,Two ws B x y) (hw:t.weight≤400) (hd:t.depth≤40) (nx:xs.length≤700) (no:os.length≤700) (hr:66≤r)
  (h:∀S',Sub S S'→Q (.bl ((zai B xs os).all Tr.quiet&&(zai B os xs).all Tr.quiet)) S'):zen (r+1) [.ref a, .tup [enc t, .ref l1], .tup [enc t, .ref l2]] S Q X:=
 zja ha h1 h2 hc tx to (zfX _ _ hc tx) (by rw [zaD];exact zfX _ _ hc' to) hw hd nx no hr (by rw [zaD];exact h)
end
section
variable {ws:List Str}{B:List Tn}{ab l1 l2:Addr}{t:Tr}{xs os:List Tr}{S:Sto}
noncomputable abbrev endJ (B:List Tn) (t:Tr) (xs os:List Tr):Tr:=zbf B (zbf B t os) (zai B xs os)
theorem Rds.shJ (R:Rds S ws B ab t l1 l2 xs os):Sh ws B (endJ B t xs os):=R.send
theorem Rds.w_over (R:Rds S ws B ab t l1 l2 xs os):zai B (os++zai B xs os) xs=zai B os xs++List.replicate xs.length (endJ B t xs os):=by
 rw [zdc,zaD,zdf R.K _ R.grid.down,zbU]
theorem Rds.w_road (R:Rds S ws B ab t l1 l2 xs os):Roa ws B (zbf B t xs) (zai B os xs++List.replicate xs.length (endJ B t xs os)):=
 Roa.app _ R.symm.grid.down (by rw [R.same];exact zeI R.K R.shJ _)
theorem Rds.w_end (R:Rds S ws B ab t l1 l2 xs os):zbf B (zbf B t xs) (zai B os xs++List.replicate xs.length (endJ B t xs os))=endJ B t xs os:=by
 rw [zhd,R.same,zhi R.K R.shJ]
theorem Rds.w_bd (R:Rds S ws B ab t l1 l2 xs os):Bd (zbf B t xs) (nR B (zai B os xs++List.replicate xs.length (endJ B t xs os))):=by
 rw [zhJ,zil R.K R.shJ];exact R.symm.bdown
theorem Rds.cellsJ (R:Rds S ws B ab t l1 l2 xs os):Cells ws B (xs++zai B os xs) (os++zai B xs os):=by
 refine zeA _ _ _ (zfY xs os _ R.cells (zgm R.K _ R.grid.down R.bdown)) ?_;rw [zaD,R.w_over];exact zfz R.K _ _ R.w_road R.w_bd
theorem Rds.downJ (R:Rds S ws B ab t l1 l2 xs os):(zai B (xs++zai B os xs) (os++zai B xs os)).all Tr.quiet=true:=by
 rw [zdc,zaD,R.w_over,zcB,zdf R.K _ R.grid.down,ziX R.K _ _ R.w_road,R.w_end,List.all_append,zhh R.K R.shJ,zhh R.K R.shJ];rfl
theorem Rds.joinB (R:Rds S ws B ab t l1 l2 xs os):zai B (xs++zai B os xs) xs=List.replicate xs.length (zbf B t xs)++zai B os xs:=by
 rw [zdc,zaD,zdf R.K xs R.r1,zgZ R.K _ R.symm.grid.down]
theorem Rds.cellsB (R:Rds S ws B ab t l1 l2 xs os):Cells ws B (xs++zai B os xs) xs:=by
 refine zeA _ _ _ (zgm R.K xs R.r1 (R.bd.mono (by have:=R.n;omega))) ?_;rw [zaD,zdf R.K xs R.r1];have:=zkQ (g:=zbf B t xs) R.K xs.length (os:=[]) R.symm.grid.down R.symm.bdown (by
  have:=zea R.K (zai B os xs) [] (t:=zbf B t xs) R.symm.grid.down trivial (by rw [nR];exact R.symm.bdown);exact this)
 rwa [List.append_nil]at this
end
section
variable {ws:List Str}{B:List Tn}{t g x:Tr}{a b c w xs ys zs:List Tr}
noncomputable def Le (B:List Tn) (t:Tr) (a c:List Tr):Prop:=zai B a c=List.replicate a.length (zbf B t c)
noncomputable abbrev jn (B:List Tn) (a b:List Tr):List Tr:=a++zai B b a
theorem zqE (K:Bk2 ws B) (h:Roa ws B t (a++w)):Le B t a (a++w):=ziX K a w h
theorem zmY (K:Bk2 ws B) (h:Le B t a c) (hw:Roa ws B (zbf B t c) w):Le B t a (c++w):=by
 unfold Le at *;rw [zcB,h,zeJ K _ hw,zhd]
theorem zfp (K:Bk2 ws B) (ha:Roa ws B t a) (hc:Roa ws B t c):Le B t a (jn B c a):=by
 unfold Le;rw [zcB,zdf K _ (zax K _ _ ha hc),zbU,zhd]
theorem ztb (K:Bk2 ws B) (ha:Roa ws B t a) (hb:Roa ws B t b) (hc:Roa ws B t c) (h:Le B t b c):Le B (zbf B t a) (zai B b a) (zai B c a):=by
 unfold Le at *;rw [cube K c a b hb ha hc,h,zeJ K _ (zax K _ _ ha hc),zbU,zgP K _ _ ha hc]
theorem zdI (K:Bk2 ws B) (ha:Roa ws B t a) (hb:Roa ws B t b):Roa ws B t (jn B a b):=Roa.app a ha (zax K _ _ hb ha)
theorem zhN (K:Bk2 ws B) (ht:Sh ws B t) (ha:Roa ws B t a) (hb:Roa ws B t b) (hc:Roa ws B t c) (h1:Le B t a c) (h2:Le B t b c):Le B t (jn B a b) c:=by
 have h3:=ztb K ha hb hc h2;have e:zbf B (zbf B t a) (zai B c a)=zbf B t c:=by
  rw [←zgP K _ _ ha hc,h1,zhi K (zfH K hc ht)]
 unfold Le at *;rw [zdc,zaD,h1,h3,e,List.length_append,List.replicate_append_replicate]
theorem zjb (K:Bk2 ws B) (ht:Sh ws B t) (hc:Roa ws B t c) (h:Le B t a c):(zai B a c).all Tr.quiet=true:=by
 rw [h];exact zhh K (zfH K hc ht) _
theorem zis:∀{ts:List Tr}{u:Tr},zeS ts=true→u∈ts→u.quiet=true
 |t::ts,u,h,hu=>by
  rw [zeS,Bool.and_eq_true]at h;rcases List.mem_cons.mp hu with rfl |hu
  ·exact h.1
  ·exact zis h.2 hu
theorem zmR (K:Bk2 ws B):∀(n:Nat) (x:Tr),x.weight≤n→Wy ws B x→x.quiet=true→Sh ws B x
 |0,x,hn,hx,q=>by
  rcases hx.cases K.b with⟨s,as,rfl,_⟩ |⟨t,as,_,rfl,_⟩<;>rw [zdq]at hn<;>omega
 |n+1,x,hn,hx,q=>by
  rcases hx.cases K.b with⟨s,as,rfl,hs,es,ka⟩ |⟨t,as,ht,rfl,et,la,ka⟩
  ·rw [Tr.quiet,Bool.and_eq_true]at q;rw [zdq]at hn;refine⟨hx,?_⟩;rw [show src B (.nd s as)=_ from zdl es];congr 1;refine(List.map_congr_left fun u hu=>?_).trans (List.map_id _);exact(zmR K n u (by have:=zdi hu;omega) (ka u hu) (zis q.2 hu)).q
  ·rw [Tr.quiet,Bool.and_eq_true]at q;have:=zbi K.b.ti ((zfw _).mp q.1);rw [et]at this;cases this
theorem zkd (K:Bk2 ws B):∀(us:List Tr) {g:Tr},Roa ws B g us→us.all Tr.quiet=true→us=List.replicate us.length g
 | [],g,_,_=>rfl
 |u::us,g,⟨hu,eu,hr⟩,h=>by
  rw [List.all_cons,Bool.and_eq_true]at h;have s:=zmR K _ u (Nat.le_refl _) hu h.1;have e:u=g:=by rw [←eu,s.q]
  subst e;rw [s.go K]at hr;rw [List.length_cons,List.replicate_succ,←zkd K us hr h.2]
theorem ziY (K:Bk2 ws B) (ha:Roa ws B t a) (hc:Roa ws B t c) (h:(zai B a c).all Tr.quiet=true):Le B t a c:=by
 have:=zkd K _ (zax K _ _ ha hc) h;rwa [zbU]at this
theorem zkT (K:Bk2 ws B) (ha:Roa ws B t a) (hb:Roa ws B t b) (hc:Roa ws B t c):zai B (jn B a b) c=jn B (zai B a c) (zai B b c):=by
 rw [zdc,zaD,cube K c a b hb ha hc]
theorem zwH (K:Bk2 ws B) (ha:Roa ws B t a) (hb:Roa ws B t b) (hc:Roa ws B t c):(zai B (jn B a b) c).all Tr.quiet=((zai B a c).all Tr.quiet&&(zai B b c).all Tr.quiet):=by
 rw [zkT K ha hb hc,List.all_append];cases e:(zai B a c).all Tr.quiet with
 |false=>rfl
 |true=>
  have h:=ziY K ha hc e;unfold Le at h;rw [h,zgZ K _ (zax K _ _ hb hc)]
theorem zqo (K:Bk2 ws B) (ht:Sh ws B t) (ha:Roa ws B t a) (hb:Roa ws B t b) (hc:Roa ws B t c) (h1:Le B t a b) (h2:Le B t b c):(zai B a c).all Tr.quiet=true:=by
 have e:=cube K c b a ha hb hc;have h2':zai B b c=_:=h2;have h1':zai B a b=_:=h1;rw [h2',zgZ K _ (zax K _ _ ha hc),h1',zeJ K _ (zax K _ _ hc hb)]at e;rw [←e];exact zhh K (zfH K (zax K _ _ hc hb) (zfH K hb ht)) _
theorem zyQ (K:Bk2 ws B) (ha:Roa ws B t a) (hb:Roa ws B t b) (bd:Bd t (nR B a+nR B b)):nR B (jn B a b)≤nR B a+nR B b:=by
 have:=(zjc K b a hb ha (bd.mono (by omega))).nd;rw [zhJ];omega
theorem zlv (K:Bk2 ws B) (ha:Roa ws B t a) (hb:Roa ws B t b) (bd:Bd t (nR B a+nR B b)):Bd (zbf B t a) (nR B (zai B b a)):=by
 have:=(zjc K b a hb ha (bd.mono (by omega))).nd;exact Roa.end_bd K a ha (bd.mono (by omega))
theorem zkk (K:Bk2 ws B) (ha:Roa ws B t a) (hb:Roa ws B t b) (bd:Bd t (nR B a+nR B b)):Cells ws B b (jn B a b):=
 zfY b a _ (zea K b a hb ha (bd.mono (by omega))) (zgm K _ (zax K _ _ hb ha) (zlv K ha hb bd))
theorem zka (K:Bk2 ws B) (ha:Roa ws B t a) (hb:Roa ws B t b) (bd:Bd t (nR B a+nR B b)):Cells ws B a (jn B a b):=
 zfz K a _ (zdI K ha hb) (bd.mono (zyQ K ha hb bd))
theorem zov (K:Bk2 ws B) {n m:Nat}(hg:Sh ws B g) (h0:Bd g 0):Cells ws B (List.replicate n g) (List.replicate m g):=
 zea K _ _ (zeI K hg n) (zeI K hg m) (by rw [zil K hg,zil K hg];exact h0)
theorem zmp (K:Bk2 ws B) (ht:Sh ws B t) (hx:Roa ws B t xs) (hy:Roa ws B t ys) (hu:Roa ws B t a) (bd:Bd t (nR B a+nR B xs)) (hl:Le B t ys a) (hc:Cells ws B (zai B ys xs) (zai B a xs)):Cells ws B (jn B xs ys) (jn B a xs):=by
 refine zeA _ _ _ (zkk K hu hx bd) ?_;have ru:=zax K _ _ hu hx;have se:=zfH K ru (zfH K hx ht);have e1:zai B (jn B a xs) xs=zai B a xs++List.replicate xs.length (zbf B (zbf B t xs) (zai B a xs)):=by
  rw [zdc,zaD,zdf K _ (zax K _ _ hx hu),zbU,zgP K _ _ hx hu]
 have e2:=ztb K hx hy hu hl;unfold Le at e2;rw [zaD,e1];refine zfY _ _ _ hc ?_;rw [e2];exact zov K se (Roa.end_bd (n:=0) K _ ru (zlv K hx hu (bd.mono (by omega))))
theorem zmc (K:Bk2 ws B) (hx:Roa ws B t xs) (hy:Roa ws B t ys) (hz:Roa ws B t zs) (bd:Bd (zbf B t xs) (nR B (zai B zs xs)+nR B (zai B ys xs))):Cells ws B (zai B ys xs) (zai B (jn B zs ys) xs):=by
 rw [zkT K hz hy hx];exact zkk K (zax K _ _ hz hx) (zax K _ _ hy hx) bd
theorem zma (K:Bk2 ws B) (hx:Roa ws B t xs) (hy:Roa ws B t ys) (hz:Roa ws B t zs) (bd:Bd (zbf B t xs) (nR B (zai B ys xs)+nR B (zai B zs xs))):Cells ws B (zai B ys xs) (zai B (jn B ys zs) xs):=by
 rw [zkT K hy hz hx];exact zka K (zax K _ _ hy hx) (zax K _ _ hz hx) bd
theorem znV (K:Bk2 ws B) (ht:Sh ws B t) (ha:Roa ws B t a) (hb:Roa ws B t b) (hc:Roa ws B t c) (hw:Roa ws B t w) (h1:Le B t b w) (h2:Le B t c w) (bd:Bd (zbf B t w) (nR B (zai B a w))):Cells ws B (zai B a w) (zai B (jn B (jn B a b) c) w):=by
 have ra:=zax K _ _ ha hw;have se:=zfH K ra (zfH K hw ht);have hj:=zdI K ha hb;unfold Le at h1 h2;have e1:zai B (jn B a b) w=zai B a w++List.replicate b.length (zbf B (zbf B t w) (zai B a w)):=by
  rw [zkT K ha hb hw,h1];show zai B a w++zai B (List.replicate b.length (zbf B t w)) (zai B a w)=_;rw [zeJ K _ ra]
 have rj:Roa ws B (zbf B t w) (zai B (jn B a b) w):=zax K _ _ hj hw;have e2:zai B (jn B (jn B a b) c) w=zai B a w++(List.replicate b.length (zbf B (zbf B t w) (zai B a w))++List.replicate c.length (zbf B (zbf B t w) (zai B a w))):=by
  rw [zkT K hj hc hw,h2];show zai B (jn B a b) w++zai B (List.replicate c.length (zbf B t w)) (zai B (jn B a b) w)=_;rw [zeJ K _ rj,e1,zhd,zhi K se,List.append_assoc]
 rw [e2];refine zfz K _ _ (Roa.app _ ra (zuk K se _ (zeI K se _))) ?_;rw [zhJ,zhJ,zil K se,zil K se];exact bd
end
section
variable {ws:List Str}{B:List Tn}{ab l1 l2 l3:Addr}{t:Tr}{a b xs ys zs:List Tr}{S:Sto}{r:Nat}{Q:WK}{X:Str→Sto→Prop}
structure Rd1 (S:Sto) (ws:List Str) (B:List Tn) (t:Tr) (l:Addr) (a:List Tr):Prop where
  f:S l=some (.lst (a.map enc))
  r:Roa ws B t a
  b:Bd t (nR B a)
  n:a.length≤100
theorem Rd1.sub{S':Sto}(h:Rd1 S ws B t l1 a) (s:Sub S S'):Rd1 S' ws B t l1 a:=⟨s _ _ h.f,h.r,h.b,h.n⟩
theorem Rd1.two (h:Rd1 S ws B t l1 a) (K:Bk2 ws B):∀x∈a,∃y,Two ws B x y:=Roa.two K a h.r h.b
theorem zee (K:Bk2 ws B) (fb:S ab=some (.lst (B.map zbd))) (h1:Rd1 S ws B t l1 a) (h2:Rd1 S ws B t l2 b) (bd:Bd t (nR B a+nR B b)) (hn:a.length+b.length≤100) (hr:66≤r) (h:∀S' q,Sub S S'→Rd1 S' ws B t q (jn B a b)→Q (.tup [enc t, .ref q]) S'):zaC (r+1) [.ref ab, .tup [enc t, .ref l1], .tup [enc t, .ref l2]] S Q X:=by
 have n1:=h1.n;have n2:=h2.n;refine ziL fb h1.f h2.f (zea K a b h1.r h2.r bd) (h1.two K) (h2.two K) bd.small.1 bd.small.2 (by omega) (by omega) hr fun S' q s _ f=>?_;rw [zaD]at f;exact h S' q s ⟨f,zdI K h1.r h2.r,bd.mono (zyQ K h1.r h2.r bd),by rw [List.length_append,zbU];omega⟩
theorem zbI (K:Bk2 ws B) (fb:S ab=some (.lst (B.map zbd))) (h1:Rd1 S ws B t l1 a) (h2:Rd1 S ws B t l2 b) (hc:Cells ws B a b) (hr:66≤r) (h:∀S',Sub S S'→Q (.bl ((zai B a b).all Tr.quiet)) S'):zbn (r+1) [.ref ab, .tup [enc t, .ref l1], .tup [enc t, .ref l2]] S Q X:=by
 have n1:=h1.n;have n2:=h2.n;exact zox fb h1.f h2.f hc (h1.two K) (h2.two K) h1.b.small.1 h1.b.small.2 (by omega) (by omega) hr h
theorem zjT (K:Bk2 ws B) (fb:S ab=some (.lst (B.map zbd))) (h1:Rd1 S ws B t l1 a) (h2:Rd1 S ws B t l2 b) (hc:Cells ws B a b) (hc':Cells ws B b a) (hr:66≤r) (h:∀S',Sub S S'→Q (.bl ((zai B a b).all Tr.quiet&&(zai B b a).all Tr.quiet)) S'):zen (r+1) [.ref ab, .tup [enc t, .ref l1], .tup [enc t, .ref l2]] S Q X:=by
 have n1:=h1.n;have n2:=h2.n;exact zrl fb h1.f h2.f hc hc' (h1.two K) (h2.two K) h1.b.small.1 h1.b.small.2 (by omega) (by omega) hr h
theorem Rd3.d1 (R:Rd3 S ws B ab t l1 l2 l3 xs ys zs):Rd1 S ws B t l1 xs:=⟨R.f1,R.r1,R.bd.mono (by have:=R.n;omega),by have:=R.x3;omega⟩
theorem Rd3.d2 (R:Rd3 S ws B ab t l1 l2 l3 xs ys zs):Rd1 S ws B t l2 ys:=R.rot.d1
theorem Rd3.d3 (R:Rd3 S ws B ab t l1 l2 l3 xs ys zs):Rd1 S ws B t l3 zs:=R.rot.rot.d1
theorem Rd3.b12 (R:Rd3 S ws B ab t l1 l2 l3 xs ys zs):Bd t (nR B xs+nR B ys):=R.bd.mono (by have:=R.n;omega)
theorem Rd3.n12 (R:Rd3 S ws B ab t l1 l2 l3 xs ys zs):nR B (jn B xs ys)≤nR B xs+nR B ys:=zyQ R.K R.r1 R.r2 R.b12
theorem Rd3.j12 (R:Rd3 S ws B ab t l1 l2 l3 xs ys zs):Roa ws B t (jn B xs ys):=zdI R.K R.r1 R.r2
theorem Rd3.b123 (R:Rd3 S ws B ab t l1 l2 l3 xs ys zs):Bd t (nR B (jn B xs ys)+nR B zs):=R.bd.mono (by
 have:=R.n;have:=R.n12;omega)
theorem Rd3.j123 (R:Rd3 S ws B ab t l1 l2 l3 xs ys zs):Roa ws B t (jn B (jn B xs ys) zs):=zdI R.K R.j12 R.r3
theorem Rd3.le1 (R:Rd3 S ws B ab t l1 l2 l3 xs ys zs):Le B t xs (jn B (jn B xs ys) zs):=zmY R.K (zqE R.K R.j12) (zax R.K _ _ R.r3 R.j12)
theorem Rd3.le2 (R:Rd3 S ws B ab t l1 l2 l3 xs ys zs):Le B t ys (jn B (jn B xs ys) zs):=zmY R.K (zfp R.K R.r2 R.r1) (zax R.K _ _ R.r3 R.j12)
theorem Rd3.le3 (R:Rd3 S ws B ab t l1 l2 l3 xs ys zs):Le B t zs (jn B (jn B xs ys) zs):=zfp R.K R.r3 R.j12
theorem Rd3.room1 (R:Rd3 S ws B ab t l1 l2 l3 xs ys zs):Bd (zbf B t xs) (nR B (zai B zs xs)+nR B (zai B ys xs)):=R.rot.rot.room
theorem Rd3.c_zy (R:Rd3 S ws B ab t l1 l2 l3 xs ys zs):Cells ws B (jn B xs ys) (jn B (jn B zs ys) xs):=
 zmp R.K R.sh R.r1 R.r2 (zdI R.K R.r3 R.r2) (R.bd.mono (by
  have:=R.n;have:=R.rot.rot.swap.n12;omega)) (zfp R.K R.r2 R.r3) (zmc R.K R.r1 R.r2 R.r3 R.room1)
theorem Rd3.c_yz (R:Rd3 S ws B ab t l1 l2 l3 xs ys zs):Cells ws B (jn B xs ys) (jn B (jn B ys zs) xs):=
 zmp R.K R.sh R.r1 R.r2 (zdI R.K R.r2 R.r3) (R.bd.mono (by
  have:=R.n;have:=R.rot.n12;omega)) (zqE R.K (zdI R.K R.r2 R.r3)) (zma R.K R.r1 R.r2 R.r3 (R.room1.mono (by omega)))
theorem Rd3.c_all (R:Rd3 S ws B ab t l1 l2 l3 xs ys zs):Cells ws B (jn B (jn B xs ys) zs) (jn B (jn B zs ys) xs):=by
 refine zeA _ _ _ R.c_zy ?_;rw [zaD];exact znV R.K R.sh R.r3 R.r2 R.r1 R.j12 (zfp R.K R.r2 R.r1) (zqE R.K R.j12) (zlv R.K R.j12 R.r3 R.b123)
theorem Rd3.rev (R:Rd3 S ws B ab t l1 l2 l3 xs ys zs):Rd3 S ws B ab t l3 l2 l1 zs ys xs:=R.rot.rot.swap
theorem Rd3.le_all (R:Rd3 S ws B ab t l1 l2 l3 xs ys zs):Le B t (jn B (jn B xs ys) zs) (jn B (jn B zs ys) xs):=
 zhN R.K R.sh R.j12 R.r3 R.rev.j123 (zhN R.K R.sh R.r1 R.r2 R.rev.j123 R.rev.le3 R.rev.le2) R.rev.le1
end
theorem zqC{B:List Tn}{a b:List Tr}:(jn B a b).length=a.length+b.length:=by rw [List.length_append,zbU]
section
variable {ws:List Str}{B:List Tn}{ab l1 l2 l3 q ml m0 m1 m2 m3:Addr}{t:Tr}{a xs ys zs:List Tr}{S:Sto}{E:WX}{D:WEnds}{T:WS}{y0 y1 y2 y3 y4 y5 y6 y7 y8 y9 y10:Option W}
theorem zzv (R:Rd3 S ws B ab t l1 l2 l3 xs ys zs) (h:∀S' q,Sub S S'→Rd1 S' ws B t q (jn B xs ys)→T E D [y0,y1,y2,some (.ref ab),y4,some (.tup [enc t, .ref l1]),some (.tup [enc t, .ref l2]),y7,some (.tup [enc t, .ref q]),y9,y10] S') :
  zeb 199 T E D [y0,y1,y2,some (.ref ab),y4,some (.tup [enc t, .ref l1]),some (.tup [enc t, .ref l2]),y7,y8,y9,y10] S:=by
 have:=R.x3;have:=R.y3;rw [zeb];walk_at "wp";exact zee (r:=198) R.K R.fb R.d1 R.d2 R.b12 (by omega) (by omega) h
theorem zzz (R:Rd3 S ws B ab t l1 l2 l3 xs ys zs) (d:Rd1 S ws B t q (jn B xs ys)) (h:∀S' ml m0 m1,Sub S S'→S' ml=some (.lst [.tup [enc t, .ref m0], .tup [enc t, .ref m1]])→Rd1 S' ws B t m0 (jn B (jn B xs ys) zs)→Rd1 S' ws B t m1 (jn B (jn B zs ys) xs)→T E D [y0,y1,y2,some (.ref ab),y4,some (.tup [enc t, .ref l1]),some (.tup [enc t, .ref l2]),some (.tup [enc t, .ref l3]),some (.tup [enc t, .ref q]),some (.ref ml),y10] S') :
  zei 199 T E D [y0,y1,y2,some (.ref ab),y4,some (.tup [enc t, .ref l1]),some (.tup [enc t, .ref l2]),some (.tup [enc t, .ref l3]),some (.tup [enc t, .ref q]),y9,y10] S:=by
 have n1:=R.x3;have n2:=R.y3;have n3:=R.z3;rw [zei];walk_at "wp";refine zee (r:=198) R.K R.fb d R.d3 R.b123 (by rw [zqC];omega) (by omega) fun S1 m0 s1 e0=>?_;have R1:=R.sub s1;refine zee (r:=198) R.K R1.fb R1.d3 R1.d2 R.rev.b12 (by omega) (by omega) fun S2 u s2 eu=>?_;have R2:=R1.sub s2;refine zee (r:=198) R.K R2.fb eu R2.d1 R.rev.b123 (by rw [zqC];omega) (by omega) fun S3 m1 s3 e1=>?_;refine⟨by decide,fun ml n=>?_⟩;have s4:Sub S3 (put S3 ml (.lst [.tup [enc t, .ref m0], .tup [enc t, .ref m1]])):= .put .refl n;exact h _ ml m0 m1 ((s1.trans (s2.trans s3)).trans s4) zah (e0.sub ((s2.trans s3).trans s4)) (e1.sub s4)
theorem zwR (R:Rd3 S ws B ab t l1 l2 l3 xs ys zs) (fm:S ml=some (.lst [.tup [enc t, .ref m0], .tup [enc t, .ref m1]])) (h:∀S' ml m2 m3,Sub S S'→S' ml=some (.lst [.tup [enc t, .ref m0], .tup [enc t, .ref m1], .tup [enc t, .ref m2], .tup [enc t, .ref m3]])→Rd1 S' ws B t m2 (jn B (jn B ys zs) xs)→Rd1 S' ws B t m3 (jn B ys xs)→T E D [y0,y1,y2,some (.ref ab),y4,some (.tup [enc t, .ref l1]),some (.tup [enc t, .ref l2]),some (.tup [enc t, .ref l3]),y8,some (.ref ml),y10] S') :
  zdx 199 T E D [y0,y1,y2,some (.ref ab),y4,some (.tup [enc t, .ref l1]),some (.tup [enc t, .ref l2]),some (.tup [enc t, .ref l3]),y8,some (.ref ml),y10] S:=by
 have n1:=R.x3;have n2:=R.y3;have n3:=R.z3;rw [zdx];walk_at "wp";refine zee (r:=198) R.K R.fb R.d2 R.d3 R.rot.b12 (by omega) (by omega) fun S1 u s1 eu=>?_;have R1:=R.sub s1;refine zee (r:=198) R.K R1.fb eu R1.d1 R.rot.b123 (by rw [zqC];omega) (by omega) fun S2 m2 s2 e2=>?_;have R2:=R1.sub s2;refine zee (r:=198) R.K R2.fb R2.d2 R2.d1 (R.b12.mono (by omega)) (by omega) (by omega) fun S3 m3 s3 e3=>?_;have s13:=s1.trans (s2.trans s3);rw [zak (s13 _ _ fm)];refine⟨by decide,zan (by simp),fun nl n=>?_⟩;have s4:Sub S3 (put S3 nl (.lst [.tup [enc t, .ref m0], .tup [enc t, .ref m1], .tup [enc t, .ref m2], .tup [enc t, .ref m3]])):= .put .refl n;exact h _ nl m2 m3 (s13.trans s4) zah (e2.sub (s3.trans s4)) (e3.sub s4)
theorem zgY (K:Bk2 ws B) (fb:S ab=some (.lst (B.map zbd))) (sh:Sh ws B t) (d:Rd1 S ws B t q (jn B xs ys)) (e:Rd1 S ws B t m0 a) (hc:Cells ws B (jn B xs ys) a) (hl:Le B t (jn B xs ys) a) (h:∀S',Sub S S'→D.nx [y0,y1,y2,some (.ref ab),y4,y5,y6,y7,some (.tup [enc t, .ref q]),y9,some (.tup [enc t, .ref m0])] S') :
  zfl 199 zba E D [y0,y1,y2,some (.ref ab),y4,y5,y6,y7,some (.tup [enc t, .ref q]),y9,some (.tup [enc t, .ref m0])] S:=by
 rw [zfl];walk_at "wp";refine zbI (r:=198) K fb d e hc (by omega) fun S1 s1=>?_;rw [zjb K sh e.r hl];walk_at "wp";exact h S1 s1
structure Four (S:Sto) (ws:List Str) (B:List Tn) (t:Tr) (ml m0 m1 m2 m3:Addr) (xs ys zs:List Tr):Prop where
  f:S ml=some (.lst [.tup [enc t, .ref m0], .tup [enc t, .ref m1], .tup [enc t, .ref m2], .tup [enc t, .ref m3]])
  e0:Rd1 S ws B t m0 (jn B (jn B xs ys) zs)
  e1:Rd1 S ws B t m1 (jn B (jn B zs ys) xs)
  e2:Rd1 S ws B t m2 (jn B (jn B ys zs) xs)
  e3:Rd1 S ws B t m3 (jn B ys xs)
theorem Four.sub{S':Sto}(F:Four S ws B t ml m0 m1 m2 m3 xs ys zs) (s:Sub S S'):Four S' ws B t ml m0 m1 m2 m3 xs ys zs:=⟨s _ _ F.f,F.e0.sub s,F.e1.sub s,F.e2.sub s,F.e3.sub s⟩
theorem zvQ (R:Rd3 S ws B ab t l1 l2 l3 xs ys zs) (d:Rd1 S ws B t q (jn B xs ys)) (F:Four S ws B t ml m0 m1 m2 m3 xs ys zs) (h:∀S' z10,Sub S S'→T E D [y0,y1,y2,some (.ref ab),y4,y5,y6,y7,some (.tup [enc t, .ref q]),some (.ref ml),z10] S') :
  zdy 199 T E D [y0,y1,y2,some (.ref ab),y4,y5,y6,y7,some (.tup [enc t, .ref q]),some (.ref ml),y10] S:=by
 have rx:=R.rev.j123;have hl0:Le B t (jn B xs ys) (jn B (jn B xs ys) zs):=zqE R.K R.j123;have hl1:Le B t (jn B xs ys) (jn B (jn B zs ys) xs):=zhN R.K R.sh R.r1 R.r2 R.rev.j123 R.rev.le3 R.rev.le2;have hl2:Le B t (jn B xs ys) (jn B (jn B ys zs) xs):=zhN R.K R.sh R.r1 R.r2 R.rot.j123 R.rot.le3 R.rot.le1;have hl3:Le B t (jn B xs ys) (jn B ys xs):=zhN R.K R.sh R.r1 R.r2 (zdI R.K R.r2 R.r1) (zfp R.K R.r1 R.r2) (zqE R.K (zdI R.K R.r2 R.r1));have c0:Cells ws B (jn B xs ys) (jn B (jn B xs ys) zs):=zka R.K R.j12 R.r3 R.b123;have c3:Cells ws B (jn B xs ys) (jn B ys xs):=R.two.cellsJ;rw [zdy];walk_at "wp";rw [zak F.f];refine zbz fun N1 h1=>?_;rw [zhG];refine zgY R.K R.fb R.sh d F.e0 c0 hl0 fun S1 s1=>?_;have F1:=F.sub s1;refine h1 _ _ _ .refl F1.f (zbz fun N2 h2=>?_);rw [zhG];refine zgY R.K (s1 _ _ R.fb) R.sh (d.sub s1) F1.e1 R.c_zy hl1 fun S2 s2=>?_;have F2:=F1.sub s2;have s12:=s1.trans s2;refine h2 _ _ _ .refl F2.f (zbz fun N3 h3=>?_);rw [zhG];refine zgY R.K (s12 _ _ R.fb) R.sh (d.sub s12) F2.e2 R.c_yz hl2 fun S3 s3=>?_;have F3:=F2.sub s3;have s13:=s12.trans s3;refine h3 _ _ _ .refl F3.f (zbz fun N4 h4=>?_);rw [zhG];refine zgY R.K (s13 _ _ R.fb) R.sh (d.sub s13) F3.e3 c3 hl3 fun S4 s4=>?_;exact h4 _ _ _ .refl (F3.sub s4).f (h _ _ (s13.trans s4))
theorem zwN (R:Rd3 S ws B ab t l1 l2 l3 xs ys zs) (d:Rd1 S ws B t q (jn B xs ys)) (F:Four S ws B t ml m0 m1 m2 m3 xs ys zs) (h:∀S',Sub S S'→T E D [y0,y1,y2,some (.ref ab),y4,y5,y6,y7,some (.tup [enc t, .ref q]),some (.ref ml),y10] S') :
  zdF 199 T E D [y0,y1,y2,some (.ref ab),y4,y5,y6,y7,some (.tup [enc t, .ref q]),some (.ref ml),y10] S:=by
 have j0:atI [W.tup [enc t, .ref m0], .tup [enc t, .ref m1], .tup [enc t, .ref m2], .tup [enc t, .ref m3]] 0=some (.tup [enc t, .ref m0]):=rfl;have j1:atI [W.tup [enc t, .ref m0], .tup [enc t, .ref m1], .tup [enc t, .ref m2], .tup [enc t, .ref m3]] 1=some (.tup [enc t, .ref m1]):=rfl;have j3:atI [W.tup [enc t, .ref m0], .tup [enc t, .ref m1], .tup [enc t, .ref m2], .tup [enc t, .ref m3]] 3=some (.tup [enc t, .ref m3]):=rfl;rw [zdF];walk_at "wp";rw [zak F.f,j3]
 try walk_at "wp"
 refine zjT (r:=198) R.K R.fb d F.e3 R.two.cellsJ R.two.symm.cellsJ (by omega) fun S1 s1=>?_;rw [R.two.downJ,R.two.symm.downJ];walk_at "wp";have F1:=F.sub s1;simp only[zak F1.f,j0,j1]
 try walk_at "wp"
 refine zjT (r:=198) R.K (s1 _ _ R.fb) F1.e0 F1.e1 R.c_all R.rev.c_all (by omega) fun S2 s2=>?_;rw [zjb R.K R.sh F.e1.r R.le_all,zjb R.K R.sh F.e0.r R.rev.le_all];walk_at "wp";exact h S2 (s1.trans s2)
theorem zye (R:Rd3 S ws B ab t l1 l2 l3 xs ys zs) (d:Rd1 S ws B t q (jn B xs ys)) (h:∀S',Sub S S'→T E D [y0,y1,y2,some (.ref ab),y4,some (.tup [enc t, .ref l1]),some (.tup [enc t, .ref l2]),some (.tup [enc t, .ref l3]),some (.tup [enc t, .ref q]),y9,y10] S') :
  zdE 199 T E D [y0,y1,y2,some (.ref ab),y4,some (.tup [enc t, .ref l1]),some (.tup [enc t, .ref l2]),some (.tup [enc t, .ref l3]),some (.tup [enc t, .ref q]),y9,y10] S:=by
 rw [zdE];walk_at "wp";refine zbI (r:=198) R.K R.fb d R.d3 (zea R.K _ _ R.j12 R.r3 R.b123) (by omega) fun S1 s1=>?_;have R1:=R.sub s1;rw [zwH R.K R.r1 R.r2 R.r3];refine zbI (r:=198) R.K R1.fb R1.d1 R1.d3 R1.swap.two.cells (by omega) fun S2 s2=>?_;have R2:=R1.sub s2;cases e:(zai B xs zs).all Tr.quiet with
 |false=>
  try walk_at "wp"
  try simp only[Bool.false_and]
  exact h S2 (s1.trans s2)
 |true=>
  try walk_at "wp"
  refine zbI (r:=198) R.K R2.fb R2.d2 R2.d3 R2.rot.two.cells (by omega) fun S3 s3=>?_
  try simp only[Bool.true_and]
  walk_at "wp";rw [beq_self_eq_true];exact h S3 ((s1.trans s2).trans s3)
theorem zxh (R:Rd3 S ws B ab t l1 l2 l3 xs ys zs) (d:Rd1 S ws B t q (jn B xs ys)) (h:∀S',Sub S S'→T E D [y0,y1,y2,some (.ref ab),y4,some (.tup [enc t, .ref l1]),some (.tup [enc t, .ref l2]),y7,some (.tup [enc t, .ref q]),y9,y10] S') :
  zdz 199 T E D [y0,y1,y2,some (.ref ab),y4,some (.tup [enc t, .ref l1]),some (.tup [enc t, .ref l2]),y7,some (.tup [enc t, .ref q]),y9,y10] S:=by
 rw [zdz];walk_at "wp";refine zbI (r:=198) R.K R.fb d R.d1 R.two.cellsB (by omega) fun S1 s1=>?_;have R1:=R.sub s1;refine zbI (r:=198) R.K R1.fb R1.d2 R1.d1 R1.two.symm.cells (by omega) fun S2 s2=>?_;rw [R.two.joinB,List.all_append,zhh R.K (zfH R.K R.r1 R.sh),Bool.true_and];walk_at "wp";rw [beq_self_eq_true];exact h S2 (s1.trans s2)
theorem zyh (R:Rd3 S ws B ab t l1 l2 l3 xs ys zs) (hD:∀S',D.rt (.bl true) S') :
  zdB 199 E D [y0,y1,y2,some (.ref ab),y4,some (.tup [enc t, .ref l1]),some (.tup [enc t, .ref l2]),some (.tup [enc t, .ref l3]),y8,y9,y10] S:=by
 rw [zdB];walk_at "wp";refine zbI (r:=198) R.K R.fb R.d3 R.d2 R.rot.two.symm.cells (by omega) fun S1 s1=>?_;have R1:=R.sub s1;cases e:(zai B zs ys).all Tr.quiet with
 |false=>exact hD S1
 |true=>
  refine zbI (r:=198) R.K R1.fb R1.d2 R1.d1 R1.two.symm.cells (by omega) fun S2 s2=>?_;have R2:=R1.sub s2;cases e2:(zai B ys xs).all Tr.quiet with
  |false=>exact hD S2
  |true=>
   refine zbI (r:=198) R.K R2.fb R2.d3 R2.d1 R2.rot.rot.two.cells (by omega) fun S3 s3=>?_;rw [zqo R.K R.sh R.r3 R.r2 R.r1 (ziY R.K R.r3 R.r2 e) (ziY R.K R.r2 R.r1 e2)];exact hD S3
end
theorem zwf (ns:List Int) (hl:ns.length≤63):zdS 200 [.scr ns] (fun _=>none) (fun w _=>w= .bl true) (fun _ _=>False):=by
 rw [show(200:Nat)=199+1 from rfl,zdS,zfK];refine⟨rfl,?_⟩;unfold zeX zfj zfm zfc zfa zfk zeZ;refine zra fun S ws B ab t l1 l2 l3 xs ys zs z1 z2 R=>zzv R fun S1 q s1 d=>zzz (R.sub s1) d fun S2 ml m0 m1 s2 fm e0 e1=>?_;have R2:=R.sub (s1.trans s2);refine zwR R2 fm fun S3 nl m2 m3 s3 fn e2 e3=>?_;have R3:=R2.sub s3;have d3:=(d.sub s2).sub s3;have F:Four S3 ws B t nl m0 m1 m2 m3 xs ys zs:=⟨fn,e0.sub s3,e1.sub s3,e2,e3⟩;refine zvQ R3 d3 F fun S4 z10 s4=>zwN (R3.sub s4) (d3.sub s4) (F.sub s4) fun S5 s5=>?_;have s45:=s4.trans s5;refine zye (R3.sub s45) (d3.sub s45) fun S6 s6=>?_;have s46:=s45.trans s6;exact zxh (R3.sub s46) (d3.sub s46) fun S7 s7=>zyh ((R3.sub s46).sub s7) fun _=>⟨_, .refl,rfl⟩
end L2
end
end
section
namespace K31
open PySem L2 PyProof.Rows
noncomputable def top (i:Nat):Stmt:=PySem.Challenge.pw_turnweave_k31_least_road_over_both.main.body.getD i (.Pass ⟨0,0,0,0⟩)
structure Cal (P:Program) (w:World) (K:PySem.W.Frag) (mg:Str→Option Value) (base:Heap) (nm:Str) (ps:List Str) (c:Nat→WSp) where
  zf:Addr
  zd:FuncData
  zg:∀r,FnOk P w K mg base CX0 r zf zd ps (zek K (c r))
  zb:Binds K zd ps []
  zk:PySem.W.keepIn K (.ref zf)=true
  zm:mg nm=some (.ref zf)
noncomputable def mkC {P:Program}{w:World}{K:PySem.W.Frag}{h:Heap}{mg:Str→Option Value}{base:Heap}{nm:Str}{st:Stmt}{ps:List Str}{c:Nat→WSp}{f:Addr}{d:FuncData}(X:K.In h) (G:h.Ns mainGlobals mg) (F:Fun K nm nm st f d) (a:PySem.W.nsIn K mainGlobals nm=some (some (.ref f))) (g:∀r,FnOk P w K mg base CX0 r f d ps (zek K (c r))) (b:Binds K d ps []):Cal P w K mg base nm ps c:=⟨f,d,g,b,F.kp,PySem.W.mg_of X G a⟩
noncomputable def Dfn (K:PySem.W.Frag) (nm:Str) (st:Stmt):Prop:=∃f d,PySem.W.nsIn K mainGlobals nm=some (some (.ref f))∧Fun K nm nm st f d
theorem dfn{K:PySem.W.Frag}{x:Str}{st:Stmt}{f:Addr}{oc:Value}{od an:Option Addr}{osl:Array (Option Value)}{kV doc pm cdv ct:Value}(a:PySem.W.nsIn K mainGlobals x=some (some (.ref f))) (l:K.lookup f=some ⟨oc,od, .func (PySem.W.fnOf x x (zhw st) (zfb st) (zal st) .none kV doc pm an cdv ct),osl⟩) (c:PySem.W.codeIn K cdv x=true) (k:PySem.W.keepIn K (.ref f)=true):Dfn K x st:=⟨f,_,a,zwD l c k⟩
theorem nC{p:List Value→Prop}{k:Nat}(h:∀a us,us.length=k→p (a::us)):∀us,us.length=k+1→p us:=fun us e=>by
 cases us with
 |nil=>cases e
 |cons a us=>exact h a us (Nat.succ.inj e)
theorem n0{p:List Value→Prop}(h:p []):∀us,us.length=0→p us:=fun us e=>by
 cases us with
 |nil=>exact h
 |cons a us=>cases e
theorem n1{p:List Value→Prop}(h:∀a,p [a]):∀us,us.length=1→p us:=nC fun a=>n0 (p:=fun us=>p (a::us)) (h a)
theorem n2{p:List Value→Prop}(h:∀a b,p [a,b]):∀us,us.length=2→p us:=nC fun a=>n1 (p:=fun us=>p (a::us)) (h a)
theorem n3{p:List Value→Prop}(h:∀a b c,p [a,b,c]):∀us,us.length=3→p us:=nC fun a=>n2 (p:=fun us=>p (a::us)) (h a)
theorem n4{p:List Value→Prop}(h:∀a b c d,p [a,b,c,d]):∀us,us.length=4→p us:=nC fun a=>n3 (p:=fun us=>p (a::us)) (h a)
theorem n5{p:List Value→Prop}(h:∀a b c d e,p [a,b,c,d,e]):∀us,us.length=5→p us:=nC fun a=>n4 (p:=fun us=>p (a::us)) (h a)
theorem n6{p:List Value→Prop}(h:∀a b c d e f,p [a,b,c,d,e,f]):∀us,us.length=6→p us:=nC fun a=>n5 (p:=fun us=>p (a::us)) (h a)
local macro_rules | `(tactic| walk_at "sc") => `(tactic| (refine ⟨rfl, rfl, rfl, ?_, rfl, ?_, ?_⟩ <;> decide +kernel))
noncomputable abbrev Ok (P:Program) (w:World) (K:PySem.W.Frag) (mg:Str→Option Value) (base:Heap) (f:Addr) (d:FuncData) (ps:List Str) (c:Nat→WSp):Prop:=∀r,FnOk P w K mg base CX0 r f d ps (zek K (c r))
theorem zcW{P:Program}{w:World}{K:PySem.W.Frag}{mg:Str→Option Value}{base:Heap}{f:Addr}{d:FuncData}{ps:List Str}{c:Nat→WSp}(h0:c 0=zba) (h:∀r,FnOk P w K mg base CX0 r f d ps (zek K (c r))→FnOk P w K mg base CX0 (r+1) f d ps (zek K (c (r+1)))):Ok P w K mg base f d ps c:=fun r=>by
 induction r with
 |zero=>rw [h0];exact zxb
 |succ r ih=>exact h r ih
noncomputable abbrev s0:Stmt:=top 9
theorem sc0:FnScope ["t"] ["t"] (zal s0):=by walk_at "sc"
noncomputable abbrev s1:Stmt:=top 10
theorem sc1:FnScope ["things", "found", "thing"] ["things"] (zal s1):=by walk_at "sc"
noncomputable abbrev s2:Stmt:=top 11
theorem sc2:FnScope ["t", "heavy", "deep", "level"] ["t"] (zal s2):=by walk_at "sc"
noncomputable abbrev s3:Stmt:=top 13
theorem sc3:FnScope ["t", "place", "found", "number", "inner"] ["t", "place", "found"] (zal s3):=by walk_at "sc"
noncomputable abbrev s4:Stmt:=top 12
theorem sc4:FnScope ["t", "found"] ["t"] (zal s4):=by walk_at "sc"
noncomputable abbrev s5:Stmt:=top 15
theorem sc5:FnScope ["t", "number", "parts"] ["t", "number"] (zal s5):=by walk_at "sc"
noncomputable abbrev s6:Stmt:=top 14
theorem sc6:FnScope ["t", "place", "thing", "number"] ["t", "place"] (zal s6):=by walk_at "sc"
noncomputable abbrev s7:Stmt:=top 17
theorem sc7:FnScope ["side"] ["side"] (zal s7):=by walk_at "sc"
noncomputable abbrev s8:Stmt:=top 18
theorem sc8:FnScope ["side", "things"] ["side", "things"] (zal s8):=by walk_at "sc"
noncomputable abbrev s9:Stmt:=top 21
theorem sc9:FnScope ["one", "other"] ["one", "other"] (zal s9):=by walk_at "sc"
noncomputable abbrev s10:Stmt:=top 20
theorem sc10:FnScope ["left", "t", "things", "inner", "thing"] ["left", "t", "things"] (zal s10):=by walk_at "sc"
noncomputable abbrev s11:Stmt:=top 19
theorem sc11:FnScope ["left", "t", "things"] ["left", "t"] (zal s11):=by walk_at "sc"
noncomputable abbrev s12:Stmt:=top 25
theorem zBp:FnScope ["text"] ["text"] (zal s12):=by walk_at "sc"
noncomputable abbrev s13:Stmt:=top 24
theorem zAy:FnScope ["text"] ["text"] (zal s13):=by walk_at "sc"
noncomputable abbrev s14:Stmt:=top 29
theorem sc14:FnScope ["book", "title", "turning"] ["book", "title"] (zal s14):=by walk_at "sc"
noncomputable abbrev s15:Stmt:=top 31
theorem zAL:FnScope ["way"] ["way"] (zal s15):=by walk_at "sc"
noncomputable abbrev s16:Stmt:=top 33
theorem zBh:FnScope ["shape"] ["shape"] (zal s16):=by walk_at "sc"
noncomputable abbrev s17:Stmt:=top 34
theorem sc17:FnScope ["book", "way", "side", "parts", "turning"] ["book", "way", "side"] (zal s17):=by walk_at "sc"
noncomputable abbrev s18:Stmt:=top 32
theorem zBm:FnScope ["book", "way"] ["book", "way"] (zal s18):=by walk_at "sc"
noncomputable abbrev s19:Stmt:=top 35
theorem sc19:FnScope ["book", "way", "turning"] ["book", "way"] (zal s19):=by walk_at "sc"
noncomputable abbrev s20:Stmt:=top 39
theorem sc20:FnScope ["book", "shape", "turning"] ["book", "shape"] (zal s20):=by walk_at "sc"
noncomputable abbrev s21:Stmt:=top 38
theorem sc21:FnScope ["book", "shape", "place", "found", "turning", "number", "inner"] ["book", "shape", "place", "found"] (zal s21):=by walk_at "sc"
noncomputable abbrev s22:Stmt:=top 37
theorem sc22:FnScope ["book", "shape", "found"] ["book", "shape"] (zal s22):=by walk_at "sc"
noncomputable abbrev s23:Stmt:=top 40
theorem zAJ:FnScope ["pairs"] ["pairs"] (zal s23):=by walk_at "sc"
noncomputable abbrev s24:Stmt:=top 44
theorem sc24:FnScope ["book", "shape", "turning"] ["book", "shape"] (zal s24):=by walk_at "sc"
noncomputable abbrev s25:Stmt:=top 43
theorem sc25:FnScope ["book", "shape", "place", "wanted", "top", "parts", "spot", "inner"] ["book", "shape", "place", "wanted"] (zal s25):=by walk_at "sc"
noncomputable abbrev s26:Stmt:=top 42
theorem zAs:FnScope ["book", "shape", "places"] ["book", "shape", "places"] (zal s26):=by walk_at "sc"
noncomputable abbrev s27:Stmt:=top 41
theorem sc27:FnScope ["book", "shape", "places", "known", "place"] ["book", "shape", "places"] (zal s27):=by walk_at "sc"
noncomputable abbrev s28:Stmt:=top 46
theorem sc28:FnScope ["book", "way", "other", "first", "second", "mine", "yours", "parts"] ["book", "way", "other"] (zal s28):=by walk_at "sc"
noncomputable abbrev s29:Stmt:=top 50
theorem sc29:FnScope ["book", "ways", "way"] ["book", "ways"] (zal s29):=by walk_at "sc"
noncomputable abbrev s30:Stmt:=top 49
theorem sc30:FnScope ["book", "way", "ways", "line", "over", "way_on"] ["book", "way", "ways"] (zal s30):=by walk_at "sc"
noncomputable abbrev s31:Stmt:=top 48
theorem sc31:FnScope ["book", "road", "other", "downs", "row", "overs", "way", "line"] ["book", "road", "other"] (zal s31):=by walk_at "sc"
noncomputable abbrev s32:Stmt:=top 51
theorem sc32:FnScope ["book", "road", "other", "overs"] ["book", "road", "other"] (zal s32):=by walk_at "sc"
noncomputable abbrev s33:Stmt:=top 55
theorem zAj:FnScope ["ways"] ["ways"] (zal s33):=by walk_at "sc"
noncomputable abbrev s34:Stmt:=top 54
theorem zBq:FnScope ["downs_and_overs"] ["downs_and_overs"] (zal s34):=by walk_at "sc"
noncomputable abbrev s35:Stmt:=top 52
theorem zAo:FnScope ["book", "road", "other"] ["book", "road", "other"] (zal s35):=by walk_at "sc"
noncomputable abbrev s36:Stmt:=top 53
theorem sc36:FnScope ["book", "road", "other", "downs_and_overs"] ["book", "road", "other"] (zal s36):=by walk_at "sc"
noncomputable abbrev s37:Stmt:=top 57
theorem zBj:FnScope ["script", "k"] ["script", "k"] (zal s37):=by walk_at "sc"
noncomputable abbrev s38:Stmt:=top 58
theorem sc38:FnScope ["one", "two", "great", "signs", "rest", "base", "k", "at", "words", "word"] ["one", "two", "great"] (zal s38):=by walk_at "sc"
noncomputable abbrev s39:Stmt:=top 59
theorem zAp:FnScope ["side"] ["side"] (zal s39):=by walk_at "sc"
noncomputable abbrev s40:Stmt:=top 60
theorem zBr:FnScope ["side", "things"] ["side", "things"] (zal s40):=by walk_at "sc"
noncomputable abbrev s41:Stmt:=top 61
theorem zBk:FnScope ["draw", "many", "w"] ["draw", "many", "w"] (zal s41):=by walk_at "sc"
noncomputable abbrev s42:Stmt:=top 62
theorem sc42:FnScope ["draw", "many", "w", "one", "other", "way"] ["draw", "many", "w"] (zal s42):=by walk_at "sc"
noncomputable abbrev s43:Stmt:=top 63
theorem zAz:FnScope ["way", "head", "c", "d"] ["way", "head", "c", "d"] (zal s43):=by walk_at "sc"
noncomputable abbrev s44:Stmt:=top 64
theorem sc44:FnScope ["script", "k", "w", "titles", "book", "j", "lefts", "n", "left", "right"] ["script", "k", "w", "titles"] (zal s44):=by walk_at "sc"
noncomputable abbrev s45:Stmt:=top 65
theorem sc45:FnScope ["cells", "book", "w", "room", "stack", "spent", "cell", "way", "need", "node", "k", "at"] ["cells", "book", "w", "room"] (zal s45):=by walk_at "sc"
noncomputable abbrev s46:Stmt:=top 66
theorem sc46:FnScope ["plan", "book", "by", "k", "bits", "head", "parts", "ways"] ["plan", "book", "by"] (zal s46):=by walk_at "sc"
noncomputable abbrev s47:Stmt:=top 67
theorem sc47:FnScope ["book", "way", "which", "parts", "turning"] ["book", "way", "which"] (zal s47):=by walk_at "sc"
noncomputable abbrev s48:Stmt:=top 68
theorem sc48:FnScope ["book", "shape", "cells", "limit", "ways", "here", "spent", "cell", "some", "both"] ["book", "shape", "cells", "limit"] (zal s48):=by walk_at "sc"
noncomputable abbrev s49:Stmt:=top 69
theorem sc49:FnScope ["script", "w", "titles", "book", "shape", "one", "two", "three", "every", "more", "road"] ["script"] (zal s49):=by walk_at "sc"
section
variable (P:Program) (w:World) (K:PySem.W.Frag) (mg:Str→Option Value) (base:Heap)
noncomputable abbrev C0:=Cal P w K mg base "parts_of" ["t"] zcs
noncomputable abbrev C1:=Cal P w K mg base "parts_of_all" ["things"] zbQ
noncomputable abbrev C2:=Cal P w K mg base "is_small" ["t"] zdR
noncomputable abbrev C3:=Cal P w K mg base "gather_places" ["t", "place", "found"] zaL
noncomputable abbrev C4:=Cal P w K mg base "places" ["t"] zfr
noncomputable abbrev C5:=Cal P w K mg base "numbered_part" ["t", "number"] zbA
noncomputable abbrev C6:=Cal P w K mg base "part" ["t", "place"] zle
noncomputable abbrev C7:=Cal P w K mg base "blank_places" ["side"] zbM
noncomputable abbrev C8:=Cal P w K mg base "filled" ["side", "things"] zcZ
noncomputable abbrev C9:=Cal P w K mg base "have_one_top" ["one", "other"] zbL
noncomputable abbrev C10:=Cal P w K mg base "gather_matched" ["left", "t", "things"] zaB
noncomputable abbrev C11:=Cal P w K mg base "matched" ["left", "t"] zbS
noncomputable abbrev C12:=Cal P w K mg base "are_small_letters" ["text"] zaV
noncomputable abbrev C13:=Cal P w K mg base "is_sign" ["text"] zet
noncomputable abbrev C14:=Cal P w K mg base "turning_of" ["book", "title"] zaT
noncomputable abbrev C15:=Cal P w K mg base "is_quiet" ["way"] zcz
noncomputable abbrev C16:=Cal P w K mg base "only_small" ["shape"] zbC
noncomputable abbrev C17:=Cal P w K mg base "with_sides" ["book", "way", "side"] zcb
noncomputable abbrev C18:=Cal P w K mg base "goal" ["book", "way"] zhC
noncomputable abbrev C19:=Cal P w K mg base "part_places" ["book", "way"] zbH
noncomputable abbrev C20:=Cal P w K mg base "open_turning" ["book", "shape"] zbv
noncomputable abbrev C21:=Cal P w K mg base "gather_open" ["book", "shape", "place", "found"] zbm
noncomputable abbrev C22:=Cal P w K mg base "open_uses" ["book", "shape"] zcA
noncomputable abbrev C23:=Cal P w K mg base "places_of" ["pairs"] zdj
noncomputable abbrev C24:=Cal P w K mg base "turned_top" ["book", "shape"] zcJ
noncomputable abbrev C25:=Cal P w K mg base "way_within" ["book", "shape", "place", "wanted"] zaR
noncomputable abbrev C26:=Cal P w K mg base "way_with" ["book", "shape", "places"] zdL
noncomputable abbrev C27:=Cal P w K mg base "way_of" ["book", "shape", "places"] zfN
noncomputable abbrev C28:=Cal P w K mg base "moved" ["book", "way", "other"] zcR
noncomputable abbrev C29:=Cal P w K mg base "check_goals" ["book", "ways"] zbp
noncomputable abbrev C30:=Cal P w K mg base "moved_along" ["book", "way", "ways"] zck
noncomputable abbrev C31:=Cal P w K mg base "grid" ["book", "road", "other"] zhx
noncomputable abbrev C32:=Cal P w K mg base "road_joined" ["book", "road", "other"] zaC
noncomputable abbrev C33:=Cal P w K mg base "are_quiet" ["ways"] zbV
noncomputable abbrev C34:=Cal P w K mg base "last_downs" ["downs_and_overs"] zbZ
noncomputable abbrev C35:=Cal P w K mg base "within" ["book", "road", "other"] zbn
noncomputable abbrev C36:=Cal P w K mg base "alike" ["book", "road", "other"] zen
noncomputable abbrev C37:=Cal P w K mg base "_law_cell" ["script", "k"] zav
noncomputable abbrev C38:=Cal P w K mg base "_law_words" ["one", "two", "great"] zaS
noncomputable abbrev C39:=Cal P w K mg base "_law_count" ["side"] zaA
noncomputable abbrev C40:=Cal P w K mg base "_law_filled" ["side", "things"] zbb
noncomputable abbrev C41:=Cal P w K mg base "_law_item" ["draw", "many", "w"] zcw
noncomputable abbrev C42:=Cal P w K mg base "_law_right" ["draw", "many", "w"] zcO
noncomputable abbrev C43:=Cal P w K mg base "_law_lefts" ["way", "head", "c", "d"] zcN
noncomputable abbrev C44:=Cal P w K mg base "_law_book" ["script", "k", "w", "titles"] zbW
noncomputable abbrev C45:=Cal P w K mg base "_law_plan" ["cells", "book", "w", "room"] zbF
noncomputable abbrev C46:=Cal P w K mg base "_law_way" ["plan", "book", "by"] zbG
noncomputable abbrev C47:=Cal P w K mg base "_law_made" ["book", "way", "which"] zbD
noncomputable abbrev C48:=Cal P w K mg base "_law_road" ["book", "shape", "cells", "limit"] zaJ
end
section
variable {P:Program}{w:World}{K:PySem.W.Frag}{mg:Str→Option Value}{base:Heap}
theorem o0{f:Addr}{d:FuncData}(F:Fun K "parts_of" "parts_of" s0 f d) (n_i:mg "isinstance" =none) (n_n:mg "int" =none):Ok P w K mg base f d ["t"] zcs:=zcW rfl fun r ih=>zaQ F sc0 rfl rfl fun _ _ _ _ _ _ hr=>(zaf (zaX (zdU (ziv rfl n_i rfl n_n PyProof.Rows.boot_int (jv 0) (by decide) (by decide) (zvG _ (by simp)))) (zaj (zao (zau zac))) zay)
  (zaj (zao (zdm (jv 0) (zaF zae) zaU))))
theorem o1{f:Addr}{d:FuncData}(F:Fun K "parts_of_all" "parts_of_all" s1 f d) (x0:C0 P w K mg base):Ok P w K mg base f d ["things"] zbQ:=zcW rfl fun r ih=>zaQ F sc1 rfl rfl fun _ _ _ _ _ _ hr=>(zaf (zap (i:=1) sc1.nd rfl (Or.inl rfl) (zaN (zaP zac)))
  (zaf (zca (zbk (jv 0)) (zaq (i:=2) sc1.nd rfl (Or.inl rfl)) (zaj (zbe (zqP (jv 1) (zaa (zag (x0.zg r) hr rfl x0.zm x0.zk x0.zb (zaa (jv 2) zac)) zac)))))
  (zaj (zao (jv 1)))))
theorem o2{f:Addr}{d:FuncData}(F:Fun K "is_small" "is_small" s2 f d) (x1:C1 P w K mg base) (n_l:mg "len" =none) {t_MOST_HEAVY:Tok}(g_MOST_HEAVY:mg "MOST_HEAVY" =some (.int 400 t_MOST_HEAVY)) {t_MOST_DEEP:Tok}(g_MOST_DEEP:mg "MOST_DEEP" =some (.int 40 t_MOST_DEEP)):Ok P w K mg base f d ["t"] zdR:=zcW rfl fun r ih=>zaQ F sc2 rfl rfl fun _ _ _ _ _ _ hr=>(zaf (zap (i:=1) sc2.nd rfl (Or.inl rfl) zae)
  (zaf (zap (i:=2) sc2.nd rfl (Or.inl rfl) zae)
  (zaf (zap (i:=3) sc2.nd rfl (Or.inl rfl) (zaN (zaP (zaa (jv 0) zac))))
  (zaf (znk (zdU (jv 3)) (zaf (zsT (i:=1) sc2.nd rfl (Or.inl rfl) (zcq rfl n_l (zaa (jv 3) zac)))
  (zaf (zsT (i:=2) sc2.nd rfl (Or.inl rfl) zae)
  (zaf (zaX (JW.jt (zsv (zkm (jv 1) (zdH rfl g_MOST_HEAVY)) (zmx (zkm (jv 2) (zdH rfl g_MOST_DEEP))))) (zaj (zao zez)) zay)
  (zaj (zap (i:=3) sc2.nd rfl (Or.inl rfl) (zag (x1.zg r) hr rfl x1.zm x1.zk x1.zb (zaa (jv 3) zac))))))))
  (zaj (zao zez))))))
theorem o3{f:Addr}{d:FuncData}(F:Fun K "gather_places" "gather_places" s3 f d) (x0:C0 P w K mg base) (b:Binds K d ["t", "place", "found"] []) (m:mg "gather_places" =some (.ref f)) (n_e:mg "enumerate" =none):Ok P w K mg base f d ["t", "place", "found"] zaL:=zcW rfl fun r ih=>zaQ F sc3 rfl rfl fun _ _ _ _ _ _ hr=>(zaf (zbe (zbE (jv 2) (zaa (jv 1) zac)))
  (zaj (zca (zlW rfl n_e (zag (x0.zg r) hr rfl x0.zm x0.zk x0.zb (zaa (jv 0) zac))) (zgD (zaW (zaq (i:=3) sc3.nd rfl (Or.inl rfl)) (zaW (zaq (i:=4) sc3.nd rfl (Or.inl rfl)) zeu)) (glS (glS gl0))) (zaj (zbe (zag ih hr rfl m F.kp b (zaa (jv 4) (zaa (zbt (jv 1) (zau (zaa (jv 3) zac))) (zaa (jv 2) zac)))))))))
theorem o4{f:Addr}{d:FuncData}(F:Fun K "places" "places" s4 f d) (x3:C3 P w K mg base):Ok P w K mg base f d ["t"] zfr:=zcW rfl fun r ih=>zaQ F sc4 rfl rfl fun _ _ _ _ _ _ hr=>(zaf (zap (i:=1) sc4.nd rfl (Or.inl rfl) (zaN (zaP zac)))
  (zaf (zbe (zag (x3.zg r) hr rfl x3.zm x3.zk x3.zb (zaa (jv 0) (zaa (zau zac) (zaa (jv 1) zac)))))
  (zaj (zao (jv 1)))))
theorem o5{f:Addr}{d:FuncData}(F:Fun K "numbered_part" "numbered_part" s5 f d) (x0:C0 P w K mg base) (n_l:mg "len" =none):Ok P w K mg base f d ["t", "number"] zbA:=zcW rfl fun r ih=>zaQ F sc5 rfl rfl fun _ _ _ _ _ _ hr=>(zaf (zap (i:=2) sc5.nd rfl (Or.inl rfl) (zag (x0.zg r) hr rfl x0.zm x0.zk x0.zb (zaa (jv 0) zac)))
  (zaf (zaX (JW.jt (zsv (zpw (jv 1) zae) (zmx (zyv (jv 1) (zcq rfl n_l (zaa (jv 2) zac)))))) (zaj zgS) zay)
  (zaj (zao (zat (jv 2) (jv 1))))))
theorem o6{f:Addr}{d:FuncData}(F:Fun K "part" "part" s6 f d) (x5:C5 P w K mg base):Ok P w K mg base f d ["t", "place"] zle:=zcW rfl fun r ih=>zaQ F sc6 rfl rfl fun _ _ _ _ _ _ hr=>(zaf (zap (i:=2) sc6.nd rfl (Or.inl rfl) (jv 0))
  (zaf (zca (zbk (jv 1)) (zaq (i:=3) sc6.nd rfl (Or.inl rfl)) (zaj (zap (i:=2) sc6.nd rfl (Or.inl rfl) (zag (x5.zg r) hr rfl x5.zm x5.zk x5.zb (zaa (jv 2) (zaa (jv 3) zac))))))
  (zaj (zao (jv 2)))))
theorem o7{f:Addr}{d:FuncData}(F:Fun K "blank_places" "blank_places" s7 f d) (x4:C4 P w K mg base) (x6:C6 P w K mg base) (n_i:mg "isinstance" =none) (n_n:mg "int" =none):Ok P w K mg base f d ["side"] zbM:=zcW rfl fun r ih=>zaQ F sc7 rfl rfl fun _ _ _ _ _ _ hr=>(zaj (zao (zaN (zcT (N:=["place", "side"]) (k:=1) (fr:=[0]) ⟨rfl,by decide +kernel,rfl,rfl,rfl,rfl,rfl,rfl,rfl⟩ (zbk (zag (x4.zg r) hr rfl x4.zm x4.zk x4.zb (zaa (jv 0) zac))) (fun _ _ _ _=>(zaq (i:=0) (show List.Nodup [("place" :Str),("side" :Str)] from by decide +kernel) rfl (Or.inl rfl))) (fun _ _ _ _=>(zuc (zdU (ziv rfl n_i rfl n_n PyProof.Rows.boot_int (zag (x6.zg r) hr rfl x6.zm x6.zk x6.zb (zaa (jv 1) (zaa (jv 0) zac))) (by decide) (by decide) (zvG _ (by simp)))))) (fun _ _ _ _=>(jv 0))))))
theorem o8{f:Addr}{d:FuncData}(F:Fun K "filled" "filled" s8 f d) (b:Binds K d ["side", "things"] []) (m:mg "filled" =some (.ref f)) (n_i:mg "isinstance" =none) (n_n:mg "int" =none) (n_t:mg "tuple" =none):Ok P w K mg base f d ["side", "things"] zcZ:=zcW rfl fun r ih=>zaQ F sc8 rfl rfl fun _ _ _ _ _ _ hr=>(zaf (zaX (zdU (ziv rfl n_i rfl n_n PyProof.Rows.boot_int (jv 0) (by decide) (by decide) (zvG _ (by simp)))) (zaj (zao (zat (jv 1) (jv 0)))) zay)
  (zaj (zao (zbt (zau (zaa (zat (jv 0) zae) zac)) (zkr rfl n_t (zcT (N:=["inner", "things"]) (k:=1) (fr:=[1]) ⟨rfl,by decide +kernel,rfl,rfl,rfl,rfl,rfl,rfl,rfl⟩ (zbk (zdm (jv 0) (zaF zae) zaU)) (fun _ _ _ _=>(zaq (i:=0) (show List.Nodup [("inner" :Str),("things" :Str)] from by decide +kernel) rfl (Or.inl rfl))) (fun _ _ _ _=>zbB) (fun _ _ _ _=>(zag ih hr rfl m F.kp b (zaa (jv 0) (zaa (jv 1) zac))))))))))
theorem o9{f:Addr}{d:FuncData}(F:Fun K "have_one_top" "have_one_top" s9 f d) (n_l:mg "len" =none):Ok P w K mg base f d ["one", "other"] zbL:=zcW rfl fun r ih=>zaQ F sc9 rfl rfl fun _ _ _ _ _ _ hr=>(zaj (zao (zhB (zrD hr (zat (jv 0) zae) (zat (jv 1) zae)) (zgx (zrD hr (zcq rfl n_l (zaa (jv 0) zac)) (zcq rfl n_l (zaa (jv 1) zac)))))))
theorem o10{f:Addr}{d:FuncData}(F:Fun K "gather_matched" "gather_matched" s10 f d) (x9:C9 P w K mg base) (b:Binds K d ["left", "t", "things"] []) (m:mg "gather_matched" =some (.ref f)) (n_i:mg "isinstance" =none) (n_n:mg "int" =none) (n_z:mg "zip" =none):Ok P w K mg base f d ["left", "t", "things"] zaB:=zcW rfl fun r ih=>zaQ F sc10 rfl rfl fun _ _ _ _ _ _ hr=>(zaf (zaX (zdU (ziv rfl n_i rfl n_n PyProof.Rows.boot_int (jv 0) (by decide) (by decide) (zvG _ (by simp)))) (zaf (zbe (zbE (jv 2) (zaa (jv 1) zac)))
  (zaj (zao zez))) zay)
  (zaf (zaX (znH (zdU (zag (x9.zg r) hr rfl x9.zm x9.zk x9.zb (zaa (jv 0) (zaa (jv 1) zac))))) (zaj (zao zez)) zay)
  (zaf (zca (zna rfl n_z (zdm (jv 0) (zaF zae) zaU) (zdm (jv 1) (zaF zae) zaU)) (zgD (zaW (zaq (i:=3) sc10.nd rfl (Or.inl rfl)) (zaW (zaq (i:=4) sc10.nd rfl (Or.inl rfl)) zeu)) (glS (glS gl0))) (zaj (zaX (znH (zdU (zag ih hr rfl m F.kp b (zaa (jv 3) (zaa (jv 4) (zaa (jv 2) zac)))))) (zaj (zao zez)) zay)))
  (zaj (zao zez)))))
theorem o11{f:Addr}{d:FuncData}(F:Fun K "matched" "matched" s11 f d) (x10:C10 P w K mg base):Ok P w K mg base f d ["left", "t"] zbS:=zcW rfl fun r ih=>zaQ F sc11 rfl rfl fun _ _ _ _ _ _ hr=>(zaf (zap (i:=2) sc11.nd rfl (Or.inl rfl) (zaN (zaP zac)))
  (zaf (zaX (zdU (zag (x10.zg r) hr rfl x10.zm x10.zk x10.zb (zaa (jv 0) (zaa (jv 1) (zaa (jv 2) zac))))) (zaj (zao (jv 2))) zay)
  (zaj (zao zej))))
theorem o12{f:Addr}{d:FuncData}(F:Fun K "are_small_letters" "are_small_letters" s12 f d) (n_a:mg "all" =none):Ok P w K mg base f d ["text"] zaV:=zcW rfl fun r ih=>zaQ F zBp rfl rfl fun _ _ _ _ _ _ hr=>(zaj (zao (zlm rfl n_a (zcT (N:=["letter"]) (k:=1) (fr:=[]) ⟨rfl,by decide +kernel,rfl,rfl,rfl,rfl,rfl,rfl,rfl⟩ (zbk (jv 0)) (fun _ _ _ _=>(zaq (i:=0) (show List.Nodup [("letter" :Str)] from by decide +kernel) rfl (Or.inl rfl))) (fun _ _ _ _=>zbB) (fun _ _ _ _=>(zqt zkE (jv 0) zkE))))))
theorem o13{f:Addr}{d:FuncData}(F:Fun K "is_sign" "is_sign" s13 f d) (x12:C12 P w K mg base) (n_l:mg "len" =none) {t_MOST_LETTERS:Tok}(g_MOST_LETTERS:mg "MOST_LETTERS" =some (.int 8 t_MOST_LETTERS)):Ok P w K mg base f d ["text"] zet:=zcW rfl fun r ih=>zaQ F zAy rfl rfl fun _ _ _ _ _ _ hr=>(zaj (zao (zhB (zqt zae (zcq rfl n_l (zaa (jv 0) zac)) (zdH rfl g_MOST_LETTERS)) (zgx (zag (x12.zg r) hr rfl x12.zm x12.zk x12.zb (zaa (jv 0) zac))))))
theorem o14{f:Addr}{d:FuncData}(F:Fun K "turning_of" "turning_of" s14 f d):Ok P w K mg base f d ["book", "title"] zaT:=zcW rfl fun r ih=>zaQ F sc14 rfl rfl fun _ _ _ _ _ _ hr=>(zaf (zca (zbk (jv 0)) (zaq (i:=2) sc14.nd rfl (Or.inl rfl)) (zaj (zaX (zeP hr (zat (jv 2) zae) (jv 1)) (zaj (zao (jv 2))) zay)))
  (zaj (zao zej)))
theorem o15{f:Addr}{d:FuncData}(F:Fun K "is_quiet" "is_quiet" s15 f d) (x13:C13 P w K mg base) (b:Binds K d ["way"] []) (m:mg "is_quiet" =some (.ref f)) (n_a:mg "all" =none):Ok P w K mg base f d ["way"] zcz:=zcW rfl fun r ih=>zaQ F zAL rfl rfl fun _ _ _ _ _ _ hr=>(zaj (zao (zhB (zag (x13.zg r) hr rfl x13.zm x13.zk x13.zb (zaa (zat (jv 0) zae) zac)) (zgx (zlm rfl n_a (zcT (N:=["inner"]) (k:=1) (fr:=[]) ⟨rfl,by decide +kernel,rfl,rfl,rfl,rfl,rfl,rfl,rfl⟩ (zbk (zdm (jv 0) (zaF zae) zaU)) (fun _ _ _ _=>(zaq (i:=0) (show List.Nodup [("inner" :Str)] from by decide +kernel) rfl (Or.inl rfl))) (fun _ _ _ _=>zbB) (fun _ _ _ _=>(zag ih hr rfl m F.kp b (zaa (jv 0) zac)))))))))
theorem o16{f:Addr}{d:FuncData}(F:Fun K "only_small" "only_small" s16 f d) (x2:C2 P w K mg base):Ok P w K mg base f d ["shape"] zbC:=zcW rfl fun r ih=>zaQ F zBh rfl rfl fun _ _ _ _ _ _ hr=>(zaf (zaX (znH (zdU (zag (x2.zg r) hr rfl x2.zm x2.zk x2.zb (zaa (jv 0) zac)))) (zaj zgS) zay)
  (zaj (zao (jv 0))))
theorem o17{f:Addr}{d:FuncData}(F:Fun K "with_sides" "with_sides" s17 f d) (x14:C14 P w K mg base) (x8:C8 P w K mg base) (b:Binds K d ["book", "way", "side"] []) (m:mg "with_sides" =some (.ref f)) (n_t:mg "tuple" =none):Ok P w K mg base f d ["book", "way", "side"] zcb:=zcW rfl fun r ih=>zaQ F sc17 rfl rfl fun _ _ _ _ _ _ hr=>(zaf (zgk (i:=3) (N:=["inner", "book", "side"]) (k:=1) (fr:=[0,2]) sc17.nd rfl (Or.inl rfl) ⟨rfl,by decide +kernel,rfl,rfl,rfl,rfl,rfl,rfl,rfl⟩ (zbk (zdm (jv 1) (zaF zae) zaU)) (fun _ _ _ _=>(zaq (i:=0) (show List.Nodup [("inner" :Str),("book" :Str),("side" :Str)] from by decide +kernel) rfl (Or.inl rfl))) (fun _ _ _ _=>zbB) (fun _ _ _ _=>(zag ih hr rfl m F.kp b (zaa (jv 1) (zaa (jv 0) (zaa (jv 2) zac))))))
  (zaf (zap (i:=4) sc17.nd rfl (Or.inl rfl) (zag (x14.zg r) hr rfl x14.zm x14.zk x14.zb (zaa (jv 0) (zaa (zat (jv 1) zae) zac))))
  (zaf (zaX (zpA (jv 4) zej) (zaj (zao (zbt (zau (zaa (zat (jv 1) zae) zac)) (zeg rfl n_t (zaa (jv 3) zac))))) zay)
  (zaj (zao (zag (x8.zg r) hr rfl x8.zm x8.zk x8.zb (zaa (zat (jv 4) (jv 2)) (zaa (jv 3) zac))))))))
theorem o18{f:Addr}{d:FuncData}(F:Fun K "goal" "goal" s18 f d) (x16:C16 P w K mg base) (x17:C17 P w K mg base) {t_RIGHT:Tok}(g_RIGHT:mg "RIGHT" =some (.int 2 t_RIGHT)):Ok P w K mg base f d ["book", "way"] zhC:=zcW rfl fun r ih=>zaQ F zBm rfl rfl fun _ _ _ _ _ _ hr=>(zaj (zao (zag (x16.zg r) hr rfl x16.zm x16.zk x16.zb (zaa (zag (x17.zg r) hr rfl x17.zm x17.zk x17.zb (zaa (jv 0) (zaa (jv 1) (zaa (zdH rfl g_RIGHT) zac)))) zac))))
theorem o19{f:Addr}{d:FuncData}(F:Fun K "part_places" "part_places" s19 f d) (x14:C14 P w K mg base) (x7:C7 P w K mg base) (n_r:mg "range" =none) (n_l:mg "len" =none) {t_LEFT:Tok}(g_LEFT:mg "LEFT" =some (.int 1 t_LEFT)):Ok P w K mg base f d ["book", "way"] zbH:=zcW rfl fun r ih=>zaQ F sc19 rfl rfl fun _ _ _ _ _ _ hr=>(zaf (zap (i:=2) sc19.nd rfl (Or.inl rfl) (zag (x14.zg r) hr rfl x14.zm x14.zk x14.zb (zaa (jv 0) (zaa (zat (jv 1) zae) zac))))
  (zaf (zaX (zpA (jv 2) zej) (zaj (zao (zaN (zcT (N:=["number"]) (k:=1) (fr:=[]) ⟨rfl,by decide +kernel,rfl,rfl,rfl,rfl,rfl,rfl,rfl⟩ (zfq rfl n_r (zaa (znR (zcq rfl n_l (zaa (jv 1) zac)) zae) zac)) (fun _ _ _ _=>(zaq (i:=0) (show List.Nodup [("number" :Str)] from by decide +kernel) rfl (Or.inl rfl))) (fun _ _ _ _=>zbB) (fun _ _ _ _=>(zau (zaa (jv 0) zac))))))) zay)
  (zaj (zao (zag (x7.zg r) hr rfl x7.zm x7.zk x7.zb (zaa (zat (jv 2) (zdH rfl g_LEFT)) zac))))))
theorem o20{f:Addr}{d:FuncData}(F:Fun K "open_turning" "open_turning" s20 f d) (x11:C11 P w K mg base) {t_LEFT:Tok}(g_LEFT:mg "LEFT" =some (.int 1 t_LEFT)):Ok P w K mg base f d ["book", "shape"] zbv:=zcW rfl fun r ih=>zaQ F sc20 rfl rfl fun _ _ _ _ _ _ hr=>(zaf (zca (zbk (jv 0)) (zaq (i:=2) sc20.nd rfl (Or.inl rfl)) (zaj (zaX (zdZ (zag (x11.zg r) hr rfl x11.zm x11.zk x11.zb (zaa (zat (jv 2) (zdH rfl g_LEFT)) (zaa (jv 1) zac))) zej) (zaj (zao (jv 2))) zay)))
  (zaj (zao zej)))
theorem o21{f:Addr}{d:FuncData}(F:Fun K "gather_open" "gather_open" s21 f d) (x20:C20 P w K mg base) (b:Binds K d ["book", "shape", "place", "found"] []) (m:mg "gather_open" =some (.ref f)) (n_e:mg "enumerate" =none):Ok P w K mg base f d ["book", "shape", "place", "found"] zbm:=zcW rfl fun r ih=>zaQ F sc21 rfl rfl fun _ _ _ _ _ _ hr=>(zaf (zap (i:=4) sc21.nd rfl (Or.inl rfl) (zag (x20.zg r) hr rfl x20.zm x20.zk x20.zb (zaa (jv 0) (zaa (jv 1) zac))))
  (zaf (zaX (zdZ (jv 4) zej) (zaj (zbe (zbE (jv 3) (zaa (zau (zaa (jv 2) (zaa (zat (jv 4) zae) zac))) zac)))) zay)
  (zaj (zca (zlW rfl n_e (zdm (jv 1) (zaF zae) zaU)) (zgD (zaW (zaq (i:=5) sc21.nd rfl (Or.inl rfl)) (zaW (zaq (i:=6) sc21.nd rfl (Or.inl rfl)) zeu)) (glS (glS gl0))) (zaj (zbe (zag ih hr rfl m F.kp b (zaa (jv 0) (zaa (jv 6) (zaa (zbt (jv 2) (zau (zaa (jv 5) zac))) (zaa (jv 3) zac)))))))))))
theorem o22{f:Addr}{d:FuncData}(F:Fun K "open_uses" "open_uses" s22 f d) (x21:C21 P w K mg base):Ok P w K mg base f d ["book", "shape"] zcA:=zcW rfl fun r ih=>zaQ F sc22 rfl rfl fun _ _ _ _ _ _ hr=>(zaf (zap (i:=2) sc22.nd rfl (Or.inl rfl) (zaN (zaP zac)))
  (zaf (zbe (zag (x21.zg r) hr rfl x21.zm x21.zk x21.zb (zaa (jv 0) (zaa (jv 1) (zaa (zau zac) (zaa (jv 2) zac))))))
  (zaj (zao (jv 2)))))
theorem o23{f:Addr}{d:FuncData}(F:Fun K "places_of" "places_of" s23 f d):Ok P w K mg base f d ["pairs"] zdj:=zcW rfl fun r ih=>zaQ F zAJ rfl rfl fun _ _ _ _ _ _ hr=>(zaj (zao (zaN (zcT (N:=["pair"]) (k:=1) (fr:=[]) ⟨rfl,by decide +kernel,rfl,rfl,rfl,rfl,rfl,rfl,rfl⟩ (zbk (jv 0)) (fun _ _ _ _=>(zaq (i:=0) (show List.Nodup [("pair" :Str)] from by decide +kernel) rfl (Or.inl rfl))) (fun _ _ _ _=>zbB) (fun _ _ _ _=>(zat (jv 0) zae))))))
theorem o24{f:Addr}{d:FuncData}(F:Fun K "turned_top" "turned_top" s24 f d) (x20:C20 P w K mg base) (x11:C11 P w K mg base) (n_t:mg "tuple" =none) {t_LEFT:Tok}(g_LEFT:mg "LEFT" =some (.int 1 t_LEFT)):Ok P w K mg base f d ["book", "shape"] zcJ:=zcW rfl fun r ih=>zaQ F sc24 rfl rfl fun _ _ _ _ _ _ hr=>(zaf (zap (i:=2) sc24.nd rfl (Or.inl rfl) (zag (x20.zg r) hr rfl x20.zm x20.zk x20.zb (zaa (jv 0) (zaa (jv 1) zac))))
  (zaj (zao (zbt (zau (zaa (zat (jv 2) zae) zac)) (zeg rfl n_t (zaa (zag (x11.zg r) hr rfl x11.zm x11.zk x11.zb (zaa (zat (jv 2) (zdH rfl g_LEFT)) (zaa (jv 1) zac))) zac))))))
theorem o25{f:Addr}{d:FuncData}(F:Fun K "way_within" "way_within" s25 f d) (x24:C24 P w K mg base) (x19:C19 P w K mg base) (b:Binds K d ["book", "shape", "place", "wanted"] []) (m:mg "way_within" =some (.ref f)) (n_z:mg "zip" =none) (n_t:mg "tuple" =none):Ok P w K mg base f d ["book", "shape", "place", "wanted"] zaR:=zcW rfl fun r ih=>zaQ F sc25 rfl rfl fun _ _ _ _ _ _ hr=>(zaf (zap (i:=4) sc25.nd rfl (Or.inl rfl) (zzT (zvK hr (jv 2) (jv 3)) (zag (x24.zg r) hr rfl x24.zm x24.zk x24.zb (zaa (jv 0) (zaa (jv 1) zac))) (jv 1)))
  (zaf (zap (i:=5) sc25.nd rfl (Or.inl rfl) (zaN (zaP zac)))
  (zaf (zca (zna rfl n_z (zag (x19.zg r) hr rfl x19.zm x19.zk x19.zb (zaa (jv 0) (zaa (jv 4) zac))) (zdm (jv 4) (zaF zae) zaU)) (zgD (zaW (zaq (i:=6) sc25.nd rfl (Or.inl rfl)) (zaW (zaq (i:=7) sc25.nd rfl (Or.inl rfl)) zeu)) (glS (glS gl0))) (zaj (zbe (zbE (jv 5) (zaa (zag ih hr rfl m F.kp b (zaa (jv 0) (zaa (jv 7) (zaa (zbt (jv 2) (jv 6)) (zaa (jv 3) zac))))) zac)))))
  (zaj (zao (zbt (zau (zaa (zat (jv 4) zae) zac)) (zeg rfl n_t (zaa (jv 5) zac))))))))
theorem o26{f:Addr}{d:FuncData}(F:Fun K "way_with" "way_with" s26 f d) (x25:C25 P w K mg base) (n_d:mg "dict" =none):Ok P w K mg base f d ["book", "shape", "places"] zdL:=zcW rfl fun r ih=>zaQ F zAs rfl rfl fun _ _ _ _ _ _ hr=>(zaj (zao (zag (x25.zg r) hr rfl x25.zm x25.zk x25.zb (zaa (jv 0) (zaa (jv 1) (zaa (zau zac) (zaa (zrq hr rfl n_d (zcT (N:=["place"]) (k:=1) (fr:=[]) ⟨rfl,by decide +kernel,rfl,rfl,rfl,rfl,rfl,rfl,rfl⟩ (zbk (jv 2)) (fun _ _ _ _=>(zaq (i:=0) (show List.Nodup [("place" :Str)] from by decide +kernel) rfl (Or.inl rfl))) (fun _ _ _ _=>zbB) (fun _ _ _ _=>(zau (zaa (jv 0) (zaa zez zac)))))) zac)))))))
theorem o27{f:Addr}{d:FuncData}(F:Fun K "way_of" "way_of" s27 f d) (x23:C23 P w K mg base) (x26:C26 P w K mg base) (x22:C22 P w K mg base):Ok P w K mg base f d ["book", "shape", "places"] zfN:=zcW rfl fun r ih=>zaQ F sc27 rfl rfl fun _ _ _ _ _ _ hr=>(zaf (zap (i:=3) sc27.nd rfl (Or.inl rfl) (zag (x23.zg r) hr rfl x23.zm x23.zk x23.zb (zaa (zag (x22.zg r) hr rfl x22.zm x22.zk x22.zb (zaa (jv 0) (zaa (jv 1) zac))) zac)))
  (zaf (zca (zbk (jv 2)) (zaq (i:=4) sc27.nd rfl (Or.inl rfl)) (zaj (zaX (zrP hr (jv 4) (jv 3)) (zaj zgS) zay)))
  (zaj (zao (zag (x26.zg r) hr rfl x26.zm x26.zk x26.zb (zaa (jv 0) (zaa (jv 1) (zaa (jv 2) zac))))))))
theorem o28{f:Addr}{d:FuncData}(F:Fun K "moved" "moved" s28 f d) (x14:C14 P w K mg base) (x8:C8 P w K mg base) (x11:C11 P w K mg base) (b:Binds K d ["book", "way", "other"] []) (m:mg "moved" =some (.ref f)) (n_z:mg "zip" =none) (n_t:mg "tuple" =none) {t_RIGHT:Tok}(g_RIGHT:mg "RIGHT" =some (.int 2 t_RIGHT)) {t_LEFT:Tok}(g_LEFT:mg "LEFT" =some (.int 1 t_LEFT)):Ok P w K mg base f d ["book", "way", "other"] zcR:=zcW rfl fun r ih=>zaQ F sc28 rfl rfl fun _ _ _ _ _ _ hr=>(zaf (zap (i:=3) sc28.nd rfl (Or.inl rfl) (zag (x14.zg r) hr rfl x14.zm x14.zk x14.zb (zaa (jv 0) (zaa (zat (jv 1) zae) zac))))
  (zaf (zap (i:=4) sc28.nd rfl (Or.inl rfl) (zag (x14.zg r) hr rfl x14.zm x14.zk x14.zb (zaa (jv 0) (zaa (zat (jv 2) zae) zac))))
  (zaf (zap (i:=5) sc28.nd rfl (Or.inl rfl) (zdm (jv 1) (zaF zae) zaU))
  (zaf (zap (i:=6) sc28.nd rfl (Or.inl rfl) (zdm (jv 2) (zaF zae) zaU))
  (zaf (zaX (JW.jt (ziH (zpA (jv 3) zej) (zge (zdZ (jv 4) zej)))) (zaj (zap (i:=5) sc28.nd rfl (Or.inl rfl) (zag (x11.zg r) hr rfl x11.zm x11.zk x11.zb (zaa (zat (jv 4) (zdH rfl g_LEFT)) (zaa (jv 1) zac))))) zay)
  (zaf (zaX (JW.jt (ziH (zdZ (jv 3) zej) (zge (zpA (jv 4) zej)))) (zaj (zap (i:=6) sc28.nd rfl (Or.inl rfl) (zag (x11.zg r) hr rfl x11.zm x11.zk x11.zb (zaa (zat (jv 3) (zdH rfl g_LEFT)) (zaa (jv 2) zac))))) zay)
  (zaf (zgk (i:=7) (N:=["inner", "outer", "book"]) (k:=2) (fr:=[0]) sc28.nd rfl (Or.inl rfl) ⟨rfl,by decide +kernel,rfl,rfl,rfl,rfl,rfl,rfl,rfl⟩ (zna rfl n_z (jv 5) (jv 6)) (fun _ _ _ _=>(zgD (zaW (zaq (i:=0) (show List.Nodup [("inner" :Str),("outer" :Str),("book" :Str)] from by decide +kernel) rfl (Or.inl rfl)) (zaW (zaq (i:=1) (show List.Nodup [("inner" :Str),("outer" :Str),("book" :Str)] from by decide +kernel) rfl (Or.inl rfl)) zeu)) (glS (glS gl0)))) (fun _ _ _ _=>zbB) (fun _ _ _ _=>(zag ih hr rfl m F.kp b (zaa (jv 2) (zaa (jv 0) (zaa (jv 1) zac))))))
  (zaf (zaX (zpA (jv 4) zej) (zaj (zao (zbt (zau (zaa (zat (jv 1) zae) zac)) (zeg rfl n_t (zaa (jv 7) zac))))) zay)
  (zaj (zao (zag (x8.zg r) hr rfl x8.zm x8.zk x8.zb (zaa (zat (jv 4) (zdH rfl g_RIGHT)) (zaa (jv 7) zac)))))))))))))
theorem o29{f:Addr}{d:FuncData}(F:Fun K "check_goals" "check_goals" s29 f d) (x18:C18 P w K mg base):Ok P w K mg base f d ["book", "ways"] zbp:=zcW rfl fun r ih=>zaQ F sc29 rfl rfl fun _ _ _ _ _ _ hr=>(zaj (zca (zbk (jv 1)) (zaq (i:=2) sc29.nd rfl (Or.inl rfl)) (zaj (zbe (zag (x18.zg r) hr rfl x18.zm x18.zk x18.zb (zaa (jv 0) (zaa (jv 2) zac)))))))
theorem o30{f:Addr}{d:FuncData}(F:Fun K "moved_along" "moved_along" s30 f d) (x28:C28 P w K mg base) (x29:C29 P w K mg base):Ok P w K mg base f d ["book", "way", "ways"] zck:=zcW rfl fun r ih=>by
  refine zaQ F sc30 rfl rfl fun _ _ _ _ _ _ hr=>?_;delta zcn zbu zbs zbr zcd zci;delta zcg;delta zcn zbu zbs zbr zcd zci;exact(zaf (zap (i:=3) sc30.nd rfl (Or.inl rfl) (zaN (zaP (zaa (jv 1) zac))))
  (zaf (zca (zbk (jv 2)) (zaq (i:=4) sc30.nd rfl (Or.inl rfl)) (zaf (zap (i:=5) sc30.nd rfl (Or.inl rfl) (zag (x28.zg r) hr rfl x28.zm x28.zk x28.zb (zaa (jv 0) (zaa (zat (jv 3) (zeC zae)) (zaa (jv 4) zac)))))
  (zaf (zbe (zag (x29.zg r) hr rfl x29.zm x29.zk x29.zb (zaa (jv 0) (zaa (zaN (zaP (zaa (jv 5) zac))) zac))))
  (zaj (zbe (zbE (jv 3) (zaa (jv 5) zac)))))))
  (zaj (zao (jv 3)))))
theorem o31{f:Addr}{d:FuncData}(F:Fun K "grid" "grid" s31 f d) (x16:C16 P w K mg base) (x29:C29 P w K mg base) (x30:C30 P w K mg base) (x28:C28 P w K mg base) (n_s:mg "list" =none) (n_z:mg "zip" =none):Ok P w K mg base f d ["book", "road", "other"] zhx:=zcW rfl fun r ih=>by
  refine zaQ F sc31 rfl rfl fun _ _ _ _ _ _ hr=>?_;delta zgN zer zey zev zeq zgJ zga zfC zfT zfR zfB zfV zfZ;delta zgK;delta zgN zer zey zev zeq zgJ zga zfC zfT zfR zfB zfV zfZ;exact(zaf (zaX (zvb hr (zat (jv 1) zae) (zat (jv 2) zae)) (zaj zgS) zay)
  (zaf (zbe (zag (x16.zg r) hr rfl x16.zm x16.zk x16.zb (zaa (zat (jv 1) zae) zac)))
  (zaf (zbe (zag (x29.zg r) hr rfl x29.zm x29.zk x29.zb (zaa (jv 0) (zaa (zat (jv 1) zae) zac))))
  (zaf (zbe (zag (x29.zg r) hr rfl x29.zm x29.zk x29.zb (zaa (jv 0) (zaa (zat (jv 2) zae) zac))))
  (zaf (zap (i:=3) sc31.nd rfl (Or.inl rfl) (zaN (zaP zac)))
  (zaf (zap (i:=4) sc31.nd rfl (Or.inl rfl) (zaN (zux rfl n_s (zat (jv 2) zae))))
  (zaf (zap (i:=5) sc31.nd rfl (Or.inl rfl) (zaN (zaP (zaa (jv 4) zac))))
  (zaf (zca (zbk (zat (jv 1) zae)) (zaq (i:=6) sc31.nd rfl (Or.inl rfl)) (zaf (zap (i:=7) sc31.nd rfl (Or.inl rfl) (zag (x30.zg r) hr rfl x30.zm x30.zk x30.zb (zaa (jv 0) (zaa (jv 6) (zaa (jv 4) zac)))))
  (zaf (zgk (i:=4) (N:=["over", "down", "book"]) (k:=2) (fr:=[0]) sc31.nd rfl (Or.inl rfl) ⟨rfl,by decide +kernel,rfl,rfl,rfl,rfl,rfl,rfl,rfl⟩ (zna rfl n_z (jv 4) (jv 7)) (fun _ _ _ _=>(zgD (zaW (zaq (i:=0) (show List.Nodup [("over" :Str),("down" :Str),("book" :Str)] from by decide +kernel) rfl (Or.inl rfl)) (zaW (zaq (i:=1) (show List.Nodup [("over" :Str),("down" :Str),("book" :Str)] from by decide +kernel) rfl (Or.inl rfl)) zeu)) (glS (glS gl0)))) (fun _ _ _ _=>zbB) (fun _ _ _ _=>(zag (x28.zg r) hr rfl x28.zm x28.zk x28.zb (zaa (jv 2) (zaa (jv 0) (zaa (jv 1) zac))))))
  (zaf (zbe (zbE (jv 3) (zaa (jv 7) zac)))
  (zaj (zbe (zbE (jv 5) (zaa (jv 4) zac))))))))
  (zaj (zao (zau (zaa (jv 3) (zaa (jv 5) zac)))))))))))))
theorem o32{f:Addr}{d:FuncData}(F:Fun K "road_joined" "road_joined" s32 f d) (x31:C31 P w K mg base):Ok P w K mg base f d ["book", "road", "other"] zaC:=zcW rfl fun r ih=>by
  refine zaQ F sc32 rfl rfl fun _ _ _ _ _ _ hr=>?_;delta zdk zdv;exact(zaf (zap (i:=3) sc32.nd rfl (Or.inl rfl) (zat (zag (x31.zg r) hr rfl x31.zm x31.zk x31.zb (zaa (jv 0) (zaa (jv 1) (zaa (jv 2) zac)))) zae))
  (zaj (zao (zau (zaa (zat (jv 1) zae) (zaa (zbt (zat (jv 1) zae) (zat (jv 3) (zeC zae))) zac))))))
theorem o33{f:Addr}{d:FuncData}(F:Fun K "are_quiet" "are_quiet" s33 f d) (x15:C15 P w K mg base) (n_a:mg "all" =none):Ok P w K mg base f d ["ways"] zbV:=zcW rfl fun r ih=>zaQ F zAj rfl rfl fun _ _ _ _ _ _ hr=>(zaj (zao (zlm rfl n_a (zcT (N:=["way"]) (k:=1) (fr:=[]) ⟨rfl,by decide +kernel,rfl,rfl,rfl,rfl,rfl,rfl,rfl⟩ (zbk (jv 0)) (fun _ _ _ _=>(zaq (i:=0) (show List.Nodup [("way" :Str)] from by decide +kernel) rfl (Or.inl rfl))) (fun _ _ _ _=>zbB) (fun _ _ _ _=>(zag (x15.zg r) hr rfl x15.zm x15.zk x15.zb (zaa (jv 0) zac)))))))
theorem o34{f:Addr}{d:FuncData}(F:Fun K "last_downs" "last_downs" s34 f d):Ok P w K mg base f d ["downs_and_overs"] zbZ:=zcW rfl fun r ih=>zaQ F zBq rfl rfl fun _ _ _ _ _ _ hr=>(zaj (zao (zaN (zcT (N:=["line"]) (k:=1) (fr:=[]) ⟨rfl,by decide +kernel,rfl,rfl,rfl,rfl,rfl,rfl,rfl⟩ (zbk (zat (jv 0) zae)) (fun _ _ _ _=>(zaq (i:=0) (show List.Nodup [("line" :Str)] from by decide +kernel) rfl (Or.inl rfl))) (fun _ _ _ _=>zbB) (fun _ _ _ _=>(zat (jv 0) (zeC zae)))))))
theorem o35{f:Addr}{d:FuncData}(F:Fun K "within" "within" s35 f d) (x33:C33 P w K mg base) (x34:C34 P w K mg base) (x31:C31 P w K mg base):Ok P w K mg base f d ["book", "road", "other"] zbn:=zcW rfl fun r ih=>zaQ F zAo rfl rfl fun _ _ _ _ _ _ hr=>(zaj (zao (zag (x33.zg r) hr rfl x33.zm x33.zk x33.zb (zaa (zag (x34.zg r) hr rfl x34.zm x34.zk x34.zb (zaa (zag (x31.zg r) hr rfl x31.zm x31.zk x31.zb (zaa (jv 0) (zaa (jv 1) (zaa (jv 2) zac)))) zac)) zac))))
theorem o36{f:Addr}{d:FuncData}(F:Fun K "alike" "alike" s36 f d) (x31:C31 P w K mg base) (x33:C33 P w K mg base) (x34:C34 P w K mg base):Ok P w K mg base f d ["book", "road", "other"] zen:=zcW rfl fun r ih=>by
  refine zaQ F sc36 rfl rfl fun _ _ _ _ _ _ hr=>?_;delta zhq zhZ;exact(zaf (zap (i:=3) sc36.nd rfl (Or.inl rfl) (zag (x31.zg r) hr rfl x31.zm x31.zk x31.zb (zaa (jv 0) (zaa (jv 1) (zaa (jv 2) zac)))))
  (zaj (zao (zhB (zag (x33.zg r) hr rfl x33.zm x33.zk x33.zb (zaa (zag (x34.zg r) hr rfl x34.zm x34.zk x34.zb (zaa (jv 3) zac)) zac)) (zgx (zag (x33.zg r) hr rfl x33.zm x33.zk x33.zb (zaa (zat (zat (jv 3) zae) (zeC zae)) zac)))))))
theorem o37{f:Addr}{d:FuncData}(F:Fun K "_law_cell" "_law_cell" s37 f d) (n_l:mg "len" =none):Ok P w K mg base f d ["script", "k"] zav:=zcW rfl fun r ih=>zaQ F zBj rfl rfl fun _ _ _ _ _ _ hr=>(zaf (zaX (zpw (jv 1) (zcq rfl n_l (zaa (jv 0) zac))) (zaj (zao (zat (jv 0) (jv 1)))) zay)
  (zaj (zao zae)))
theorem o38{f:Addr}{d:FuncData}(F:Fun K "_law_words" "_law_words" s38 f d) (n_r:mg "range" =none) (n_l:mg "len" =none) (n_n:mg "int" =none):Ok P w K mg base f d ["one", "two", "great"] zaS:=zcW rfl fun r ih=>zaQ F sc38 rfl rfl fun _ _ _ _ _ _ hr=>(zaf (zap (i:=3) sc38.nd rfl (Or.inr rfl) zkE)
  (zaf (zap (i:=4) sc38.nd rfl (Or.inl rfl) (zcr (jv 1) (zyg zae zae)))
  (zaf (zap (i:=5) sc38.nd rfl (Or.inr rfl) (zaN (zaP zac)))
  (zaf (zca (zfq rfl n_r (zaa (zbt zae (zcr (jv 0) zae)) zac)) (zaq (i:=6) sc38.nd rfl (Or.inr rfl)) (zaf (zbe (zbE (jv 5) (zaa (zcr (jv 4) zae) zac)))
  (zaj (zap (i:=4) sc38.nd rfl (Or.inl rfl) (zcU (jv 4) zae)))))
  (zaf (zap (i:=7) sc38.nd rfl (Or.inr rfl) (zcr (zcU (jv 0) zae) (zcq rfl n_l (zaa (jv 5) zac))))
  (zaf (zap (i:=8) sc38.nd rfl (Or.inl rfl) (zaN (zaP zac)))
  (zaf (zca (zfq rfl n_r (zaa zae zac)) (zaq (i:=6) sc38.nd rfl (Or.inr rfl)) (zaf (zap (i:=9) sc38.nd rfl (Or.inl rfl) (zrZ zkE (zcT (N:=["j", "signs", "base", "k", "at"]) (k:=1) (fr:=[3,5,6,7]) ⟨rfl,by decide +kernel,rfl,rfl,rfl,rfl,rfl,rfl,rfl⟩ (zfq rfl n_r (zaa (zcq rfl n_l (zaa (jv 5) zac)) zac)) (fun _ _ _ _=>(zaq (i:=0) (show List.Nodup [("j" :Str),("signs" :Str),("base" :Str),("k" :Str),("at" :Str)] from by decide +kernel) rfl (Or.inl rfl))) (fun _ _ _ _=>zbB) (fun _ _ _ _=>(zat (jv 1) (zcr (zbt (zat (jv 2) (jv 0)) (zti (jv 3) (zrj rfl n_n (zaa (zrD hr (jv 0) (jv 4)) zac)))) zae))))))
  (zaf (zaX (zdU (jv 2)) (zaj (zap (i:=9) sc38.nd rfl (Or.inl rfl) (zbt (zsf (zat (jv 9) zae)) (zdm (jv 9) (zaF zae) zaU)))) zay)
  (zaj (zbe (zbE (jv 8) (zaa (jv 9) zac)))))))
  (zaf (zaX (JW.jt (ziH (zeP hr (zcr (zcU (jv 0) zae) zae) zae) (zge (znH (zdU (jv 2)))))) (zaj (zap (i:=8) sc38.nd rfl (Or.inl rfl) (zaN (zlJ (zui (jv 8) zaU (zaF zae)) (zaP (zaa (zat (jv 8) zae) (zaa (zat (jv 8) zae) (zaa (zat (jv 8) zae) zac)))))))) zay)
  (zaj (zao (jv 8)))))))))))
theorem o39{f:Addr}{d:FuncData}(F:Fun K "_law_count" "_law_count" s39 f d) (b:Binds K d ["side"] []) (m:mg "_law_count" =some (.ref f)) (n_i:mg "isinstance" =none) (n_n:mg "int" =none) (n_u:mg "sum" =none):Ok P w K mg base f d ["side"] zaA:=zcW rfl fun r ih=>zaQ F zAp rfl rfl fun _ _ _ _ _ _ hr=>(zaf (zaX (zdU (ziv rfl n_i rfl n_n PyProof.Rows.boot_int (jv 0) (by decide) (by decide) (zvG _ (by simp)))) (zaj (zao zae)) zay)
  (zaj (zao (zvA rfl n_u (zcT (N:=["one"]) (k:=1) (fr:=[]) ⟨rfl,by decide +kernel,rfl,rfl,rfl,rfl,rfl,rfl,rfl⟩ (zbk (zdm (jv 0) (zaF zae) zaU)) (fun _ _ _ _=>(zaq (i:=0) (show List.Nodup [("one" :Str)] from by decide +kernel) rfl (Or.inl rfl))) (fun _ _ _ _=>zbB) (fun _ _ _ _=>(zag ih hr rfl m F.kp b (zaa (jv 0) zac))))))))
theorem o40{f:Addr}{d:FuncData}(F:Fun K "_law_filled" "_law_filled" s40 f d) (b:Binds K d ["side", "things"] []) (m:mg "_law_filled" =some (.ref f)) (n_i:mg "isinstance" =none) (n_n:mg "int" =none) (n_t:mg "tuple" =none):Ok P w K mg base f d ["side", "things"] zbb:=zcW rfl fun r ih=>zaQ F zBr rfl rfl fun _ _ _ _ _ _ hr=>(zaf (zaX (zdU (ziv rfl n_i rfl n_n PyProof.Rows.boot_int (jv 0) (by decide) (by decide) (zvG _ (by simp)))) (zaj (zao (zat (jv 1) (jv 0)))) zay)
  (zaj (zao (zbt (zdm (jv 0) zaU (zaF zae)) (zkr rfl n_t (zcT (N:=["one", "things"]) (k:=1) (fr:=[1]) ⟨rfl,by decide +kernel,rfl,rfl,rfl,rfl,rfl,rfl,rfl⟩ (zbk (zdm (jv 0) (zaF zae) zaU)) (fun _ _ _ _=>(zaq (i:=0) (show List.Nodup [("one" :Str),("things" :Str)] from by decide +kernel) rfl (Or.inl rfl))) (fun _ _ _ _=>zbB) (fun _ _ _ _=>(zag ih hr rfl m F.kp b (zaa (jv 0) (zaa (jv 1) zac))))))))))
theorem o41{f:Addr}{d:FuncData}(F:Fun K "_law_item" "_law_item" s41 f d):Ok P w K mg base f d ["draw", "many", "w"] zcw:=zcW rfl fun r ih=>zaQ F zBk rfl rfl fun _ _ _ _ _ _ hr=>(zaf (zaX (JW.jt (ziH (zkm (jv 1) zae) (zge (zkm (zcr (jv 0) zae) zae)))) (zaj (zao (zcr (zcU (jv 0) zae) (jv 1)))) zay)
  (zaj (zao (zau (zaa (zat (jv 2) (zmI (zaP (zaa zae (zaa zae zac))) (zcr (zcU (jv 0) zae) zae))) zac)))))
theorem o42{f:Addr}{d:FuncData}(F:Fun K "_law_right" "_law_right" s42 f d) (x41:C41 P w K mg base):Ok P w K mg base f d ["draw", "many", "w"] zcO:=zcW rfl fun r ih=>zaQ F sc42 rfl rfl fun _ _ _ _ _ _ hr=>(zaf (zap (i:=3) sc42.nd rfl (Or.inl rfl) (zag (x41.zg r) hr rfl x41.zm x41.zk x41.zb (zaa (zcU (jv 0) zae) (zaa (jv 1) (zaa (jv 2) zac)))))
  (zaf (zap (i:=4) sc42.nd rfl (Or.inl rfl) (zag (x41.zg r) hr rfl x41.zm x41.zk x41.zb (zaa (zcU (jv 0) zae) (zaa (jv 1) (zaa (jv 2) zac)))))
  (zaf (zap (i:=5) sc42.nd rfl (Or.inl rfl) (zcr (jv 0) zae))
  (zaf (zaX (zeP hr (jv 5) zae) (zaj (zao (jv 3))) zay)
  (zaf (zaX (JW.jt (zsv (zeP hr (jv 5) zae) (zmx (zeP hr (jv 1) zae)))) (zaj (zao (zau (zaa (zat (jv 2) zae) (zaa (jv 3) zac))))) zay)
  (zaf (zaX (zeP hr (jv 5) zae) (zaj (zao (zau (zaa (zat (jv 2) zae) (zaa (jv 3) (zaa (jv 4) zac)))))) zay)
  (zaf (zaX (zeP hr (jv 5) zae) (zaj (zao (zau (zaa (zat (jv 2) zae) (zaa (jv 3) (zaa (jv 3) zac)))))) zay)
  (zaf (zaX (zeP hr (jv 5) zae) (zaj (zao (zau (zaa (zat (jv 2) zae) (zaa (zau (zaa (zat (jv 2) zae) (zaa (jv 3) zac))) (zaa (jv 4) zac)))))) zay)
  (zaf (zaX (zeP hr (jv 5) zae) (zaj (zao (zau (zaa (zat (jv 2) zae) (zaa (jv 3) zac))))) zay)
  (zaj (zao (zau (zaa (zat (jv 2) zae) (zaa (jv 3) (zaa (jv 4) zac)))))))))))))))
theorem o43{f:Addr}{d:FuncData}(F:Fun K "_law_lefts" "_law_lefts" s43 f d):Ok P w K mg base f d ["way", "head", "c", "d"] zcN:=zcW rfl fun r ih=>zaQ F zAz rfl rfl fun _ _ _ _ _ _ hr=>(zaf (zaX (zeP hr (jv 0) zae) (zaj (zao (zaN (zaP (zaa (zau (zaa (jv 1) (zaa zae zac))) zac))))) zay)
  (zaf (zaX (zeP hr (jv 0) zae) (zaj (zao (zaN (zaP (zaa (zau (zaa (jv 1) (zaa zae (zaa zae zac)))) zac))))) zay)
  (zaf (zaX (zeP hr (jv 0) zae) (zaj (zao (zaN (zaP (zaa (zau (zaa (jv 1) (zaa (zau (zaa (jv 2) zac)) zac))) (zaa (zau (zaa (jv 1) (zaa (zau (zaa (jv 3) (zaa zae zac))) zac))) zac)))))) zay)
  (zaf (zaX (zeP hr (jv 0) zae) (zaj (zao (zaN (zaP (zaa (zau (zaa (jv 1) (zaa (zau (zaa (jv 2) zac)) (zaa zae zac)))) (zaa (zau (zaa (jv 1) (zaa (zau (zaa (jv 3) (zaa zae zac))) (zaa zae zac)))) zac)))))) zay)
  (zaf (zaX (zeP hr (jv 0) zae) (zaj (zao (zaN (zaP (zaa (zau (zaa (jv 1) (zaa (zau (zaa (jv 3) (zaa (zau (zaa (jv 3) (zaa zae zac))) zac))) (zaa zae (zaa zae zac))))) (zaa (zau (zaa (jv 1) (zaa (zau (zaa (jv 3) (zaa (zau (zaa (jv 2) zac)) zac))) (zaa zae (zaa zae zac))))) zac)))))) zay)
  (zaj (zao (zaN (zaP (zaa (zau (zaa (jv 1) zac)) zac))))))))))
theorem o44{f:Addr}{d:FuncData}(F:Fun K "_law_book" "_law_book" s44 f d) (x43:C43 P w K mg base) (x42:C42 P w K mg base) (x37:C37 P w K mg base) (x39:C39 P w K mg base) (n_r:mg "range" =none) (n_e:mg "enumerate" =none) (n_l:mg "len" =none):Ok P w K mg base f d ["script", "k", "w", "titles"] zbW:=zcW rfl fun r ih=>zaQ F sc44 rfl rfl fun _ _ _ _ _ _ hr=>(zaf (zap (i:=4) sc44.nd rfl (Or.inl rfl) (zaN (zaP zac)))
  (zaf (zca (zfq rfl n_r (zaa zae zac)) (zaq (i:=5) sc44.nd rfl (Or.inl rfl)) (zaf (zap (i:=6) sc44.nd rfl (Or.inl rfl) (zag (x43.zg r) hr rfl x43.zm x43.zk x43.zb (zaa (zcr (zag (x37.zg r) hr rfl x37.zm x37.zk x37.zb (zaa (jv 0) (zaa (zbt (jv 1) (jv 5)) zac))) zae) (zaa (zat (jv 2) (jv 5)) (zaa (zat (jv 2) zae) (zaa (zat (jv 2) zae) zac))))))
  (zaj (zca (zlW rfl n_e (jv 6)) (zgD (zaW (zaq (i:=7) sc44.nd rfl (Or.inl rfl)) (zaW (zaq (i:=8) sc44.nd rfl (Or.inl rfl)) zeu)) (glS (glS gl0))) (zaf (zap (i:=9) sc44.nd rfl (Or.inl rfl) (zag (x42.zg r) hr rfl x42.zm x42.zk x42.zb (zaa (zag (x37.zg r) hr rfl x37.zm x37.zk x37.zb (zaa (jv 0) (zaa (zbt (zbt (zbt (jv 1) zae) (zti zae (jv 5))) (jv 7)) zac))) (zaa (zag (x39.zg r) hr rfl x39.zm x39.zk x39.zb (zaa (jv 8) zac)) (zaa (jv 2) zac)))))
  (zaj (zbe (zbE (jv 4) (zaa (zau (zaa (zat (jv 3) (zcq rfl n_l (zaa (jv 4) zac))) (zaa (jv 8) (zaa (jv 9) zac)))) zac)))))))))
  (zaj (zao (jv 4)))))
theorem o45{f:Addr}{d:FuncData}(F:Fun K "_law_plan" "_law_plan" s45 f d) (x39:C39 P w K mg base) (n_l:mg "len" =none) (n_m:mg "min" =none):Ok P w K mg base f d ["cells", "book", "w", "room"] zbF:=zcW rfl fun r ih=>zaQ F sc45 rfl rfl fun _ _ _ _ _ _ hr=>(zaf (zap (i:=4) sc45.nd rfl (Or.inl rfl) (zaN (zaP zac)))
  (zaf (zap (i:=5) sc45.nd rfl (Or.inl rfl) zae)
  (zaf (zca (zbk (jv 0)) (zaq (i:=6) sc45.nd rfl (Or.inl rfl)) (zaf (zap (i:=7) sc45.nd rfl (Or.inl rfl) (zcr (jv 6) zae))
  (zaf (zap (i:=8) sc45.nd rfl (Or.inl rfl) (zmI (zaP (zaa zae (zaa zae (zaa zae (zaa zae zac))))) (zqK rfl n_m (zaa (jv 7) (zaa zae zac)))))
  (zaf (zap (i:=9) sc45.nd rfl (Or.inl rfl) (zau (zaa (zeC zae) (zaa zae (zaa (zat (jv 2) (zmI (zaP (zaa zae (zaa zae (zaa zae (zaa zae zac))))) (zqK rfl n_m (zaa (jv 7) (zaa zae zac))))) zac)))))
  (zaf (zaX (zkm (jv 7) zae) (zaf (zap (i:=10) sc45.nd rfl (Or.inl rfl) (zcr (zcU (jv 6) zae) (zcq rfl n_l (zaa (jv 1) zac))))
  (zaf (zap (i:=8) sc45.nd rfl (Or.inl rfl) (zag (x39.zg r) hr rfl x39.zm x39.zk x39.zb (zaa (zat (zat (jv 1) (jv 10)) zae) zac)))
  (zaf (zap (i:=9) sc45.nd rfl (Or.inl rfl) (zau (zaa (jv 10) (zaa (zcr (zcU (jv 6) zae) zae) (zaa zkE zac)))))
  (zaj (zap (i:=5) sc45.nd rfl (Or.inl rfl) (zbt (jv 5) zae)))))) zay)
  (zaj (zaX (JW.jt (ziH (zkm (jv 3) zae) (zge (zpw (jv 5) zae)))) (zaf (zap (i:=3) sc45.nd rfl (Or.inl rfl) (znR (jv 3) zae))
  (zaf (zap (i:=4) sc45.nd rfl (Or.inl rfl) (zaN (zuH (zwp (zaP (zaa (zau (zaa (zeC zae) (zaa zae (zaa (zat (jv 2) zae) (zaa (zaN (zaP zac)) zac))))) zac)) (znR (jv 8) (zcq rfl n_l (zaa (jv 4) zac)))) (jv 4))))
  (zaf (zap (i:=11) sc45.nd rfl (Or.inl rfl) (znR (zcq rfl n_l (zaa (jv 4) zac)) (jv 8)))
  (zaj (zap (i:=4) sc45.nd rfl (Or.inl rfl) (zaN (zlJ (zui (jv 4) zaU (zaF (jv 11))) (zaP (zaa (zbt (jv 9) (zau (zaa (zdm (jv 4) (zaF (jv 11)) zaU) zac))) zac))))))))) zay)))))))
  (zaf (znk (zkm (zcq rfl n_l (zaa (jv 4) zac)) zae) (zaj (zap (i:=4) sc45.nd rfl (Or.inl rfl) (zaN (zlJ (zui (jv 4) zaU (zaF (zeC zae))) (zaP (zaa (zau (zaa (zeC zae) (zaa zae (zaa (zat (jv 2) zae) (zaa (zdm (jv 4) (zaF (zeC zae)) zaU) zac))))) zac)))))))
  (zaj (zao (zmI (zrb (jv 4) (zaP (zaa (zau (zaa (zeC zae) (zaa zae (zaa (zat (jv 2) zae) (zaa (zaN (zaP zac)) zac))))) zac))) zae)))))))
theorem o46{f:Addr}{d:FuncData}(F:Fun K "_law_way" "_law_way" s46 f d) (x40:C40 P w K mg base) (b:Binds K d ["plan", "book", "by"] []) (m:mg "_law_way" =some (.ref f)) (n_t:mg "tuple" =none):Ok P w K mg base f d ["plan", "book", "by"] zbG:=zcW rfl fun r ih=>zaQ F sc46 rfl rfl fun _ _ _ _ _ _ hr=>(zaf (zwF (jv 0) (zgD (zaW (zaq (i:=3) sc46.nd rfl (Or.inl rfl)) (zaW (zaq (i:=4) sc46.nd rfl (Or.inl rfl)) (zaW (zaq (i:=5) sc46.nd rfl (Or.inl rfl)) (zaW (zaq (i:=6) sc46.nd rfl (Or.inl rfl)) zeu)))) (glS (glS (glS (glS gl0))))))
  (zaf (zgk (i:=7) (N:=["one", "book", "by"]) (k:=1) (fr:=[1,2]) sc46.nd rfl (Or.inl rfl) ⟨rfl,by decide +kernel,rfl,rfl,rfl,rfl,rfl,rfl,rfl⟩ (zbk (jv 6)) (fun _ _ _ _=>(zaq (i:=0) (show List.Nodup [("one" :Str),("book" :Str),("by" :Str)] from by decide +kernel) rfl (Or.inl rfl))) (fun _ _ _ _=>zbB) (fun _ _ _ _=>(zag ih hr rfl m F.kp b (zaa (jv 0) (zaa (jv 1) (zaa (jv 2) zac))))))
  (zaf (zaX (zpw (jv 3) zae) (zaj (zao (zbt (zau (zaa (jv 5) zac)) (zeg rfl n_t (zaa (jv 7) zac))))) zay)
  (zaf (zaX (zeP hr (zcr (zcU (jv 4) (jv 2)) zae) zae) (zaj (zao (zbt (zau (zaa (zat (zat (jv 1) (jv 3)) zae) zac)) (zeg rfl n_t (zaa (jv 7) zac))))) zay)
  (zaj (zao (zag (x40.zg r) hr rfl x40.zm x40.zk x40.zb (zaa (zat (zat (jv 1) (jv 3)) zae) (zaa (jv 7) zac)))))))))
theorem o47{f:Addr}{d:FuncData}(F:Fun K "_law_made" "_law_made" s47 f d) (b:Binds K d ["book", "way", "which"] []) (m:mg "_law_made" =some (.ref f)) (x40:C40 P w K mg base) (n_t:mg "tuple" =none):Ok P w K mg base f d ["book", "way", "which"] zbD:=zcW rfl fun r ih=>zaQ F sc47 rfl rfl fun _ _ _ _ _ _ hr=>(zaf (zgk (i:=3) (N:=["one", "book", "which"]) (k:=1) (fr:=[0,2]) sc47.nd rfl (Or.inl rfl) ⟨rfl,by decide +kernel,rfl,rfl,rfl,rfl,rfl,rfl,rfl⟩ (zbk (zdm (jv 1) (zaF zae) zaU)) (fun _ _ _ _=>(zaq (i:=0) (show List.Nodup [("one" :Str),("book" :Str),("which" :Str)] from by decide +kernel) rfl (Or.inl rfl))) (fun _ _ _ _=>zbB) (fun _ _ _ _=>(zag ih hr rfl m F.kp b (zaa (jv 1) (zaa (jv 0) (zaa (jv 2) zac))))))
  (zaf (zca (zbk (jv 0)) (zaq (i:=4) sc47.nd rfl (Or.inl rfl)) (zaj (zaX (zeP hr (zat (jv 4) zae) (zat (jv 1) zae)) (zaj (zao (zag (x40.zg r) hr rfl x40.zm x40.zk x40.zb (zaa (zat (jv 4) (jv 2)) (zaa (jv 3) zac))))) zay)))
  (zaj (zao (zbt (zdm (jv 1) zaU (zaF zae)) (zeg rfl n_t (zaa (jv 3) zac)))))))
theorem o48{f:Addr}{d:FuncData}(F:Fun K "_law_road" "_law_road" s48 f d) (x47:C47 P w K mg base) (x22:C22 P w K mg base) (x27:C27 P w K mg base) (n_l:mg "len" =none) (n_n:mg "int" =none):Ok P w K mg base f d ["book", "shape", "cells", "limit"] zaJ:=zcW rfl fun r ih=>by
  refine zaQ F sc48 rfl rfl fun _ _ _ _ _ _ hr=>?_;delta zde zbT zbP zbN zbR zbO zcH zbK zdd zdb zda zcY;delta zcF;delta zde zbT zbP zbN zbR zbO zcH zbK zdd zdb zda zcY;exact(zaf (zap (i:=4) sc48.nd rfl (Or.inl rfl) (zaN (zaP zac)))
  (zaf (zap (i:=5) sc48.nd rfl (Or.inl rfl) (jv 1))
  (zaf (zap (i:=6) sc48.nd rfl (Or.inl rfl) zae)
  (zaf (zca (zbk (jv 2)) (zaq (i:=7) sc48.nd rfl (Or.inl rfl)) (zaf (zgk (i:=8) (N:=["one"]) (k:=1) (fr:=[]) sc48.nd rfl (Or.inl rfl) ⟨rfl,by decide +kernel,rfl,rfl,rfl,rfl,rfl,rfl,rfl⟩ (zbk (zag (x22.zg r) hr rfl x22.zm x22.zk x22.zb (zaa (jv 0) (zaa (jv 5) zac)))) (fun _ _ _ _=>(zaq (i:=0) (show List.Nodup [("one" :Str)] from by decide +kernel) rfl (Or.inl rfl))) (fun _ _ _ _=>zbB) (fun _ _ _ _=>(zat (jv 0) zae)))
  (zaj (zaX (JW.jt (ziH (zkm (zcq rfl n_l (zaa (jv 8) zac)) zae) (zge (zpw (jv 6) (jv 3))))) (zaf (zap (i:=9) sc48.nd rfl (Or.inl rfl) (zaN (zaP (zaa (zat (jv 8) (zcr (jv 7) (zcq rfl n_l (zaa (jv 8) zac)))) (zaa (zat (jv 8) (zcr (zcU (jv 7) zae) (zcq rfl n_l (zaa (jv 8) zac)))) zac)))))
  (zaf (zap (i:=9) sc48.nd rfl (Or.inl rfl) (zdm (jv 9) zaU (zaF (zbt zae (zrj rfl n_n (zaa (zhB (zrD hr (zcr (zcU (jv 7) zae) zae) zae) (zgx (zzB (zbt (jv 6) zae) (jv 3)))) zac))))))
  (zaf (zbe (zbE (jv 4) (zaa (zag (x27.zg r) hr rfl x27.zm x27.zk x27.zb (zaa (jv 0) (zaa (jv 5) (zaa (jv 9) zac)))) zac)))
  (zaf (zap (i:=5) sc48.nd rfl (Or.inl rfl) (zag (x47.zg r) hr rfl x47.zm x47.zk x47.zb (zaa (jv 0) (zaa (zat (jv 4) (zeC zae)) (zaa zae zac)))))
  (zaj (zap (i:=6) sc48.nd rfl (Or.inl rfl) (zbt (jv 6) (zcq rfl n_l (zaa (jv 9) zac))))))))) zay))))
  (zaj (zao (zau (zaa (jv 1) (zaa (jv 4) zac)))))))))
theorem o49{f:Addr}{d:FuncData}(F:Fun K "law" "law" s49 f d) (x38:C38 P w K mg base) (x44:C44 P w K mg base) (x46:C46 P w K mg base) (x48:C48 P w K mg base) (x32:C32 P w K mg base) (x37:C37 P w K mg base) (x45:C45 P w K mg base) (x35:C35 P w K mg base) (x36:C36 P w K mg base):Ok P w K mg base f d ["script"] zdS:=zcW rfl fun r ih=>by
  refine zaQ F sc49 rfl rfl fun _ _ _ _ _ _ hr=>?_;delta zdB zdz zdE zdF zdy zdx zei zeb zeZ zfk zfa zfc zfm zfj zeX;exact(zaf (zap (i:=1) sc49.nd rfl (Or.inl rfl) (zag (x38.zg r) hr rfl x38.zm x38.zk x38.zb (zaa (zag (x37.zg r) hr rfl x37.zm x37.zk x37.zb (zaa (jv 0) (zaa zae zac))) (zaa (zag (x37.zg r) hr rfl x37.zm x37.zk x37.zb (zaa (jv 0) (zaa zae zac))) (zaa zez zac)))))
  (zaf (zap (i:=2) sc49.nd rfl (Or.inl rfl) (zag (x38.zg r) hr rfl x38.zm x38.zk x38.zb (zaa (zag (x37.zg r) hr rfl x37.zm x37.zk x37.zb (zaa (jv 0) (zaa zae zac))) (zaa (zag (x37.zg r) hr rfl x37.zm x37.zk x37.zb (zaa (jv 0) (zaa zae zac))) (zaa zez zac)))))
  (zaf (zap (i:=3) sc49.nd rfl (Or.inl rfl) (zag (x44.zg r) hr rfl x44.zm x44.zk x44.zb (zaa (jv 0) (zaa zae (zaa (jv 1) (zaa (jv 2) zac))))))
  (zaf (zap (i:=4) sc49.nd rfl (Or.inl rfl) (zag (x46.zg r) hr rfl x46.zm x46.zk x46.zb (zaa (zag (x45.zg r) hr rfl x45.zm x45.zk x45.zb (zaa (zdm (jv 0) (zaF zae) zaU) (zaa (jv 3) (zaa (jv 1) (zaa zae zac))))) (zaa (jv 3) (zaa zae zac)))))
  (zaf (zap (i:=5) sc49.nd rfl (Or.inl rfl) (zag (x48.zg r) hr rfl x48.zm x48.zk x48.zb (zaa (jv 3) (zaa (jv 4) (zaa (zdm (jv 0) (zaF zae) (zaF zae)) (zaa zae zac))))))
  (zaf (zap (i:=6) sc49.nd rfl (Or.inl rfl) (zag (x48.zg r) hr rfl x48.zm x48.zk x48.zb (zaa (jv 3) (zaa (jv 4) (zaa (zdm (jv 0) (zaF zae) (zaF zae)) (zaa zae zac))))))
  (zaf (zap (i:=7) sc49.nd rfl (Or.inl rfl) (zag (x48.zg r) hr rfl x48.zm x48.zk x48.zb (zaa (jv 3) (zaa (jv 4) (zaa (zdm (jv 0) (zaF zae) (zaF zae)) (zaa zae zac))))))
  (zaf (zap (i:=8) sc49.nd rfl (Or.inl rfl) (zag (x32.zg r) hr rfl x32.zm x32.zk x32.zb (zaa (jv 3) (zaa (jv 5) (zaa (jv 6) zac)))))
  (zaf (zap (i:=9) sc49.nd rfl (Or.inl rfl) (zaN (zaP (zaa (zag (x32.zg r) hr rfl x32.zm x32.zk x32.zb (zaa (jv 3) (zaa (jv 8) (zaa (jv 7) zac)))) (zaa (zag (x32.zg r) hr rfl x32.zm x32.zk x32.zb (zaa (jv 3) (zaa (zag (x32.zg r) hr rfl x32.zm x32.zk x32.zb (zaa (jv 3) (zaa (jv 7) (zaa (jv 6) zac)))) (zaa (jv 5) zac)))) zac)))))
  (zaf (zap (i:=9) sc49.nd rfl (Or.inl rfl) (zaN (zrb (jv 9) (zaP (zaa (zag (x32.zg r) hr rfl x32.zm x32.zk x32.zb (zaa (jv 3) (zaa (zag (x32.zg r) hr rfl x32.zm x32.zk x32.zb (zaa (jv 3) (zaa (jv 6) (zaa (jv 7) zac)))) (zaa (jv 5) zac)))) (zaa (zag (x32.zg r) hr rfl x32.zm x32.zk x32.zb (zaa (jv 3) (zaa (jv 6) (zaa (jv 5) zac)))) zac))))))
  (zaf (zca (zbk (jv 9)) (zaq (i:=10) sc49.nd rfl (Or.inl rfl)) (zaj (zaX (zdZ (zag (x35.zg r) hr rfl x35.zm x35.zk x35.zb (zaa (jv 3) (zaa (jv 8) (zaa (jv 10) zac)))) zez) (zaj (zao zez)) zay)))
  (zaf (zaX (JW.jt (zsv (zdZ (zag (x36.zg r) hr rfl x36.zm x36.zk x36.zb (zaa (jv 3) (zaa (jv 8) (zaa (zat (jv 9) zae) zac)))) zez) (zmx (zdZ (zag (x36.zg r) hr rfl x36.zm x36.zk x36.zb (zaa (jv 3) (zaa (zat (jv 9) zae) (zaa (zat (jv 9) zae) zac)))) zez)))) (zaj (zao zez)) zay)
  (zaf (zaX (zvb hr (zag (x35.zg r) hr rfl x35.zm x35.zk x35.zb (zaa (jv 3) (zaa (jv 8) (zaa (jv 7) zac)))) (zhB (zag (x35.zg r) hr rfl x35.zm x35.zk x35.zb (zaa (jv 3) (zaa (jv 5) (zaa (jv 7) zac)))) (zgx (zag (x35.zg r) hr rfl x35.zm x35.zk x35.zb (zaa (jv 3) (zaa (jv 6) (zaa (jv 7) zac))))))) (zaj (zao zez)) zay)
  (zaf (zaX (zvb hr (zag (x35.zg r) hr rfl x35.zm x35.zk x35.zb (zaa (jv 3) (zaa (jv 8) (zaa (jv 5) zac)))) (zag (x35.zg r) hr rfl x35.zm x35.zk x35.zb (zaa (jv 3) (zaa (jv 6) (zaa (jv 5) zac))))) (zaj (zao zez)) zay)
  (zaj (zao (zyx (zvY (zhB (zag (x35.zg r) hr rfl x35.zm x35.zk x35.zb (zaa (jv 3) (zaa (jv 7) (zaa (jv 6) zac)))) (zgx (zag (x35.zg r) hr rfl x35.zm x35.zk x35.zb (zaa (jv 3) (zaa (jv 6) (zaa (jv 5) zac))))))) (zgx (zzV (zag (x35.zg r) hr rfl x35.zm x35.zk x35.zb (zaa (jv 3) (zaa (jv 7) (zaa (jv 5) zac)))) zez)))))))))))))))))))
end
theorem all_mk{l:PySem.W.OpenLaw}{w:World}{K:PySem.W.Frag}{h:Heap}{mg:Str→Option Value}{fa:Addr}(X:K.In h) (G:h.Ns mainGlobals mg) (hfa:mg "law" =some (.ref fa))
  (D0:Dfn K "parts_of" s0)
  (D1:Dfn K "parts_of_all" s1)
  (D2:Dfn K "is_small" s2)
  (D4:Dfn K "places" s4)
  (D3:Dfn K "gather_places" s3)
  (D6:Dfn K "part" s6)
  (D5:Dfn K "numbered_part" s5)
  (D7:Dfn K "blank_places" s7)
  (D8:Dfn K "filled" s8)
  (D11:Dfn K "matched" s11)
  (D10:Dfn K "gather_matched" s10)
  (D9:Dfn K "have_one_top" s9)
  (D13:Dfn K "is_sign" s13)
  (D12:Dfn K "are_small_letters" s12)
  (D14:Dfn K "turning_of" s14)
  (D15:Dfn K "is_quiet" s15)
  (D18:Dfn K "goal" s18)
  (D16:Dfn K "only_small" s16)
  (D17:Dfn K "with_sides" s17)
  (D19:Dfn K "part_places" s19)
  (D22:Dfn K "open_uses" s22)
  (D21:Dfn K "gather_open" s21)
  (D20:Dfn K "open_turning" s20)
  (D23:Dfn K "places_of" s23)
  (D27:Dfn K "way_of" s27)
  (D26:Dfn K "way_with" s26)
  (D25:Dfn K "way_within" s25)
  (D24:Dfn K "turned_top" s24)
  (D28:Dfn K "moved" s28)
  (D31:Dfn K "grid" s31)
  (D30:Dfn K "moved_along" s30)
  (D29:Dfn K "check_goals" s29)
  (D32:Dfn K "road_joined" s32)
  (D35:Dfn K "within" s35)
  (D36:Dfn K "alike" s36)
  (D34:Dfn K "last_downs" s34)
  (D33:Dfn K "are_quiet" s33)
  (D37:Dfn K "_law_cell" s37)
  (D38:Dfn K "_law_words" s38)
  (D39:Dfn K "_law_count" s39)
  (D40:Dfn K "_law_filled" s40)
  (D41:Dfn K "_law_item" s41)
  (D42:Dfn K "_law_right" s42)
  (D43:Dfn K "_law_lefts" s43)
  (D44:Dfn K "_law_book" s44)
  (D45:Dfn K "_law_plan" s45)
  (D46:Dfn K "_law_way" s46)
  (D47:Dfn K "_law_made" s47)
  (D48:Dfn K "_law_road" s48)
  (D49:Dfn K "law" s49)
  (z_a:PySem.W.nsIn K mainGlobals "all" =some none)
  (z_d:PySem.W.nsIn K mainGlobals "dict" =some none)
  (z_e:PySem.W.nsIn K mainGlobals "enumerate" =some none)
  (z_n:PySem.W.nsIn K mainGlobals "int" =some none)
  (z_i:PySem.W.nsIn K mainGlobals "isinstance" =some none)
  (z_l:PySem.W.nsIn K mainGlobals "len" =some none)
  (z_s:PySem.W.nsIn K mainGlobals "list" =some none)
  (z_m:PySem.W.nsIn K mainGlobals "min" =some none)
  (z_r:PySem.W.nsIn K mainGlobals "range" =some none)
  (z_u:PySem.W.nsIn K mainGlobals "sum" =some none)
  (z_t:PySem.W.nsIn K mainGlobals "tuple" =some none)
  (z_z:PySem.W.nsIn K mainGlobals "zip" =some none)
  {t_MOST_HEAVY:Tok}(z_MOST_HEAVY:PySem.W.nsIn K mainGlobals "MOST_HEAVY" =some (some (.int 400 t_MOST_HEAVY)))
  {t_MOST_DEEP:Tok}(z_MOST_DEEP:PySem.W.nsIn K mainGlobals "MOST_DEEP" =some (some (.int 40 t_MOST_DEEP)))
  {t_MOST_LETTERS:Tok}(z_MOST_LETTERS:PySem.W.nsIn K mainGlobals "MOST_LETTERS" =some (some (.int 8 t_MOST_LETTERS)))
  {t_LEFT:Tok}(z_LEFT:PySem.W.nsIn K mainGlobals "LEFT" =some (some (.int 1 t_LEFT)))
  {t_RIGHT:Tok}(z_RIGHT:PySem.W.nsIn K mainGlobals "RIGHT" =some (some (.int 2 t_RIGHT)))
  :∃fd:FuncData,(∀(s:Shared) (v:Value),BindsTo s fd ⟨[v],[]⟩ [("script",v)])∧ ∀base:Heap,K.In base→base.Ns mainGlobals mg→FnOk l.prog w K mg base CX0 200 fa fd ["script"] (zek K (zdS 200)):=by
 obtain⟨f49,d49,a49,F49⟩:=D49;have e:=hfa.symm.trans (PySem.W.mg_of X G a49);cases e;have n_a:=PySem.W.mg_none_of X G z_a;have n_d:=PySem.W.mg_none_of X G z_d;have n_e:=PySem.W.mg_none_of X G z_e;have n_n:=PySem.W.mg_none_of X G z_n;have n_i:=PySem.W.mg_none_of X G z_i;have n_l:=PySem.W.mg_none_of X G z_l;have n_s:=PySem.W.mg_none_of X G z_s;have n_m:=PySem.W.mg_none_of X G z_m;have n_r:=PySem.W.mg_none_of X G z_r;have n_u:=PySem.W.mg_none_of X G z_u;have n_t:=PySem.W.mg_none_of X G z_t;have n_z:=PySem.W.mg_none_of X G z_z;have g_MOST_HEAVY:=PySem.W.mg_of X G z_MOST_HEAVY;have g_MOST_DEEP:=PySem.W.mg_of X G z_MOST_DEEP;have g_MOST_LETTERS:=PySem.W.mg_of X G z_MOST_LETTERS;have g_LEFT:=PySem.W.mg_of X G z_LEFT;have g_RIGHT:=PySem.W.mg_of X G z_RIGHT;refine⟨d49,fun s v=>?_,fun base _ _=>?_⟩
 ·obtain⟨oc,od,kV,doc,pm,an,cdv,ct,osl,rfl,lk,hcd⟩:=F49.ex;exact .of_eq rfl
 obtain⟨f,d,a,F⟩:=D0;have x0:=mkC (base:=base) X G F a (o0 (P:=l.prog) (w:=w) F n_i n_n) (F.binds fun _ _ _ _ _ _=>n1 fun _=>rfl);obtain⟨f,d,a,F⟩:=D1;have x1:=mkC (base:=base) X G F a (o1 (P:=l.prog) (w:=w) F x0) (F.binds fun _ _ _ _ _ _=>n1 fun _=>rfl);obtain⟨f,d,a,F⟩:=D2;have x2:=mkC (base:=base) X G F a (o2 (P:=l.prog) (w:=w) F x1 n_l g_MOST_HEAVY g_MOST_DEEP) (F.binds fun _ _ _ _ _ _=>n1 fun _=>rfl);obtain⟨f,d,a,F⟩:=D3;have x3:=mkC (base:=base) X G F a (o3 (P:=l.prog) (w:=w) F x0 (F.binds fun _ _ _ _ _ _=>n3 fun _ _ _=>rfl) (PySem.W.mg_of X G a) n_e) (F.binds fun _ _ _ _ _ _=>n3 fun _ _ _=>rfl);obtain⟨f,d,a,F⟩:=D4;have x4:=mkC (base:=base) X G F a (o4 (P:=l.prog) (w:=w) F x3) (F.binds fun _ _ _ _ _ _=>n1 fun _=>rfl);obtain⟨f,d,a,F⟩:=D5;have x5:=mkC (base:=base) X G F a (o5 (P:=l.prog) (w:=w) F x0 n_l) (F.binds fun _ _ _ _ _ _=>n2 fun _ _=>rfl);obtain⟨f,d,a,F⟩:=D6;have x6:=mkC (base:=base) X G F a (o6 (P:=l.prog) (w:=w) F x5) (F.binds fun _ _ _ _ _ _=>n2 fun _ _=>rfl);obtain⟨f,d,a,F⟩:=D7;have x7:=mkC (base:=base) X G F a (o7 (P:=l.prog) (w:=w) F x4 x6 n_i n_n) (F.binds fun _ _ _ _ _ _=>n1 fun _=>rfl);obtain⟨f,d,a,F⟩:=D8;have x8:=mkC (base:=base) X G F a (o8 (P:=l.prog) (w:=w) F (F.binds fun _ _ _ _ _ _=>n2 fun _ _=>rfl) (PySem.W.mg_of X G a) n_i n_n n_t) (F.binds fun _ _ _ _ _ _=>n2 fun _ _=>rfl);obtain⟨f,d,a,F⟩:=D9;have x9:=mkC (base:=base) X G F a (o9 (P:=l.prog) (w:=w) F n_l) (F.binds fun _ _ _ _ _ _=>n2 fun _ _=>rfl);obtain⟨f,d,a,F⟩:=D10;have x10:=mkC (base:=base) X G F a (o10 (P:=l.prog) (w:=w) F x9 (F.binds fun _ _ _ _ _ _=>n3 fun _ _ _=>rfl) (PySem.W.mg_of X G a) n_i n_n n_z) (F.binds fun _ _ _ _ _ _=>n3 fun _ _ _=>rfl);obtain⟨f,d,a,F⟩:=D11;have x11:=mkC (base:=base) X G F a (o11 (P:=l.prog) (w:=w) F x10) (F.binds fun _ _ _ _ _ _=>n2 fun _ _=>rfl);obtain⟨f,d,a,F⟩:=D12;have x12:=mkC (base:=base) X G F a (o12 (P:=l.prog) (w:=w) F n_a) (F.binds fun _ _ _ _ _ _=>n1 fun _=>rfl);obtain⟨f,d,a,F⟩:=D13;have x13:=mkC (base:=base) X G F a (o13 (P:=l.prog) (w:=w) F x12 n_l g_MOST_LETTERS) (F.binds fun _ _ _ _ _ _=>n1 fun _=>rfl);obtain⟨f,d,a,F⟩:=D14;have x14:=mkC (base:=base) X G F a (o14 (P:=l.prog) (w:=w) F) (F.binds fun _ _ _ _ _ _=>n2 fun _ _=>rfl);obtain⟨f,d,a,F⟩:=D15;have x15:=mkC (base:=base) X G F a (o15 (P:=l.prog) (w:=w) F x13 (F.binds fun _ _ _ _ _ _=>n1 fun _=>rfl) (PySem.W.mg_of X G a) n_a) (F.binds fun _ _ _ _ _ _=>n1 fun _=>rfl);obtain⟨f,d,a,F⟩:=D16;have x16:=mkC (base:=base) X G F a (o16 (P:=l.prog) (w:=w) F x2) (F.binds fun _ _ _ _ _ _=>n1 fun _=>rfl);obtain⟨f,d,a,F⟩:=D17;have x17:=mkC (base:=base) X G F a (o17 (P:=l.prog) (w:=w) F x14 x8 (F.binds fun _ _ _ _ _ _=>n3 fun _ _ _=>rfl) (PySem.W.mg_of X G a) n_t) (F.binds fun _ _ _ _ _ _=>n3 fun _ _ _=>rfl);obtain⟨f,d,a,F⟩:=D18;have x18:=mkC (base:=base) X G F a (o18 (P:=l.prog) (w:=w) F x16 x17 g_RIGHT) (F.binds fun _ _ _ _ _ _=>n2 fun _ _=>rfl);obtain⟨f,d,a,F⟩:=D19;have x19:=mkC (base:=base) X G F a (o19 (P:=l.prog) (w:=w) F x14 x7 n_r n_l g_LEFT) (F.binds fun _ _ _ _ _ _=>n2 fun _ _=>rfl);obtain⟨f,d,a,F⟩:=D20;have x20:=mkC (base:=base) X G F a (o20 (P:=l.prog) (w:=w) F x11 g_LEFT) (F.binds fun _ _ _ _ _ _=>n2 fun _ _=>rfl);obtain⟨f,d,a,F⟩:=D21;have x21:=mkC (base:=base) X G F a (o21 (P:=l.prog) (w:=w) F x20 (F.binds fun _ _ _ _ _ _=>n4 fun _ _ _ _=>rfl) (PySem.W.mg_of X G a) n_e) (F.binds fun _ _ _ _ _ _=>n4 fun _ _ _ _=>rfl);obtain⟨f,d,a,F⟩:=D22;have x22:=mkC (base:=base) X G F a (o22 (P:=l.prog) (w:=w) F x21) (F.binds fun _ _ _ _ _ _=>n2 fun _ _=>rfl);obtain⟨f,d,a,F⟩:=D23;have x23:=mkC (base:=base) X G F a (o23 (P:=l.prog) (w:=w) F) (F.binds fun _ _ _ _ _ _=>n1 fun _=>rfl);obtain⟨f,d,a,F⟩:=D24;have x24:=mkC (base:=base) X G F a (o24 (P:=l.prog) (w:=w) F x20 x11 n_t g_LEFT) (F.binds fun _ _ _ _ _ _=>n2 fun _ _=>rfl);obtain⟨f,d,a,F⟩:=D25;have x25:=mkC (base:=base) X G F a (o25 (P:=l.prog) (w:=w) F x24 x19 (F.binds fun _ _ _ _ _ _=>n4 fun _ _ _ _=>rfl) (PySem.W.mg_of X G a) n_z n_t) (F.binds fun _ _ _ _ _ _=>n4 fun _ _ _ _=>rfl);obtain⟨f,d,a,F⟩:=D26;have x26:=mkC (base:=base) X G F a (o26 (P:=l.prog) (w:=w) F x25 n_d) (F.binds fun _ _ _ _ _ _=>n3 fun _ _ _=>rfl);obtain⟨f,d,a,F⟩:=D27;have x27:=mkC (base:=base) X G F a (o27 (P:=l.prog) (w:=w) F x23 x26 x22) (F.binds fun _ _ _ _ _ _=>n3 fun _ _ _=>rfl);obtain⟨f,d,a,F⟩:=D28;have x28:=mkC (base:=base) X G F a (o28 (P:=l.prog) (w:=w) F x14 x8 x11 (F.binds fun _ _ _ _ _ _=>n3 fun _ _ _=>rfl) (PySem.W.mg_of X G a) n_z n_t g_RIGHT g_LEFT) (F.binds fun _ _ _ _ _ _=>n3 fun _ _ _=>rfl);obtain⟨f,d,a,F⟩:=D29;have x29:=mkC (base:=base) X G F a (o29 (P:=l.prog) (w:=w) F x18) (F.binds fun _ _ _ _ _ _=>n2 fun _ _=>rfl);obtain⟨f,d,a,F⟩:=D30;have x30:=mkC (base:=base) X G F a (o30 (P:=l.prog) (w:=w) F x28 x29) (F.binds fun _ _ _ _ _ _=>n3 fun _ _ _=>rfl);obtain⟨f,d,a,F⟩:=D31;have x31:=mkC (base:=base) X G F a (o31 (P:=l.prog) (w:=w) F x16 x29 x30 x28 n_s n_z) (F.binds fun _ _ _ _ _ _=>n3 fun _ _ _=>rfl);obtain⟨f,d,a,F⟩:=D32;have x32:=mkC (base:=base) X G F a (o32 (P:=l.prog) (w:=w) F x31) (F.binds fun _ _ _ _ _ _=>n3 fun _ _ _=>rfl);obtain⟨f,d,a,F⟩:=D33;have x33:=mkC (base:=base) X G F a (o33 (P:=l.prog) (w:=w) F x15 n_a) (F.binds fun _ _ _ _ _ _=>n1 fun _=>rfl);obtain⟨f,d,a,F⟩:=D34;have x34:=mkC (base:=base) X G F a (o34 (P:=l.prog) (w:=w) F) (F.binds fun _ _ _ _ _ _=>n1 fun _=>rfl);obtain⟨f,d,a,F⟩:=D35;have x35:=mkC (base:=base) X G F a (o35 (P:=l.prog) (w:=w) F x33 x34 x31) (F.binds fun _ _ _ _ _ _=>n3 fun _ _ _=>rfl);obtain⟨f,d,a,F⟩:=D36;have x36:=mkC (base:=base) X G F a (o36 (P:=l.prog) (w:=w) F x31 x33 x34) (F.binds fun _ _ _ _ _ _=>n3 fun _ _ _=>rfl);obtain⟨f,d,a,F⟩:=D37;have x37:=mkC (base:=base) X G F a (o37 (P:=l.prog) (w:=w) F n_l) (F.binds fun _ _ _ _ _ _=>n2 fun _ _=>rfl);obtain⟨f,d,a,F⟩:=D38;have x38:=mkC (base:=base) X G F a (o38 (P:=l.prog) (w:=w) F n_r n_l n_n) (F.binds fun _ _ _ _ _ _=>n3 fun _ _ _=>rfl);obtain⟨f,d,a,F⟩:=D39;have x39:=mkC (base:=base) X G F a (o39 (P:=l.prog) (w:=w) F (F.binds fun _ _ _ _ _ _=>n1 fun _=>rfl) (PySem.W.mg_of X G a) n_i n_n n_u) (F.binds fun _ _ _ _ _ _=>n1 fun _=>rfl);obtain⟨f,d,a,F⟩:=D40;have x40:=mkC (base:=base) X G F a (o40 (P:=l.prog) (w:=w) F (F.binds fun _ _ _ _ _ _=>n2 fun _ _=>rfl) (PySem.W.mg_of X G a) n_i n_n n_t) (F.binds fun _ _ _ _ _ _=>n2 fun _ _=>rfl);obtain⟨f,d,a,F⟩:=D41;have x41:=mkC (base:=base) X G F a (o41 (P:=l.prog) (w:=w) F) (F.binds fun _ _ _ _ _ _=>n3 fun _ _ _=>rfl);obtain⟨f,d,a,F⟩:=D42;have x42:=mkC (base:=base) X G F a (o42 (P:=l.prog) (w:=w) F x41) (F.binds fun _ _ _ _ _ _=>n3 fun _ _ _=>rfl);obtain⟨f,d,a,F⟩:=D43;have x43:=mkC (base:=base) X G F a (o43 (P:=l.prog) (w:=w) F) (F.binds fun _ _ _ _ _ _=>n4 fun _ _ _ _=>rfl);obtain⟨f,d,a,F⟩:=D44;have x44:=mkC (base:=base) X G F a (o44 (P:=l.prog) (w:=w) F x43 x42 x37 x39 n_r n_e n_l) (F.binds fun _ _ _ _ _ _=>n4 fun _ _ _ _=>rfl);obtain⟨f,d,a,F⟩:=D45;have x45:=mkC (base:=base) X G F a (o45 (P:=l.prog) (w:=w) F x39 n_l n_m) (F.binds fun _ _ _ _ _ _=>n4 fun _ _ _ _=>rfl);obtain⟨f,d,a,F⟩:=D46;have x46:=mkC (base:=base) X G F a (o46 (P:=l.prog) (w:=w) F x40 (F.binds fun _ _ _ _ _ _=>n3 fun _ _ _=>rfl) (PySem.W.mg_of X G a) n_t) (F.binds fun _ _ _ _ _ _=>n3 fun _ _ _=>rfl);obtain⟨f,d,a,F⟩:=D47;have x47:=mkC (base:=base) X G F a (o47 (P:=l.prog) (w:=w) F (F.binds fun _ _ _ _ _ _=>n3 fun _ _ _=>rfl) (PySem.W.mg_of X G a) x40 n_t) (F.binds fun _ _ _ _ _ _=>n3 fun _ _ _=>rfl);obtain⟨f,d,a,F⟩:=D48;have x48:=mkC (base:=base) X G F a (o48 (P:=l.prog) (w:=w) F x47 x22 x27 n_l n_n) (F.binds fun _ _ _ _ _ _=>n4 fun _ _ _ _=>rfl);exact o49 F49 x38 x44 x46 x48 x32 x37 x45 x35 x36 200
theorem walk{l:PySem.W.OpenLaw}{q:Program}{loose:List Str}{XP:(Str→Option Value)→Heap→Prop}{YP:World→Heap→Prop}{d:DefRec}{K:Params→PySem.W.Frag}(hn:l.most=some 63) (hdf:d.params.defaults=[])
  (hY:∀(w:World) (h:Heap),YP w h→(K w.params).In h)
  (F:∀(w:World) (mg:Str→Option Value) (fa:Addr) (h:Heap),(K w.params).In h→h.Ns mainGlobals mg→mg d.name=some (.ref fa)→
   ∃fd:FuncData,(∀(s:Shared) (u:Value),BindsTo s fd ⟨[u],[]⟩ [("script",u)])∧ ∀base:Heap,(K w.params).In base→base.Ns mainGlobals mg→FnOk l.prog w (K w.params) mg base CX0 200 fa fd ["script"] (zek (K w.params) (zdS 200))) :
  PySem.W.WalkO q loose XP YP l.row.toRowW d [] (fun f vs=>PySem.call f vs):=
 L2.ztO (n:=63) (k:=200) (x:= "script") (CX:=fun _=>CX0) (sp:=fun w=>zek (K w.params) (zdS 200)) hn (by decide) hdf ⟨rfl,by decide,by decide⟩ hY F (fun w H a ns hl hO hS=>zsH hO hS (zwf ns hl)) fun _ _ _ _ _ z=>z
end K31
noncomputable def PySem.W.Fast.tw15290672541033328801:Nat:=0
noncomputable def PySem.W.Fast.tw10877053018112231785:Nat:=0
noncomputable def PySem.W.Fast.tw14089120642247412486:Nat:=0
noncomputable def PySem.W.Fast.tw3021984397398069024:Nat:=0
noncomputable def PySem.W.Fast.tw14392661949298841341:Nat:=0
noncomputable def PySem.W.Fast.tw3158333161791001556:Nat:=0
noncomputable def PySem.W.Fast.tw5074529055756612470:Nat:=0
noncomputable def PySem.W.Fast.tw17797376893227152392:Nat:=0
noncomputable def PySem.W.Fast.tw17134472339580463185:Nat:=0
noncomputable def PySem.W.Fast.tw7282552506805865796:Nat:=0
noncomputable def PySem.W.Fast.tw15130372192291804761:Nat:=0
noncomputable def PySem.W.Fast.tw6751484774397532811:Nat:=0
noncomputable def PySem.W.Fast.tw11625816505537565519:Nat:=0
noncomputable def PySem.W.Fast.tw12459533425403204717:Nat:=0
noncomputable def PySem.W.Fast.tw6119333395837254966:Nat:=0
noncomputable def PySem.W.Fast.tw2331502378922900573:Nat:=0
noncomputable def PySem.W.Fast.tw7839924096831955778:Nat:=0
noncomputable def PySem.W.Fast.tw1631583962415082835:Nat:=0
noncomputable def PySem.W.Fast.tw18389991212319389229:Nat:=0
open PySem PySem.W PyProof.Rows
set_option maxRecDepth 100000 in
set_option maxHeartbeats 0 in
theorem PySem.Challenge.cw_turnweave_k31_least_road_over_both_holds : PySem.Challenge.rw_turnweave_k31_least_road_over_both.Holds := by
 w_on;o_law;k_head;(case hw=>w_witness2)
 k_fill
 refine K31.walk (l:=PySem.Challenge.rw_turnweave_k31_least_road_over_both) rfl rfl (fun w h Y=>PySem.W.kIn_of Y) ?F
 case F=>
  intro w mg fa h KX G hmg
  refine' K31.all_mk KX G hmg (K31.dfn ?_ ?_ ?_ ?_) (K31.dfn ?_ ?_ ?_ ?_) (K31.dfn ?_ ?_ ?_ ?_) (K31.dfn ?_ ?_ ?_ ?_) (K31.dfn ?_ ?_ ?_ ?_) (K31.dfn ?_ ?_ ?_ ?_) (K31.dfn ?_ ?_ ?_ ?_) (K31.dfn ?_ ?_ ?_ ?_) (K31.dfn ?_ ?_ ?_ ?_) (K31.dfn ?_ ?_ ?_ ?_) (K31.dfn ?_ ?_ ?_ ?_) (K31.dfn ?_ ?_ ?_ ?_) (K31.dfn ?_ ?_ ?_ ?_) (K31.dfn ?_ ?_ ?_ ?_) (K31.dfn ?_ ?_ ?_ ?_) (K31.dfn ?_ ?_ ?_ ?_) (K31.dfn ?_ ?_ ?_ ?_) (K31.dfn ?_ ?_ ?_ ?_) (K31.dfn ?_ ?_ ?_ ?_) (K31.dfn ?_ ?_ ?_ ?_) (K31.dfn ?_ ?_ ?_ ?_) (K31.dfn ?_ ?_ ?_ ?_) (K31.dfn ?_ ?_ ?_ ?_) (K31.dfn ?_ ?_ ?_ ?_) (K31.dfn ?_ ?_ ?_ ?_) (K31.dfn ?_ ?_ ?_ ?_) (K31.dfn ?_ ?_ ?_ ?_) (K31.dfn ?_ ?_ ?_ ?_) (K31.dfn ?_ ?_ ?_ ?_) (K31.dfn ?_ ?_ ?_ ?_) (K31.dfn ?_ ?_ ?_ ?_) (K31.dfn ?_ ?_ ?_ ?_) (K31.dfn ?_ ?_ ?_ ?_) (K31.dfn ?_ ?_ ?_ ?_) (K31.dfn ?_ ?_ ?_ ?_) (K31.dfn ?_ ?_ ?_ ?_) (K31.dfn ?_ ?_ ?_ ?_) (K31.dfn ?_ ?_ ?_ ?_) (K31.dfn ?_ ?_ ?_ ?_) (K31.dfn ?_ ?_ ?_ ?_) (K31.dfn ?_ ?_ ?_ ?_) (K31.dfn ?_ ?_ ?_ ?_) (K31.dfn ?_ ?_ ?_ ?_) (K31.dfn ?_ ?_ ?_ ?_) (K31.dfn ?_ ?_ ?_ ?_) (K31.dfn ?_ ?_ ?_ ?_) (K31.dfn ?_ ?_ ?_ ?_) (K31.dfn ?_ ?_ ?_ ?_) (K31.dfn ?_ ?_ ?_ ?_) (K31.dfn ?_ ?_ ?_ ?_) ?_ ?_ ?_ ?_ ?_ ?_ ?_ ?_ ?_ ?_ ?_ ?_ ?_ ?_ ?_ ?_ ?_<;>try k_is
end
