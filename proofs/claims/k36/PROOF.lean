import PyProof.Rows.All
import Wide.All
import OpenK.AllK
import Wide.FinOn
import Lean
import PyProof.EqAt
import PyProof.EqKinds
import PyProof.TupleCall
import PyProof.NeKinds
import PyProof.ListMulRoad
import PyProof.AttrMissHeap
import KE.KDictOf
import KE.KRevIter
import PyProof.ListRange
import PySem.Challenge.RW_turnweave_k36_laid_out
set_option Elab.async false
set_option compiler.extract_closed false
set_option linter.all false
set_option maxRecDepth 100000
set_option maxHeartbeats 4000000
section
namespace L2
open PySem PySem.Spec PyProof.Rows
noncomputable abbrev Key:=Sum Int Str
noncomputable def zrV:Key→Value→Bool
 | .inl k,v=>Value.isInt k v
 | .inr x,v=>Value.isStrOf x v
noncomputable def ztQ (w:World):Key→Int
 | .inl k=>hashInt k
 | .inr x=>hashStr w x
theorem zaR:∀{k:Key}{v:Value},zrV k v=true→(∃i t,k=Sum.inl i∧v=Value.int i t)∨(∃x t,k=Sum.inr x∧v=Value.str x t)
 | .inl i,v,h=>by
  obtain⟨t,e⟩:=Value.isInt_shape (k:=i) (v:=v) h;exact .inl ⟨i,t,rfl,e⟩
 | .inr x,v,h=>by
  obtain⟨t,e⟩:=Value.isStrOf_shape (x:=x) (v:=v) h;exact .inr ⟨x,t,rfl,e⟩
theorem zqL (a b:Int):decide ((Sum.inl a:Key)=Sum.inl b)=(a == b):=by
 by_cases e:a=b
 ·subst e;simp
 ·have h:¬(Sum.inl a:Key)=Sum.inl b:=fun q=>e (Sum.inl.inj q);rw [decide_eq_false h];exact(beq_eq_false_iff_ne.mpr e).symm
theorem zqz (a b:Str):decide ((Sum.inr a:Key)=Sum.inr b)=decide (a=b):=by
 by_cases e:a=b
 ·subst e;simp
 ·have h:¬(Sum.inr a:Key)=Sum.inr b:=fun q=>e (Sum.inr.inj q);rw [decide_eq_false h,decide_eq_false e]
theorem zql (a:Int) (b:Str):decide ((Sum.inl a:Key)=Sum.inr b)=false:=decide_eq_false (fun q=>nomatch q)
theorem zqG (a:Str) (b:Int):decide ((Sum.inr a:Key)=Sum.inl b)=false:=decide_eq_false (fun q=>nomatch q)
noncomputable def zhm (prog:Program) (w:World):PySem.KeyKind prog w Key where
  is:=zrV
  hash:=ztQ w
  inj:=fun v a b ha hb=>by
    rcases zaR ha with⟨i,t,rfl,rfl⟩ |⟨x,t,rfl,rfl⟩
    · rcases zaR hb with⟨j,u,rfl,e⟩ |⟨y,u,rfl,e⟩
      · injection e with e1 _;rw [e1]
      · exact nomatch e
    · rcases zaR hb with⟨j,u,rfl,e⟩ |⟨y,u,rfl,e⟩
      · exact nomatch e
      · injection e with e1 _;rw [e1]
  byValue:=fun k v h=>by
    rcases zaR h with⟨i,t,rfl,rfl⟩ |⟨x,t,rfl,rfl⟩<;>rfl
  pyHash:=fun hv h=>by
    rcases zaR hv with⟨i,t,rfl,rfl⟩ |⟨x,t,rfl,rfl⟩
    · exact wpAny_pyHash_int h
    · exact wpAny_pyHash_str h
  eqBool:=fun hu hv h=>by
    rcases zaR hu with⟨i,t,rfl,rfl⟩ |⟨x,t,rfl,rfl⟩
    · rcases zaR hv with⟨j,u,rfl,rfl⟩ |⟨y,u,rfl,rfl⟩
      · rw [zqL]at h;exact wpAny_eqBool_int h
      · rw [zql]at h;exact SeqAt.EqAt.int_str i t y u _ _ _ _ h
    · rcases zaR hv with⟨j,u,rfl,rfl⟩ |⟨y,u,rfl,rfl⟩
      · rw [zqG]at h;exact SeqAt.EqAt.str_int x t j u _ _ _ _ h
      · rw [zqz]at h;exact wpAny_eqBool_str h
  «strs» :=fun k x t v h=>by
    rcases zaR h with⟨i,u,rfl,e⟩ |⟨y,u,rfl,e⟩
    · exact nomatch e
    · injection e with e1 _;subst e1;cases v<;>rfl
inductive V where
  |non |bl (b:Bool) |int (i:Int) |str (x:Str) |byt (b:Array UInt8) |flt (b:UInt64) |ref (a:Addr) |ty (n:String)
  deriving DecidableEq
noncomputable def RelV:V→Value→Prop
 | .non,u=>u=Value.none
 | .bl b,u=>u=Value.bool b
 | .int i,u=>∃t,u=Value.int i t
 | .str x,u=>∃t,u=Value.str x t
 | .byt b,u=>∃t,u=Value.bytes b t
 | .flt b,u=>∃t,u=Value.float b t
 | .ref a,u=>u=Value.ref a
 | .ty n,u=>u=Value.type n
noncomputable abbrev Vals:List V→List Value→Prop:=Paired RelV
theorem Vals.length{xs:List V}{us:List Value}(r:Vals xs us):xs.length=us.length:=Paired.length r
theorem Vals.get:∀{xs:List V}{us:List Value}{i:Nat}{x:V},Vals xs us→xs[i]? =some x→ ∃u,us[i]? =some u∧RelV x u
 |_,_,_,_, .nil,e=>by simp at e
 |_,_,0,_, .cons r _,e=>by simp at e;subst e;exact⟨_,rfl,r⟩
 |_,_,i+1,x, .cons _ t,e=>by
  obtain⟨u,h1,h2⟩:=Vals.get (i:=i) (x:=x) t (by simpa using e);exact⟨u,by simpa using h1,h2⟩
theorem Vals.append:∀{xs ys:List V}{us ws:List Value},Vals xs us→Vals ys ws→Vals (xs++ys) (us++ws)
 |_,_,_,_, .nil,s=>s
 |_,_,_,_, .cons r t,s=> .cons r (Vals.append t s)
theorem Vals.take:∀{xs:List V}{us:List Value}(n:Nat),Vals xs us→Vals (xs.take n) (us.take n)
 |_,_,0,_=> .nil
 |_,_,_+1, .nil=> .nil
 |_,_,n+1, .cons r t=> .cons r (Vals.take n t)
theorem Vals.drop:∀{xs:List V}{us:List Value}(n:Nat),Vals xs us→Vals (xs.drop n) (us.drop n)
 |_,_,0,r=>r
 |_,_,_+1, .nil=> .nil
 |_,_,n+1, .cons _ t=>Vals.drop n t
noncomputable def RelO:Option V→Option Value→Prop
 |some v,some u=>RelV v u
 |none,none=>True
 |_,_=>False
noncomputable def KV {κ:Type}:List (κ×V)→List (κ×Value)→Prop:=Paired fun(p:κ×V) (q:κ×Value)=>p.1=q.1∧RelV p.2 q.2
noncomputable def kV:Key→V
 | .inl i=> .int i
 | .inr x=> .str x
inductive HO where
    |lst (xs:List V)
    |tup (xs:List V)
    |dK (kvs:List (Key×V)) |dT (kvs:List (List Key×V))
    |set (S:Int→Bool) (n:Nat)
    |ins (C dx:Addr) (fs:List (Str×V))
    |own (x:Addr)
    |xd (fs:List (Str×V))
    |met (f x:Addr)
    |rng (lo hi:Int)
    |frz (o:Obj) (u:HO)
    |tbl (ps:Array Value)
    |ext (φ:Heap→Prop)
noncomputable abbrev Hp:=Addr→Option HO
noncomputable def upd (H:Hp) (a:Addr) (o:HO):Hp:=fun b=>if b=a then some o else H b
theorem zay{H:Hp}{a:Addr}{o:HO}:upd H a o a=some o:=by unfold upd;rw [if_pos rfl]
theorem zas{H:Hp}{a b:Addr}{o:HO}(h:b≠a):upd H a o b=H b:=by unfold upd;rw [if_neg h]
theorem zlN{H:Hp}{a b:Addr}{o u:HO}(h:H a=some o) (h':H b=some u) (d:o≠u):a≠b:=by
 intro e;subst e;rw [h]at h';exact d (Option.some.inj h')
theorem zan{H:Hp}{a b:Addr}{o:HO}(h:H a=some o) (h':H b=none):a≠b:=by
 intro e;subst e;rw [h]at h';cases h'
section
variable (P:Program) (w:World)
noncomputable def ObjOk (H:Hp) (h:Heap) (a:Addr):HO→Prop
 | .lst xs=>xs.length≤sizeLine∧ ∃(its:List Value) (n:Nat),Vals xs its∧h.get? a=some { cls:= .type "list",data:= .seq its.toArray n }
 | .tup xs=>xs.length≤sizeLine∧ ∃its:List Value,Vals xs its∧IsTup h a its.toArray
 | .dK kvs=>kvs.length≤sizeLine∧(a == sysModules)=false∧ ∃vs,KV kvs vs∧h.DictOf (zhm P w) a vs
 | .dT kvs=>kvs.length≤sizeLine∧(a == sysModules)=false∧ ∃xs:List (List Key×Addr×Value),
   Paired (fun(p:List Key×V) (q:List Key×Addr×Value)=>p.1=q.1∧H q.2.1=some (.tup (p.1.map kV))∧RelV p.2 q.2.2) kvs xs∧
   ∃o es ep,h.get? a=some o∧o.ExactDict∧o.data= .dict es ep∧es.toList=xs.map (entryOfKey (tupleKind (zhm P w)))∧(xs.map (·.1)).Nodup
 | .set S n=>h.SetOf (intKind P w) a S n
 | .ins C dx fs=>H dx=some (.own a)∧fs.length≤1000∧dx≠a∧h.get? a=some (PySem.W.instObj C dx)∧
   ∃mA,h.Ns1 dx mA∧(∀f,RelO (fs.lookup f) (mA f))∧PySem.Within mA (fs.map (·.1))
 | .own _=>∃o,h.get? a=some o
 | .xd fs=>∃mA,h.Ns1 a mA∧ ∀f,RelO (fs.lookup f) (mA f)
 | .rng lo hi=>∃t u v,h.get? a=some { cls:= .type "range",data:= .fields #[.int lo t, .int hi u, .int 1 v] }
 | .frz o u=>h.get? a=some o∧ObjOk H h a u
 | .tbl ps=>h.get? a=some { cls:= .none,data:= .fields ps }
 | .met f x=>h.get? a=some (PySem.W.methodObj (.ref f) (.ref x))
 | .ext φ=>φ h∧(∃o,h.get? a=some o)∧ ∀h1 h2:Heap,φ h1→(∀o,h1.get? a=some o→h2.get? a=some o)→φ h2
noncomputable def HOk (H:Hp) (h:Heap):Prop:=∀a o,H a=some o→ObjOk P w H h a o
end
section
variable {P:Program}{w:World}{H H':Hp}{h h':Heap}{a:Addr}{o:HO}
theorem ObjOk.lt (x:ObjOk P w H h a o):a<h.objs.size:=by
 cases o with
 |lst xs=>obtain⟨_,_,_,_,e⟩:=x;exact Heap.lt_size e
 |tup xs=>obtain⟨_,_,_,p⟩:=x;exact p.lt
 |dK kvs=>obtain⟨_,_,_,_,o,_,_,e,_⟩:=x;exact Heap.lt_size e
 |dT kvs=>obtain⟨_,_,_,_,o,_,_,e,_⟩:=x;exact Heap.lt_size e
 |set S n=>obtain⟨o,_,_,_,e,_⟩:=x;exact Heap.lt_size e
 |ins C dx fs=>obtain⟨_,_,_,e,_⟩:=x;exact Heap.lt_size e
 |own y=>obtain⟨_,e⟩:=x;exact Heap.lt_size e
 |xd fs=>obtain⟨_,⟨_,_,_,e,_⟩,_⟩:=x;exact Heap.lt_size e
 |rng lo hi=>obtain⟨_,_,_,e⟩:=x;exact Heap.lt_size e
 |frz ob u=>obtain⟨e,_⟩:=x;exact Heap.lt_size e
 |tbl ps=>exact Heap.lt_size (show h.get? a=some _ from x)
 |met f y=>exact Heap.lt_size (show h.get? a=some _ from x)
 |ext φ=>obtain⟨_,⟨_,e⟩,_⟩:=x;exact Heap.lt_size e
theorem Paired.mapP{α β:Type}{F G:α→β→Prop}:∀{l₁:List α}{l₂:List β},Paired F l₁ l₂→(∀a b,F a b→G a b)→Paired G l₁ l₂
 |_,_, .nil,_=> .nil
 |_,_, .cons r t,f=> .cons (f _ _ r) (Paired.mapP t f)
theorem ObjOk.stay (x:ObjOk P w H h a o) (k:∀b u,(b=a∨H b=some (.own a))→h.get? b=some u→h'.get? b=some u)
  (ho:∀b,H b=some (.own a)→H' b=some (.own a)) (ht:∀b xs,H b=some (.tup xs)→H' b=some (.tup xs)):ObjOk P w H' h' a o:=by
 induction o with
 |lst xs=>obtain⟨z,its,n,r,e⟩:=x;exact⟨z,its,n,r,k _ _ (.inl rfl) e⟩
 |tup xs=>obtain⟨z,its,r,ob,e,c⟩:=x;exact⟨z,its,r,ob,k _ _ (.inl rfl) e,c⟩
 |dK kvs=>obtain⟨z,y,vs,r,ob,es,ep,e,c⟩:=x;exact⟨z,y,vs,r,ob,es,ep,k _ _ (.inl rfl) e,c⟩
 |dT kvs=>
  obtain⟨z,y,xs,r,ob,es,ep,e,c⟩:=x;exact⟨z,y,xs,Paired.mapP r fun p q z=>⟨z.1,ht _ _ z.2.1,z.2.2⟩,ob,es,ep,k _ _ (.inl rfl) e,c⟩
 |set S n=>obtain⟨ob,es,ep,t,e,c⟩:=x;exact⟨ob,es,ep,t,k _ _ (.inl rfl) e,c⟩
 |ins C dx fs=>
  obtain⟨d,z,ne,e,mA,⟨od,es,ep,e2,c⟩,r⟩:=x;exact⟨ho _ d,z,ne,k _ _ (.inl rfl) e,mA,⟨od,es,ep,k _ _ (.inr d) e2,c⟩,r⟩
 |own y=>obtain⟨ob,e⟩:=x;exact⟨ob,k _ _ (.inl rfl) e⟩
 |xd fs=>obtain⟨mA,⟨od,es,ep,e,c⟩,r⟩:=x;exact⟨mA,⟨od,es,ep,k _ _ (.inl rfl) e,c⟩,r⟩
 |rng lo hi=>obtain⟨t,u,v,e⟩:=x;exact⟨t,u,v,k _ _ (.inl rfl) e⟩
 |frz ob u ih=>obtain⟨e,q⟩:=x;exact⟨k _ _ (.inl rfl) e,ih q⟩
 |tbl ps=>
  have e:h.get? a=some { cls:= .none,data:= .fields ps }:=x;show h'.get? a=some { cls:= .none,data:= .fields ps };exact k a _ (.inl rfl) e
 |met f y=>
  have e:h.get? a=some (PySem.W.methodObj (.ref f) (.ref y)):=x;show h'.get? a=some (PySem.W.methodObj (.ref f) (.ref y));exact k a _ (.inl rfl) e
 |ext φ=>obtain⟨p,⟨o,e⟩,st⟩:=x;exact⟨st _ _ p fun o q=>k _ _ (.inl rfl) q,⟨o,k _ _ (.inl rfl) e⟩,st⟩
theorem HOk.lt (x:HOk P w H h) (e:H a=some o):a<h.objs.size:=(x a o e).lt
theorem HOk.fresh (x:HOk P w H h) (e:h.objs.size≤a):H a=none:=by
 cases q:H a with
 |none=>rfl
 |some u=>exact absurd (Nat.lt_of_lt_of_le (x.lt q) e) (Nat.lt_irrefl _)
theorem HOk.kept (x:HOk P w H h) (k:∀b u,h.get? b=some u→h'.get? b=some u):HOk P w H h':=fun a o e=>
 (x a o e).stay (fun b u _ q=>k b u q) (fun _ q=>q) fun _ _ q=>q
theorem HOk.laid (x:HOk P w H h) (k:∀b u,h.get? b=some u→h'.get? b=some u) (hp:h.objs.size≤a) (new:ObjOk P w (upd H a o) h' a o):HOk P w (upd H a o) h':=fun b u e=>by
 have hn:=x.fresh hp;by_cases hb:b=a
 ·subst hb;rw [zay]at e;cases e;exact new
 ·rw [zas hb]at e;exact(x b u e).stay (fun c v _ q=>k c v q) (fun c q=>by rw [zas (zan q hn)];exact q) fun c xs q=>by rw [zas (zan q hn)];exact q
end
noncomputable def Rd (H:Hp) (a:Addr) (u:HO):Prop:=H a=some u∨ ∃o,H a=some (.frz o u)
theorem Rd.ok{P:Program}{w:World}{H:Hp}{h:Heap}{a:Addr}{u:HO}(r:Rd H a u) (x:HOk P w H h):ObjOk P w H h a u:=by
 rcases r with r |⟨o,r⟩
 ·exact x a u r
 ·obtain⟨_,q⟩:=x a _ r;exact q
noncomputable def Mut:Option HO→Prop
 |some (.lst _)=>True
 |some (.dK _)=>True
 |some (.dT _)=>True
 |some (.set _ _)=>True
 |some (.ins _ _ _)=>True
 |some (.ext _)=>True
 |_=>False
section
variable {P:Program}{w:World}{H:Hp}{h h':Heap}{x e:Addr}{o':HO}
theorem HOk.write (ok:HOk P w H h) (mu:Mut (H x)) (he:e=x∨H e=some (.own x)) (k:∀b u,b≠e→h.get? b=some u→h'.get? b=some u) (heo:∃u,h'.get? e=some u)
  (new:ObjOk P w (upd H x o') h' x o'):HOk P w (upd H x o') h':=fun b u q=>by
 have nown:∀c y,H c=some (.own y)→c≠x:=fun c y r z=>by subst z;rw [r]at mu;exact mu
 have ntup:∀c xs,H c=some (.tup xs)→c≠x:=fun c xs r z=>by subst z;rw [r]at mu;exact mu
 by_cases hb:b=x
 ·subst hb;rw [zay]at q;cases q;exact new
 ·rw [zas hb]at q;by_cases hbe:b=e
  ·have q':H b=some (.own x):=by
    rcases he with z |z
    ·exact absurd (hbe.trans z) hb
    ·rw [hbe];exact z
   rw [q]at q';cases q';obtain⟨v,hv⟩:=heo;exact⟨v,by rw [hbe];exact hv⟩
  ·refine(ok b u q).stay (fun c v hc r=>k c v ?_ r) (fun c r=>by rw [zas (nown c b r)];exact r) fun c xs r=>by rw [zas (ntup c xs r)];exact r
   rcases hc with rfl |hc
   ·exact hbe
   ·rintro rfl;rcases he with z |z
    ·exact nown c b hc z
    ·rw [hc]at z;cases z;exact hb rfl
end
structure Un (fs ex:List Addr) (H H':Hp) (h h':Heap):Prop where
  keep:∀b o,h.get? b=some o→H b=none→b∉fs→b∉ex→h'.get? b=some o
  slot:∀b o,h.get? b=some o→H b=none→b∈fs→b∉ex→ ∃sl,h'.get? b=some { o with slots:=sl }
  free:∀b o,h.get? b=some o→H b=none→b∉ex→H' b=none
  there:∀b o,h.get? b=some o→b∉ex→ ∃o',h'.get? b=some o'
  tups:∀b xs,H b=some (.tup xs)→H' b=some (.tup xs)
  frzs:∀b o u,H b=some (.frz o u)→H' b=some (.frz o u)
  tbls:∀b ps,H b=some (.tbl ps)→ ∃more,H' b=some (.tbl (ps++more))
section
variable {fs ex:List Addr}{H H1 H2:Hp}{h h1 h2 h':Heap}{a x e:Addr}{o:HO}
theorem Un.any (u:Un fs ex H H1 h h1) {b:Addr}{ob:Obj}(q:h.get? b=some ob) (n:H b=none) (hx:b∉ex):∃sl,h1.get? b=some { ob with slots:=sl }:=by
 by_cases hb:b∈fs
 ·exact u.slot b ob q n hb hx
 ·exact⟨ob.slots,u.keep b ob q n hb hx⟩
theorem Un.trans (a:Un fs ex H H1 h h1) (b:Un fs ex H1 H2 h1 h2):Un fs ex H H2 h h2 where
  keep:=fun c ob q n hc hx=>b.keep c ob (a.keep c ob q n hc hx) (a.free c ob q n hx) hc hx
  slot:=fun c ob q n hc hx=>by
    obtain⟨sl,e1⟩:=a.slot c ob q n hc hx;obtain⟨sl',e2⟩:=b.slot c _ e1 (a.free c ob q n hx) hc hx;exact⟨sl',e2⟩
  free:=fun c ob q n hx=>by
    obtain⟨o',e1⟩:=a.there c ob q hx;exact b.free c o' e1 (a.free c ob q n hx) hx
  there:=fun c ob q hx=>by
    obtain⟨o',e1⟩:=a.there c ob q hx;exact b.there c o' e1 hx
  tups:=fun c xs q=>b.tups c xs (a.tups c xs q)
  frzs:=fun c ob xs q=>b.frzs c ob xs (a.frzs c ob xs q)
  tbls:=fun c ps q=>by
    obtain⟨m1,e1⟩:=a.tbls c ps q;obtain⟨m2,e2⟩:=b.tbls c _ e1;exact⟨m1++m2,by rw [e2,Array.append_assoc]⟩
theorem Un.kept (k:∀b u,h.get? b=some u→h'.get? b=some u):Un fs ex H H h h':=
 ⟨fun b ob q _ _ _=>k b ob q,fun b ob q _ _ _=>⟨ob.slots,k b ob q⟩,fun _ _ _ n _=>n,fun b ob q _=>⟨ob,k b ob q⟩,fun _ _ q=>q,fun _ _ _ q=>q,fun _ ps q=>⟨#[],by rw [q];simp⟩⟩
theorem Un.refl:Un fs ex H H h h:=Un.kept fun _ _ q=>q
theorem Un.laid (k:∀b u,h.get? b=some u→h'.get? b=some u) (hp:h.objs.size≤a) (hn:H a=none):Un fs ex H (upd H a o) h h' where
  keep:=fun b u q _ _ _=>k b u q
  slot:=fun b u q _ _ _=>⟨u.slots,k b u q⟩
  free:=fun b u q n _=>by rw [zas (Nat.ne_of_lt (Nat.lt_of_lt_of_le (Heap.lt_size q) hp))];exact n
  there:=fun b u q _=>⟨u,k b u q⟩
  tups:=fun b xs q=>by rw [zas (zan q hn)];exact q
  frzs:=fun b u xs q=>by rw [zas (zan q hn)];exact q
  tbls:=fun b ps q=>⟨#[],by rw [zas (zan q hn),q];simp⟩
theorem Un.write (mu:Mut (H x)) (he:e=x∨H e=some (.own x)) (k:∀b u,b≠e→h.get? b=some u→h'.get? b=some u) (heo:∃u,h'.get? e=some u):Un fs ex H (upd H x o) h h':=by
 have hx:∀b,H b=none→b≠x:=fun b n z=>by subst z;rw [n]at mu;exact mu
 have hb:∀b,H b=none→b≠e:=fun b n z=>by
  subst z;rcases he with r |r
  ·exact hx b n r
  ·rw [n]at r;cases r
 have hm:∀b u,H b=some u→ ¬Mut (some u)→b≠x:=fun b u q nm z=>by subst z;rw [q]at mu;exact nm mu
 refine⟨fun b u q n _ _=>k b u (hb b n) q,fun b u q n _ _=>⟨u.slots,k b u (hb b n) q⟩,fun b u q n _=>by rw [zas (hx b n)];exact n,fun b u q _=>?_,
  fun b xs q=>by rw [zas (hm b _ q fun z=>z)];exact q,fun b u xs q=>by rw [zas (hm b _ q fun z=>z)];exact q,fun b ps q=>⟨#[],by rw [zas (hm b _ q fun z=>z),q];simp⟩⟩
 by_cases hbe:b=e
 ·subst hbe;exact heo
 ·exact⟨u,k b u hbe q⟩
end
noncomputable def trk (h:Heap) (H:Hp):List Addr:=(List.range h.objs.size).filter fun a=>(H a).isSome
noncomputable def zmx (h:Heap) (H:Hp):Heap:=PySem.W.hideAll h (trk h H)
theorem zkB (h:Heap) (H:Hp):(zmx h H).objs.size=h.objs.size:=PySem.W.hideAll_size _ _
theorem zmm{h:Heap}{H:Hp}{b:Addr}{o:Obj}(e:h.get? b=some o) (n:H b=none):(zmx h H).get? b=some o:=
 PySem.W.hideAll_get _ e fun hm=>by
  have q:(H b).isSome=true:=(List.mem_filter.mp hm).2;rw [n]at q;simp at q
theorem zpn{h:Heap}{H:Hp}{b:Addr}{o:Obj}(e:(zmx h H).get? b=some o):h.get? b=some o∧H b=none:=by
 have e':h.get? b=some o:=PySem.W.of_hideAll (trk h H) e;refine⟨e',?_⟩;cases q:H b with
 |none=>rfl
 |some x=>
  have hm:b∈trk h H:=List.mem_filter.mpr ⟨List.mem_range.mpr (Heap.lt_size e'),by simp [q]⟩
  have z:(zmx h H).get? b=none:=PySem.W.hideAll_none (trk h H) hm;rw [z]at e;cases e
noncomputable def znK (g h:Heap) (L:Addr):List (Addr×Obj):=(List.range h.objs.size).filterMap fun a=>if a=L∨(g.get? a).isSome=true then none else(h.get? a).map fun o=>(a,o)
noncomputable def rest (g h:Heap) (L d:Addr):List (Addr×Obj):=(znK g h L).filter fun p=>decide (p.1≠d)
structure Mod (K:PySem.W.Frag) (mg:Str→Option Value) (base:Heap):Prop where
  kin:K.In base
  glob:base.Ns mainGlobals mg
  blt:∃mb,base.Ns builtinsNs mb∧ ∀x:Str,x≠ "__name__" →mb x=bootBuiltins x
  nolimit:base.NoLimit
structure Cx where
  prog:Program
  w:World
  K:PySem.W.Frag
  mg:Str→Option Value
  base:Heap
  A:Around
  N:List Str
  s₀:Shared
  H₀:Hp
  env:Env
  outer:List Env
  stack:List Env
  ex:List Addr
  fn:Str→Bool
  calm:Bool
  pn:List (Addr×Obj)
  xe:Value→Shared→Prop
noncomputable def frs (l:List Env):List Addr:=l.filterMap (·.frame)
noncomputable abbrev Cx.fs (X:Cx):List Addr:=frs X.outer
noncomputable def Vis (sc:Scope) (x:Str):Prop:=sc.names.lookup x=some .local∨sc.names.lookup x=some .cell∨sc.names.lookup x=some .free
noncomputable def Loc (sc:Scope) (x:Str):Prop:=sc.names.lookup x=some .local∨sc.names.lookup x=some .cell
noncomputable def ztw (env:Env) (h:Heap) (m:Str→Option Value) (x:Str) (u:Value):Prop:=
 (env.kindOf x=some .local∧m x=some u)∨((env.kindOf x=some .cell∨env.kindOf x=some .free)∧ ∃c,env.cells.lookup x=some c∧h.IsCell c (some u))
structure Cx.Ok (X:Cx):Prop where
  mod:Mod X.K X.mg X.base
  kind:X.env.scope.kind= .function
  glob:X.env.globals=mainGlobals
  blt:X.env.builtins=builtinsNs
  above:X.s₀.heap.objs.size≤X.env.locals
  inj:∀x y c,X.env.cells.lookup x=some c→X.env.cells.lookup y=some c→x=y
  has:∀x,(X.env.kindOf x=some .cell∨X.env.kindOf x=some .free)→ ∃c,X.env.cells.lookup x=some c
  cab:∀x c,X.fn x=true→X.env.cells.lookup x=some c→X.s₀.heap.objs.size≤c
  hd:X.calm=true→X.A.handled=none
  frames:X.A.frames=some X.stack
  stk:X.stack=X.outer∨(X.stack=X.env::X.outer∧X.env.frame=some X.env.locals)
  exf:∀b∈X.ex,b≠X.env.locals∧ ∀x c,X.env.cells.lookup x=some c→c≠b
  bs:∀b o,X.base.get? b=some o→X.s₀.heap.get? b=some o∧X.H₀ b=none
  bsz:X.base.objs.size≤X.s₀.heap.objs.size
  noex:∀b o,X.base.get? b=some o→b∉X.ex
  exfs:∀b∈X.ex,b∉X.fs
  funs:X.s₀.heap.FunFrames X.base X.outer
  frf:∀b∈X.fs,X.H₀ b=none
structure Inv (X:Cx) (pins:List (Addr×Obj)) (σ:List (Option V)) (H:Hp) (s:Shared):Prop where
  ok:X.Ok
  os:s.os=X.s₀.os
  bare:AllBare s.gens
  base:Un X.fs X.ex X.H₀ H X.s₀.heap s.heap
  loc:∃m,s.heap.Ns X.env.locals m∧ ∀(i:Nat) (x:Str) (v:V),X.N[i]? =some x→σ[i]? =some (some v)→Vis X.env.scope x→ ∃u,RelV v u∧ztw X.env s.heap m x u
  cell:∀x c,X.env.cells.lookup x=some c→ ∃v,s.heap.IsCell c v
  free:H X.env.locals=none
  freeC:∀x c,X.env.cells.lookup x=some c→H c=none
  pin:∀p∈X.pn++pins,s.heap.get? p.1=some p.2∧H p.1=none∧p.1≠X.env.locals∧p.1∉X.fs∧ ∀v,p.2.data≠ .cell v
  hok:HOk X.prog X.w H s.heap
  len:σ.length=X.N.length
section
variable {X:Cx}{pins:List (Addr×Obj)}{σ:List (Option V)}{H H':Hp}{s:Shared}{h':Heap}
theorem Cx.Ok.nofr (ok:X.Ok) {b:Addr}{o:Obj}(e:X.base.get? b=some o):b∉X.fs:=fun hb=>by
 have:=(ok.funs.mem hb).1;rw [e]at this;cases this
theorem Inv.bs (I:Inv X pins σ H s):∀b o,X.base.get? b=some o→s.heap.get? b=some o∧H b=none:=fun b o e=>
 ⟨I.base.keep b o (I.ok.bs b o e).1 (I.ok.bs b o e).2 (I.ok.nofr e) (I.ok.noex b o e),I.base.free b o (I.ok.bs b o e).1 (I.ok.bs b o e).2 (I.ok.noex b o e)⟩
theorem Inv.bk (I:Inv X pins σ H s):∀b o,X.base.get? b=some o→s.heap.get? b=some o:=fun b o e=>(I.bs b o e).1
theorem Inv.mod (I:Inv X pins σ H s):Mod X.K X.mg X.base:=I.ok.mod
theorem Inv.kIn (I:Inv X pins σ H s):X.K.In s.heap:=I.ok.mod.kin.keeps I.bk
theorem Inv.lt (I:Inv X pins σ H s):X.env.locals<s.heap.objs.size:=let ⟨_,hn,_⟩:=I.loc;hn.lt
theorem Inv.sz (I:Inv X pins σ H s):X.s₀.heap.objs.size≤s.heap.objs.size:=Nat.le_trans I.ok.above (Nat.le_of_lt I.lt)
theorem Inv.nofs (I:Inv X pins σ H s) {a:Addr}(h:s.heap.objs.size≤a):a∉X.fs:=fun hb=>by
 obtain⟨_,o,ho,_⟩:=I.ok.funs.mem hb;exact absurd (Nat.lt_of_lt_of_le (Heap.lt_size ho) (Nat.le_trans I.sz h)) (Nat.lt_irrefl _)
theorem Inv.cne (I:Inv X pins σ H s):∀x c,X.env.cells.lookup x=some c→c≠X.env.locals:=fun x c e z=>by
 obtain⟨v,o,ho,hd⟩:=I.cell x c e;obtain⟨m,⟨o',es,ep,ho',hd',_⟩,_⟩:=I.loc;rw [z,ho']at ho;cases ho;rw [hd']at hd;cases hd
theorem Inv.funs (I:Inv X pins σ H s):s.heap.FunFrames X.base X.outer:=by
 have all:∀(l:List Env),(∀b∈frs l,b∈X.fs)→X.s₀.heap.FunFrames X.base l→s.heap.FunFrames X.base l:=by
  intro l
  induction l with
  |nil=>intro _ _;trivial
  |cons env r ih=>
   intro hs hl;obtain⟨hk,⟨L,o,hf,hn,ho,hd⟩,hr⟩:=hl;have hL:L∈X.fs:=hs L (by unfold frs;rw [List.filterMap_cons,hf];exact List.mem_cons_self);obtain⟨sl,e⟩:=I.base.slot L o ho (I.ok.frf L hL) hL fun z=>I.ok.exfs L z hL;exact⟨hk,⟨L,_,hf,hn,e,hd⟩,ih (fun b hb=>hs b (by unfold frs;rw [List.filterMap_cons,hf];exact List.mem_cons_of_mem _ hb)) hr⟩
 exact all X.outer (fun _ hb=>hb) I.ok.funs
theorem Inv.stack (I:Inv X pins σ H s):s.heap.FunFrames X.base X.stack:=by
 rcases I.ok.stk with e |⟨e,hf⟩
 ·rw [e];exact I.funs
 ·rw [e];obtain⟨m,hn,_⟩:=I.loc;refine .cons (by rw [I.ok.kind];decide) hf hn ?_ I.funs;exact Heap.get?_none_of_le (Nat.le_trans I.ok.bsz I.ok.above)
theorem Inv.stkSub (I:Inv X pins σ H s):∀b∈frs X.stack,b∈X.env.locals::X.fs:=fun b hb=>by
 rcases I.ok.stk with e |⟨e,hf⟩
 ·rw [e]at hb;exact List.mem_cons_of_mem _ hb
 ·rw [e]at hb;unfold frs at hb;rw [List.filterMap_cons,hf]at hb;exact hb
theorem Inv.stkFree (I:Inv X pins σ H s):∀b∈frs X.stack,H b=none:=fun b hb=>by
 rcases List.mem_cons.mp (I.stkSub b hb) with e |hb
 ·rw [e];exact I.free
 ·obtain⟨_,o,ho,_⟩:=I.ok.funs.mem hb;exact I.base.free b o ho (I.ok.frf b hb) fun z=>I.ok.exfs b z hb
theorem Inv.step{g':Array GenState}{t':Nat}{d':Drawn}{ch:List Addr}(I:Inv X pins σ H s)
  (hch:∀b∈ch,(b∈X.ex∨X.s₀.heap.objs.size≤b)∧b≠X.env.locals∧(∀x c,X.env.cells.lookup x=some c→c≠b)∧ ∀p∈X.pn++pins,p.1≠b)
  (keep:∀b o,b≠X.env.locals→b∉X.fs→b∉ch→s.heap.get? b=some o→H b=none→h'.get? b=some o)
  (slot:∀b o,b≠X.env.locals→b∈X.fs→b∉ch→s.heap.get? b=some o→H b=none→ ∃sl,h'.get? b=some { o with slots:=sl }) (free:∀b o,b∉ch→s.heap.get? b=some o→H b=none→H' b=none)
  (there:∀b o,b∉ch→s.heap.get? b=some o→ ∃o',h'.get? b=some o')
  (tups:∀b xs,H b=some (.tup xs)→H' b=some (.tup xs)) (frzs:∀b o u,H b=some (.frz o u)→H' b=some (.frz o u)) (tbls:∀b ps,H b=some (.tbl ps)→ ∃more,H' b=some (.tbl (ps++more)))
  (ns:∀m,s.heap.Ns X.env.locals m→h'.Ns X.env.locals m) (hok:HOk X.prog X.w H' h') (hg:AllBare g') :
  Inv X pins σ H' { s with heap:=h',gens:=g',drawn:=d',toks:=t' }:=by
 have neL:∀b o,X.s₀.heap.get? b=some o→b≠X.env.locals:=fun b o e=>Nat.ne_of_lt (Nat.lt_of_lt_of_le (Heap.lt_size e) I.ok.above);have neC:∀b o,X.s₀.heap.get? b=some o→b∉X.ex→b∉ch:=fun b o e hx hb=>by
  rcases(hch b hb).1 with z |z
  ·exact hx z
  ·exact absurd (Nat.lt_of_lt_of_le (Heap.lt_size e) z) (Nat.lt_irrefl _)
 have cellK:∀x c,X.env.cells.lookup x=some c→ ∀v,s.heap.IsCell c v→h'.IsCell c v:=fun x c e v ⟨o,ho,hd⟩=>by
  have nch:c∉ch:=fun z=>(hch c z).2.2.1 x c e rfl;by_cases hc:c∈X.fs
  ·obtain⟨sl,q⟩:=slot c o (I.cne x c e) hc nch ho (I.freeC x c e);exact⟨_,q,hd⟩
  ·exact⟨o,keep c o (I.cne x c e) hc nch ho (I.freeC x c e),hd⟩
 refine⟨I.ok,I.os,hg,⟨fun b o e n hb hx=>?_,fun b o e n hb hx=>?_,fun b o e n hx=>?_,fun b o e hx=>?_,fun b xs e=>tups b xs (I.base.tups b xs e),fun b o xs e=>frzs b o xs (I.base.frzs b o xs e),fun b ps e=>?_⟩,?_,fun x c e=>?_,?_,fun x c e=>?_,fun p hp=>?_,hok,I.len⟩
 ·exact keep b o (neL b o e) hb (neC b o e hx) (I.base.keep b o e n hb hx) (I.base.free b o e n hx)
 ·obtain⟨sl,e1⟩:=I.base.slot b o e n hb hx;obtain⟨sl',e2⟩:=slot b _ (neL b o e) hb (neC b o e hx) e1 (I.base.free b o e n hx);exact⟨sl',e2⟩
 ·obtain⟨o',e1⟩:=I.base.there b o e hx;exact free b o' (neC b o e hx) e1 (I.base.free b o e n hx)
 ·obtain⟨o',e1⟩:=I.base.there b o e hx;exact there b o' (neC b o e hx) e1
 ·obtain⟨m1,e1⟩:=I.base.tbls b ps e;obtain⟨m2,e2⟩:=tbls b _ e1;exact⟨m1++m2,by rw [e2,Array.append_assoc]⟩
 ·obtain⟨m,hn,hl⟩:=I.loc;refine⟨m,ns m hn,fun i x v e1 e2 e3=>?_⟩;obtain⟨u,r,l⟩:=hl i x v e1 e2 e3;refine⟨u,r,?_⟩;rcases l with l |⟨k,c,e,z⟩
  ·exact .inl l
  ·exact .inr ⟨k,c,e,cellK x c e _ z⟩
 ·obtain⟨v,z⟩:=I.cell x c e;exact⟨v,cellK x c e v z⟩
 ·obtain⟨m,⟨o,_,_,ho,_⟩,_⟩:=I.loc;exact free _ o (fun z=>(hch _ z).2.1 rfl) ho I.free
 ·obtain⟨v,o,ho,hd⟩:=I.cell x c e;exact free c o (fun z=>(hch c z).2.2.1 x c e rfl) ho (I.freeC x c e)
 ·obtain⟨e,n,ne,nf,d⟩:=I.pin p hp;have nch:p.1∉ch:=fun z=>(hch p.1 z).2.2.2 p hp rfl;exact⟨keep p.1 p.2 ne nf nch e n,free p.1 p.2 nch e n,ne,nf,d⟩
theorem Inv.un{t':Nat}(I:Inv X pins σ H s) (u:Un X.fs [] H H' s.heap h') (hok:HOk X.prog X.w H' h'):Inv X pins σ H' { s with heap:=h',toks:=t' }:=by
 obtain⟨m,⟨o,es,ep,ho,r⟩,_⟩:=id I.loc;obtain⟨sl,hL⟩:=u.any ho I.free (by simp);exact I.step (g':=s.gens) (d':=s.drawn) (ch:=[]) (fun _ z=>nomatch z) (fun b o _ hb _ e n=>u.keep b o e n hb (by simp)) (fun b o _ hb _ e n=>u.slot b o e n hb (by simp)) (fun b o _ e n=>u.free b o e n (by simp)) (fun b o _ e=>u.there b o e (by simp)) u.tups u.frzs u.tbls (fun m' hm=>by
  obtain⟨o',es',ep',ho',r'⟩:=hm;rw [ho]at ho';cases ho';exact⟨_,es',ep',hL,r'⟩) hok I.bare
theorem Inv.call{g':Array GenState}{t':Nat}{d':Drawn}{ch:List Addr}(I:Inv X pins σ H s) (u:Un (frs X.stack) ch H H' s.heap h') (hok:HOk X.prog X.w H' h') (hg:AllBare g')
  (hch:∀b∈ch,(b∈X.ex∨X.s₀.heap.objs.size≤b)∧b≠X.env.locals∧(∀x c,X.env.cells.lookup x=some c→c≠b)∧ ∀p∈X.pn++pins,p.1≠b) :
  Inv X pins σ H' { s with heap:=h',gens:=g',drawn:=d',toks:=t' }:=by
 obtain⟨m,⟨o,es,ep,ho,r⟩,_⟩:=id I.loc;obtain⟨sl,hL⟩:=u.any ho I.free fun z=>(hch _ z).2.1 rfl;exact I.step (ch:=ch) hch (fun b o hL hb hc e n=>u.keep b o e n (fun z=>(List.mem_cons.mp (I.stkSub b z)).elim hL hb) hc) (fun b o _ _ hc e n=>u.any e n hc) (fun b o hc e n=>u.free b o e n hc) (fun b o hc e=>u.there b o e hc) u.tups u.frzs u.tbls (fun m' hm=>by
  obtain⟨o',es',ep',ho',r'⟩:=hm;rw [ho]at ho';cases ho';exact⟨_,es',ep',hL,r'⟩) hok hg
theorem Inv.turned{t':Nat}{it:Addr}(I:Inv X pins σ H s) (k:∀b o,b≠it→s.heap.get? b=some o→h'.get? b=some o) (hn:H it=none) (hL:it≠X.env.locals)
  (h1:it∈X.ex∨X.s₀.heap.objs.size≤it) (h2:∀x c,X.env.cells.lookup x=some c→c≠it) (h3:∀p∈X.pn++pins,p.1≠it):Inv X pins σ H { s with heap:=h',toks:=t' }:=by
 have nit:∀b u,H b=some u→b≠it:=fun b u e z=>by rw [z,hn]at e;cases e
 refine I.step (g':=s.gens) (d':=s.drawn) (ch:=[it]) (fun b hb=>?_) (fun b o _ _ hc e _=>k b o (fun z=>hc (by simp [z])) e) (fun b o _ _ hc e _=>⟨o.slots,k b o (fun z=>hc (by simp [z])) e⟩) (fun _ _ _ _ n=>n)
  (fun b o hc e=>⟨o,k b o (fun z=>hc (by simp [z])) e⟩) (fun _ _ e=>e) (fun _ _ _ e=>e) (fun b ps e=>⟨#[],by rw [e];simp⟩) (fun m hm=>?_) (fun b u e=>?_) I.bare
 ·have e:b=it:=by simpa using hb
  subst e;exact⟨h1,hL,h2,h3⟩
 ·obtain⟨o,es,ep,ho,r⟩:=hm;exact⟨o,es,ep,k _ o (Ne.symm hL) ho,r⟩
 ·refine(I.hok b u e).stay (fun c v hc q=>k c v ?_ q) (fun _ q=>q) fun _ _ q=>q;rcases hc with z |z
  ·rw [z];exact nit b u e
  ·exact nit c _ z
theorem Inv.tok (I:Inv X pins σ H s) (t:Nat):Inv X pins σ H { s with toks:=t }:=I.un (h':=s.heap) (t':=t) Un.refl I.hok
theorem Inv.kept{t':Nat}(I:Inv X pins σ H s) (k:∀b u,s.heap.get? b=some u→h'.get? b=some u):Inv X pins σ H { s with heap:=h',toks:=t' }:=I.un (Un.kept k) (I.hok.kept k)
theorem Inv.laid{a:Addr}{o:HO}{t':Nat}(I:Inv X pins σ H s) (k:∀b u,s.heap.get? b=some u→h'.get? b=some u) (hp:s.heap.objs.size≤a) (new:ObjOk X.prog X.w (upd H a o) h' a o) :
  Inv X pins σ (upd H a o) { s with heap:=h',toks:=t' }:=I.un (Un.laid k hp (I.hok.fresh hp)) (I.hok.laid k hp new)
theorem Inv.write{x e:Addr}{o:HO}{t':Nat}(I:Inv X pins σ H s) (mu:Mut (H x)) (he:e=x∨H e=some (.own x)) (k:∀b u,b≠e→s.heap.get? b=some u→h'.get? b=some u) (heo:∃u,h'.get? e=some u)
  (new:ObjOk X.prog X.w (upd H x o) h' x o):Inv X pins σ (upd H x o) { s with heap:=h',toks:=t' }:=I.un (Un.write mu he k heo) (I.hok.write mu he k heo new)
theorem Inv.pins_of{pins':List (Addr×Obj)}(I:Inv X pins σ H s) (h:∀p∈pins',s.heap.get? p.1=some p.2∧H p.1=none∧p.1≠X.env.locals∧p.1∉X.fs∧ ∀v,p.2.data≠ .cell v):Inv X pins' σ H s:=
 ⟨I.ok,I.os,I.bare,I.base,I.loc,I.cell,I.free,I.freeC,fun p hp=>(List.mem_append.mp hp).elim (fun z=>I.pin p (List.mem_append_left _ z)) (h p),I.hok,I.len⟩
theorem ziz{N:List Str}(hN:N.Nodup) {i j:Nat}{x:Str}(a:N[i]? =some x) (b:N[j]? =some x):i=j:=by
 obtain⟨h1,e1⟩:=List.getElem?_eq_some_iff.mp a;obtain⟨h2,e2⟩:=List.getElem?_eq_some_iff.mp b;exact(List.getElem_inj hN).mp (e1.trans e2.symm)
theorem zgW{M:Model}{A:Around}{E:Value→Shared→Prop}{i:Nat}{x:Str}{v:V}{u:Value}{Q:Unit→Shared→Prop}(I:Inv X pins σ H s) (hN:X.N.Nodup) (hi:X.N[i]? =some x) (hx:Loc X.env.scope x) (r:RelV v u)
  (h:∀s',Inv X pins (σ.set i (some v)) H s'→(∃a,Heap.SameBut a s.heap s'.heap∧(a=X.env.locals∨X.env.cells.lookup x=some a))→Q () s') (hf:X.fn x=true∨X.env.scope.names.lookup x=some .local:=by first |exact .inl rfl |exact .inr rfl |assumption):wpAny M A (storeName X.env x u) Q E s:=by
 obtain⟨m,hn,hl⟩:=id I.loc;have hcls:(X.env.scope.kind == .class || (X.env.scope.kind == .module&&X.env.locals != X.env.globals))=false:=by rw [I.ok.kind];rfl
 have hiσ:i<σ.length:=by rw [I.len];exact(List.getElem?_eq_some_iff.mp hi).1
 have cne:=I.cne;have tracked:∀{a:Addr}{h':Heap},(∃o,s.heap.get? a=some o∧H a=none)→Heap.SameBut a s.heap h'→HOk X.prog X.w H h':=fun {a h'} ha hs b ob e=>by
  obtain⟨_,_,hfree⟩:=ha;refine(I.hok b ob e).stay (fun c w' hc q=>(hs.2 c ?_).trans q) (fun _ q=>q) fun _ _ q=>q;rintro rfl;rcases hc with rfl |hc
  ·rw [hfree]at e;cases e
  ·rw [hfree]at hc;cases hc
 rcases hx with hk |hk
 ·refine wpAny_storeName_local hk hn (fun h' hn' hs=>?_) hcls;obtain⟨oL,_,_,hoL,_⟩:=id hn;refine h _ ⟨I.ok,I.os,I.bare,⟨fun b o e n hb hx=>?_,fun b o e n hb hx=>?_,I.base.free,fun b o e hx=>?_,I.base.tups,I.base.frzs,I.base.tbls⟩,⟨_,hn',fun j y v' e1 e2 e3=>?_⟩,fun y c e=>?_,I.free,I.freeC,fun p hp=>?_,tracked ⟨oL,hoL,I.free⟩ hs,by simpa using I.len⟩ ⟨_,hs, .inl rfl⟩
  ·exact(hs.2 b (Nat.ne_of_lt (Nat.lt_of_lt_of_le (Heap.lt_size e) I.ok.above))).trans (I.base.keep b o e n hb hx)
  ·obtain⟨sl,e1⟩:=I.base.slot b o e n hb hx;exact⟨sl,(hs.2 b (Nat.ne_of_lt (Nat.lt_of_lt_of_le (Heap.lt_size e) I.ok.above))).trans e1⟩
  ·obtain⟨o',e1⟩:=I.base.there b o e hx;exact⟨o',(hs.2 b (Nat.ne_of_lt (Nat.lt_of_lt_of_le (Heap.lt_size e) I.ok.above))).trans e1⟩
  ·by_cases hj:j=i
   ·subst hj;rw [hi]at e1;cases e1;rw [List.getElem?_set_self hiσ]at e2;cases e2;exact⟨u,r, .inl ⟨hk,by simp⟩⟩
   ·rw [List.getElem?_set_ne (Ne.symm hj)]at e2;obtain⟨u',r',q⟩:=hl j y v' e1 e2 e3;refine⟨u',r',?_⟩;rcases q with⟨k,e⟩ |⟨k,c,e,z⟩
    ·refine .inl ⟨k,?_⟩;have:y≠x:=fun e=>hj (ziz hN e1 (e▸hi));simp [this,e]
    ·exact .inr ⟨k,c,e,z.sameBut hs (cne y c e)⟩
  ·obtain⟨w',z⟩:=I.cell y c e;exact⟨w',z.sameBut hs (cne y c e)⟩
  ·obtain⟨e,n,ne,nf,d⟩:=I.pin p hp;exact⟨(hs.2 p.1 ne).trans e,n,ne,nf,d⟩
 ·have hfn:X.fn x=true:=by
   rcases hf with z |z
   ·exact z
   ·rw [z]at hk;cases hk
  obtain⟨c,hc⟩:=I.ok.has x (.inl hk);obtain⟨w',z⟩:=I.cell x c hc;refine wpAny_storeName_cell I.ok.kind hk hc z (fun h' hc' hs=>?_);obtain⟨oc,hoc,hocd⟩:=id z;refine h { s with heap:=h' } ⟨I.ok,I.os,I.bare,⟨fun b o e n hb hx=>?_,fun b o e n hb hx=>?_,I.base.free,fun b o e hx=>?_,I.base.tups,I.base.frzs,I.base.tbls⟩,⟨m,hn.sameBut hs (Ne.symm (cne x c hc)),fun j y v' e1 e2 e3=>?_⟩,fun y c' e=>?_,I.free,I.freeC,fun p hp=>?_,tracked ⟨oc,hoc,I.freeC x c hc⟩ hs,by simpa using I.len⟩ ⟨c,hs, .inr hc⟩
  ·exact(hs.2 b (Nat.ne_of_lt (Nat.lt_of_lt_of_le (Heap.lt_size e) (I.ok.cab x c hfn hc)))).trans (I.base.keep b o e n hb hx)
  ·obtain⟨sl,e1⟩:=I.base.slot b o e n hb hx;exact⟨sl,(hs.2 b (Nat.ne_of_lt (Nat.lt_of_lt_of_le (Heap.lt_size e) (I.ok.cab x c hfn hc)))).trans e1⟩
  ·obtain⟨o',e1⟩:=I.base.there b o e hx;exact⟨o',(hs.2 b (Nat.ne_of_lt (Nat.lt_of_lt_of_le (Heap.lt_size e) (I.ok.cab x c hfn hc)))).trans e1⟩
  ·by_cases hj:j=i
   ·subst hj;rw [hi]at e1;cases e1;rw [List.getElem?_set_self hiσ]at e2;cases e2;exact⟨u,r, .inr ⟨.inl hk,c,hc,hc'⟩⟩
   ·rw [List.getElem?_set_ne (Ne.symm hj)]at e2;obtain⟨u',r',q⟩:=hl j y v' e1 e2 e3;refine⟨u',r',?_⟩;rcases q with q |⟨k,c',e,z'⟩
    ·exact .inl q
    ·refine .inr ⟨k,c',e,z'.sameBut hs ?_⟩;rintro rfl;exact hj (ziz hN e1 (I.ok.inj _ _ _ e hc▸hi))
  ·by_cases hcc:c'=c
   ·subst hcc;exact⟨_,hc'⟩
   ·obtain⟨w2,z2⟩:=I.cell y c' e;exact⟨w2,z2.sameBut hs hcc⟩
  ·obtain⟨e,n,ne,nf,d⟩:=I.pin p hp;refine⟨(hs.2 p.1 ?_).trans e,n,ne,nf,d⟩;intro q;rw [q,hoc]at e;have q':oc=p.2:=Option.some.inj e;exact d w' (by rw [←q'];exact hocd)
theorem zir{M:Model}{A:Around}{E:Value→Shared→Prop}{i:Nat}{x:Str}{v:V}{u:Value}{Q:Unit→Shared→Prop}(I:Inv X pins σ H s) (hN:X.N.Nodup) (hi:X.N[i]? =some x) (hx:Loc X.env.scope x) (r:RelV v u)
  (h:∀s',Inv X pins (σ.set i (some v)) H s'→Q () s') (hf:X.fn x=true∨X.env.scope.names.lookup x=some .local:=by first |exact .inl rfl |exact .inr rfl |assumption):wpAny M A (storeName X.env x u) Q E s:=
 zgW I hN hi hx r (fun s' I' _=>h s' I') hf
theorem Inv.call'{s':Shared}{ch:List Addr}(I:Inv X pins σ H s) (ho:s'.os=s.os) (u:Un (frs X.stack) ch H H' s.heap s'.heap) (hok:HOk X.prog X.w H' s'.heap) (hg:AllBare s'.gens)
  (hch:∀b∈ch,(b∈X.ex∨X.s₀.heap.objs.size≤b)∧b≠X.env.locals∧(∀x c,X.env.cells.lookup x=some c→c≠b)∧ ∀p∈X.pn++pins,p.1≠b):Inv X pins σ H' s':=by
 obtain⟨h',g',d',t',o'⟩:=s';have e:o'=s.os:=ho;subst e;exact I.call (g':=g') (t':=t') (d':=d') u hok hg hch
end
noncomputable abbrev XK:=Value→Option Addr→Hp→Prop
noncomputable abbrev St:=List (Option V)
noncomputable abbrev VK:=V→Hp→Prop
noncomputable abbrev TE:=St→Hp→VK→Prop
noncomputable abbrev TT:=St→Hp→(Bool→Hp→Prop)→Prop
noncomputable abbrev TA:=St→Hp→(List V→Hp→Prop)→Prop
structure Ends where
  nx:St→Hp→Prop
  rt:VK
  bk:St→Hp→Prop:=fun _ _=>False
  ct:St→Hp→Prop:=fun _ _=>False
noncomputable abbrev TS:=Ends→St→Hp→Prop
noncomputable def EP (X:Cx) (pins:List (Addr×Obj)) (σ:St) (Q:VK) (u:Value) (s':Shared):Prop:=∃v H',Inv X pins σ H' s'∧RelV v u∧Q v H'
noncomputable def TP (X:Cx) (pins:List (Addr×Obj)) (σ:St) (Q:Bool→Hp→Prop) (b:Bool) (s':Shared):Prop:=∃H',Inv X pins σ H' s'∧Q b H'
noncomputable def AP (X:Cx) (pins:List (Addr×Obj)) (σ:St) (Q:List V→Hp→Prop) (us:List Value) (s':Shared):Prop:=∃vs H',Inv X pins σ H' s'∧Vals vs us∧Q vs H'
noncomputable def SP (X:Cx) (pins:List (Addr×Obj)) (D:Ends) (f:Flow) (s':Shared):Prop:=
 match f with
 | .next=>∃σ' H',Inv X pins σ' H' s'∧D.nx σ' H'
 | .brk=>∃σ' H',Inv X pins σ' H' s'∧D.bk σ' H'
 | .cont=>∃σ' H',Inv X pins σ' H' s'∧D.ct σ' H'
 | .ret u=>∃v σ' H',Inv X pins σ' H' s'∧RelV v u∧D.rt v H'
noncomputable def PE (X:Cx) (e:Expr) (t:TE):Prop:=
 ∀(pins:List (Addr×Obj)) (s:Shared) (σ:St) (H:Hp) (Q:VK),Inv X pins σ H s→t σ H Q→wpAny (model X.prog X.w) X.A (eval e X.env) (EP X pins σ Q) X.xe s
noncomputable def PT (X:Cx) (e:Expr) (t:TT):Prop:=
 ∀(pins:List (Addr×Obj)) (s:Shared) (σ:St) (H:Hp) (Q:Bool→Hp→Prop),Inv X pins σ H s→t σ H Q→wpAny (model X.prog X.w) X.A (isTrue e X.env (eval e X.env)) (TP X pins σ Q) X.xe s
noncomputable def PW (X:Cx) (e:Expr) (t:TT):Prop:=
 ∀(whole:Sem Value) (pins:List (Addr×Obj)) (s:Shared) (σ:St) (H:Hp) (Q:Bool→Hp→Prop),Inv X pins σ H s→t σ H Q→wpAny (model X.prog X.w) X.A (isTrue e X.env whole) (TP X pins σ Q) X.xe s
theorem PW.pt{X:Cx}{e:Expr}{t:TT}(h:PW X e t):PT X e t:=h _
noncomputable def PA (X:Cx) (es:List Expr) (t:TA):Prop:=
 ∀(pos:Pos) (pins:List (Addr×Obj)) (s:Shared) (σ:St) (H:Hp) (Q:List V→Hp→Prop),Inv X pins σ H s→t σ H Q→wpAny (model X.prog X.w) X.A (spliced (backTo pos (starEach es X.env))) (AP X pins σ Q) X.xe s
noncomputable def PS (X:Cx) (st:Stmt) (t:TS):Prop:=
 ∀(pins:List (Addr×Obj)) (s:Shared) (σ:St) (H:Hp) (D:Ends),Inv X pins σ H s→t D σ H→wpAny (model X.prog X.w) X.A (exec st X.env) (SP X pins D) X.xe s
noncomputable def PSs (X:Cx) (st:List Stmt) (t:TS):Prop:=
 ∀(pins:List (Addr×Obj)) (s:Shared) (σ:St) (H:Hp) (D:Ends),Inv X pins σ H s→t D σ H→wpAny (model X.prog X.w) X.A (execs st X.env) (SP X pins D) X.xe s
theorem thn{α:Type}{t:Sem α}{Q Q':α→Shared→Prop}{M:Model}{A:Around}{E:Value→Shared→Prop}{s:Shared}(h:wpAny M A t Q E s) (hQ:∀a s,Q a s→Q' a s):wpAny M A t Q' E s:=wpAny_mono h hQ fun _ _ x=>x
section
variable {X:Cx}
noncomputable def zto (i:Nat):TE:=fun σ H Q=>∃v,σ[i]? =some (some v)∧Q v H
noncomputable def tC (v:V):TE:=fun _ H Q=>Q v H
theorem znz{i:Nat}{x:Str}{pos:Pos}(hN:X.N[i]? =some x) (hv:Vis X.env.scope x) (hd:(x == ("__debug__" :Str))=false:=by decide) (hcd:(x == ("__classdict__" :Str))=false:=by decide):PE X (.Name x pos) (zto i):=by
 intro pins s σ H Q I h;obtain⟨v,e,h⟩:=h;obtain⟨m,hn,hl⟩:=I.loc;obtain⟨u,r,l⟩:=hl i x v hN e hv;have fin:EP X pins σ Q u s:=⟨v,H,I,r,h⟩;rcases l with⟨hk,hm⟩ |⟨hk,c,hc,hcell⟩
 ·exact wpAny_Name (wpAny_loadName_local I.ok.kind hk hn hm fin) hd
 ·rcases hk with hk |hk
  ·exact wpAny_Name (wpAny_loadName_cell I.ok.kind hk hc hcell fin) hd
  ·exact wpAny_Name (wpAny_loadName_free I.ok.kind hk hc hcell fin hcd) hd
theorem zrb{i j pos}:PE X (.Constant (.int i) j pos) (tC (.int i)):=fun _ _ _ H _ I h=>wpAny_Constant_int ⟨.int i,H,I.tok _,⟨_,rfl⟩,h⟩
theorem zsP{b j pos}:PE X (.Constant (.bool b) j pos) (tC (.bl b)):=fun _ _ _ H _ I h=>Constant_bool ⟨.bl b,H,I,rfl,h⟩
theorem zqq{j pos}:PE X (.Constant .none j pos) (tC .non):=fun _ _ _ H _ I h=>Constant_none ⟨.non,H,I,rfl,h⟩
theorem zqI{x j pos}:PE X (.Constant (.str x) j pos) (tC (.str x)):=fun _ _ _ H _ I h=>Calls.Constant_str ⟨.str x,H,I.tok _,⟨_,rfl⟩,h⟩
noncomputable def Gl (X:Cx) (x:Str):Prop:=X.env.kindOf x=some .globalImplicit
theorem zhG{E:Value→Shared→Prop}{pins:List (Addr×Obj)}{s:Shared}{σ:St}{H:Hp}{x:Str}{u:Value}{pos:Pos}{Q:Value→Shared→Prop}(I:Inv X pins σ H s) (hg:Gl X x) (hm:X.mg x=some u) (h:Q u s)
  (hd:(x == ("__debug__" :Str))=false:=by decide):wpAny (model X.prog X.w) X.A (eval (.Name x pos) X.env) Q E s:=
 Calls.Name_function_global I.ok.kind hg (Calls.loadGlobal_global (by rw [I.ok.glob];exact I.mod.glob.keeps I.bk) hm h) hd
theorem zfe{E:Value→Shared→Prop}{pins:List (Addr×Obj)}{s:Shared}{σ:St}{H:Hp}{x:Str}{u:Value}{pos:Pos}{Q:Value→Shared→Prop}(I:Inv X pins σ H s) (hg:Gl X x) (hm:X.mg x=none) (hv:bootBuiltins x=some u) (h:Q u s)
  (hn:x≠ "__name__" :=by decide) (hd:(x == ("__debug__" :Str))=false:=by decide):wpAny (model X.prog X.w) X.A (eval (.Name x pos) X.env) Q E s:=by
 obtain⟨mb,h1,h2⟩:=I.mod.blt;exact Calls.Name_function_global I.ok.kind hg (Calls.loadGlobal_builtin (by rw [I.ok.glob];exact I.mod.glob.keeps I.bk) hm (by rw [I.ok.blt];exact h1.keeps I.bk) ((h2 x hn).trans hv) h) hd
theorem zoG{x:Str}{v:V}{u:Value}{pos:Pos}(hg:Gl X x) (hm:X.mg x=some u) (r:RelV v u) (hd:(x == ("__debug__" :Str))=false:=by decide):PE X (.Name x pos) (tC v):=
 fun _ _ _ H _ I h=>zhG I hg hm ⟨v,H,I,r,h⟩ hd
theorem znW{x:Str}{v:V}{u:Value}{pos:Pos}(hg:Gl X x) (hm:X.mg x=none) (hv:bootBuiltins x=some u) (r:RelV v u) (hn:x≠ "__name__" :=by decide) (hd:(x == ("__debug__" :Str))=false:=by decide):PE X (.Name x pos) (tC v):=
 fun _ _ _ H _ I h=>zfe I hg hm hv ⟨v,H,I,r,h⟩ hn hd
variable {a b:Expr}{pos:Pos}
variable {tA tB':TT}{rest:List Expr}
noncomputable def ztY (t u:TT):TT:=fun σ H Q=>t σ H fun c H1=>if c=true then u σ H1 Q else Q false H1
noncomputable def tOr (t u:TT):TT:=fun σ H Q=>t σ H fun c H1=>if c=true then Q true H1 else u σ H1 Q
noncomputable def ztE (t:TT):TT:=fun σ H Q=>t σ H fun c H1=>Q (!c) H1
theorem znU (ha:PT X a tA):PW X (.BoolOp .And [a] pos) tA:=by
 intro wh pins s σ H Q I h;refine isTrue_and (thn (ha pins s σ H Q I h) fun c s1 e=>?_);cases c with
 |true=>exact isTrue_and_nil e
 |false=>exact e
theorem zpH (ha:PT X a tA):PW X (.BoolOp .Or [a] pos) tA:=by
 intro wh pins s σ H Q I h;refine isTrue_or (thn (ha pins s σ H Q I h) fun c s1 e=>?_);cases c with
 |false=>exact isTrue_or_nil e
 |true=>exact e
theorem zrw (ha:PT X a tA) (hb:PW X (.BoolOp .And (b::rest) pos) tB'):PW X (.BoolOp .And (a::b::rest) pos) (ztY tA tB'):=by
 intro wh pins s σ H Q I h;refine isTrue_and (thn (ha pins s σ H _ I h) fun c s1 ⟨H1,I1,q1⟩=>?_);cases c with
 |true=>exact hb wh pins s1 σ H1 Q I1 q1
 |false=>exact⟨H1,I1,q1⟩
theorem zsZ (ha:PT X a tA) (hb:PW X (.BoolOp .Or (b::rest) pos) tB'):PW X (.BoolOp .Or (a::b::rest) pos) (tOr tA tB'):=by
 intro wh pins s σ H Q I h;refine isTrue_or (thn (ha pins s σ H _ I h) fun c s1 ⟨H1,I1,q1⟩=>?_);cases c with
 |true=>exact⟨H1,I1,q1⟩
 |false=>exact hb wh pins s1 σ H1 Q I1 q1
theorem zpK (ha:PT X a tA):PT X (.UnaryOp .Not a pos) (ztE tA):=by
 intro pins s σ H Q I h;exact isTrue_not (ha pins s σ H (fun c H1=>Q (!c) H1) I h)
end
noncomputable def SqL (K:PySem.W.Frag) (H:Hp) (a:Addr) (xs:List V):Prop:=
 Rd H a (.lst xs)∨
  ∃(o:Obj) (its:Array Value) (n:Nat),K.lookup a=some o∧o.cls= .type "list" ∧o.dict=none∧o.data= .seq its n∧its.size≤sizeLine∧Vals xs its.toList
noncomputable def SqT (K:PySem.W.Frag) (H:Hp) (a:Addr) (xs:List V):Prop:=
 Rd H a (.tup xs)∨
  ∃(o:Obj) (its:Array Value) (n:Nat),K.lookup a=some o∧o.cls= .type "tuple" ∧o.data= .seq its n∧its.size≤sizeLine∧Vals xs its.toList
noncomputable def zud:Value→Option V
 | .none=>some .non
 | .bool b=>some (.bl b)
 | .int i _=>some (.int i)
 | .str x _=>some (.str x)
 | .bytes b _=>some (.byt b)
 | .float b _=>some (.flt b)
 | .ref a=>some (.ref a)
 | .type n=>some (.ty n)
 |_=>none
theorem RelV.abs{x:V}{u:Value}(r:RelV x u):zud u=some x:=by
 cases x with
 |non=>cases r;rfl
 |bl _=>cases r;rfl
 |int _=>obtain⟨t,rfl⟩:=r;rfl
 |str _=>obtain⟨t,rfl⟩:=r;rfl
 |byt _=>obtain⟨t,rfl⟩:=r;rfl
 |flt _=>obtain⟨t,rfl⟩:=r;rfl
 |ref _=>cases r;rfl
 |ty _=>cases r;rfl
theorem RelV.inj{x y:V}{u:Value}(r:RelV x u) (q:RelV y u):x=y:=Option.some.inj (r.abs.symm.trans q.abs)
theorem Vals.inj:∀{xs ys:List V}{us:List Value},Vals xs us→Vals ys us→xs=ys
 |_,_,_, .nil, .nil=>rfl
 |_,_,_, .cons r t, .cons r' t'=>by rw [r.inj r',Vals.inj t t']
section
variable {X:Cx}{pins:List (Addr×Obj)}{σ:St}{H:Hp}{s:Shared}{a:Addr}{xs ys:List V}
theorem SqL.of{K:PySem.W.Frag}(h:H a=some (.lst xs)):SqL K H a xs:= .inl (.inl h)
theorem SqT.of{K:PySem.W.Frag}(h:H a=some (.tup xs)):SqT K H a xs:= .inl (.inl h)
theorem Inv.list (I:Inv X pins σ H s) (h:SqL X.K H a xs):∃its:List Value,Vals xs its∧PlainL s.heap a its.toArray∧xs.length≤sizeLine:=by
 rcases h with h |⟨o,its,n,hk,hc,hd,hs,hz,r⟩
 ·obtain⟨z,its,n,r,e⟩:=h.ok I.hok;exact⟨its,r,⟨_,n,e,rfl,rfl,rfl⟩,z⟩
 ·refine⟨its.toList,r,⟨o,n,I.kIn a o hk,hc,hd,by simpa using hs⟩,?_⟩
  have e:=r.length;simp only[Array.length_toList]at e;omega
theorem Inv.tuple (I:Inv X pins σ H s) (h:SqT X.K H a xs):∃its:List Value,Vals xs its∧IsTup s.heap a its.toArray∧xs.length≤sizeLine:=by
 rcases h with h |⟨o,its,n,hk,hc,hs,hz,r⟩
 ·obtain⟨z,its,r,p⟩:=h.ok I.hok;exact⟨its,r,p,z⟩
 ·refine⟨its.toList,r,⟨o,I.kIn a o hk,hc,n,by simpa using hs⟩,?_⟩
  have e:=r.length;simp only[Array.length_toList]at e;omega
theorem Inv.list_inj (I:Inv X pins σ H s) (h:SqL X.K H a xs) (h':SqL X.K H a ys):xs=ys:=by
 obtain⟨its,r,⟨o,n,e,_,_,d⟩,_⟩:=I.list h;obtain⟨its',r',⟨o',n',e',_,_,d'⟩,_⟩:=I.list h';rw [e]at e';cases e';rw [d]at d';injection d' with d1 _;have:its=its':=by simpa using congrArg Array.toList d1
 subst this;exact r.inj r'
theorem Inv.tuple_inj (I:Inv X pins σ H s) (h:SqT X.K H a xs) (h':SqT X.K H a ys):xs=ys:=by
 obtain⟨its,r,⟨o,e,_,n,d⟩,_⟩:=I.tuple h;obtain⟨its',r',⟨o',e',_,n',d'⟩,_⟩:=I.tuple h';rw [e]at e';cases e';rw [d]at d';injection d' with d1 _;have:its=its':=by simpa using congrArg Array.toList d1
 subst this;exact r.inj r'
end
noncomputable abbrev Cx.wish (X:Cx) (E:Value→Shared→Prop):Cx:={ X with xe:=E }
noncomputable abbrev Cx.nox (X:Cx):Cx:=X.wish fun _ _=>False
theorem Cx.Ok.wish{X:Cx}(ok:X.Ok) (E:Value→Shared→Prop):(X.wish E).Ok:=
 ⟨ok.mod,ok.kind,ok.glob,ok.blt,ok.above,ok.inj,ok.has,ok.cab,ok.hd,ok.frames,ok.stk,ok.exf,ok.bs,ok.bsz,ok.noex,ok.exfs,ok.funs,ok.frf⟩
theorem Cx.Ok.unwish{X:Cx}{E:Value→Shared→Prop}(ok:(X.wish E).Ok):X.Ok:=
 ⟨ok.mod,ok.kind,ok.glob,ok.blt,ok.above,ok.inj,ok.has,ok.cab,ok.hd,ok.frames,ok.stk,ok.exf,ok.bs,ok.bsz,ok.noex,ok.exfs,ok.funs,ok.frf⟩
section
variable {X:Cx}{pins:List (Addr×Obj)}{σ:St}{H:Hp}{s:Shared}{E:Value→Shared→Prop}
theorem Inv.wish (I:Inv X pins σ H s) (E:Value→Shared→Prop):Inv (X.wish E) pins σ H s:=⟨I.ok.wish E,I.os,I.bare,I.base,I.loc,I.cell,I.free,I.freeC,I.pin,I.hok,I.len⟩
theorem Inv.unwish (I:Inv (X.wish E) pins σ H s):Inv X pins σ H s:=⟨I.ok.unwish,I.os,I.bare,I.base,I.loc,I.cell,I.free,I.freeC,I.pin,I.hok,I.len⟩
theorem SP.unwish{D:Ends}{f:Flow}{s':Shared}(h:SP (X.wish E) pins D f s'):SP X pins D f s':=by
 cases f with
 |next=>obtain⟨σ',H',I,q⟩:=h;exact⟨σ',H',I.unwish,q⟩
 |brk=>obtain⟨σ',H',I,q⟩:=h;exact⟨σ',H',I.unwish,q⟩
 |cont=>obtain⟨σ',H',I,q⟩:=h;exact⟨σ',H',I.unwish,q⟩
 |ret u=>obtain⟨v,σ',H',I,r,q⟩:=h;exact⟨v,σ',H',I.unwish,r,q⟩
theorem PE.nox{e:Expr}{t:TE}(h:PE X.nox e t):PE X e t:=fun pins s σ H Q I hw=>
 wpAny_mono (h pins s σ H Q (I.wish _) hw) (fun _ _ ⟨v,H',I',r,q⟩=>⟨v,H',I'.unwish,r,q⟩) fun _ _ z=>False.elim z
end
section
variable {X:Cx}{st:Stmt}{rest:List Stmt}{t u:TS}{e:Expr}{te:TE}{pos:Pos}
noncomputable def zss:TS:=fun D σ H=>D.nx σ H
noncomputable def ztP (t u:TS):TS:=fun D σ H=>t { D with nx:=u D } σ H
theorem pss_nil:PSs X [] zss:=fun _ _ σ H _ I h=>wpAny_execs_nil ⟨σ,H,I,h⟩
theorem zmg (h1:PS X st t) (h2:PSs X rest u):PSs X (st::rest) (ztP t u):=by
 intro pins s σ H D I h;refine wpAny_execs_cons (thn (h1 pins s σ H { D with nx:=u D } I h) fun f s1 q=>?_);cases f with
 |next=>
  obtain⟨σ',H',I',q⟩:=q;exact h2 pins s1 σ' H' D I' q
 |ret v=>exact q
 |brk=>exact q
 |cont=>exact q
theorem zoI (h1:PS X st t):PSs X [st] t:=by
 intro pins s σ H D I h;refine wpAny_execs_cons (thn (h1 pins s σ H D I h) fun f s1 q=>?_);cases f with
 |next=>exact wpAny_execs_nil q
 |ret v=>exact q
 |brk=>exact q
 |cont=>exact q
theorem Inv.quiet{pins:List (Addr×Obj)}{σ:St}{H:Hp}{s:Shared}(I:Inv X pins σ H s):interactive X.env=false:=by simp [interactive,I.ok.kind]
noncomputable def zsI (te:TE):TS:=fun D σ H=>te σ H fun _ H1=>D.nx σ H1
theorem zoT (he:PE X e te) (hs:swapsWith e none pos.line X.env=pure false:=by rfl):PS X (.Expr e pos) (zsI te):=by
 intro pins s σ H D I h;exact wpAny_Expr_any (thn (he pins s σ H _ I h) fun v s1 ⟨x,H1,I1,r1,q1⟩=>⟨σ,H1,I1,q1⟩) I.quiet hs
noncomputable def ztu (te:TE):TS:=fun D σ H=>te σ H D.rt
theorem zrI (he:PE X e te):PS X (.Return (some e) pos) (ztu te):=by
 intro pins s σ H D I h;exact wpAny_Return_some (thn (he pins s σ H _ I h) fun v s1 ⟨x,H1,I1,r1,q1⟩=>⟨x,σ,H1,I1,r1,q1⟩)
noncomputable def ztI (c:TT) (t u:TS):TS:=fun D σ H=>c σ H fun b H1=>if b=true then t D σ H1 else u D σ H1
theorem zsN{c:Expr}{a b:List Stmt}{tc:TT}(hc:PT X c tc) (ha:PSs X a t) (hb:PSs X b u):PS X (.If c a b pos) (ztI tc t u):=by
 intro pins s σ H D I h;refine wpAny_If (thn (hc pins s σ H _ I h) fun d s1 ⟨H1,I1,q1⟩=>?_);cases d with
 |true=>exact ha pins s1 σ H1 D I1 q1
 |false=>exact hb pins s1 σ H1 D I1 q1
end
noncomputable abbrev TG:=V→St→Hp→(St→Hp→Prop)→Prop
noncomputable abbrev TGs:=List V→St→Hp→(St→Hp→Prop)→Prop
noncomputable def PG (X:Cx) (target:Expr) (t:TG):Prop:=
 ∀(pins:List (Addr×Obj)) (s:Shared) (σ:St) (H:Hp) (v:V) (u:Value) (Q:St→Hp→Prop),Inv X pins σ H s→RelV v u→t v σ H Q→
  wpAny (model X.prog X.w) X.A (assign target X.env u) (fun _ s'=>∃σ' H',Inv X pins σ' H' s'∧Q σ' H') X.xe s
noncomputable def PGs (X:Cx) (ts:List Expr) (t:TGs):Prop:=
 ∀(pins:List (Addr×Obj)) (s:Shared) (σ:St) (H:Hp) (vs:List V) (us:List Value) (Q:St→Hp→Prop),Inv X pins σ H s→Vals vs us→t vs σ H Q→
  wpAny (model X.prog X.w) X.A (assignInOrder ((assignEach ts X.env).map (·.2)) us) (fun _ s'=>∃σ' H',Inv X pins σ' H' s'∧Q σ' H') X.xe s
section
variable {X:Cx}{pos:Pos}
noncomputable def zoo (i:Nat):TG:=fun v σ H Q=>Q (σ.set i (some v)) H
theorem zop{i:Nat}{x:Str}(hN:X.N.Nodup) (hi:X.N[i]? =some x) (hx:Loc X.env.scope x) (hf:X.fn x=true∨X.env.scope.names.lookup x=some .local:=by first |exact .inl rfl |exact .inr rfl |assumption):PG X (.Name x pos) (zoo i):=by
 intro pins s σ H v u Q I r h;exact wpAny_assign_Name (zir I hN hi hx r (fun s' I'=>⟨_,H,I',h⟩) hf)
noncomputable def ztH:TGs:=fun vs σ H Q=>vs=[]∧Q σ H
noncomputable def zsa (t:TG) (u:TGs):TGs:=fun vs σ H Q=>∃v r,vs=v::r∧t v σ H fun σ' H'=>u r σ' H' Q
theorem zox:PGs X [] ztH:=by
 intro pins s σ H vs us Q I r h;obtain⟨e,h⟩:=h;subst e;cases r;exact assignInOrder_nil ⟨σ,H,I,h⟩
theorem zmj{e:Expr}{es:List Expr}{t:TG}{u:TGs}(h1:PG X e t) (h2:PGs X es u)
  (hs:(assignEach (e::es) X.env).map (·.2)=assign e X.env::(assignEach es X.env).map (·.2):=by rfl):PGs X (e::es) (zsa t u):=by
 intro pins s σ H vs us Q I r h;obtain⟨v,vr,e1,h⟩:=h;subst e1;cases r with
 |cons r rr=>
  rw [hs];refine assignInOrder_cons (thn (h1 pins s σ H _ _ _ I r h) fun _ s1 ⟨σ1,H1,I1,q1⟩=>?_);exact h2 pins s1 σ1 H1 _ _ Q I1 rr q1
noncomputable def ztN (K:PySem.W.Frag) (n:Nat) (t:TGs):TG:=fun v σ H Q=>∃a xs,v= .ref a∧SqT K H a xs∧xs.length=n∧t xs σ H Q
theorem zqy{es:List Expr}{k:Nat}{t:TGs}{n:Nat}(hc:X.calm=true) (h:PGs X es t)
  (hn:(assignEach es X.env).length=n:=by rfl) (hst:(assignEach es X.env).findIdx? (·.1)=none:=by rfl):PG X (.Tuple es k pos) (ztN X.K n t):=by
 intro pins s σ H v u Q I r hw;obtain⟨a,xs,e1,hq,hl,hw⟩:=hw;subst e1;cases r;obtain⟨its,rv,ht,hz⟩:=I.tuple hq;refine assign_Tuple_tuple (I.ok.hd hc) ht (by simp [hn,←hl,rv.length]) hst fun h' hx=>?_;have I1:Inv X pins σ H { s with heap:=h' }:=I.kept (t':=s.toks) fun b o e=>hx b o (Nat.ne_of_lt (Heap.lt_size e)) e;exact h pins _ σ H xs _ Q I1 (by simpa using rv) hw
noncomputable def zsj (te:TE) (g:TG):TS:=fun D σ H=>te σ H fun x H1=>g x σ H1 D.nx
theorem zrs{tg e:Expr}{te:TE}{g:TG}(he:PE X e te) (hg:PG X tg g) (hs:swapsWithSole [tg] e pos.line X.env=pure false:=by rfl) (hw:swappedStores [tg] e X.env=pure none:=by rfl)
  (h1:(assignEach [tg] X.env).map (·.2)=[assign tg X.env]:=by rfl):PS X (.Assign [tg] e pos) (zsj te g):=by
 intro pins s σ H D I h;refine wpAny_Assign_stores (thn (he pins s σ H _ I h) fun v s1 ⟨x,H1,I1,r1,q1⟩=>?_) hs hw;rw [h1];exact thn (hg pins s1 σ H1 x v _ I1 r1 q1) fun _ s2 q=>q
theorem zqr{i:Nat}{x:Str}{e:Expr}{te:TE}{pos':Pos}(hN:X.N.Nodup) (hi:X.N[i]? =some x) (hx:Loc X.env.scope x) (he:PE X e te) (hs:swapsWith e (some (.Name x pos')) pos.line X.env=pure false:=by rfl) (hf:X.fn x=true∨X.env.scope.names.lookup x=some .local:=by first |exact .inl rfl |exact .inr rfl |assumption) :
  PS X (.Assign [.Name x pos'] e pos) (zsj te (zoo i)):=by
 intro pins s σ H D I h;refine wpAny_Assign_Name (thn (he pins s σ H _ I h) fun v s1 ⟨y,H1,I1,r1,q1⟩=>?_) hs;exact zir I1 hN hi hx r1 (fun s2 I2=>⟨_,H1,I2,q1⟩) hf
end
section
variable {X:Cx}{pos:Pos}
noncomputable def zqn (c:TT) (tb:TS):TS:=fun D σ H=>∃W:Nat→St→Hp→Prop,(∃m,W m σ H)∧ ∀m σ H,W m σ H→
 c σ H fun b H1=>if b=true then ∃N:St→Hp→Prop,(∀σ' H',N σ' H'→ ∃m',m'<m∧W m' σ' H')∧tb { D with nx:=N,ct:=N,bk:=D.nx } σ H1 else D.nx σ H1
theorem zmW{c:Expr}{body:List Stmt}{tc:TT}{tb:TS}(hp:PassesOwn (model X.prog X.w) X.A X.env X.xe) (hc:PT X c tc) (hb:PSs X body tb):PS X (.While c body [] pos) (zqn tc tb):=by
 intro pins s σ H D I h;obtain⟨W,⟨m0,w0⟩,turn⟩:=h;refine wpAny_While (codeAny_whileLoop (fun n s'=>∃σ' H',Inv X pins σ' H' s'∧W n σ' H') ?_ m0 ⟨σ,H,I,w0⟩);rintro n s1 ⟨σ1,H1,I1,w1⟩;refine wpAny_passesOwn hp (thn (hc pins s1 σ1 H1 _ I1 (turn n σ1 H1 w1)) fun b s2 ⟨H2,I2,q2⟩=>?_);cases b with
 |true=>
  obtain⟨N,hN,q2⟩:=q2;rw [if_pos rfl];refine wpAny_passesOwn hp (thn (hb pins s2 σ1 H2 _ I2 q2) fun f s3 q3=>?_);cases f with
  |next=>
   obtain⟨σ3,H3,I3,n3⟩:=q3;obtain⟨m',hm,w3⟩:=hN σ3 H3 n3;exact⟨m',hm,σ3,H3,I3,w3⟩
  |cont=>
   obtain⟨σ3,H3,I3,n3⟩:=q3;obtain⟨m',hm,w3⟩:=hN σ3 H3 n3;exact⟨m',hm,σ3,H3,I3,w3⟩
  |brk=>exact q3
  |ret v=>exact q3
 |false=>
  rw [if_neg Bool.false_ne_true];exact wpAny_execs_nil ⟨σ1,H2,I2,q2⟩
end
structure It where
  go:Nat→Hp→Prop
  yld:Nat→Hp→V→Hp→Prop
  stop:Nat→Hp→Prop
noncomputable def zfU (X:Cx) (pins:List (Addr×Obj)) (H:Hp) (b:Addr):Prop:=
 H b=none∧b≠X.env.locals∧b∉X.fs∧(b∈X.ex∨X.s₀.heap.objs.size≤b)∧(∀x c,X.env.cells.lookup x=some c→c≠b)∧ ∀p∈X.pn++pins,p.1≠b
theorem Inv.fpOk{X:Cx}{pins:List (Addr×Obj)}{σ:St}{H H':Hp}{s:Shared}{b:Addr}(I:Inv X pins σ H s) (hb:s.heap.objs.size≤b) (hn:H' b=none):zfU X pins H' b:=by
 refine⟨hn,Nat.ne_of_gt (Nat.lt_of_lt_of_le I.lt hb),I.nofs hb, .inr (Nat.le_trans I.sz hb),fun x c e z=>?_,fun p hp z=>?_⟩
 ·obtain⟨v,q⟩:=I.cell x c e;exact absurd (Nat.lt_of_lt_of_le q.lt (by rw [z];exact hb)) (Nat.lt_irrefl _)
 ·exact absurd (Nat.lt_of_lt_of_le (Heap.lt_size (I.pin p hp).1) (by rw [z];exact hb)) (Nat.lt_irrefl _)
structure Turn (P:Program) (w:World) (K:PySem.W.Frag) (tg:Expr) (J:It) (fp:List Addr) (it:Addr) (tn:Nat→Heap→Prop):Prop where
  mem:it∈fp
  obj:∀i h,tn i h→ ∀b∈fp,∃o,h.get? b=some o∧ ∀v,o.data≠ .cell v
  keep:∀i h h',tn i h→(∀b∈fp,∀o,h.get? b=some o→h'.get? b=some o)→tn i h'
  item:∀(X:Cx),X.prog=P→X.w=w→X.K=K→X.calm=true→ ∀(i:Nat) (pins:List (Addr×Obj)) (s:Shared) (σ:St) (H:Hp) (E:Value→Shared→Prop),Inv X pins σ H s→(∀b∈fp,zfU X pins H b)→tn i s.heap→J.go i H→
    wpAny (model P w) X.A (pyNext (.ref it)) (fun r s1=>∃u,r=some u∧
      wpAny (model P w) X.A (letOwnedTupleGo tg (.ref it) u) (fun _ s2=>∃x H',Inv X pins σ H' s2∧RelV x u∧J.yld i H x H'∧tn (i+1) s2.heap∧ ∀b∈fp,H' b=none) E s1) E s
  done:∀(X:Cx),X.prog=P→X.w=w→X.K=K→X.calm=true→ ∀(i:Nat) (pins:List (Addr×Obj)) (s:Shared) (σ:St) (H:Hp) (E:Value→Shared→Prop),Inv X pins σ H s→(∀b∈fp,zfU X pins H b)→tn i s.heap→J.stop i H→
    wpAny (model P w) X.A (pyNext (.ref it)) (fun r s1=>r=none∧Inv X pins σ H s1) E s
  self:∀(A:Around) (i:Nat) (s:Shared) (Q:Value→Shared→Prop) (E:Value→Shared→Prop),tn i s.heap→Q (.ref it) s→wpAny (model P w) A (pyIter (.ref it)) Q E s
noncomputable abbrev TI:=St→Hp→(It→Hp→Prop)→Prop
noncomputable def PIE (X:Cx) (pins:List (Addr×Obj)) (σ:St) (tg:Expr) (R:It→Hp→Prop) (itv:Value) (s2:Shared):Prop:=
 ∃(it:Addr) (fp:List Addr) (tn:Nat→Heap→Prop) (J:It) (H':Hp),itv= .ref it∧Inv X pins σ H' s2∧Turn X.prog X.w X.K tg J fp it tn∧tn 0 s2.heap∧(∀b∈fp,zfU X pins H' b)∧R J H'
noncomputable def PI (X:Cx) (tg iter:Expr) (wi:TI):Prop:=
 ∀(pins:List (Addr×Obj)) (s:Shared) (σ:St) (H:Hp) (R:It→Hp→Prop),Inv X pins σ H s→wi σ H R→
  wpAny (model X.prog X.w) X.A (eval iter X.env) (fun v s1=>wpAny (model X.prog X.w) X.A (pyIter v) (PIE X pins σ tg R) X.xe s1) X.xe s
theorem zlL{M:Model}{A:Around}{E:Value→Shared→Prop}{s:Shared}{tg:Expr}{it:Addr}{u:Value}{o:Obj}{n:String}{vs:Array Value}{Q:Unit→Shared→Prop}(ho:s.heap.get? it=some o) (hc:o.cls= .type n) (hd:o.data= .fields vs)
    (hn: ["enumerate", "zip", "dict_itemiterator", "dict_reverseitemiterator", "odict_iterator", "itertools.zip_longest", "itertools.pairwise"].contains n=false) (hQ:Q () s):wpAny M A (letOwnedTupleGo tg (.ref it) u) Q E s:=by
  unfold letOwnedTupleGo;cases tg<;>first
    |exact wpAny_pure hQ
    | (cases u<;>first
        |exact wpAny_pure hQ
        | (refine wpAny_bind (wpAny_load ho ?_)
           rw [hc,hd];show wpAny M A (if(["enumerate", "zip", "dict_itemiterator", "dict_reverseitemiterator", "odict_iterator", "itertools.zip_longest", "itertools.pairwise"].contains n&&vs[0]? == some (rawInt _))=true then _ else _) Q E s;rw [if_neg (by intro h;rw [hn,Bool.false_and]at h;cases h)];exact wpAny_pure hQ))
noncomputable def Itl (K:PySem.W.Frag) (a:Addr):It:=
 ⟨fun i H=>∃xs x,SqL K H a xs∧xs[i]? =some x,fun i H x H'=>H'=H∧ ∀xs,SqL K H a xs→xs[i]? =some x,fun i H=>∃xs,SqL K H a xs∧xs.length≤i⟩
noncomputable def Itt (K:PySem.W.Frag) (a:Addr):It:=
 ⟨fun i H=>∃xs x,SqT K H a xs∧xs[i]? =some x,fun i H x H'=>H'=H∧ ∀xs,SqT K H a xs→xs[i]? =some x,fun i H=>∃xs,SqT K H a xs∧xs.length≤i⟩
noncomputable def Itr (lo:Int) (n:Nat):It:=⟨fun i _=>i<n,fun i H x H'=>H'=H∧x= .int (lo+i),fun i _=>n≤i⟩
theorem zlj{P:Program}{w:World}{K:PySem.W.Frag}{tg:Expr}(a it:Addr):Turn P w K tg (Itl K a) [it] it (fun i h=>h.IsListIter it a i) where
  mem:=by simp
  obj:=fun i h st b hb=>by
    have e:b=it:=by simpa using hb
    subst e;obtain⟨o,e,c,d⟩:=st;exact⟨o,e,fun v z=>by rw [d]at z;cases z⟩
  keep:=fun i h h' st k=>st.at fun o e=>k it (by simp) o e
  item:=by
    intro X hP hw hK hc i pins s σ H E I hf st hg;subst hP hw hK;obtain⟨xs,x,hq,hx⟩:=hg;obtain⟨its,rv,p,hz⟩:=I.list hq;obtain⟨u,hu,ru⟩:=rv.get hx;obtain⟨f0,f1,f2,f3,f4,f5⟩:=hf it (by simp);refine wpAny_pyNext_list_item st p.isList (x:=u) (by simpa using hu) fun h' st' sb=>?_;have I1:Inv X pins σ H { s with heap:=h' }:=I.turned (t':=s.toks) (fun b o hb e=>(sb.2 b hb).trans e) f0 f1 f3 f4 f5;obtain⟨o,e,c,d⟩:=id st';exact⟨u,rfl,zlL (s:={ s with heap:=h' }) e c d (by decide) ⟨x,H,I1,ru,⟨rfl,fun ys hy=>by rw [I.list_inj hy hq];exact hx⟩,st',fun b hb=>(hf b hb).1⟩⟩
  done:=by
    intro X hP hw hK hc i pins s σ H E I hf st hg;subst hP hw hK;obtain⟨xs,hq,hx⟩:=hg;obtain⟨its,rv,p,hz⟩:=I.list hq;obtain⟨f0,f1,f2,f3,f4,f5⟩:=hf it (by simp);have hl:=rv.length;exact wpAny_pyNext_list_end (I.ok.hd hc) st p.isList (by simp;omega) fun h' eb=>⟨rfl,I.turned (t':=s.toks) (fun b o hb e=>eb b o hb e) f0 f1 f3 f4 f5⟩
  self:=fun _ _ _ _ _ st h=>wpAny_pyIter_listiter st h
theorem ziV{P:Program}{w:World}{K:PySem.W.Frag}{tg:Expr}(a it:Addr):Turn P w K tg (Itt K a) [it] it (fun i h=>h.IsTupleIter it a i) where
  mem:=by simp
  obj:=fun i h st b hb=>by
    have e:b=it:=by simpa using hb
    subst e;obtain⟨o,e,c,d⟩:=st;exact⟨o,e,fun v z=>by rw [d]at z;cases z⟩
  keep:=fun i h h' st k=>st.at fun o e=>k it (by simp) o e
  item:=by
    intro X hP hw hK hc i pins s σ H E I hf st hg;subst hP hw hK;obtain⟨xs,x,hq,hx⟩:=hg;obtain⟨its,rv,p,hz⟩:=I.tuple hq;obtain⟨u,hu,ru⟩:=rv.get hx;obtain⟨f0,f1,f2,f3,f4,f5⟩:=hf it (by simp);refine wpAny_pyNext_tuple_item st (show s.heap.IsTuple a its.toArray from p) (x:=u) (by simpa using hu) fun h' st' sb=>?_;have I1:Inv X pins σ H { s with heap:=h' }:=I.turned (t':=s.toks) (fun b o hb e=>(sb.2 b hb).trans e) f0 f1 f3 f4 f5;obtain⟨o,e,c,d⟩:=id st';exact⟨u,rfl,zlL (s:={ s with heap:=h' }) e c d (by decide) ⟨x,H,I1,ru,⟨rfl,fun ys hy=>by rw [I.tuple_inj hy hq];exact hx⟩,st',fun b hb=>(hf b hb).1⟩⟩
  done:=by
    intro X hP hw hK hc i pins s σ H E I hf st hg;subst hP hw hK;obtain⟨xs,hq,hx⟩:=hg;obtain⟨its,rv,p,hz⟩:=I.tuple hq;obtain⟨f0,f1,f2,f3,f4,f5⟩:=hf it (by simp);have hl:=rv.length;exact wpAny_pyNext_tuple_end (I.ok.hd hc) st (show s.heap.IsTuple a its.toArray from p) (by simp;omega) fun h' eb=>⟨rfl,I.turned (t':=s.toks) (fun b o hb e=>eb b o hb e) f0 f1 f3 f4 f5⟩
  self:=fun _ _ _ _ _ st h=>wpAny_pyIter_tupleiter st h
theorem ziR{P:Program}{w:World}{K:PySem.W.Frag}{tg:Expr}(it:Addr) (lo:Int) (n:Nat):Turn P w K tg (Itr lo n) [it] it (fun i h=>IsRangeIter h it (lo+(i:Nat)*1) ((n:Int) - (i:Nat)) 1) where
  mem:=by simp
  obj:=fun i h st b hb=>by
    have e:b=it:=by simpa using hb
    subst e;exact⟨_,st,fun v z=>by
      have z':Data.fields _=Data.cell v:=z;cases z'⟩
  keep:=fun i h h' st k=>k it (by simp) _ st
  item:=by
    intro X hP hw hK hc i pins s σ H E I hf st hg;subst hP hw hK;obtain⟨f0,f1,f2,f3,f4,f5⟩:=hf it (by simp);have W:=Walks.range (prog:=X.prog) (w:=X.w) (I.ok.hd hc) it lo 1 n;refine W.item i s _ _ hg st fun v h' tk hv st' kk=>?_;obtain⟨t,rfl⟩:=hv;have I1:Inv X pins σ H { s with heap:=h',toks:=tk }:=I.turned (fun b o hb e=>kk b o (by simpa using hb) e) f0 f1 f3 f4 f5;refine⟨_,rfl,zlL (s:={ s with heap:=h',toks:=tk }) (n:= "range_iterator") st' rfl rfl (by decide) ⟨.int (lo+i),H,I1,⟨t,?_⟩,⟨rfl,rfl⟩,st',fun b hb=>(hf b hb).1⟩⟩;rw [Int.mul_one]
  done:=by
    intro X hP hw hK hc i pins s σ H E I hf st hg;subst hP hw hK;obtain⟨f0,f1,f2,f3,f4,f5⟩:=hf it (by simp);exact wpAny_pyNext_range_end (I.ok.hd hc) st (by have:n≤i:=hg;omega) fun h' eb=>⟨rfl,I.turned (t':=s.toks) (fun b o hb e=>eb b o hb e) f0 f1 f3 f4 f5⟩
  self:=fun _ _ _ _ _ st h=>wpAny_pyIter_rangeiter st h
section
variable {X:Cx}{tg:Expr}
theorem zmi{pins:List (Addr×Obj)}{σ:St}{H:Hp}{s:Shared}{R:It→Hp→Prop}{E:Value→Shared→Prop}{lo hi:Int}{t u v:Tok}{tk:Nat}(I:Inv X pins σ H s) (h1: -(2 ^ 62)≤lo) (h2:lo<2 ^ 62) (h3: -(2 ^ 62)≤hi) (h4:hi<2 ^ 62)
  (q:R (Itr lo (hi - lo).toNat) H):wpAny (model X.prog X.w) X.A (pyIter (.ref s.heap.objs.size)) (PIE X pins σ tg R) E { s with heap:=s.heap.push { cls:= .type "range",data:= .fields #[.int lo t, .int hi u, .int 1 v] },toks:=tk }:=by
 refine wpAny_pyIter_range (IsRange.new ..) (small_one h1 h2 h3 h4) ?_;have I1:Inv X pins σ H { s with heap:=s.heap.push { cls:= .type "range",data:= .fields #[.int lo t, .int hi u, .int 1 v] },toks:=tk }:=I.kept fun b o e=>Heap.get?_push_of_some _ e;refine⟨(s.heap.push { cls:= .type "range",data:= .fields #[.int lo t, .int hi u, .int 1 v] }).objs.size,[(s.heap.push { cls:= .type "range",data:= .fields #[.int lo t, .int hi u, .int 1 v] }).objs.size],_,_,H,rfl,
  I1.kept (t':=tk) fun b o e=>Heap.get?_push_of_some _ e,ziR _ lo (hi - lo).toNat,?_,fun b hb=>?_,q⟩
 ·have e1:lo+((0:Nat):Int)*1=lo:=by simp
  have e2:(((hi - lo).toNat:Nat):Int) - ((0:Nat):Int)=Builtin.Range.rangeSize lo hi 1:=by rw [rangeSize_one];split<;>omega
  show IsRangeIter _ _ (lo+((0:Nat):Int)*1) ((((hi - lo).toNat:Nat):Int) - ((0:Nat):Int)) 1;rw [e1,e2];exact Heap.get?_push_size _ rfl
 ·have e:b=(s.heap.push { cls:= .type "range",data:= .fields #[.int lo t, .int hi u, .int 1 v] }).objs.size:=by simpa using hb
  subst e;exact I1.fpOk (Nat.le_refl _) (I1.hok.fresh (Nat.le_refl _))
noncomputable def zsi (ta:TA):TI:=fun σ H R=>ta σ H fun vs H1=>∃j:Int,vs=[.int j]∧ -(2 ^ 62)≤j∧j<2 ^ 62∧R (Itr 0 j.toNat) H1
theorem zkq{a:Expr}{ta:TA}{p pos:Pos}(hg:Gl X "range") (hm:X.mg "range" =none) (ha:PA X [a] ta) (hs:starEach [a] X.env=[(false,eval a X.env)]:=by rfl):PI X tg (.Call (.Name "range" p) [a] [] pos) (zsi ta):=by
 intro pins s σ H R I h;refine Call_ (zfe I hg hm boot_range (PyProof.Rows.callWith_type1 (thn (ha pos pins s σ H _ I h) fun us s1 ⟨vs,H1,I1,r1,q1⟩=>?_) hs rfl));obtain⟨j,e,q1,q2,q⟩:=q1;subst e;cases r1 with
 |cons r rr=>
  cases rr;obtain⟨t,rfl⟩:=r;exact call_range_1 (zmi I1 (by omega) (by omega) q1 q2 (by simpa using q))
noncomputable def ztM (wi:TI) (g:TG) (tb:TS):TS:=fun D σ H=>wi σ H fun J H1=>∃W:Nat→Nat→St→Hp→Prop,(∃m,W 0 m σ H1)∧ ∀i m σ H,W i m σ H→
 (J.stop i H∧D.nx σ H)∨(J.go i H∧ ∃N:St→Hp→Prop,(∀σ' H',N σ' H'→ ∃m',m'<m∧W (i+1) m' σ' H')∧ ∀x H',J.yld i H x H'→g x σ H' fun σ2 H2=>tb { D with nx:=N,ct:=N,bk:=D.nx } σ2 H2)
noncomputable def zgY (fp:List Addr) (h:Heap):List (Addr×Obj):=fp.filterMap fun b=>(h.get? b).map fun o=>(b,o)
theorem zdc{fp:List Addr}{h:Heap}{b:Addr}{o:Obj}(hb:b∈fp) (e:h.get? b=some o):(b,o)∈zgY fp h:=List.mem_filterMap.mpr ⟨b,hb,by rw [e];rfl⟩
theorem zko{fp:List Addr}{h:Heap}{p:Addr×Obj}(hp:p∈zgY fp h):p.1∈fp∧h.get? p.1=some p.2:=by
 obtain⟨b,hb,e⟩:=List.mem_filterMap.mp hp;cases q:h.get? b with
 |none=>rw [q]at e;cases e
 |some o=>
  rw [q]at e;have e':(b,o)=p:=Option.some.inj e;subst e';exact⟨hb,q⟩
theorem Inv.pinned{pins:List (Addr×Obj)}{σ:St}{H:Hp}{s:Shared}{fp:List Addr}(I:Inv X pins σ H s) (hf:∀b∈fp,zfU X pins H b) (ho:∀b∈fp,∃o,s.heap.get? b=some o∧ ∀v,o.data≠ .cell v):Inv X (pins++zgY fp s.heap) σ H s:=
 I.pins_of fun p hp=>(List.mem_append.mp hp).elim (fun z=>I.pin p (List.mem_append_right _ z)) fun z=>by
  obtain⟨hb,e⟩:=zko z;obtain⟨f0,f1,f2,_⟩:=hf p.1 hb;obtain⟨o,e',d⟩:=ho p.1 hb;rw [e]at e';cases e';exact⟨e,f0,f1,f2,d⟩
theorem Inv.unpinned{pins pl:List (Addr×Obj)}{σ:St}{H:Hp}{s:Shared}(I:Inv X (pins++pl) σ H s):Inv X pins σ H s:=I.pins_of fun p hp=>I.pin p (List.mem_append_right _ (List.mem_append_left _ hp))
theorem zqY{iter:Expr}{body:List Stmt}{wi:TI}{g:TG}{tb:TS}{pos:Pos}(hp:PassesOwn (model X.prog X.w) X.A X.env X.xe) (hc:X.calm=true) (hi:PI X tg iter wi) (hg:PG X tg g) (hb:PSs X body tb)
  (hs:∀x,foldedSetIterable iter X.env x=pure x:=by intro _;rfl):PS X (.For tg iter body [] pos) (ztM wi g tb):=by
 intro pins s σ H D I h;refine wpAny_For (thn (hi pins s σ H _ I h) fun v s1 h1=>thn h1 fun itv s2 h2=>?_) hs;obtain⟨it,fp,tn,J,H2,e,I2,T,st2,f2,W,⟨m0,w0⟩,turn⟩:=h2;subst e;have stat:∀{H':Hp},(∀b∈fp,H' b=none)→ ∀b∈fp,zfU X pins H' b:=fun hn b hb=>⟨hn b hb,(f2 b hb).2⟩;refine codeAny_forLoop_any (fun n s'=>∃i σ' H',Inv X pins σ' H' s'∧tn i s'.heap∧(∀b∈fp,H' b=none)∧W i n σ' H') ?_ m0 ⟨0,σ,H2,I2,st2,fun b hb=>(f2 b hb).1,w0⟩;rintro n s3 ⟨i,σ3,H3,I3,st3,fr3,w3⟩;rcases turn i n σ3 H3 w3 with⟨stop,qn⟩ |⟨go,N,hN,step⟩
 ·refine wpAny_passesOwn hp (thn (T.done X rfl rfl rfl hc i pins s3 σ3 H3 X.xe I3 (stat fr3) st3 stop) fun r s4 ⟨hr,I4⟩=>?_);subst hr;exact wpAny_execs_nil ⟨σ3,H3,I4,qn⟩
 ·refine wpAny_passesOwn hp (thn (T.item X rfl rfl rfl hc i pins s3 σ3 H3 X.xe I3 (stat fr3) st3 go) fun r s4 ⟨u,hr,h4⟩=>?_);subst hr;refine wpAny_passesOwn hp (thn h4 fun _ s5 ⟨x,H5,I5,r5,y5,st5,fr5⟩=>?_);have I5':=I5.pinned (stat fr5) (T.obj _ _ st5);refine wpAny_passesOwn hp (thn (hg _ s5 σ3 H5 x u _ I5' r5 (step x H5 y5)) fun _ s6 ⟨σ6,H6,I6,q6⟩=>?_);refine wpAny_passesOwn hp (thn (hb _ s6 σ6 H6 _ I6 q6) fun f s7 q7=>?_);have again:∀{σ7:St}{H7:Hp},Inv X (pins++zgY fp s5.heap) σ7 H7 s7→N σ7 H7→ ∃m,m<n∧ ∃i σ' H',Inv X pins σ' H' s7∧tn i s7.heap∧(∀b∈fp,H' b=none)∧W i m σ' H':=fun {σ7 H7} I7 n7=>by
   obtain⟨m',hm,w7⟩:=hN σ7 H7 n7;refine⟨m',hm,i+1,σ7,H7,I7.unpinned,T.keep _ _ _ st5 fun b hb o e=>(I7.pin (b,o) (List.mem_append_right _ (List.mem_append_right _ (zdc hb e)))).1,fun b hb=>?_,w7⟩;obtain⟨o,e,d⟩:=T.obj _ _ st5 b hb;exact(I7.pin (b,o) (List.mem_append_right _ (List.mem_append_right _ (zdc hb e)))).2.1
  cases f with
  |next=>obtain⟨σ7,H7,I7,n7⟩:=q7;exact again I7 n7
  |cont=>obtain⟨σ7,H7,I7,n7⟩:=q7;exact again I7 n7
  |brk=>obtain⟨σ7,H7,I7,q7⟩:=q7;exact⟨σ7,H7,I7.unpinned,q7⟩
  |ret v=>obtain⟨x7,σ7,H7,I7,r7,q7⟩:=q7;exact⟨x7,σ7,H7,I7.unpinned,r7,q7⟩
end
noncomputable abbrev R2:=V→V→Hp→VK→Prop
noncomputable def OpR (X:Cx) (f:Value→Value→Sem Value) (r:R2):Prop:=
 ∀(pins:List (Addr×Obj)) (s:Shared) (σ:St) (H:Hp) (x y:V) (v u:Value) (Q:VK),Inv X pins σ H s→RelV x v→RelV y u→r x y H Q→
  wpAny (model X.prog X.w) X.A (f v u) (EP X pins σ Q) X.xe s
noncomputable def UnR (X:Cx) (f:Value→Sem Value) (r:V→Hp→VK→Prop):Prop:=
 ∀(pins:List (Addr×Obj)) (s:Shared) (σ:St) (H:Hp) (x:V) (v:Value) (Q:VK),Inv X pins σ H s→RelV x v→r x H Q→
  wpAny (model X.prog X.w) X.A (f v) (EP X pins σ Q) X.xe s
noncomputable def CallR (X:Cx) (f:Value) (r:List V→Hp→VK→Prop):Prop:=
 ∀(pins:List (Addr×Obj)) (s:Shared) (σ:St) (H:Hp) (xs:List V) (us:List Value) (Q:VK),Inv X pins σ H s→Vals xs us→r xs H Q→
  wpAny (model X.prog X.w) X.A (call f us) (EP X pins σ Q) X.xe s
noncomputable def zty (X:Cx) (r:V→Hp→(Bool→Hp→Prop)→Prop):Prop:=
 ∀(pins:List (Addr×Obj)) (s:Shared) (σ:St) (H:Hp) (x:V) (v:Value) (Q:Bool→Hp→Prop),Inv X pins σ H s→RelV x v→r x H Q→
  wpAny (model X.prog X.w) X.A (truthy v) (TP X pins σ Q) X.xe s
noncomputable def tOp (r:R2) (ta tb:TE):TE:=fun σ H Q=>ta σ H fun x H1=>tb σ H1 fun y H2=>r x y H2 Q
noncomputable def tUn (r:V→Hp→VK→Prop) (ta:TE):TE:=fun σ H Q=>ta σ H fun x H1=>r x H1 Q
noncomputable def rI (C:Int→Int→Prop) (g:Int→Int→V):R2:=fun x y H Q=>∃i j,x= .int i∧y= .int j∧C i j∧Q (g i j) H
noncomputable def rI0 (g:Int→Int→V):R2:=fun x y H Q=>∃i j,x= .int i∧y= .int j∧Q (g i j) H
noncomputable def rU (g:Int→V):V→Hp→VK→Prop:=fun x H Q=>∃i,x= .int i∧Q (g i) H
section
variable {X:Cx}{a b:Expr}{ta tb:TE}{pos:Pos}
theorem zsQ (ha:PE X a ta) (hb:PE X b tb) {pins:List (Addr×Obj)}{s:Shared}{σ:St}{H:Hp}{R:V→V→Hp→Prop}(I:Inv X pins σ H s)
  (h:ta σ H fun x H1=>tb σ H1 fun y H2=>R x y H2) {Q:Value→Shared→Prop}{f:Value→Value→Sem Value}
  (hf:∀v u s2 x y H2,Inv X pins σ H2 s2→RelV x v→RelV y u→R x y H2→wpAny (model X.prog X.w) X.A (f v u) Q X.xe s2) :
  wpAny (model X.prog X.w) X.A (eval a X.env) (fun v s₁=>wpAny (model X.prog X.w) X.A (eval b X.env) (fun u s₂=>wpAny (model X.prog X.w) X.A (f v u) Q X.xe s₂) X.xe s₁) X.xe s:=by
 refine thn (ha pins s σ H _ I h) fun v s1 ⟨x,H1,I1,r1,q1⟩=>?_;refine thn (hb pins s1 σ H1 _ I1 q1) fun u s2 ⟨y,H2,I2,r2,q2⟩=>?_;exact hf v u s2 x y H2 I2 r1 r2 q2
theorem zku{op:Operator}{r:R2}(ho:OpR X (binaryOp op) r) (ha:PE X a ta) (hb:PE X b tb):PE X (.BinOp a op b pos) (tOp r ta tb):=by
 intro pins s σ H Q I h;exact wpAny_BinOp (zsQ ha hb I h fun v u s2 x y H2 I2 rx ry q=>ho pins s2 σ H2 x y v u Q I2 rx ry q)
theorem zsw{op:UnaryOp}{r:V→Hp→VK→Prop}(ho:UnR X (unaryOp op) r) (ha:PE X a ta):PE X (.UnaryOp op a pos) (tUn r ta):=by
 intro pins s σ H Q I h;exact UnaryOp_ (thn (ha pins s σ H _ I h) fun v s1 ⟨x,H1,I1,r1,q1⟩=>ho pins s1 σ H1 x v Q I1 r1 q1)
theorem opI{f:Value→Value→Sem Value}{C:Int→Int→Prop}{g:Int→Int→Int}
  (rule:∀(i j:Int) (t u:Tok) (s:Shared) (Q:Value→Shared→Prop) (E:Value→Shared→Prop),C i j→Q (.int (g i j) s.toks) { s with toks:=s.toks+1 }→wpAny (model X.prog X.w) X.A (f (.int i t) (.int j u)) Q E s) :
  OpR X f (rI C fun i j=> .int (g i j)):=by
 intro pins s σ H x y v u Q I rx ry h;obtain⟨i,j,rfl,rfl,hc,q⟩:=h;obtain⟨t,rfl⟩:=rx;obtain⟨t',rfl⟩:=ry;exact rule i j t t' s _ _ hc ⟨.int (g i j),H,I.tok _,⟨_,rfl⟩,q⟩
theorem ztq{f:Value→Value→Sem Value}{g:Int→Int→Int}
  (rule:∀(i j:Int) (t u:Tok) (s:Shared) (Q:Value→Shared→Prop) (E:Value→Shared→Prop),Q (.int (g i j) s.toks) { s with toks:=s.toks+1 }→wpAny (model X.prog X.w) X.A (f (.int i t) (.int j u)) Q E s) :
  OpR X f (rI0 fun i j=> .int (g i j)):=by
 intro pins s σ H x y v u Q I rx ry h;obtain⟨i,j,rfl,rfl,q⟩:=h;obtain⟨t,rfl⟩:=rx;obtain⟨t',rfl⟩:=ry;exact rule i j t t' s _ _ ⟨.int (g i j),H,I.tok _,⟨_,rfl⟩,q⟩
theorem zsU{f:Value→Value→Sem Value}{g:Int→Int→Bool}
  (rule:∀(i j:Int) (t u:Tok) (s:Shared) (Q:Value→Shared→Prop) (E:Value→Shared→Prop),Q (.bool (g i j)) s→wpAny (model X.prog X.w) X.A (f (.int i t) (.int j u)) Q E s) :
  OpR X f (rI0 fun i j=> .bl (g i j)):=by
 intro pins s σ H x y v u Q I rx ry h;obtain⟨i,j,rfl,rfl,q⟩:=h;obtain⟨t,rfl⟩:=rx;obtain⟨t',rfl⟩:=ry;exact rule i j t t' s _ _ ⟨.bl (g i j),H,I,rfl,q⟩
noncomputable def zkY (i j:Int):Prop:=0<j∧j<1073741824
noncomputable def zsR (i j:Int):Prop:=0≤j∧j≤1000000∧i.natAbs<2 ^ 64
noncomputable def CMul (i j:Int):Prop:=(-(2 ^ 64)<i∧i<2 ^ 64)∨(-(2 ^ 64)<j∧j<2 ^ 64)
theorem CMul.ok{i j:Int}(h:CMul i j):IntMulOk i j:=by
 rcases h with⟨h1,h2⟩ |⟨h1,h2⟩
 ·exact .of_left (intBits_le_64 h1 h2)
 ·exact .of_right (intBits_le_64 h1 h2)
theorem op_add:OpR X (binaryOp .Add) (rI0 fun i j=> .int (i+j)):=ztq fun _ _ _ _ _ _ _ q=>add_int q
theorem zqK:OpR X (binaryOp .Sub) (rI0 fun i j=> .int (i - j)):=ztq fun _ _ _ _ _ _ _ q=>sub_int q
theorem zpV:OpR X (binaryOp .Mult) (rI CMul fun i j=> .int (i*j)):=opI fun _ _ _ _ _ _ _ hc q=>mul_int q hc.ok
theorem zpw:OpR X (binaryOp .FloorDiv) (rI zkY fun i j=> .int (i / j)):=opI fun i j _ _ _ _ _ hc q=>by
 have h1:(0:Int)<j:=hc.1;have h2:j<1073741824:=hc.2;exact floordiv_int (by omega) (by rw [Int.fdiv_eq_ediv_of_nonneg i (by omega)];exact q) (.inl (PyProof.noPylong_small (by omega)))
theorem zpL:OpR X (binaryOp .Mod) (rI (fun _ j=>0<j) fun i j=> .int (i % j)):=opI fun i j _ _ _ _ _ hc q=>by
 have h1:(0:Int)<j:=hc;exact mod_int' (by omega) (by rw [Int.fmod_eq_emod_of_nonneg i (by omega)];exact q)
theorem zqf:OpR X (binaryOp .Pow) (rI zsR fun i j=> .int (i ^ j.toNat)):=opI fun _ _ _ _ _ _ _ hc q=>pow_int_small hc.1 hc.2.1 hc.2.2 q
theorem unI{f:Value→Sem Value}{g:Int→Int}
  (rule:∀(i:Int) (t:Tok) (s:Shared) (Q:Value→Shared→Prop) (E:Value→Shared→Prop),Q (.int (g i) s.toks) { s with toks:=s.toks+1 }→wpAny (model X.prog X.w) X.A (f (.int i t)) Q E s) :
  UnR X f (rU fun i=> .int (g i)):=by
 intro pins s σ H x v Q I rx h;obtain⟨i,rfl,q⟩:=h;obtain⟨t,rfl⟩:=rx;exact rule i t s _ _ ⟨.int (g i),H,I.tok _,⟨_,rfl⟩,q⟩
theorem zqd:UnR X (unaryOp .USub) (rU fun i=> .int (-i)):=unI fun _ _ _ _ _ q=>neg_int q
end
section
variable {X:Cx}{a b c:Expr}{ta tb:TE}{pos:Pos}
theorem znt{pins:List (Addr×Obj)}{σ:St}{H:Hp}{s:Shared}{Q:VK}{k k':Bool}(I:Inv X pins σ H s) (q:Q (.bl k) H) (e:k=k'):EP X pins σ Q (.bool k') s:=by
 subst e;exact⟨.bl k,H,I,rfl,q⟩
theorem zsX:OpR X (compareOp .Lt) (rI0 fun i j=> .bl (decide (i<j))):=zsU fun _ _ _ _ _ _ _ q=>lt_int q
theorem zsH:OpR X (compareOp .Gt) (rI0 fun i j=> .bl (decide (j<i))):=zsU fun _ _ _ _ _ _ _ q=>gt_int q
theorem zta:OpR X (compareOp .GtE) (rI0 fun i j=> .bl (decide (j≤i))):=zsU fun _ _ _ _ _ _ _ q=>ge_int q
theorem op_isN:OpR X (compareOp .Is) (fun x y H Q=>y= .non∧Q (.bl (decide (x= .non))) H):=by
 intro pins s σ H x y v u Q I rx ry h;obtain⟨rfl,q⟩:=h;cases ry;refine is_none_gen (znt I q ?_);cases x<;>first
  | (cases rx;rfl)
  | (obtain⟨t,rfl⟩:=rx;rfl)
theorem op_notN:OpR X (compareOp .IsNot) (fun x y H Q=>y= .non∧Q (.bl (!decide (x= .non))) H):=by
 intro pins s σ H x y v u Q I rx ry h;obtain⟨rfl,q⟩:=h;cases ry;refine isnot_none_gen (znt I q ?_);cases x<;>first
  | (cases rx;rfl)
  | (obtain⟨t,rfl⟩:=rx;rfl)
theorem OpR.or{f:Value→Value→Sem Value}{r r':R2}(h:OpR X f r) (h':OpR X f r'):OpR X f (fun x y H Q=>r x y H Q∨r' x y H Q):=by
 intro pins s σ H x y v u Q I rx ry q;rcases q with q |q
 ·exact h pins s σ H x y v u Q I rx ry q
 ·exact h' pins s σ H x y v u Q I rx ry q
theorem nomark (b:Expr) {op:CmpOp}(h:op≠ .In:=by decide) (h2:op≠ .NotIn:=by decide):behindInMarks op b=false:=by
 have e1:(op == CmpOp.In)=false:=by cases op<;>first |rfl |exact absurd rfl h
 have e2:(op == CmpOp.NotIn)=false:=by cases op<;>first |rfl |exact absurd rfl h2
 cases b<;>simp [behindInMarks,e1,e2]
theorem zoa{op:CmpOp}{r:R2}(ho:OpR X (compareOp op) r) (ha:PE X a ta) (hb:PE X b tb) (hm:behindInMarks op b=false):PE X (.Compare a [op] [b] pos) (tOp r ta tb):=by
 intro pins s σ H Q I h;exact wpAny_Compare1 (zsQ ha hb I h fun v u s2 x y H2 I2 rx ry q=>ho pins s2 σ H2 x y v u Q I2 rx ry q) hm
noncomputable def zsp (t:TE):TT:=fun σ H Q=>t σ H fun x H'=>∃k,x= .bl k∧Q k H'
theorem zph{op:CmpOp}{r:R2}(ho:OpR X (compareOp op) r) (ha:PE X a ta) (hb:PE X b tb) (hm:behindInMarks op b=false):PT X (.Compare a [op] [b] pos) (zsp (tOp r ta tb)):=by
 intro pins s σ H Q I h;refine wpAny_isTrue_Compare1 (thn (ha pins s σ H _ I h) fun v s1 ⟨x,H1,I1,r1,q1⟩=>thn (hb pins s1 σ H1 _ I1 q1) fun u s2 ⟨y,H2,I2,r2,q2⟩=>
  thn (ho pins s2 σ H2 x y v u _ I2 r1 r2 q2) fun c s3 ⟨z,H3,I3,r3,k,e,q3⟩=>?_) hm
 subst e;cases r3;exact wpAny_truthy_bool ⟨H3,I3,q3⟩
noncomputable def zsl (K:PySem.W.Frag) (x:V) (H:Hp) (k:Bool):Prop:=
 match x with
 | .non=>k=false
 | .bl b=>k=b
 | .int i=>k=(i != 0)
 | .str y=>y.length≤sizeLine∧k=((y.length:Int) != 0)
 | .byt y=>y.size≤sizeLine∧k=((y.size:Int) != 0)
 | .ref p=>(∃xs,SqL K H p xs∧k= !xs.isEmpty)∨(∃xs,SqT K H p xs∧k= !xs.isEmpty)∨ ∃kvs,H p=some (.dK kvs)∧k= !kvs.isEmpty
 |_=>False
theorem ziU{κ:Type}{kvs:List (κ×V)}{vs:List (κ×Value)}(r:KV kvs vs):(!vs.isEmpty)= !kvs.isEmpty:=by
 cases r<;>rfl
theorem zeV{xs:List V}{its:List Value}(r:Vals xs its):(!its.toArray.isEmpty)= !xs.isEmpty:=by
 cases r<;>simp
theorem zfj:(sizeLine:Nat)<2 ^ 63:=by rw [sizeLine_eq];decide
theorem zpF:zty X (fun x H Q=>∃k,zsl X.K x H k∧Q k H):=by
 intro pins s σ H x v Q I rx h;obtain⟨k,e,q⟩:=h;have hl:=zfj;have hs:sizeLine=16777216:=sizeLine_eq;cases x with
 |non=>
  cases rx;have e':k=false:=e;subst e';exact truthy_none ⟨H,I,q⟩
 |bl b=>
  cases rx;have e':k=b:=e;subst e';exact wpAny_truthy_bool ⟨H,I,q⟩
 |int i=>
  obtain⟨t,rfl⟩:=rx;have e':k=(i != 0):=e;subst e';exact PySem.P.truthy_int ⟨H,I,q⟩
 |str y=>
  obtain⟨t,rfl⟩:=rx;obtain⟨hy,e'⟩:y.length≤sizeLine∧k=((y.length:Int) != 0):=e;subst e';exact PySem.P.truthy_str (by omega) ⟨H,I.tok _,q⟩
 |byt y=>
  obtain⟨t,rfl⟩:=rx;obtain⟨hy,e'⟩:y.size≤sizeLine∧k=((y.size:Int) != 0):=e;subst e';exact PySem.W.truthy_bytes (by omega) ⟨H,I.tok _,q⟩
 |ref p=>
  cases rx;have e':(∃xs,SqL X.K H p xs∧k= !xs.isEmpty)∨(∃xs,SqT X.K H p xs∧k= !xs.isEmpty)∨ ∃kvs,H p=some (.dK kvs)∧k= !kvs.isEmpty:=e;rcases e' with⟨xs,hx,e'⟩ |⟨xs,hx,e'⟩ |⟨kvs,hx,e'⟩
  ·subst e';obtain⟨its,r,pl,hz⟩:=I.list hx;have hlen:=r.length;exact wpAny_truthy_list pl.isList (by simp only[List.size_toArray];omega) ⟨H,I.tok _,by rw [zeV r];exact q⟩
  ·subst e';obtain⟨its,r,pl,hz⟩:=I.tuple hx;have hlen:=r.length;exact truthy_tuple pl (by simp only[List.size_toArray];omega) ⟨H,I.tok _,by rw [zeV r];exact q⟩
  ·subst e';obtain⟨hz,hS,vs,r,m⟩:kvs.length≤sizeLine∧(p == sysModules)=false∧ ∃vs,KV kvs vs∧s.heap.DictOf (zhm X.prog X.w) p vs:=I.hok p _ hx;have hlen:kvs.length=vs.length:=Paired.length r;exact wpAny_truthy_dict hS m (by omega) ⟨H,I.tok _,by rw [ziU r];exact q⟩
 |_=>exact(show False from e).elim
theorem zma (ha:PE X a ta) (he:∀whole,isTrue a X.env whole=(do let v ←whole;standAt a.pos;holding [v] (truthy v))) :
  PT X a (fun σ H Q=>ta σ H fun x H'=>∃k,zsl X.K x H' k∧Q k H'):=by
 intro pins s σ H Q I h;exact isTrue_plain (thn (ha pins s σ H _ I h) fun v s1 ⟨x,H1,I1,r1,q1⟩=>zpF pins s1 σ H1 x v Q I1 r1 q1) (he _)
theorem op_add_str:OpR X (binaryOp .Add) (fun x y H Q=>∃i j,x= .str i∧y= .str j∧i.length+j.length≤sizeLine∧Q (.str (i++j)) H):=by
 intro pins s σ H x y v u Q I rx ry h;obtain⟨i,j,rfl,rfl,hz,q⟩:=h;obtain⟨t,rfl⟩:=rx;obtain⟨t',rfl⟩:=ry;exact add_str (fun t' tk=>⟨.str (i++j),H,I.tok _,⟨_,rfl⟩,q⟩) hz
theorem zhw{x:V}{us:List Value}(r:Vals [x] us):∃u,us=[u]∧RelV x u:=by
 cases r with
 |cons r1 r2=>cases r2;exact⟨_,rfl,r1⟩
theorem zrF{x y:V}{us:List Value}(r:Vals [x,y] us):∃u w',us=[u,w']∧RelV x u∧RelV y w':=by
 cases r with
 |cons r1 r2=>
  cases r2 with
  |cons r3 r4=>cases r4;exact⟨_,_,rfl,r1,r3⟩
theorem zks (hc:X.calm=true):CallR X (.builtin "min") (fun xs H Q=>∃i j,xs=[.int i, .int j]∧Q (.int (if j<i then j else i)) H):=by
 intro pins s σ H xs us Q I r h;obtain⟨i,j,rfl,q⟩:=h;obtain⟨u,w',rfl,⟨t,rfl⟩,⟨t',rfl⟩⟩:=zrF r;refine min_two_ints (I.ok.hd hc) fun h' tk k=>⟨_,H,I.kept k,?_,q⟩;by_cases hj:j<i
 ·rw [if_pos hj,if_pos hj];exact⟨_,rfl⟩
 ·rw [if_neg hj,if_neg hj];exact⟨_,rfl⟩
theorem zjS:CallR X (.type "int") (fun xs H Q=>(∃i,xs=[.int i]∧Q (.int i) H)∨ ∃k,xs=[.bl k]∧Q (.int (if k then 1 else 0)) H):=by
 intro pins s σ H xs us Q I r h;rcases h with⟨i,rfl,q⟩ |⟨k,rfl,q⟩
 ·obtain⟨u,rfl,t,rfl⟩:=zhw r;exact call_int_int ⟨.int i,H,I,⟨_,rfl⟩,q⟩
 ·obtain⟨u,rfl,r1⟩:=zhw r;cases r1;exact call_int_bool ⟨.int (if k then 1 else 0),H,I.tok _,⟨_,rfl⟩,q⟩
end
structure ObjM (h:Heap) (x dx C:Addr) (mA:Str→Option Value):Prop where
  obj:h.get? x=some (PySem.W.instObj C dx)
  ns:h.Ns1 dx mA
  ne:dx≠x
theorem zkK{h:Heap}{dx:Addr}{mA:Str→Option Value}(n:h.Ns1 dx mA):∃od,h.get? dx=some od∧ ∀name,PySem.W.lookIn name od=some (mA name):=by
 obtain⟨o,es,ep,ho,hd,hk,_,hm⟩:=n;refine⟨o,ho,fun name=>?_⟩;have e:=hm name;unfold nsFind findBy at e;rw [←Array.find?_toList]at e;unfold PySem.W.lookIn;rw [hd];dsimp only;split
 ·rename_i y q;rw [q]at e;exact congrArg some e
 ·rename_i q;rw [q]at e;have a:es.toList.any (·.refKey)=false:=by
   rw [List.any_eq_false];intro y hy;obtain⟨z,t,hkey⟩:=hk y (Array.mem_toList_iff.mp hy);simp [DictEntry.refKey,hkey]
  have a':¬es.toList.any (·.refKey)=true:=by rw [a];exact Bool.false_ne_true
  rw [if_neg a'];exact congrArg some e
theorem ObjM.look{h:Heap}{x dx C:Addr}{mA:Str→Option Value}(I:ObjM h x dx C mA):∃od,PySem.W.InstAt h x (PySem.W.instObj C dx) C (some od)∧ ∀name,PySem.W.lookIn name od=some (mA name):=
 let ⟨od,ho,hl⟩:=zkK I.ns
 ⟨od,⟨I.obj,rfl,rfl,ho⟩,hl⟩
section
variable {P:Program}{w:World}{H:Hp}{h:Heap}{a C dx:Addr}{fs:List (Str×V)}
theorem zpj (hok:HOk P w H h) (e:H a=some (.ins C dx fs)):∃mA,ObjM h a dx C mA∧(∀f,RelO (fs.lookup f) (mA f))∧PySem.Within mA (fs.map (·.1))∧fs.length≤1000∧H dx=some (.own a):=by
 obtain⟨d,z,ne,ob,mA,n,r,q⟩:=(show ObjOk P w H h a (.ins C dx fs) from hok a _ e);exact⟨mA,⟨ob,n,ne⟩,r,q,z,d⟩
end
structure Cls (K:PySem.W.Frag) (C:Addr):Prop where
  pg:PySem.W.plainGet K C Str.empty=true
  hd:PySem.W.hasDictIn K C=true
  po:PySem.W.plainOver K C=true
  sa:PySem.W.findIn K (.ref C) "__setattr__" =some (some (.builtin "object.__setattr__"))
theorem Cls.get{K:PySem.W.Frag}{C:Addr}(c:Cls K C) (f:Str):PySem.W.plainGet K C f=true:=c.pg
section
variable {X:Cx}{pins:List (Addr×Obj)}{σ:St}{H:Hp}{s:Shared}{A:Around}{E:Value→Shared→Prop}{Q:Value→Shared→Prop}{c:Value}{b:Bool}
inductive TyOf (K:PySem.W.Frag) (H:Hp):V→Value→Prop where
  |non:TyOf K H .non (.type "NoneType")
  |bl (x:Bool):TyOf K H (.bl x) (.type "bool")
  |int (i:Int):TyOf K H (.int i) (.type "int")
  |str (x:Str):TyOf K H (.str x) (.type "str")
  |flt (x:UInt64):TyOf K H (.flt x) (.type "float")
  |lst {a:Addr}{xs:List V}(e:H a=some (.lst xs)):TyOf K H (.ref a) (.type "list")
  |frz {a:Addr}{o:Obj}{xs:List V}(e:H a=some (.frz o (.lst xs))):TyOf K H (.ref a) (.type "list")
  |tup {a:Addr}{xs:List V}(e:H a=some (.tup xs)):TyOf K H (.ref a) (.type "tuple")
  |dK {a:Addr}{kvs:List (Key×V)}(e:H a=some (.dK kvs)):TyOf K H (.ref a) (.type "dict")
  |dT {a:Addr}{kvs:List (List Key×V)}(e:H a=some (.dT kvs)):TyOf K H (.ref a) (.type "dict")
  |ins {a C dx:Addr}{fs:List (Str×V)}(e:H a=some (.ins C dx fs)) (cl:Cls K C) (ha:PySem.W.findIn K (.ref C) "__class__" =some (some (.builtin "object.__class__")))
      (hn:PySem.W.specialIn K (.builtin "object.__class__") "__get__" =some (some (.builtin "getset_descriptor.__get__"))) (htk:PySem.W.takesIn K (.builtin "object.__class__")=some true)
      (hm:PySem.W.mroIn K C (.type "object")=some true):TyOf K H (.ref a) (.ref C)
theorem zkc{x:V}{u t:Value}(I:Inv X pins σ H s) (rx:RelV x u) (ty:TyOf X.K H x t) (e:PySem.W.kitOne X.K t c=some b) (h:∀tk,Q (.bool b) { s with toks:=tk }) :
  wpAny (model X.prog X.w) A (call (.builtin "isinstance") [u,c]) Q E s:=by
 cases ty with
 |non=>cases(show u=Value.none from rx);exact PySem.W.kia_one PySem.W.kitx_none I.kIn True.intro e (fun z=>nomatch z) h
 |bl y=>cases(show u=Value.bool y from rx);exact PySem.W.kia_one PySem.W.kitx_bool I.kIn True.intro e (fun z=>nomatch z) h
 |int i=>obtain⟨t,q⟩:=(show ∃t,u=Value.int i t from rx);cases q;exact PySem.W.kia_one PySem.W.kitx_int I.kIn True.intro e (fun z=>nomatch z) h
 |str y=>obtain⟨t,q⟩:=(show ∃t,u=Value.str y t from rx);cases q;exact PySem.W.kia_one PySem.W.kitx_str I.kIn True.intro e (fun z=>nomatch z) h
 |flt y=>obtain⟨t,q⟩:=(show ∃t,u=Value.float y t from rx);cases q;exact PySem.W.kia_one PySem.W.kitx_float I.kIn True.intro e (fun z=>nomatch z) h
 | @lst a xs ea=>
  cases(show u=Value.ref a from rx);obtain⟨_,_,n,_,h1⟩:=(show ObjOk X.prog X.w H s.heap a (.lst xs) from I.hok a _ ea);exact PySem.W.kia_one PySem.W.kitx_list I.kIn ⟨_,h1,rfl⟩ e (fun z=>nomatch z) h
 | @frz a ob xs ea=>
  cases(show u=Value.ref a from rx);obtain⟨_,_,_,n,_,h1⟩:=(show ObjOk X.prog X.w H s.heap a (.frz ob (.lst xs)) from I.hok a _ ea);exact PySem.W.kia_one PySem.W.kitx_list I.kIn ⟨_,h1,rfl⟩ e (fun z=>nomatch z) h
 | @tup a xs ea=>
  cases(show u=Value.ref a from rx);obtain⟨_,_,_,p⟩:=(show ObjOk X.prog X.w H s.heap a (.tup xs) from I.hok a _ ea);obtain⟨o,h1,h2,_⟩:=p;exact PySem.W.kia_one PySem.W.kitx_tuple I.kIn ⟨o,h1,h2⟩ e (fun z=>nomatch z) h
 | @dK a kvs ea=>
  cases(show u=Value.ref a from rx);obtain⟨_,_,vs,_,p⟩:=(show ObjOk X.prog X.w H s.heap a (.dK kvs) from I.hok a _ ea);obtain⟨o,es,ep,h1,h2,_⟩:=p;exact PySem.W.kia_one PySem.W.kitx_dict I.kIn ⟨o,h1,h2.1⟩ e (fun z=>nomatch z) h
 | @dT a kvs ea=>
  cases(show u=Value.ref a from rx);obtain⟨_,_,xs,_,o,es,ep,h1,h2,_⟩:=(show ObjOk X.prog X.w H s.heap a (.dT kvs) from I.hok a _ ea);exact PySem.W.kia_one PySem.W.kitx_dict I.kIn ⟨o,h1,h2.1⟩ e (fun z=>nomatch z) h
 | @ins a C dx fs ea cl ha hn htk hm=>
  cases(show u=Value.ref a from rx);obtain⟨mA,O,_⟩:=zpj I.hok ea;obtain⟨od,J,_⟩:=O.look;exact PySem.W.kia_one (PySem.W.kitx_own (cl.get _) cl.hd ha hn htk hm) I.kIn J e (fun z=>nomatch z) h
end
structure Room (k:Nat) (A:Around):Prop where
  hd:A.handled=none
  dp:A.depth+3*k+5<recursionLimit
  un:A.units+16*k+200<cLine
theorem Room.deeper{k:Nat}{A:Around}(r:Room (k+1) A) (env:Env):Room k (A.deeper env):=
 ⟨r.hd,by have:=r.dp;show A.depth+1+3*k+5<_;omega,by have:=r.un;show A.units+3+16*k+200<_;omega⟩
theorem Room.depth{k:Nat}{A:Around}(r:Room k A):A.depth<recursionLimit:=by have:=r.dp;omega
theorem Room.units{k:Nat}{A:Around}(r:Room k A):A.units+64<cLine:=by have:=r.un;omega
noncomputable def ztO:TA:=fun _ H Q=>Q [] H
noncomputable def zsD (ta:TE) (tr:TA):TA:=fun σ H Q=>ta σ H fun x H1=>tr σ H1 fun xs H2=>Q (x::xs) H2
section
variable {X:Cx}{e:Expr}{es:List Expr}{te:TE}{t:TA}{pos:Pos}
theorem pa_nil:PA X [] ztO:=fun _ _ _ _ H Q I h=>Calls.spliced_nil ⟨[],H,I, .nil,h⟩
theorem zcE (ha:PE X e te) (hr:PA X es t) (hs:starEach (e::es) X.env=(false,eval e X.env)::starEach es X.env:=by rfl):PA X (e::es) (zsD te t):=by
 intro pos pins s σ H Q I h;rw [hs];show wpAny _ _ (spliced ((false,eval e X.env)::backTo pos (starEach es X.env))) _ _ s;refine Calls.spliced_cons (thn (ha pins s σ H _ I h) fun u s1 ⟨x,H1,I1,r1,q1⟩=>?_);exact thn (hr pos pins s1 σ H1 _ I1 q1) fun us s2 ⟨xs,H2,I2,r2,q2⟩=>⟨x::xs,H2,I2, .cons r1 r2,q2⟩
noncomputable def zub (t:TA):TE:=fun σ H Q=>t σ H fun xs H1=>xs.length≤sizeLine∧ ∀p,H1 p=none→Q (.ref p) (upd H1 p (.tup xs))
noncomputable def ztV (t:TA):TE:=fun σ H Q=>t σ H fun xs H1=>xs.length≤sizeLine∧ ∀p,H1 p=none→Q (.ref p) (upd H1 p (.lst xs))
theorem zqM{x1}(h:PA X es t):PE X (.Tuple es x1 pos) (zub t):=by
 intro pins s σ H Q I hq;refine wpAny_Tuple_spliced (thn (h pos pins s σ H _ I hq) fun us s1 ⟨xs,H1,I1,r,z,q⟩=>⟨by rw [←r.length];exact z,?_⟩);have hf:H1 s1.heap.objs.size=none:=I1.hok.fresh (Nat.le_refl _);refine⟨.ref s1.heap.objs.size,upd H1 s1.heap.objs.size (.tup xs),I1.laid (t':=s1.toks) (fun b u e=>Heap.get?_push_of_some _ e) (Nat.le_refl _) ?_,rfl,q _ hf⟩;exact⟨z,us,r,⟨_,Heap.get?_push_size _ rfl,rfl,_,rfl⟩⟩
theorem zqE (h:PA X es t):PE X (.List es pos) (ztV t):=by
 intro pins s σ H Q I hq;refine wpAny_List_spliced (thn (h pos pins s σ H _ I hq) fun us s1 ⟨xs,H1,I1,r,z,q⟩=>⟨by rw [←r.length];exact z,?_⟩);have hf:H1 s1.heap.objs.size=none:=I1.hok.fresh (Nat.le_refl _);refine⟨.ref s1.heap.objs.size,upd H1 s1.heap.objs.size (.lst xs),I1.laid (t':=s1.toks) (fun b u e=>Heap.get?_push_of_some _ e) (Nat.le_refl _) ?_,rfl,q _ hf⟩;exact⟨z,us,0,r,Heap.get?_push_size _ rfl⟩
end
noncomputable abbrev Sp:=List V→Hp→VK→XK→Prop
noncomputable abbrev CXT:=List Env→Hp→Shared→XK→Value→Shared→Prop
structure Env0 (P:Program) (w:World) (K:PySem.W.Frag) (mg:Str→Option Value) (base:Heap) (A:Around) (outer:List Env) (s:Shared) (H:Hp):Prop where
  frames:A.frames=some outer
  mod:Mod K mg base
  bs:∀b o,base.get? b=some o→s.heap.get? b=some o∧H b=none
  bsz:base.objs.size≤s.heap.objs.size
  funs:s.heap.FunFrames base outer
  frf:∀b∈frs outer,H b=none
  hok:HOk P w H s.heap
  bare:AllBare s.gens
noncomputable def CE (outer:List Env) (P:Program) (w:World) (H:Hp) (s:Shared) (Q:VK) (u:Value) (s':Shared):Prop:=
 ∃v H',s'.os=s.os∧AllBare s'.gens∧Un (frs outer) [] H H' s.heap s'.heap∧HOk P w H' s'.heap∧RelV v u∧Q v H'
noncomputable def CR (CX:CXT) (outer:List Env) (P:Program) (w:World) (H:Hp) (s:Shared) (Q:VK) (E:XK) (r:Result) (s':Shared):Prop:=
 match r with
 | .ok (.ret u)=>CE outer P w H s Q u s'
 | .ok _=>False
 | .error e=>CX outer H s E e s'
structure FnOk (P:Program) (w:World) (K:PySem.W.Frag) (mg:Str→Option Value) (base:Heap) (CX:CXT) (k:Nat) (f:Addr) (fd:FuncData) (ps:List Str) (sp:Sp):Prop where
  len:∀vs H Q E,sp vs H Q E→vs.length=ps.length
  run:∀(A:Around) (outer:List Env) (s:Shared) (H:Hp) (args:Args) (us:List Value) (vs:List V) (Q:VK) (E:XK),Room k A→Env0 P w K mg base A outer s H→BindsTo s fd args (ps.zip us)→Vals vs us→sp vs H Q E→
    codeAny (model P w) A (.call (.ref f) args) (CR CX outer P w H s Q E) s
section
variable {X:Cx}{pins:List (Addr×Obj)}{σ:St}{H:Hp}{s:Shared}
theorem Inv.env0 (I:Inv X pins σ H s):Env0 X.prog X.w X.K X.mg X.base X.A X.stack s H:=
 ⟨I.ok.frames,I.ok.mod,I.bs,Nat.le_trans I.ok.bsz I.sz,I.stack,I.stkFree,I.hok,I.bare⟩
end
noncomputable def Binds (K:PySem.W.Frag) (fd:FuncData) (ps:List Str) (ds:List Value):Prop:=
 ∀(s:Shared) (us:List Value),K.In s.heap→(us++ds).length=ps.length→BindsTo s fd ⟨us,[]⟩ (ps.zip (us++ds))
theorem Binds.all{K:PySem.W.Frag}{fd:FuncData}{ps:List Str}(h:∀us:List Value,us.length=ps.length→bindArgs fd ⟨us,[]⟩=pure (ps.zip us)):Binds K fd ps []:=fun s us _ hl=>by
 rw [List.append_nil]at hl⊢;exact .of_eq (h us hl)
structure FnScope (N P:List Str) (sc:Scope):Prop where
  kind:sc.kind= .function
  co:sc.isCoroutine=false
  gen:sc.isGenerator=false
  nd:N.Nodup
  pre:N.take P.length=P
  par:∀x∈P,sc.names.lookup x=some .local∨sc.names.lookup x=some .cell
  nofree:∀y∈sc.names,y.2≠ .free
theorem zgF{kindOf:Str→Option NameKind}{x:Str}:∀{binds:List (Str×Value)}{m:Str→Option Value},(∀v,(x,v)∉binds)→bindL kindOf binds m x=m x
 | [],_,_=>rfl
 | (n,v)::r,m,h=>by
  unfold bindL;rw [zgF fun w hw=>h w (List.mem_cons_of_mem _ hw)];split
  ·have:x≠n:=by rintro rfl;exact h v List.mem_cons_self
   simp [this]
  ·rfl
theorem zgN{kindOf:Str→Option NameKind}{x:Str}:∀{binds:List (Str×Value)}{m:Str→Option Value},(∀v,(x,v)∉binds)→bindC kindOf binds m x=m x
 | [],_,_=>rfl
 | (n,v)::r,m,h=>by
  unfold bindC;rw [zgN fun w hw=>h w (List.mem_cons_of_mem _ hw)];split
  ·rfl
  ·have:x≠n:=by rintro rfl;exact h v List.mem_cons_self
   simp [this]
theorem zgv{kindOf:Str→Option NameKind}{x:Str}{v:Value}:∀{P:List Str}{vs:List Value}{i:Nat}{m:Str→Option Value},P.Nodup→P[i]? =some x→vs[i]? =some v→kindOf x=some .local→
  bindL kindOf (P.zip vs) m x=some v
 | [],_,_,_,_,h,_,_=>by simp at h
 |_::_,[],_,_,_,_,h,_=>by simp at h
 |p::P,w::vs,0,m,nd,h1,h2,hk=>by
  simp at h1 h2;subst h1;subst h2;show bindL kindOf ((p,w)::P.zip vs) m p=_;unfold bindL;rw [zgF fun v hv=>(List.nodup_cons.mp nd).1 (List.of_mem_zip hv).1,if_pos hk];simp
 |p::P,w::vs,i+1,m,nd,h1,h2,hk=>by
  show bindL kindOf ((p,w)::P.zip vs) m x=_;unfold bindL;exact zgv (i:=i) (List.nodup_cons.mp nd).2 (by simpa using h1) (by simpa using h2) hk
theorem zgQ{kindOf:Str→Option NameKind}{x:Str}{v:Value}:∀{P:List Str}{vs:List Value}{i:Nat}{m:Str→Option Value},P.Nodup→P[i]? =some x→vs[i]? =some v→kindOf x≠some .local→
  bindC kindOf (P.zip vs) m x=some v
 | [],_,_,_,_,h,_,_=>by simp at h
 |_::_,[],_,_,_,_,h,_=>by simp at h
 |p::P,w::vs,0,m,nd,h1,h2,hk=>by
  simp at h1 h2;subst h1;subst h2;show bindC kindOf ((p,w)::P.zip vs) m p=_;unfold bindC;rw [zgN fun v hv=>(List.nodup_cons.mp nd).1 (List.of_mem_zip hv).1,if_neg hk];simp
 |p::P,w::vs,i+1,m,nd,h1,h2,hk=>by
  show bindC kindOf ((p,w)::P.zip vs) m x=_;unfold bindC;exact zgQ (i:=i) (List.nodup_cons.mp nd).2 (by simpa using h1) (by simpa using h2) hk
noncomputable def zfw (N:List Str) (vs:List V):St:=vs.map some++List.replicate (N.length - vs.length) none
noncomputable def znQ (CX:CXT) (P:Program) (w:World) (K:PySem.W.Frag) (mg:Str→Option Value) (base:Heap) (N:List Str) (qual:Str) (scope:Scope) (f:Addr) (cd:Value) (A:Around) (outer:List Env) (s:Shared) (H:Hp) (E:XK):Cx where
  prog:=P
  w:=w
  K:=K
  mg:=mg
  base:=base
  A:=A.deeper (envOfC qual scope s.heap.objs.size f cd)
  N:=N
  s₀:=s
  H₀:=H
  env:=envOfC qual scope s.heap.objs.size f cd
  outer:=outer
  stack:=envOfC qual scope s.heap.objs.size f cd::outer
  ex:=[]
  calm:=true
  fn:=fun _=>true
  pn:=[]
  xe:=fun e s'=>wpAny (model P w) (A.deeper (envOfC qual scope s.heap.objs.size f cd)) (leaving (envOfC qual scope s.heap.objs.size f cd) e) (fun _ s''=>CX outer H s E e s'') (fun e' s''=>CX outer H s E e' s'') s'
theorem zhQ{sc:Scope}{n:Nat}{x:Str}(h:sc.names.lookup x=some .cell):∃c,(cellsFrom n sc.names []).lookup x=some c:=by
 have q:=PySem.W.cellsFrom_some sc.names n [] (.inl h);exact Option.isSome_iff_exists.mp q
theorem zlm{CX:CXT}{P:Program}{w:World}{K:PySem.W.Frag}{mg:Str→Option Value}{base:Heap}{N ps:List Str}{qual:Str}{scope:Scope}{f:Addr}{cd:Value}{A:Around}{outer:List Env}{s s1:Shared}{H:Hp}{E:XK}{us:List Value}{vs:List V}
  (S:FnScope N ps scope) (hd:A.handled=none) (e0:Env0 P w K mg base A outer s H) (hl:vs.length=ps.length) (r:Vals vs us)
  (x:InCallC s s.heap.objs.size (bindL (envOfC qual scope s.heap.objs.size f cd).kindOf (ps.zip us) fun _=>none) (cellsFrom (s.heap.objs.size+1) scope.names []) (bindC (envOfC qual scope s.heap.objs.size f cd).kindOf (ps.zip us) fun _=>none) s1) :
  Inv (znQ CX P w K mg base N qual scope f cd A outer s H E) [] (zfw N vs) H s1:=by
 have hpl:ps.length≤N.length:=by have:=congrArg List.length S.pre;rw [List.length_take]at this;omega
 obtain⟨h1,tk,rfl,hk⟩:=x.done;have noA:∀b:Addr,b∉(znQ CX P w K mg base N qual scope f cd A outer s H E).ex:=fun b z=>absurd (show b∈([]:List Addr) from z) (by simp);refine⟨⟨e0.mod,S.kind,rfl,rfl,Nat.le_refl _,fun y z c h1 h2=>?_,fun y hy=>?_,fun y c _ h=>?_,fun _=>hd,Around.frames_deeper e0.frames, .inr ⟨rfl,rfl⟩,fun b z=>absurd z (noA b),e0.bs,e0.bsz,fun b _ _=>noA b,fun b z=>absurd z (noA b),e0.funs,e0.frf⟩,
  rfl,e0.bare,Un.kept hk,⟨_,x.toInCall.ns,fun i y v h1 h2 h3=>?_⟩,fun y c h=>⟨_,x.cell y c h⟩,e0.hok.fresh (Nat.le_refl _),fun y c h=>?_,fun p hp=>absurd (show p∈([]:List (Addr×Obj)) from hp) (by simp),e0.hok.kept hk,?_⟩
 ·exact name_of_addr x.apart (PySem.mem_of_lookup h1) (PySem.mem_of_lookup h2)
 ·have hy:scope.names.lookup y=some .cell∨scope.names.lookup y=some .free:=hy;rcases hy with hy |hy
  ·exact zhQ hy
  ·exact absurd rfl (S.nofree _ (PySem.mem_of_lookup hy))
 ·exact Nat.le_of_lt (x.above y c (PySem.mem_of_lookup h))
 ·have hi:i<vs.length:=by
   unfold zfw at h2;by_cases hi:i<vs.length
   ·exact hi
   ·rw [List.getElem?_append_right (by simpa using hi)]at h2;rw [List.getElem?_replicate]at h2;split at h2<;>cases h2
  have ha:vs[i]? =some v:=by
   unfold zfw at h2;rw [List.getElem?_append_left (by simpa using hi),List.getElem?_map]at h2;cases e:vs[i]? with
   |none=>rw [e]at h2;cases h2
   |some a=>rw [e]at h2;cases h2;rfl
  obtain⟨u,hu,rv⟩:=r.get ha;have hp:ps[i]? =some y:=by
   rw [←S.pre,List.getElem?_take_of_lt (by omega)];exact h1
  have ndP:ps.Nodup:=by rw [←S.pre];exact S.nd.sublist (List.take_sublist _ _)
  refine⟨u,rv,?_⟩;rcases S.par y (List.mem_of_getElem? hp) with k |k
  ·exact .inl ⟨k,zgv ndP hp hu k⟩
  ·obtain⟨c,e⟩:=zhQ (n:=s.heap.objs.size+1) k;refine .inr ⟨.inl k,c,e,?_⟩;have q:=x.cell y c e;rw [zgQ ndP hp hu (by show scope.names.lookup y≠_;rw [k];decide)]at q;exact q
 ·exact e0.hok.fresh (Nat.le_of_lt (x.above y c (PySem.mem_of_lookup h)))
 ·unfold zfw;show _=N.length;rw [List.length_append,List.length_map,List.length_replicate];omega
theorem zsq{CX:CXT}{P:Program}{w:World}{K:PySem.W.Frag}{mg:Str→Option Value}{base:Heap}{k:Nat}{f:Addr}{name qual:Str}{params:Arguments}{body:List Stmt}{scope:Scope}{dV kV doc pm cdv ct oc:Value}{an od:Option Addr}
  {osl:Array (Option Value)}{N ps:List Str}{sp:Sp}(lk:K.lookup f=some ⟨oc,od, .func (PySem.W.fnOf name qual params body scope dV kV doc pm an cdv ct),osl⟩) (hcd:PySem.W.codeIn K cdv qual=true) (S:FnScope N ps scope)
  (len:∀vs H Q E,sp vs H Q E→vs.length=ps.length)
  (hbody:∀(A:Around) (outer:List Env) (s:Shared) (H:Hp) (vs:List V) (Q:VK) (E:XK),Room k (A.deeper (envOfC qual scope s.heap.objs.size f cdv))→sp vs H Q E→
   ∃t,PSs (znQ CX P w K mg base N qual scope f cdv A outer s H E) body t∧t { nx:=fun _ H'=>Q .non H',rt:=Q } (zfw N vs) H) :
  FnOk P w K mg base CX (k+1) f (PySem.W.fnOf name qual params body scope dV kV doc pm an cdv ct) ps sp:=by
 refine⟨len,fun A outer s H args us vs Q E hr e0 hb r hsp=>?_⟩;have hl:=len _ _ _ _ hsp;have KX:K.In s.heap:=e0.mod.kin.keeps fun b o e=>(e0.bs b o e).1;have lim:s.heap.NoLimit:=e0.mod.nolimit.keeps fun b o e=>(e0.bs b o e).1;have hkind:∀y∈ps.zip us,scope.names.lookup y.1=some .local∨(scope.names.lookup y.1=some .cell∧((cellsFrom (s.heap.objs.size+1) scope.names []).lookup y.1).isSome=true):=fun⟨n,v⟩ hy=>by
  rcases S.par n (List.of_mem_zip hy).1 with q |q
  ·exact .inl q
  ·exact .inr ⟨q,PySem.W.cellsFrom_some _ _ _ (.inl q)⟩
 refine codeAny_call_function hr.depth (KX _ _ lk) rfl S.co S.gen rfl (PySem.W.codeRec_of KX hcd) (hb _ _ _ _ ?_);refine wpAny_newFunctionEnv_cells S.kind hkind fun env he s1 x=>?_;subst he;refine⟨lim.keeps x.toInCall.keep,codeAny_func ?_⟩;obtain⟨t,ht,hq⟩:=hbody A outer s H vs Q E (hr.deeper _) hsp;have I:Inv (znQ CX P w K mg base N qual scope f cdv A outer s H E) [] (zfw N vs) H s1:=zlm S hr.hd e0 hl r x;refine wpAny_mono (ht [] s1 (zfw N vs) H _ I hq) (fun fl s' hs=>?_) fun e s' hs=>hs;have fin:∀{σ':St}{H':Hp}{v:V}{u:Value},Inv (znQ CX P w K mg base N qual scope f cdv A outer s H E) [] σ' H' s'→RelV v u→Q v H'→CE outer P w H s Q u s':=
  fun {σ' H' v u} J rv q=>⟨v,H',J.os,J.bare,J.base,J.hok,rv,q⟩
 cases fl with
 |ret u=>
  obtain⟨v,σ',H',J,rv,q⟩:=hs;exact fin J rv q
 |next=>
  obtain⟨σ',H',J,q⟩:=hs;exact fin (v:=V.non) (u:=Value.none) J rfl q
 |brk=>
  obtain⟨_,_,_,q⟩:=hs;exact False.elim q
 |cont=>
  obtain⟨_,_,_,q⟩:=hs;exact False.elim q
section
variable {X:Cx}{x:Str}{p pos:Pos}{e:Expr}{es:List Expr}{t:TA}{id T:String}{r:List V→Hp→VK→Prop}
noncomputable def tCB (r:List V→Hp→VK→Prop) (t:TA):TE:=fun σ H Q=>t σ H fun vs H1=>r vs H1 Q
theorem zfs (hc:CallR X (.builtin id) r) (hg:Gl X x) (hm:X.mg x=none) (hv:bootBuiltins x=some (.builtin id)) (ha:PA X (e::es) t) (hn:x≠ "__name__" :=by decide) (hdb:(x == ("__debug__" :Str))=false:=by decide)
  (he:starEach (e::es) X.env=(false,eval e X.env)::starEach es X.env:=by rfl) (hpl:(backTo pos (starEach es X.env)).any (·.1)=false:=by rfl):PE X (.Call (.Name x p) (e::es) [] pos) (tCB r t):=by
 intro pins s σ H Q I h;refine wpAny_Call_Name_kw (zfe I hg hm hv ?_ hn hdb);exact PyProof.Rows.callWith_builtin1 (thn (ha pos pins s σ H _ I h) fun us s1 ⟨vs,H1,I1,r1,q1⟩=>hc pins s1 σ H1 vs us Q I1 r1 q1) he hpl
theorem zgK (hc:CallR X (.type T) r) (hg:Gl X x) (hm:X.mg x=none) (hv:bootBuiltins x=some (.type T)) (ha:PA X (e::es) t) (hn:x≠ "__name__" :=by decide) (hdb:(x == ("__debug__" :Str))=false:=by decide)
  (he:starEach (e::es) X.env=(false,eval e X.env)::starEach es X.env:=by rfl) (hpl:(backTo pos (starEach es X.env)).any (·.1)=false:=by rfl):PE X (.Call (.Name x p) (e::es) [] pos) (tCB r t):=by
 intro pins s σ H Q I h;refine wpAny_Call_Name_kw (zfe I hg hm hv ?_ hn hdb);exact PyProof.Rows.callWith_type1 (thn (ha pos pins s σ H _ I h) fun us s1 ⟨vs,H1,I1,r1,q1⟩=>hc pins s1 σ H1 vs us Q I1 r1 q1) he hpl
end
end L2
namespace HT
open PySem PyProof.Rows
section
variable {prog:Program}{w:World}{A:Around}{E:Value→Shared→Prop}{s:Shared}
theorem cat_tup{t b:Addr}{vs ws:List Value}{Q:Value→Shared→Prop}(ht:IsTup s.heap t vs.toArray) (hb:IsTup s.heap b ws.toArray) (hv:vs≠ [])
  (h1:ws=[]→Q (.ref t) s) (h2:ws≠ []→Q (.ref s.heap.objs.size) { s with heap:=s.heap.push { cls:= .type "tuple",data:= .seq (vs++ws).toArray } })
  (hsz:vs.length+ws.length≤sizeLine):wpAny (model prog w) A (binaryOp .Add (.ref t) (.ref b)) Q E s:=by
 obtain⟨⟨cls,dd,data,sl⟩,ho,hc,n,hd⟩:=id ht;obtain⟨⟨cls2,dd2,data2,sl2⟩,ho2,hc2,n2,hd2⟩:=id hb;simp only at hc hd hc2 hd2;subst hc hd hc2 hd2;have e:vs.toArray++ws.toArray=(vs++ws).toArray:=by simp
 by_cases hw:ws=[]
 ·exact concat_meets ⟨_,ho,rfl⟩ ⟨_,ho2,rfl⟩ noFill_tuple_add seq_tuple_add PySem.F.slot_tuple_add PySem.F.entry_tuple_add (PySem.F.args_tuple_add_2 _ _)
   (tuple_addW1 t b vs.toArray ws.toArray n n2 dd dd2 sl sl2 (by simpa using hv) (by simp [hw])) ⟨ho,ho2,h1 hw⟩
 ·refine concat_meets ⟨_,ho,rfl⟩ ⟨_,ho2,rfl⟩ noFill_tuple_add seq_tuple_add PySem.F.slot_tuple_add PySem.F.entry_tuple_add (PySem.F.args_tuple_add_2 _ _)
   (tuple_addW2 t b vs.toArray ws.toArray n n2 dd dd2 sl sl2 (by simpa using hv) (by simpa using hw) (by rw [List.size_toArray,List.size_toArray];exact hsz)) ⟨ho,ho2,?_⟩
  rw [e];exact h2 hw
noncomputable def sIx (n d:Nat):Option Int→Nat
 |none=>d
 |some v=>if v<0 then(v+(n:Int)).toNat else min v.toNat n
theorem sIx_none (n d:Nat):sIx n d none=d:=rfl
theorem sIx_nat (n d k:Nat):sIx n d (some (k:Int))=min k n:=by
 show(if(k:Int)<0 then((k:Int)+(n:Int)).toNat else min (k:Int).toNat n)=min k n;rw [if_neg (by omega),Int.toNat_natCast]
theorem sIx_le (n d:Nat) (hd:d≤n) (o:Option Int):sIx n d o≤n:=by
 cases o with
 |none=>exact hd
 |some v=>
  show(if v<0 then(v+(n:Int)).toNat else min v.toNat n)≤n;by_cases hv:v<0
  ·rw [if_pos hv];omega
  ·rw [if_neg hv];exact Nat.min_le_right _ _
theorem zjE (v:Int) (n d:Nat):(if v<0 then max (v+(n:Int)) 0 else min v (n:Int))=((sIx n d (some v):Nat):Int):=by
 show(if v<0 then max (v+(n:Int)) 0 else min v (n:Int))=(((if v<0 then(v+(n:Int)).toNat else min v.toNat n):Nat):Int);by_cases hv:v<0
 ·simp only[if_pos hv];omega
 ·simp only[if_neg hv];omega
theorem ziQ (lo hi:Option Int) (n:Nat):Builtin.Slice.sliceAdjust lo hi 1 (n:Int)=(((sIx n 0 lo:Nat):Int),((sIx n n hi:Nat):Int)):=by
 have h1:¬((1:Int)<0):=by omega
 unfold Builtin.Slice.sliceAdjust;simp only[h1,if_false];refine Prod.ext ?_ ?_
 ·cases lo with
  |none=>rfl
  |some v=>exact zjE v n 0
 ·cases hi with
  |none=>rfl
  |some v=>exact zjE v n n
theorem zjm (i j:Nat):Builtin.Slice.slicePlaces (i:Int) (j:Int) 1=j - i:=by
 unfold Builtin.Slice.slicePlaces;have h1:(1:Int) > 0:=by omega
 simp only[h1,if_true,Int.ediv_one];split<;>omega
theorem zfc{v:Value}{o:Option Int}{Q:Option Int→Shared→Prop}(p:IsPart v o) (h:Q o s):wpAny (model prog w) A (Builtin.Slice.slicePartIndex v) Q E s:=by
 cases p with
 |none=>exact slicePart_none h
 |int i t=>exact slicePart_int h
theorem sliceApplied_gen{sl:Addr}{vl vu:Value}{lo hi:Option Int}{n:Nat}{Q:Int×Int×Nat→Shared→Prop}(hs:s.heap.IsSliceOf sl vl vu .none) (pl:IsPart vl lo) (pu:IsPart vu hi)
  (h:Q (((sIx n 0 lo:Nat):Int),1,sIx n n hi - sIx n 0 lo) s):wpAny (model prog w) A (Builtin.Slice.sliceApplied (.ref sl) (pure (n:Int))) Q E s:=by
 obtain⟨os,hos,hcs,hds⟩:=id hs;unfold Builtin.Slice.sliceApplied Builtin.Slice.sliceFields;refine wpAny_bind (wpAny_bind (wpAny_field hos hds (x:=vl) rfl (wpAny_bind (wpAny_field hos hds (x:=vu) rfl (wpAny_bind (wpAny_field hos hds (x:= .none) rfl (wpAny_pure ?_)))))));refine wpAny_bind (slicePart_none ?_);show wpAny _ _ (if((1:Int) == 0)=true then _ else _) _ _ s;rw [if_neg (by decide)];refine wpAny_bind (zfc pl (wpAny_bind (zfc pu (wpAny_bind (wpAny_pure ?_)))));show wpAny _ _ (match Builtin.Slice.sliceAdjust lo hi 1 (n:Int) with | (lo,hi)=>pure (lo,(1:Int),Builtin.Slice.slicePlaces lo hi 1)) _ _ s;rw [ziQ lo hi n];show wpAny _ _ (pure (((sIx n 0 lo:Nat):Int),(1:Int),Builtin.Slice.slicePlaces ((sIx n 0 lo:Nat):Int) ((sIx n n hi:Nat):Int) 1)) _ _ s;rw [zjm];exact wpAny_pure h
theorem zlK (xs:Array Value) (i k:Nat):((List.range k).filterMap fun(m:Nat)=>xs[((i:Int)+(m:Int)*1).toNat]?).toArray=((xs.toList.drop i).take k).toArray:=by
 have e:(fun(m:Nat)=>xs[((i:Int)+(m:Int)*1).toNat]?)=fun m=>xs[i+m]? :=by
  funext m;have:((i:Int)+(m:Int)*1).toNat=i+m:=by omega
  rw [this]
 rw [e];have:=pick_run xs i k;rw [List.filterMap_map]at this;have e2:((fun x=>xs[x]?)∘fun x=>i+x)=fun m=>xs[i+m]? :=rfl;rw [e2]at this;rw [this]
theorem getItem_tuple_cut{t sl:Addr}{items:Array Value}{vl vu:Value}{lo hi:Option Int}{Q:Value→Shared→Prop}(ht:IsTup s.heap t items) (hs:s.heap.IsSliceOf sl vl vu .none) (pl:IsPart vl lo) (pu:IsPart vu hi)
  (hw:¬(sIx items.size 0 lo=0∧sIx items.size items.size hi=items.size))
  (h:Q (.ref s.heap.objs.size) { s with heap:=s.heap.push { cls:= .type "tuple",data:= .seq ((items.toList.drop (sIx items.size 0 lo)).take (sIx items.size items.size hi - sIx items.size 0 lo)).toArray } })
  (hsz:items.size≤sizeLine):wpAny (model prog w) A (getItem (.ref t) (.ref sl)) Q E s:=by
 have htake:sizeOk (.seq ((items.toList.drop (sIx items.size 0 lo)).take (sIx items.size items.size hi - sIx items.size 0 lo)).toArray):=by
  show((items.toList.drop (sIx items.size 0 lo)).take (sIx items.size items.size hi - sIx items.size 0 lo)).toArray.size≤sizeLine;rw [List.size_toArray,List.length_take,List.length_drop,Array.length_toList];omega
 have hj:sIx items.size items.size hi≤items.size:=sIx_le _ _ (Nat.le_refl _) hi;obtain⟨os,hos,hcs,hds⟩:=id hs;have hTs:s.TypeIs (.ref sl) "slice" :=⟨os,hos,hcs⟩;unfold getItem
 try with_reducible refine wpAny_holding ?_
 first |refine wpAny_bind (wpAny_pure ?_) |skip
 refine wpAny_bind (wpAny_sequenceKey ht.typeIs (by decide) ?_);refine wpAny_bind (wpAny_callSpecial?_slot (name:=Str.ofString "__getitem__") ht.typeIs PyProof.Rows.slot_tuple_getitem
  (wpAny_call_entry PyProof.Rows.slot_tuple_getitem ht.typeIs entry_tuple_getitem ?_ (args_tuple_getitem _ _)))
 show wpAny _ _ (Builtin.Tuple.tupleItemsOf (.ref t) >>= _) _ _ s;refine wpAny_bind (tupleItemsOf_ ht ?_);refine wpAny_bind (wpAny_typeOf hTs ?_);rw [if_pos (by decide)];refine wpAny_bind (sliceApplied_gen hs pl pu ?_);have hno:¬((((sIx items.size 0 lo:Nat):Int) == 0&&(1:Int) == 1&&(sIx items.size items.size hi - sIx items.size 0 lo) == items.size)=true):=by
  intro q;rw [Bool.and_eq_true,Bool.and_eq_true]at q;have q1:((sIx items.size 0 lo:Nat):Int)=0:=eq_of_beq q.1.1;have q2:sIx items.size items.size hi - sIx items.size 0 lo=items.size:=eq_of_beq q.2;exact hw ⟨by omega,by omega⟩
 show wpAny _ _ (if(((sIx items.size 0 lo:Nat):Int) == 0&&(1:Int) == 1&&(sIx items.size items.size hi - sIx items.size 0 lo) == items.size)=true then _ else _) _ _ s;rw [if_neg hno,zlK]
 first
  |exact wpAny_bind (m:=Builtin.Tuple.tupleExact _) (wpAny_newObj_type (wpAny_pure ⟨_,rfl,wpAny_pure h⟩) htake)
  |exact wpAny_bind (m:=Builtin.Tuple.tupleExact _) (wpAny_newObj_type (wpAny_bind (wpAny_pure (wpAny_pure ⟨_,rfl,wpAny_pure h⟩))) htake)
  |exact wpAny_bind (wpAny_bind (m:=Builtin.Tuple.tupleExact _) (wpAny_newObj_type (wpAny_pure (wpAny_pure ⟨_,rfl,wpAny_pure h⟩)) htake))
  |exact wpAny_bind (wpAny_bind (m:=Builtin.Tuple.tupleExact _) (wpAny_newObj_type (wpAny_pure ⟨_,rfl,wpAny_pure h⟩) htake))
end
end HT
namespace L2
open PySem PySem.Spec PyProof.Rows
noncomputable abbrev TO:=St→Hp→(Option Int→Hp→Prop)→Prop
noncomputable def PO (X:Cx) (e:Option Expr) (t:TO):Prop:=
 ∀(pins:List (Addr×Obj)) (s:Shared) (σ:St) (H:Hp) (Q:Option Int→Hp→Prop),Inv X pins σ H s→t σ H Q→
  wpAny (model X.prog X.w) X.A (evalPart e X.env) (fun u s'=>∃o H',Inv X pins σ H' s'∧IsPart u o∧Q o H') X.xe s
noncomputable def zog:TO:=fun _ H Q=>Q none H
noncomputable def zth (t:TE):TO:=fun σ H Q=>t σ H fun x H1=>∃i,x= .int i∧Q (some i) H1
section
variable {X:Cx}{e:Expr}{te:TE}{lo hi:Option Expr}{tl th:TO}{pos p2:Pos}
theorem po_none:PO X none zog:=by
 intro pins s σ H Q I h;rw [evalPart_none];exact wpAny_pure ⟨none,H,I, .none,h⟩
theorem zpq (h:PE X e te):PO X (some e) (zth te):=by
 intro pins s σ H Q I hw;rw [evalPart_some];refine thn (h pins s σ H _ I hw) fun u s1 ⟨x,H1,I1,r1,q1⟩=>?_;obtain⟨i,rfl,q⟩:=q1;obtain⟨t,rfl⟩:=r1;exact⟨some i,H1,I1, .int i t,q⟩
noncomputable def SlR (X:Cx) (r:V→Option Int→Option Int→Hp→VK→Prop):Prop:=
 ∀(pins:List (Addr×Obj)) (s:Shared) (σ:St) (H:Hp) (x:V) (v vl vu:Value) (lo hi:Option Int) (sl:Addr) (Q:VK),Inv X pins σ H s→RelV x v→s.heap.IsSliceOf sl vl vu .none→IsPart vl lo→IsPart vu hi→r x lo hi H Q→
  ∃T id,typeLookup (.type T) "__getitem__" =pure (some (.builtin id))∧s.TypeIs v T∧wpAny (model X.prog X.w) X.A (getItem v (.ref sl)) (EP X pins σ Q) X.xe s
theorem SlR.or{r r':V→Option Int→Option Int→Hp→VK→Prop}(h:SlR X r) (h':SlR X r'):SlR X (fun x lo hi H Q=>r x lo hi H Q∨r' x lo hi H Q):=by
 intro pins s σ H x v vl vu lo hi sl Q I rx hs pl pu q;rcases q with q |q
 ·exact h pins s σ H x v vl vu lo hi sl Q I rx hs pl pu q
 ·exact h' pins s σ H x v vl vu lo hi sl Q I rx hs pl pu q
noncomputable def tSl (r:V→Option Int→Option Int→Hp→VK→Prop) (te:TE) (tl th:TO):TE:=fun σ H Q=>te σ H fun x H1=>tl σ H1 fun l H2=>th σ H2 fun u H3=>r x l u H3 Q
theorem zhP{r:V→Option Int→Option Int→Hp→VK→Prop}(hr:SlR X r) (he:PE X e te) (hl:PO X lo tl) (hu:PO X hi th):PE X (.Subscript e (.Slice lo hi none p2) pos) (tSl r te tl th):=by
 intro pins s σ H Q I h;refine Subscript_ (thn (he pins s σ H _ I h) fun v s1 ⟨x,H1,I1,r1,q1⟩=>?_);refine wpAny_Slice (thn (hl pins s1 σ H1 _ I1 q1) fun vl s2 ⟨l,H2,I2,pl,q2⟩=>thn (hu pins s2 σ H2 _ I2 q2) fun vu s3 ⟨u,H3,I3,pu,q3⟩=>?_);rw [evalPart_none];refine wpAny_pure ?_;have I4:Inv X pins σ H3 { s3 with heap:=s3.heap.push { cls:= .type "slice",data:= .fields #[vl,vu, .none] } }:=I3.kept (t':=s3.toks) fun b ob q=>Heap.get?_push_of_some _ q;obtain⟨T,id,hT,ht,hg⟩:=hr pins { s3 with heap:=s3.heap.push { cls:= .type "slice",data:= .fields #[vl,vu, .none] } } σ H3 x v vl vu l u s3.heap.objs.size Q I4 r1 (Heap.IsSliceOf.new ..) pl pu q3;show wpAny (model X.prog X.w) X.A (subscriptTail e (.Slice lo hi none p2) v (.ref s3.heap.objs.size)) (EP X pins σ Q) X.xe { s3 with heap:=s3.heap.push { cls:= .type "slice",data:= .fields #[vl,vu, .none] } };exact tail_any (ops:=[.ref s3.heap.objs.size,v]) ht hT hg (by with_unfolding_all rfl)
noncomputable def zlA (xs:List V) (lo hi:Option Int):List V:=(xs.drop (HT.sIx xs.length 0 lo)).take (HT.sIx xs.length xs.length hi - HT.sIx xs.length 0 lo)
theorem zeF (xs:List V) (lo hi:Option Int):(zlA xs lo hi).length≤xs.length:=by
 unfold zlA;rw [List.length_take,List.length_drop];omega
noncomputable def ztJ (K:PySem.W.Frag):V→Option Int→Option Int→Hp→VK→Prop:=fun x lo hi H Q=>∃a xs,x= .ref a∧SqT K H a xs∧
 ¬(HT.sIx xs.length 0 lo=0∧HT.sIx xs.length xs.length hi=xs.length)∧ ∀p,H p=none→Q (.ref p) (upd H p (.tup (zlA xs lo hi)))
theorem zqj:SlR X (ztJ X.K):=by
 intro pins s σ H x v vl vu lo hi sl Q I rx hs pl pu h;obtain⟨a,xs,rfl,hx,hw,q⟩:=h;cases rx;obtain⟨its,r,ht,hz⟩:=I.tuple hx;have hlen:its.toArray.size=xs.length:=by rw [List.size_toArray];exact r.length.symm
 refine⟨"tuple",_,PyProof.Rows.slot_tuple_getitem.lookup,ht.typeIs,?_⟩;refine HT.getItem_tuple_cut ht hs pl pu (by rw [hlen];exact hw) ?_ (by rw [hlen];exact hz);rw [hlen];refine⟨.ref s.heap.objs.size,_,I.laid (t':=s.toks) (o:= .tup (zlA xs lo hi)) (fun b ob q=>Heap.get?_push_of_some _ q) (Nat.le_refl _) ?_,rfl,q _ (I.hok.fresh (Nat.le_refl _))⟩;exact⟨Nat.le_trans (zeF xs lo hi) hz,_,(r.drop (HT.sIx xs.length 0 lo)).take (HT.sIx xs.length xs.length hi - HT.sIx xs.length 0 lo),IsTup.new _ _⟩
noncomputable def zou (K:PySem.W.Frag):R2:=fun x y H Q=>∃a b xs ys,x= .ref a∧y= .ref b∧SqT K H a xs∧SqT K H b ys∧xs≠ []∧xs.length+ys.length≤sizeLine∧
 (ys=[]→Q (.ref a) H)∧(ys≠ []→ ∀p,H p=none→Q (.ref p) (upd H p (.tup (xs++ys))))
theorem Vals.nil_iff{xs:List V}{us:List Value}(r:Vals xs us):us=[]↔xs=[]:=by
 cases r with
 |nil=>simp
 |cons _ _=>simp
theorem op_catT:OpR X (binaryOp .Add) (zou X.K):=by
 intro pins s σ H x y v u Q I rx ry h;obtain⟨a,b,xs,ys,rfl,rfl,ha,hb,hx,hz,q1,q2⟩:=h;cases rx;cases ry;obtain⟨its,r1,p1,_⟩:=I.tuple ha;obtain⟨its2,r2,p2,_⟩:=I.tuple hb;refine HT.cat_tup p1 p2 (fun z=>hx (r1.nil_iff.mp z)) (fun z=>⟨.ref a,H,I,rfl,q1 (r2.nil_iff.mp z)⟩) (fun z=>?_) (by rw [←r1.length,←r2.length];exact hz);refine⟨.ref s.heap.objs.size,_,I.laid (t':=s.toks) (o:= .tup (xs++ys)) (fun b ob q=>Heap.get?_push_of_some _ q) (Nat.le_refl _) ?_,rfl,q2 (fun w=>z (r2.nil_iff.mpr w)) _ (I.hok.fresh (Nat.le_refl _))⟩;exact⟨by rw [List.length_append];exact hz,_,r1.append r2,IsTup.new _ _⟩
end
noncomputable def ixN (n:Nat) (i:Int):Option Nat:=if 0≤i then(if i<n then some i.toNat else none) else if -(n:Int)≤i then some (i+n).toNat else none
noncomputable def atI {α:Type}(xs:List α) (i:Int):Option α:=(ixN xs.length i).bind fun j=>xs[j]?
theorem znZ{n:Nat}{i:Int}{j:Nat}(h:ixN n i=some j):seqIndex? i n=some j∧j<n∧ -(n:Int)≤i∧i<n:=by
 unfold ixN at h;by_cases h0:0≤i
 ·rw [if_pos h0]at h;by_cases h1:i<n
  ·rw [if_pos h1]at h;have e:i.toNat=j:=Option.some.inj h;exact⟨by rw [seqIndex_of h0 h1,e],by omega,by omega,h1⟩
  ·rw [if_neg h1]at h;cases h
 ·rw [if_neg h0]at h;by_cases h1: -(n:Int)≤i
  ·rw [if_pos h1]at h;have e:(i+n).toNat=j:=Option.some.inj h;exact⟨by rw [seqIndex_neg (by omega) h1,e],by omega,h1,by omega⟩
  ·rw [if_neg h1]at h;cases h
theorem zhK{α:Type}{xs:List α}{i:Int}{v:α}(h:atI xs i=some v):∃j,seqIndex? i xs.length=some j∧xs[j]? =some v∧j<xs.length∧ -(xs.length:Int)≤i∧i<xs.length:=by
 unfold atI at h;cases e:ixN xs.length i with
 |none=>rw [e]at h;cases h
 |some j=>
  rw [e]at h;obtain⟨h1,h2,h3,h4⟩:=znZ e;exact⟨j,h1,h,h2,h3,h4⟩
theorem zoX{α:Type}{xs:List α}{j:Nat}{v:α}(h:xs[j]? =some v):atI xs (j:Int)=some v:=by
 have hj:j<xs.length:=(List.getElem?_eq_some_iff.mp h).1;have e:ixN xs.length (j:Int)=some j:=by
  unfold ixN;rw [if_pos (by omega),if_pos (by omega)];simp
 unfold atI;rw [e];exact h
noncomputable def zhv (b:Expr):Prop:=∀o i,subscripted b false o i=operate [o,i] (getItem o i)
noncomputable def IxR (X:Cx) (r:R2):Prop:=
 ∀(value slice:Expr) (pins:List (Addr×Obj)) (s:Shared) (σ:St) (H:Hp) (x y:V) (v u:Value) (Q:VK),Inv X pins σ H s→RelV x v→RelV y u→r x y H Q→
  subscripted slice false v u=operate [v,u] (getItem v u)→wpAny (model X.prog X.w) X.A (subscriptTail value slice v u) (EP X pins σ Q) X.xe s
noncomputable def MtR (X:Cx) (id:String) (r:V→List V→Hp→VK→Prop):Prop:=
 ∀(pins:List (Addr×Obj)) (s:Shared) (σ:St) (H:Hp) (x:V) (xs:List V) (v:Value) (us:List Value) (Q:VK),Inv X pins σ H s→RelV x v→Vals xs us→r x xs H Q→
  wpAny (model X.prog X.w) X.A (call (.builtin id) (v::us)) (EP X pins σ Q) X.xe s
section
variable {X:Cx}{a b:Expr}{ta tb:TE}{pos:Pos}
theorem IxR.or{r r':R2}(h:IxR X r) (h':IxR X r'):IxR X (fun x y H Q=>r x y H Q∨r' x y H Q):=by
 intro value slice pins s σ H x y v u Q I rx ry q hs;rcases q with q |q
 ·exact h value slice pins s σ H x y v u Q I rx ry q hs
 ·exact h' value slice pins s σ H x y v u Q I rx ry q hs
theorem zrM{r:R2}(hr:IxR X r) (ha:PE X a ta) (hb:PE X b tb) (hs:zhv b):PE X (.Subscript a b pos) (tOp r ta tb):=by
 intro pins s σ H Q I h;exact Subscript_ (zsQ ha hb I h fun v u s2 x y H2 I2 rx ry q=>hr a b pins s2 σ H2 x y v u Q I2 rx ry q (hs _ _))
noncomputable def ztr (K:PySem.W.Frag):R2:=fun x y H Q=>∃p xs i v,x= .ref p∧y= .int i∧SqL K H p xs∧atI xs i=some v∧Q v H
noncomputable def ztp (K:PySem.W.Frag):R2:=fun x y H Q=>∃p xs i v,x= .ref p∧y= .int i∧SqT K H p xs∧atI xs i=some v∧Q v H
noncomputable def ztn:R2:=fun x y H Q=>∃z i c,x= .str z∧y= .int i∧z.length≤sizeLine∧atI z.cps.toList i=some c∧Q (.str ⟨#[c]⟩) H
theorem ix_list:IxR X (ztr X.K):=by
 intro value slice pins s σ H x y v u Q I rx ry h hs;obtain⟨p,xs,i,z,rfl,rfl,hq,he,q⟩:=h;cases rx;obtain⟨t,rfl⟩:=ry;obtain⟨its,r,pl,hz⟩:=I.list hq;obtain⟨j,h1,h2,h3,h4,h5⟩:=zhK he;obtain⟨w,ew,rw'⟩:=r.get h2;have hl:=r.length;have hn:=zfj;have fin:EP X pins σ Q w s:=⟨z,H,I,rw',q⟩;by_cases h0:0≤i
 ·have hj:i.toNat=j:=by
   rw [seqIndex_of h0 h5]at h1;exact Option.some.inj h1
  exact item_listR pl.isList h0 (by omega) (by rw [hj];simpa using ew) fin hs
 ·have hj:(i+(its.toArray.size:Int)).toNat=j:=by
   rw [seqIndex_neg (by omega) h4]at h1;rw [List.size_toArray,←hl];exact Option.some.inj h1
  exact subscriptTail_builtinR (x:=w) pl.isList.typeIs slot_list_getitem.lookup
   (wpAny_getItem_list_neg (Q:=fun r s'=>r=w∧EP X pins σ Q r s') pl.isList (by omega) (by rw [List.size_toArray]<;>omega) (by omega) (by rw [hj];simpa using ew) ⟨rfl,fin⟩) hs
theorem ix_tup:IxR X (ztp X.K):=by
 intro value slice pins s σ H x y v u Q I rx ry h hs;obtain⟨p,xs,i,z,rfl,rfl,hq,he,q⟩:=h;cases rx;obtain⟨t,rfl⟩:=ry;obtain⟨its,r,pl,hz⟩:=I.tuple hq;obtain⟨j,h1,h2,h3,h4,h5⟩:=zhK he;obtain⟨w,ew,rw'⟩:=r.get h2;have hl:=r.length;have hn:=zfj;have fin:EP X pins σ Q w s:=⟨z,H,I,rw',q⟩;exact subscriptTail_builtinR (x:=w) pl.typeIs slot_tuple_getitem.lookup
  (getItem_tuple (j:=j) (Q:=fun r s'=>r=w∧EP X pins σ Q r s') pl (by omega) (by omega) (by rw [List.size_toArray,←hl];exact h1) (by simpa using ew) ⟨rfl,fin⟩) hs
theorem zqe:IxR X ztn:=by
 intro value slice pins s σ H x y v u Q I rx ry h hs;obtain⟨z,i,c,rfl,rfl,hz,he,q⟩:=h;obtain⟨t,rfl⟩:=rx;obtain⟨t',rfl⟩:=ry;obtain⟨j,h1,h2,h3,h4,h5⟩:=zhK he;have hl:z.cps.toList.length=z.length:=by simp [Str.length]
 rw [hl]at h1 h4 h5;have hn:=zfj;exact tail_any (typeIs_str s z t) slot_str_getitem.lookup (getItem_str (c:=c) (by
  have e1:decide (i< -(2 ^ 63:Int))=false:=decide_eq_false (by omega);have e2:decide (i≥2 ^ 63)=false:=decide_eq_false (by omega);rw [e1,e2,Bool.or_false]) (by rw [h1];simpa using h2) ⟨.str ⟨#[c]⟩,H,I.tok _,⟨_,rfl⟩,q⟩) hs
noncomputable def rIx (K:PySem.W.Frag):R2:=fun x y H Q=>ztr K x y H Q∨ztp K x y H Q∨ztn x y H Q
theorem znp:IxR X (rIx X.K):=ix_list.or (ix_tup.or zqe)
theorem zge (lo hi:Option Int) (n:Nat):(sliceBounds lo hi none n).1=((HT.sIx n 0 lo:Nat):Int)∧(sliceBounds lo hi none n).2.1=((HT.sIx n n hi:Nat):Int)∧(sliceBounds lo hi none n).2.2=1:=by
 refine⟨?_,?_,rfl⟩
 ·cases lo with
  |none=>simp [sliceBounds,HT.sIx]
  |some i=>
   simp only[sliceBounds,HT.sIx,Option.getD_none,show(1:Int) > 0 by decide,if_true]
   by_cases h:i<0
   ·simp only[h,if_true]<;>omega
   ·simp only[h,if_false]<;>omega
 ·cases hi with
  |none=>simp [sliceBounds,HT.sIx]
  |some i=>
   simp only[sliceBounds,HT.sIx,Option.getD_none,show(1:Int) > 0 by decide,if_true]
   by_cases h:i<0
   ·simp only[h,if_true]<;>omega
   ·simp only[h,if_false]<;>omega
theorem zfm (its:List Value) (lo hi:Option Int):slicePick its.toArray lo hi none=((its.drop (HT.sIx its.length 0 lo)).take (HT.sIx its.length its.length hi - HT.sIx its.length 0 lo)).toArray:=by
 obtain⟨h1,h2,h3⟩:=zge lo hi its.toArray.size;unfold slicePick;rw [h1,h2,h3];simp only[sliceRange_one,pick_run,List.size_toArray]<;>rfl
noncomputable def ztR (K:PySem.W.Frag):V→Option Int→Option Int→Hp→VK→Prop:=fun x lo hi H Q=>∃a xs,x= .ref a∧SqL K H a xs∧ ∀p,H p=none→Q (.ref p) (upd H p (.lst (zlA xs lo hi)))
theorem zjN:SlR X (ztR X.K):=by
 intro pins s σ H x v vl vu lo hi sl Q I rx hs pl pu h;obtain⟨a,xs,rfl,hx,q⟩:=h;cases rx;obtain⟨its,r,ht,hz⟩:=I.list hx;have hlen:=r.length;refine⟨"list",_,slot_list_getitem.lookup,ht.isList.typeIs,?_⟩;refine wpAny_getItem_list_slice ht.isList hs pl pu .none (by simp) ?_ (by rw [List.size_toArray]<;>omega);rw [zfm,←hlen];refine⟨.ref s.heap.objs.size,_,I.laid (t':=s.toks) (o:= .lst (zlA xs lo hi)) (fun b ob q=>Heap.get?_push_of_some _ q) (Nat.le_refl _) ?_,rfl,q _ (I.hok.fresh (Nat.le_refl _))⟩;exact⟨Nat.le_trans (zeF xs lo hi) hz,_,0,(r.drop (HT.sIx xs.length 0 lo)).take (HT.sIx xs.length xs.length hi - HT.sIx xs.length 0 lo),Heap.get?_push_size _ rfl⟩
theorem call_len_seq:CallR X (.builtin "len") (fun xs H Q=>∃p ys,xs=[.ref p]∧(SqL X.K H p ys∨SqT X.K H p ys)∧Q (.int ys.length) H):=by
 intro pins s σ H xs us Q I r h;obtain⟨p,ys,rfl,hq,q⟩:=h;obtain⟨u,rfl,rx⟩:=zhw r;cases rx;have hn:=zfj;rcases hq with hq |hq
 ·obtain⟨its,r',pl,hz⟩:=I.list hq;have hlen:=r'.length;exact Calls.call_len_list pl.isList (by simp only[List.size_toArray]<;>omega) ⟨.int ys.length,H,I.tok _,⟨s.toks+1,by rw [List.size_toArray,hlen]⟩,q⟩
 ·obtain⟨its,r',pl,hz⟩:=I.tuple hq;have hlen:=r'.length;exact len_tuple pl (by simp only[List.size_toArray]<;>omega) ⟨.int ys.length,H,I.tok _,⟨s.toks+1,by rw [List.size_toArray,hlen]⟩,q⟩
theorem zgw:CallR X (.builtin "len") (fun xs H Q=>∃z,xs=[.str z]∧z.length≤sizeLine∧Q (.int z.length) H):=by
 intro pins s σ H xs us Q I r h;obtain⟨z,rfl,hz,q⟩:=h;obtain⟨u,rfl,t,rfl⟩:=zhw r;have hn:=zfj;exact len_str (by omega) ⟨.int z.length,H,I.tok _,⟨_,rfl⟩,q⟩
theorem CallR.or{f:Value}{r r':List V→Hp→VK→Prop}(h:CallR X f r) (h':CallR X f r'):CallR X f (fun xs H Q=>r xs H Q∨r' xs H Q):=by
 intro pins s σ H xs us Q I rs q;rcases q with q |q
 ·exact h pins s σ H xs us Q I rs q
 ·exact h' pins s σ H xs us Q I rs q
theorem zds:CallR X (.type "tuple") (fun xs H Q=>∃p ys,xs=[.ref p]∧((SqL X.K H p ys∧ ∀l,H l=none→Q (.ref l) (upd H l (.tup ys)))∨(SqT X.K H p ys∧Q (.ref p) H))):=by
 intro pins s σ H xs us Q I r h;obtain⟨p,ys,rfl,h⟩:=h;obtain⟨u,rfl,rx⟩:=zhw r;cases rx;rcases h with⟨hq,q⟩ |⟨hq,q⟩
 ·obtain⟨its,r',pl,hz⟩:=I.list hq;have hlen:=r'.length;refine call_tuple_list pl.isList (fun h' kp=>?_) (by simp only[List.size_toArray]<;>omega);have I1:Inv X pins σ H { s with heap:=h' }:=I.kept (t':=s.toks) kp;have I2:Inv X pins σ (upd H h'.objs.size (.tup ys)) { s with heap:=h'.push { cls:= .type "tuple",data:= .seq its.toArray } }:=
   I1.laid (t':=s.toks) (fun b o e=>Heap.get?_push_of_some _ e) (Nat.le_refl _) (show ObjOk X.prog X.w _ _ _ (.tup ys) from⟨hz,its,r',IsTup.new _ _⟩)
  exact⟨.ref h'.objs.size,_,I2,rfl,q _ (I1.hok.fresh (Nat.le_refl _))⟩
 ·obtain⟨its,r',pl,hz⟩:=I.tuple hq;exact call_tuple_same pl ⟨.ref p,H,I,rfl,q⟩
noncomputable def tyV (K:PySem.W.Frag) (T:String) (x:V) (H:Hp):Prop:=match x with
 | .str _=>T= "str"
 | .int _=>T= "int"
 | .ref p=>(T= "list" ∧ ∃xs,SqL K H p xs)∨(T= "tuple" ∧ ∃o,K.lookup p=some o∧o.cls= .type "tuple" ∧o.dict=none)∨
   (T= "dict" ∧((∃kvs,H p=some (.dK kvs))∨ ∃kvs,H p=some (.dT kvs)))∨(T= "set" ∧ ∃S n,H p=some (.set S n))
 |_=>False
theorem znG{pins:List (Addr×Obj)}{σ:St}{H:Hp}{s:Shared}{T:String}{x:V}{v:Value}(I:Inv X pins σ H s) (r:RelV x v) (ty:tyV X.K T x H) :
  s.TypeIs v T∧ ∀a,v= .ref a→ ∃ob,s.heap.get? a=some ob∧ob.dict=none:=by
 cases x with
 |str z=>
  obtain⟨t,rfl⟩:=r;cases(show T= "str" from ty);exact⟨typeIs_str s z t,fun _ e=>nomatch e⟩
 |int i=>
  obtain⟨t,rfl⟩:=r;cases(show T= "int" from ty);exact⟨typeIs_int s i t,fun _ e=>nomatch e⟩
 |ref p=>
  cases r;rcases ty with⟨rfl,xs,hq⟩ |⟨rfl,o,hk,hc,hd⟩ |⟨rfl,hk⟩ |⟨rfl,S,n,hk⟩
  ·obtain⟨its,_,pl,_⟩:=I.list hq;refine⟨pl.isList.typeIs,fun a e=>?_⟩;cases e;obtain⟨o,n,e,c,hd,_⟩:=pl;exact⟨o,e,hd⟩
  ·refine⟨⟨o,I.kIn p o hk,hc⟩,fun a e=>?_⟩;cases e;exact⟨o,I.kIn _ o hk,hd⟩
  ·have z:∃o,s.heap.get? p=some o∧o.ExactDict:=by
    rcases hk with⟨kvs,hk⟩ |⟨kvs,hk⟩
    ·obtain⟨_,_,_,_,o,_,_,e,ex,_⟩:=I.hok p _ hk;exact⟨o,e,ex⟩
    ·obtain⟨_,_,_,_,o,_,_,e,ex,_⟩:=I.hok p _ hk;exact⟨o,e,ex⟩
   obtain⟨o,e,ex⟩:=z;refine⟨⟨o,e,ex.1⟩,fun a e2=>?_⟩;cases e2;exact⟨o,e,ex.2.1⟩
  ·obtain⟨o,_,_,_,e,ex,_⟩:=I.hok p _ hk;refine⟨⟨o,e,ex.1⟩,fun a e2=>?_⟩;cases e2;exact⟨o,e,ex.2.1⟩
 |_=>exact False.elim ty
noncomputable def zts (K:PySem.W.Frag) (T:String) (r:V→List V→Hp→VK→Prop) (to:TE):TE:=fun σ H Q=>to σ H fun x H1=>tyV K T x H1∧r x [] H1 Q
noncomputable def tBM (K:PySem.W.Frag) (T:String) (r:V→List V→Hp→VK→Prop) (to:TE) (t:TA):TE:=fun σ H Q=>to σ H fun x H1=>tyV K T x H1∧t σ H1 fun xs H2=>r x xs H2 Q
variable {o e:Expr}{es:List Expr}{to:TE}{t:TA}{name:Str}{apos cpos:Pos}{T id:String}{r:V→List V→Hp→VK→Prop}
theorem zqN (pa:PlainAttrs T) (slot:Slot T name id) (hty:typeOf (.builtin id)=pure (.type "method_descriptor")) (hm:MtR X id r) (ho:PE X o to)
  (hbase:attributeBase o name X.env (eval o X.env)=eval o X.env:=by rfl) (hline:(apos.endLine == cpos.line)=true:=by rfl):PE X (.Call (.Attribute o name apos) [] [] cpos) (zts X.K T r to):=by
 intro pins s σ H Q I h;refine wpAny_Call_method0_late hbase hline (thn (ho pins s σ H _ I h) fun v s1 ⟨x,H1,I1,r1,ty,q1⟩=>?_);obtain⟨h1,h2⟩:=znG I1 r1 ty;exact⟨T,id,pa,slot,hty,h1,h2,Calls.callWith_builtin rfl (PySem.evalArgs_none (hm pins s1 σ H1 x [] v [] Q I1 r1 .nil q1))⟩
theorem zpN (pa:PlainAttrs T) (slot:Slot T name id) (hty:typeOf (.builtin id)=pure (.type "method_descriptor")) (hm:MtR X id r) (ho:PE X o to) (ha:PA X (e::es) t)
  (hbase:attributeBase o name X.env (eval o X.env)=eval o X.env:=by rfl)
  (hfew:((backTo cpos (starEach (e::es) X.env)).all (fun x=> !x.1)&&(backToKw cpos (keywordEach [] X.env)).all (fun x=>x.1.isSome)
   &&decide ((e::es).length+([]:List Keyword).length+(if([]:List Keyword).isEmpty then 0 else 1)<30))=true:=by rfl)
  (hline:(apos.endLine == cpos.line)=true:=by rfl) (hs:starEach (e::es) X.env=(false,eval e X.env)::starEach es X.env:=by rfl) (hplain:(backTo cpos (starEach es X.env)).any (·.1)=false:=by rfl) :
  PE X (.Call (.Attribute o name apos) (e::es) [] cpos) (tBM X.K T r to t):=by
 intro pins s σ H Q I h;refine wpAny_Call_method_late hbase hfew hline rfl (thn (ho pins s σ H _ I h) fun v s1 ⟨x,H1,I1,r1,ty,q1⟩=>?_);obtain⟨h1,h2⟩:=znG I1 r1 ty;refine⟨T,id,pa,slot,hty,h1,h2,?_⟩;have hA:=ha cpos pins s1 σ H1 _ I1 q1;rw [hs]at hA⊢;refine Calls.callWith_builtin (by show(false || (backTo cpos (starEach es X.env)).any (·.1))=false;rw [hplain]<;>rfl) (Calls.evalArgs_plain ?_)
 exact thn hA fun us s2 ⟨vs,H2,I2,r2,q2⟩=>hm pins s2 σ H2 x vs v us Q I2 r1 r2 q2
end
noncomputable def MtM (X:Cx) (id:String) (r:V→List V→Hp→VK→Prop):Prop:=
 ∀(pins:List (Addr×Obj)) (s:Shared) (σ:St) (H:Hp) (x:V) (xs:List V) (v:Value) (us:List Value) (Q:VK),Inv X pins σ H s→RelV x v→Vals xs us→r x xs H Q→
  wpAny (model X.prog X.w) X.A (call (.builtin id) (v::us)) (EP X pins σ Q) X.xe s
theorem Vals.one:∀{x:V}{us:List Value},Vals [x] us→ ∃u,us=[u]∧RelV x u
 |_,_, .cons r .nil=>⟨_,rfl,r⟩
theorem Vals.rep{xs:List V}{us:List Value}(h:Vals xs us):∀k:Nat,Vals (List.replicate k xs).flatten (List.replicate k us).flatten
 |0=> .nil
 |k+1=>by
  rw [List.replicate_succ,List.replicate_succ,List.flatten_cons,List.flatten_cons];exact Vals.append h (Vals.rep h k)
theorem zgt (its:List Value):∀(k:Nat) (acc:List Value),
  List.foldl (fun x1 x2=>x1++x2) acc.toArray (List.replicate k its.toArray)=(acc++(List.replicate k its).flatten).toArray
 |0,acc=>by simp
 |k+1,acc=>by
  have e:acc.toArray++its.toArray=(acc++its).toArray:=by simp
  have e2:(acc++its)++(List.replicate k its).flatten=acc++(List.replicate (k+1) its).flatten:=by
   rw [List.replicate_succ,List.flatten_cons,List.append_assoc]
  rw [←e2,←zgt its k (acc++its),←e,List.replicate_succ,List.foldl_cons]
section
variable {X:Cx}{pins:List (Addr×Obj)}{σ:St}{H:Hp}{s:Shared}{l:Addr}{xs ys:List V}
theorem Inv.lset{its its':List Value}{n:Nat}{f:Array Value→Array Value}{t':Nat}(I:Inv X pins σ H s) (hH:H l=some (.lst xs))
  (e:s.heap.get? l=some { cls:= .type "list",data:= .seq its.toArray n }) (hf:f its.toArray=its'.toArray) (hv:Vals ys its') (hz:ys.length≤sizeLine) :
  Inv X pins σ (upd H l (.lst ys)) { s with heap:=s.heap.update l (Obj.mapSeq f),toks:=t' }:=by
 have q:=PySem.IsL.update e f;rw [hf]at q;refine I.write (x:=l) (e:=l) (by rw [hH];exact trivial) (.inl rfl) (fun b' u hb hu=>(Heap.get?_update_other s.heap (Obj.mapSeq f) (Ne.symm hb)).trans hu) ⟨_,q⟩ ?_;exact⟨hz,its',_,hv,q⟩
theorem Inv.lnew{its:List Value}{t':Nat}(I:Inv X pins σ H s) (hv:Vals ys its) (hz:ys.length≤sizeLine) :
  Inv X pins σ (upd H s.heap.objs.size (.lst ys)) { s with heap:=s.heap.push { cls:= .type "list",data:= .seq its.toArray },toks:=t' }:=
 I.laid (fun _ _ q=>Heap.get?_push_of_some _ q) (Nat.le_refl _) ⟨hz,its,0,hv,Heap.get?_push_size _ rfl⟩
theorem Inv.fresh (I:Inv X pins σ H s):H s.heap.objs.size=none:=I.hok.fresh (Nat.le_refl _)
theorem Inv.lstM (I:Inv X pins σ H s) (hH:H l=some (.lst xs)):xs.length≤sizeLine∧ ∃(its:List Value) (n:Nat),Vals xs its∧xs.length=its.length∧s.heap.get? l=some { cls:= .type "list",data:= .seq its.toArray n }:=by
 obtain⟨z,its,n,r,e⟩:=I.hok l _ hH;exact⟨z,its,n,r,r.length,e⟩
theorem zmL{n:Nat}(h:n≤sizeLine):Builtin.List.listTooLong n=false:=by
 unfold Builtin.List.listTooLong;exact decide_eq_false (by omega)
end
section
variable {X:Cx}
noncomputable def zjA:V→List V→Hp→VK→Prop:=fun x vs H Q=>∃l xs y,x= .ref l∧vs=[y]∧H l=some (.lst xs)∧xs.length<sizeLine∧Q .non (upd H l (.lst (xs++[y])))
theorem zhb:MtM X "list.append" zjA:=by
 intro pins s σ H x vs v us Q I rx rv h;obtain⟨l,xs,y,rfl,rfl,hH,hz,q⟩:=h;cases rx;obtain⟨u,rfl,ru⟩:=rv.one;obtain⟨z,its,n,r,hl,e⟩:=I.lstM hH;refine call_meets F.slot_list_append ⟨_,e,rfl⟩ F.entry_list_append (F.args_list_append_2 _ _) (PySem.list_append l its.toArray n u (by rw [List.size_toArray];omega)) ⟨e,?_⟩;refine⟨.non,_,I.lset (its':=its++[u]) hH e (by simp) (r.append (.cons ru .nil)) ?_,rfl,q⟩;rw [List.length_append,List.length_singleton];omega
noncomputable def zrZ:R2:=fun x y H Q=>∃l b xs zs,x= .ref l∧y= .ref b∧H l=some (.lst xs)∧H b=some (.lst zs)∧xs.length+zs.length≤sizeLine∧ ∀p,H p=none→Q (.ref p) (upd H p (.lst (xs++zs)))
theorem ziB:OpR X (binaryOp .Add) zrZ:=by
 intro pins s σ H x y v u Q I rx ry h;obtain⟨l,b,xs,zs,rfl,rfl,hH,hB,hz,q⟩:=h;cases rx;cases ry;obtain⟨z,its,n,r,hl,e⟩:=I.lstM hH;obtain⟨z2,its2,n2,r2,hl2,e2⟩:=I.lstM hB;refine PySem.P.add_list e e2 ?_ (by rw [List.size_toArray,List.size_toArray];omega);have ea:its.toArray++its2.toArray=(its++its2).toArray:=by simp
 rw [ea];exact⟨.ref _,_,I.lnew (t':=s.toks) (r.append r2) (by rw [List.length_append];omega),rfl,q _ I.fresh⟩
noncomputable def ztZ:R2:=fun x y H Q=>∃l k xs,x= .ref l∧y= .int k∧H l=some (.lst xs)∧ -(2 ^ 63)≤k∧k<2 ^ 63∧xs.length*k.toNat≤sizeLine∧
 ∀p,H p=none→Q (.ref p) (upd H p (.lst (List.replicate k.toNat xs).flatten))
theorem zoH{α:Type}(xs:List α) (k:Nat):(List.replicate k xs).flatten.length=k*xs.length:=by
 induction k with
 |zero=>simp
 |succ k ih=>rw [List.replicate_succ,List.flatten_cons,List.length_append,ih,Nat.succ_mul,Nat.add_comm]
theorem zrN:OpR X (binaryOp .Mult) ztZ:=by
 intro pins s σ H x y v u Q I rx ry h;obtain⟨l,k,xs,rfl,rfl,hH,h1,h2,hz,q⟩:=h;cases rx;obtain⟨t,rfl⟩:=ry;obtain⟨z,its,n,r,hl,e⟩:=I.lstM hH;have hlen:its.toArray.size*k.toNat≤sizeLine:=by rw [List.size_toArray,←hl];exact hz
 have hcap:¬its.toArray.size*k.toNat > (2 ^ 63 - 1) / 8:=by
  have:(sizeLine:Nat)≤(2 ^ 63 - 1) / 8:=by decide
  omega
 have hfit:¬(!Builtin.List.listFitsIndex k)=true:=by
  rw [fitsIndex_both h1 h2];exact Bool.false_ne_true
 have hlong:¬Builtin.List.listTooLong (its.toArray.size*k.toNat)=true:=by
  rw [zmL hlen];exact Bool.false_ne_true
 have hnew:List.foldl (fun x1 x2=>x1++x2) #[] (List.replicate (if its.toArray.isEmpty=true then 0 else k.toNat) its.toArray)=(List.replicate k.toNat its).flatten.toArray:=by
  have f0:∀m:Nat,List.foldl (fun x1 x2=>x1++x2) #[] (List.replicate m its.toArray)=(List.replicate m its).flatten.toArray:=fun m=>by
   have:=zgt its m [];rw [List.nil_append]at this;exact this
  rw [f0];cases its with
  |nil=>simp
  |cons a r'=>rw [if_neg (by simp)]
 refine wpAny_binaryOp_repeat_ref (T:= "list") (U:= "int") (by decide) ⟨_,e,rfl⟩ (fun s'=>typeIs_int s' k t) noFill_list_mul F.fills_int_mul F.slot_int_rmul repeat_list F.slot_int_index.lookup
  (call_meets F.slot_int_rmul (typeIs_int s k t) F.entry_int_rmul (F.args_int_rmul_2 _ _) (int___rmul___int_list k t l its.toArray n)
   ⟨e,rfl,⟨_,e,rfl⟩,call_meets F.slot_list_mul ⟨_,e,rfl⟩ F.entry_list_mul (F.args_list_mul_2 _ _) (AutoListH.list___mul___list_int_3 l its.toArray n k t hfit hcap hlong) ⟨e,?_⟩⟩)
 rw [hnew];exact⟨.ref _,_,I.lnew (t':=s.toks) (r.rep k.toNat) (by rw [zoH,Nat.mul_comm];exact hz),rfl,q _ I.fresh⟩
end
end L2
namespace Att
open PySem PySem.W PySem.Calls PyProof.Rows
theorem zez{P:Params}{h:Heap}:∀(ns:List Int) (vs:List Value),WellAll P h vs (ns.map WData.int)→IntsAre vs ns:=by
 intro ns
 induction ns with
 |nil=>
  intro vs w;rw [List.map_nil]at w;cases w;exact .nil
 |cons n ns ih=>
  intro vs w;rw [List.map_cons]at w;cases w with
  |cons a b=>
   cases a;exact .cons _ _ (ih _ b)
theorem zlu{l:OpenLaw}{n:Nat}(hn:l.most=some n) {P:Params}{h:Heap}{args:List WData}{vals:List Value}
  (hpre:l.row.toRowW.claim.pre args=true) (hwl:WellAll P h vals args) :
  ∃a vs ns,vals=[Value.ref a]∧args=[WData.list (ns.map WData.int)]∧h.get? a=some { cls:= .type "list",data:= .seq vs.toArray }∧IntsAre vs ns∧ns.length≤n:=by
 have hsh:WShape.hasAll [] args [.list .int]=true:=(pre_splitW hpre).1;have hc:l.pre.holds [] { args:=args }=true:=(pre_splitW hpre).2;obtain⟨d,r,rfl,h1,h2⟩:=hasAllW_cons hsh;obtain rfl:=hasAllW_nil h2;obtain⟨xs,rfl,h3⟩:=hasW_list h1;obtain⟨ns,rfl⟩:=items_int h3;have hlen:ns.length≤n:=by
  unfold OpenLaw.pre at hc;have h4:(WTm.not (.lt (.lit (.int (n:Int))) (.len (.arg 0)))).holds [] { args:=[.list (ns.map .int)] }=true:=by
   have h4:=(holds_andW hc).1;rw [hn]at h4;exact h4
  have h5:=condW_of h4 (w_not (w_lt w_lit (w_len_list (w_arg rfl))));rw [List.length_map]at h5;refine Nat.le_of_not_lt fun q=>?_;have q':(n:Int)<((ns.length:Nat):Int):=by omega
  first
   | (rw [decide_eq_true q']at h5;exact absurd h5 (by decide))
   | (simp at h5;omega)
 cases hwl with
 |cons w1 w2=>
  cases w2;cases w1 with
  |list ho hall=>exact⟨_,_,ns,rfl,rfl,ho,zez ns _ hall,hlen⟩
theorem zkL (l:OpenLaw) (args:List WData):l.row.toRowW.claim.post args (.bool true) args=true:=
 postW_of (r:=l.row.toRowW) (X:=(true == true))
  (show WShape.has [] (.bool true) .bool=true by first |rfl |decide |simp [WShape.has,WShape.arms,WShape.armsAll])
  (show(WTm.eq .res (.lit (.bool true))).value [] { args:=args,res:=some (.bool true),after:=args }=some (.bool (true == true)) from w_eq_bool (w_res rfl) w_lit) rfl
theorem attach_call{l:OpenLaw}{n:Nat}{q:Program}{loose:List Str}{XP:(Str→Option Value)→Heap→Prop}{YP:World→Heap→Prop}{d:DefRec}
  (hn:l.most=some n) (hdf:d.params.defaults=[])
  (call:∀(w:World) (s₀ s₁:Shared) (mg mb:Str→Option Value) (fa:Addr) (o:Obj) (pm cd doc:Value) (a:Addr) (vs:List Value) (ns:List Int),
   Ground q loose [] XP w s₀ mg mb s₁.heap→YP w s₁.heap→
   s₁.heap.get? fa=some o→o.data= .func (docDef d.name d.params d.body d.scope pm cd doc)→s₁.heap.CodeRec cd d.name→mg d.name=some (.ref fa)→
   s₁.heap.get? a=some { cls:= .type "list",data:= .seq vs.toArray }→IntsAre vs ns→ns.length≤n→s₁.gens= #[]→
   codeAny (model l.prog w) callerA (.call (.ref fa) ⟨[.ref a],[]⟩) (fun r s'=>r= .ok (.ret (.bool true))∧OldK s₁.heap s'.heap∧s'.os=s₁.os∧AllBare s'.gens) s₁) :
  WalkO q loose XP YP l.row.toRowW d [] (fun f vs=>PySem.call f vs):=by
 intro w s₀ s₁ mg mb G Y fa o pm cd doc dV kV ho hd hcd hD hmg hg args vals as hpre hlay hrd hwl hlo;obtain rfl:dV= .none:=Dflts.none hD hdf;obtain rfl:kV= .none:=Dflts.noKw hD;obtain⟨a,vs,ns,rfl,rfl,hobj,hints,hlen⟩:=zlu hn hpre hwl;refine enter_call (codeAny_mono (call w s₀ s₁ mg mb fa o pm cd doc a vs ns G Y ho (fd_plain hd) hcd hmg hobj hints hlen hg) fun r s' hq=>?_);obtain⟨rfl,h2,h3,h4⟩:=hq;exact⟨.inl ⟨.bool true, .bool true,[],rfl,fun _=>rfl, .bool true,zkL l _,fun _=>⟨List.Pairwise.nil,fun _ hm=>(nomatch hm)⟩⟩,h2,h3,h4⟩
end Att
namespace L2
open PySem PySem.Spec PyProof.Rows
theorem zgc:∀{vs:List Value}{ns:List Int},IntsAre vs ns→Vals (ns.map V.int) vs
 |_,_, .nil=> .nil
 |_,_, .cons n t h=> .cons ⟨t,rfl⟩ (zgc h)
noncomputable def zrW (H:Hp):Prop:=∀b,H b=none∨ ∃o xs,H b=some (.frz o (.lst xs))
theorem zlV{P:Program}{w:World}{K:PySem.W.Frag}{mg mb:Str→Option Value}{CX:CXT}{k:Nat}{fa a:Addr}{fd:FuncData}{x:Str}{sp:Sp}{s₁:Shared}{vs:List Value}{ns:List Int}
  (KX:K.In s₁.heap) (hns:s₁.heap.Ns mainGlobals mg) (hb:s₁.heap.Ns builtinsNs mb) (hbb:∀x:Str,x≠ "__name__" →mb x=bootBuiltins x) (hlim:s₁.heap.NoLimit) (hg:s₁.gens= #[])
  (ha:s₁.heap.get? a=some { cls:= .type "list",data:= .seq vs.toArray }) (hi:IntsAre vs ns) (hl:ns.length≤sizeLine) (hr:Room k callerA)
  (F:∀base:Heap,K.In base→base.Ns mainGlobals mg→FnOk P w K mg base CX k fa fd [x] sp) (hbind:∀(s:Shared) (u:Value),BindsTo s fd ⟨[u],[]⟩ [(x,u)])
  (hsp:∀H:Hp,zrW H→SqL K H a (ns.map V.int)→sp [.ref a] H (fun v _=>v= .bl true) fun _ _ _=>False)
  (hCX:∀H e s',CX [] H s₁ (fun _ _ _=>False) e s'→False) :
  codeAny (model P w) callerA (.call (.ref fa) ⟨[.ref a],[]⟩) (fun r s'=>r= .ok (.ret (.bool true))∧OldK s₁.heap s'.heap∧s'.os=s₁.os∧AllBare s'.gens) s₁:=by
 have rv:=zgc hi;have lenV:=hi.length;have core:∀H:Hp,zrW H→SqL K H a (ns.map V.int)→HOk P w H s₁.heap→(∀b,H b≠none→b=a)→(H a≠none→K.lookup a=none)→
   codeAny (model P w) callerA (.call (.ref fa) ⟨[.ref a],[]⟩) (fun r s'=>r= .ok (.ret (.bool true))∧OldK s₁.heap s'.heap∧s'.os=s₁.os∧AllBare s'.gens) s₁:=by
  intro H hO hS hok hA hK;have base_of:∀{b:Addr}{o:Obj},s₁.heap.get? b=some o→H b=none→(zmx s₁.heap H).get? b=some o:=fun e n=>zmm e n;have noA:∀{b:Addr}{o:Obj}{es:Array DictEntry}{ep:Nat},s₁.heap.get? b=some o→o.data= .dict es ep→H b=none:=fun {b o es ep} e d=>by
   cases q:H b with
   |none=>rfl
   |some u=>
    have e':b=a:=hA b (by rw [q];simp);subst e';rw [ha]at e;cases e;have d':Data.seq vs.toArray _=Data.dict es ep:=d;cases d'
  have nsK:∀{b:Addr}{m:Str→Option Value},s₁.heap.Ns b m→(zmx s₁.heap H).Ns b m:=fun {b m} ⟨o,es,ep,e,d,r⟩=>⟨o,es,ep,base_of e (noA e d),d,r⟩;have hKb:K.In (zmx s₁.heap H):=fun b o e=>base_of (KX b o e) (by
   cases q:H b with
   |none=>rfl
   |some u=>
    have e':b=a:=hA b (by rw [q];simp);subst e';rw [hK (by rw [q];simp)]at e;cases e)
  have hM:Mod K mg (zmx s₁.heap H):=⟨hKb,nsK hns,⟨mb,nsK hb,hbb⟩,let ⟨mc,h1,h2⟩:=hlim;⟨mc,nsK h1,h2⟩⟩;have e0:Env0 P w K mg (zmx s₁.heap H) callerA [] s₁ H:=⟨rfl,hM,fun b o e=>zpn e,Nat.le_of_eq (zkB _ _),trivial,fun b hb=>absurd (show b∈([]:List Addr) from hb) (by simp),hok, .of_eq hg⟩;refine codeAny_mono ((F _ hKb (nsK hns)).run callerA [] s₁ H ⟨[.ref a],[]⟩ [.ref a] [.ref a] _ _ hr e0 (hbind s₁ (.ref a)) (.cons rfl .nil) (hsp H hO hS)) fun r s' h=>?_;cases r with
  |error e=>exact(hCX H e s' h).elim
  |ok fl=>
   cases fl with
   |next=>exact False.elim h
   |brk=>exact False.elim h
   |cont=>exact False.elim h
   |ret u=>
    obtain⟨v,H',os,bare,un,hok',r',q⟩:=h;have q':v= .bl true:=q;subst q';obtain rfl:u=Value.bool true:=r';refine⟨rfl,OldK.of_keep fun b o e=>?_,os,bare⟩;cases q:H b with
    |none=>exact un.keep b o e q (by intro z;exact absurd (show b∈([]:List Addr) from z) (by simp)) (by simp)
    |some u=>
     rcases hO b with z |⟨ob,xs,z⟩
     ·rw [q]at z;cases z
     ·have z2:=un.frzs b ob _ z;obtain⟨e1,_⟩:=hok b _ z;obtain⟨e2,_⟩:=hok' b _ z2;rw [e]at e1;cases e1;exact e2
 cases hk:K.lookup a with
 |some o=>
  have e:=KX a o hk;rw [ha]at e;cases e;refine core (fun _=>none) (fun _=> .inl rfl) (.inr ⟨_,vs.toArray,_,hk,rfl,rfl,rfl,by rw [List.size_toArray,lenV];exact hl,by simpa using rv⟩) (fun b u z=>by have z':(none:Option HO)=some u:=z;cases z') (fun b z=>absurd rfl z) fun z=>absurd rfl z
 |none=>
  refine core (fun b=>if b=a then some (.frz { cls:= .type "list",data:= .seq vs.toArray } (.lst (ns.map V.int))) else none) (fun b=>?_) (.inl (.inr ⟨{ cls:= .type "list",data:= .seq vs.toArray },if_pos rfl⟩)) (fun b u z=>?_) (fun b z=>?_) fun _=>hk
  ·by_cases hb:b=a
   ·exact .inr ⟨_,_,if_pos hb⟩
   ·exact .inl (if_neg hb)
  ·by_cases hb:b=a
   ·have z':=(if_pos hb).symm.trans z;cases z';subst hb;exact⟨ha,by rw [List.length_map];exact hl,vs,_,rv,ha⟩
   ·have z':=(if_neg hb).symm.trans z;cases z'
  ·by_cases hb:b=a
   ·exact hb
   ·exact absurd (if_neg hb) z
theorem zpz{l:PySem.W.OpenLaw}{n k:Nat}{q:Program}{loose:List Str}{XP:(Str→Option Value)→Heap→Prop}{YP:World→Heap→Prop}{d:DefRec}{K:Params→PySem.W.Frag}{CX:World→CXT}{sp:World→Sp}{x:Str}
  (hn:l.most=some n) (hn2:n≤sizeLine) (hdf:d.params.defaults=[]) (hr:Room k callerA)
  (hY:∀(w:World) (h:Heap),YP w h→(K w.params).In h)
  (F:∀(w:World) (mg:Str→Option Value) (fa:Addr) (h:Heap),(K w.params).In h→h.Ns mainGlobals mg→mg d.name=some (.ref fa)→
   ∃fd:FuncData,(∀(s:Shared) (u:Value),BindsTo s fd ⟨[u],[]⟩ [(x,u)])∧
    ∀base:Heap,(K w.params).In base→base.Ns mainGlobals mg→FnOk l.prog w (K w.params) mg base (CX w) k fa fd [x] (sp w))
  (hsp:∀(w:World) (H:Hp) (a:Addr) (ns:List Int),ns.length≤n→zrW H→SqL (K w.params) H a (ns.map V.int)→sp w [.ref a] H (fun v _=>v= .bl true) fun _ _ _=>False)
  (hCX:∀(w:World) (H:Hp) (s:Shared) (e:Value) (s':Shared),CX w [] H s (fun _ _ _=>False) e s'→False) :
  PySem.W.WalkO q loose XP YP l.row.toRowW d [] (fun f vs=>PySem.call f vs):=by
 refine Att.attach_call hn hdf fun w s₀ s₁ mg mb fa o pm cd doc a vs ns G Y ho hd hcd hmg hobj hints hlen hg=>?_;have KX:=hY w _ Y;obtain⟨fd,hb,hF⟩:=F w mg fa _ KX G.T.g hmg;exact zlV KX G.T.g G.T.b G.T.builtins G.T.nolimit hg hobj hints (Nat.le_trans hlen hn2) hr hF hb (fun H hO hS=>hsp w H a ns hlen hO hS) fun H e s'=>hCX w H s₁ e s'
noncomputable def zeg (s:Stmt):Arguments:=match s with
 | .FunctionDef _ a _ _ _ _ _ _ _ _=>a
 |_=>{ posonlyargs:=[],args:=[],vararg:=none,kwonlyargs:=[],kw_defaults:=[],kwarg:=none,defaults:=[] }
noncomputable def zdN (s:Stmt):List Stmt:=match s with
 | .FunctionDef _ _ b _ _ _ _ _ _ _=>b
 |_=>[]
noncomputable def zam (s:Stmt):Scope:=match s with
 | .FunctionDef _ _ _ _ _ _ sc _ _ _=>sc
 |_=>{ kind:= .function,names:=[],isGenerator:=false,isCoroutine:=false }
structure Fun (K:PySem.W.Frag) (x qual:Str) (st:Stmt) (f:Addr) (fd:FuncData):Prop where
  ex:∃(oc:Value) (od:Option Addr) (kV doc pm:Value) (an:Option Addr) (cdv ct:Value) (osl:Array (Option Value)),
    fd=PySem.W.fnOf x qual (zeg st) (zdN st) (zam st) .none kV doc pm an cdv ct∧K.lookup f=some ⟨oc,od, .func fd,osl⟩∧PySem.W.codeIn K cdv qual=true
  kp:PySem.W.keepIn K (.ref f)=true
section
variable {K:PySem.W.Frag}
theorem Fun.binds{x qual:Str}{st:Stmt}{f:Addr}{fd:FuncData}{ps:List Str}(F:Fun K x qual st f fd)
  (h:∀(kV doc pm:Value) (an:Option Addr) (cdv ct:Value) (us:List Value),us.length=ps.length→bindArgs (PySem.W.fnOf x qual (zeg st) (zdN st) (zam st) .none kV doc pm an cdv ct) ⟨us,[]⟩=pure (ps.zip us)):Binds K fd ps []:=by
 obtain⟨oc,od,kV,doc,pm,an,cdv,ct,osl,rfl,lk,hcd⟩:=F.ex;exact .all (h kV doc pm an cdv ct)
theorem zpQ{x qual:Str}{st:Stmt}{f:Addr}{oc:Value}{od an:Option Addr}{osl:Array (Option Value)}{kV doc pm cdv ct:Value}(l:K.lookup f=some ⟨oc,od, .func (PySem.W.fnOf x qual (zeg st) (zdN st) (zam st) .none kV doc pm an cdv ct),osl⟩)
  (c:PySem.W.codeIn K cdv qual=true) (k:PySem.W.keepIn K (.ref f)=true):Fun K x qual st f (PySem.W.fnOf x qual (zeg st) (zdN st) (zam st) .none kV doc pm an cdv ct):=⟨⟨oc,od,kV,doc,pm,an,cdv,ct,osl,rfl,l,c⟩,k⟩
end
section
variable {X:Cx}
theorem pv (i:Nat) {x:Str}{pos:Pos}(hN:X.N[i]? =some x:=by rfl) (hv:Vis X.env.scope x:=by first |exact Or.inl rfl |exact Or.inr (Or.inl rfl) |exact Or.inr (Or.inr rfl)) (hd:(x == ("__debug__" :Str))=false:=by decide)
  (hcd:(x == ("__classdict__" :Str))=false:=by decide):PE X (.Name x pos) (zto i):=znz hN hv hd hcd
end
theorem ztT{A B:Prop}(h:B):if false=true then A else B:=by
 rw [if_neg Bool.false_ne_true];exact h
theorem ztS{A B:Prop}(h:A):if true=true then A else B:=by
 rw [if_pos rfl];exact h
noncomputable def Same (H H':Hp):Prop:=∀b o,H b=some o→H' b=some o
theorem Same.trans{H H1 H2:Hp}(a:Same H H1) (b:Same H1 H2):Same H H2:=fun c o h=>b c o (a c o h)
section
variable {κ:Type} [DecidableEq κ]
theorem RelO.getD{o:Option V}{u:Option Value}{d:V}{d':Value}(r:RelO o u) (rd:RelV d d'):RelV (o.getD d) (u.getD d'):=by
 cases o with
 |none=>cases u with
  |none=>exact rd
  |some _=>exact(show False from r).elim
 |some _=>cases u with
  |none=>exact(show False from r).elim
  |some _=>exact r
theorem KV.length{kvs:List (κ×V)}{vs:List (κ×Value)}(r:KV kvs vs):kvs.length=vs.length:=Paired.length r
end
end L2
namespace Att
open PySem PySem.W PySem.Calls PyProof.Rows
end Att
namespace L2
open PySem PySem.Spec PyProof.Rows
section
variable {prog:Program}{w:World}{A:Around}{R:Result→Shared→Prop}{s:Shared}
theorem zgf{elt target iter:Expr}{ifs:List Expr}{scope:Scope}{pos:Pos}{it acc:Value}{env:Env}(I:Nat→Shared→Prop)
  (turn:∀n s,I n s→wpAny (model prog w) A (pyNext it) (fun r s₁=>match r with
   |none=>R (.ok .next) s₁
   |some v=>wpAny (model prog w) A (letOwnedTupleGo target it v) (fun _ s₀=>wpAny (model prog w) A (assign target env v) (fun _ s₂=>
     wpAny (model prog w) A (forIn ifs true fun c r=>if r=true then do let ok ←isTrue c env (eval c env);pure (ForInStep.yield ok) else pure (ForInStep.yield r)) (fun ok s₃=>
      if ok=true then wpAny (model prog w) A (eval elt env) (fun x s₄=>
       wpAny (model prog w) A (call (.builtin "list.append") [acc,x]) (fun _ s₅=>∃m,m<n∧I m s₅) (fun _ _=>False) s₄) (fun _ _=>False) s₃
      else ∃m,m<n∧I m s₃) (fun _ _=>False) s₂) (fun _ _=>False) s₀) (fun _ _=>False) s₁) (fun _ _=>False) s)
  (n:Nat) (h:I n s) :
  codeAny (model prog w) A (.compLoop (.ListComp elt [⟨target,iter,ifs,0⟩] scope pos) 0 it acc env) R s:=by
 refine codeAny_loop rfl I (fun n s hI=>?_) n h;show wpAny _ A ((compTurn (.ListComp elt [⟨target,iter,ifs,0⟩] scope pos) 0 it acc env).onRaise (fun x=>do noteFrame x env;theTreesLotGoes x)) _ _ s;refine wpAny_noted ?_;rw [compTurn_list];refine wpAny_bind (wpAny_standAt (wpAny_bind (wpAny_mono (turn n s hI) (fun r s₁ h₁=>?_) fun _ _ h'=>h'.elim)));cases r with
 |none=>exact wpAny_pure h₁
 |some v=>
  refine wpAny_bind (wpAny_mono h₁ (fun _ s₀ h₀=>?_) fun _ _ h'=>h'.elim);refine wpAny_bind (wpAny_mono h₀ (fun _ s₂ h₂=>wpAny_bind (wpAny_mono h₂ (fun ok s₃ h₃=>?_) fun _ _ h'=>h'.elim)) fun _ _ h'=>h'.elim);cases ok with
  |false=>exact wpAny_pure ⟨rfl,h₃⟩
  |true=>
   exact wpAny_bind (wpAny_bind (wpAny_mono h₃ (fun x s₄ h₄=>wpAny_bind (wpAny_mono h₄ (fun _ s₅ h₅=>wpAny_pure (wpAny_pure ⟨rfl,h₅⟩)) fun _ _ h'=>h'.elim)) fun _ _ h'=>h'.elim))
end
noncomputable def zeM (cells:List (Str×Addr)):List (Str×NameKind)→List (Str×Addr)→List (Str×Addr)
 | [],acc=>acc
 | (n,k)::r,acc=>if(k == NameKind.free)=true then zeM cells r ((n,(cells.lookup n).getD 0)::acc) else zeM cells r acc
theorem zjk{scope:Scope}{env:Env}(h:∀y∈scope.names,y.2= .free→ ∃c,env.cells.lookup y.1=some c) :
  closureFor scope env=pure (zeM env.cells scope.names []):=by
 have go:∀(l:List (Str×NameKind)) (acc:List (Str×Addr)),(∀y∈l,y.2= .free→ ∃c,env.cells.lookup y.1=some c)→
   (forIn l acc fun(x:Str×NameKind) (cs:List (Str×Addr))=>(if(x.2 == NameKind.free)=true then(do let a ←cellOf env x.1;pure (ForInStep.yield ((x.1,a)::cs))) else pure (ForInStep.yield cs):Sem (ForInStep (List (Str×Addr)))))=(pure (zeM env.cells l acc):Sem (List (Str×Addr))):=by
  intro l
  induction l with
  |nil=>intro acc _;rfl
  |cons x l ih=>
   intro acc hl;obtain⟨n,k⟩:=x;have hr:=fun y hy=>hl y (List.mem_cons_of_mem _ hy);rw [List.forIn_cons];by_cases hk:k= .free
   ·subst hk;obtain⟨c,hc⟩:=hl (n, .free) List.mem_cons_self rfl;have hc':env.cells.lookup n=some c:=hc;have e:cellOf env n=pure c:=by unfold cellOf;rw [hc']
    have e2:zeM env.cells ((n,NameKind.free)::l) acc=zeM env.cells l ((n,c)::acc):=by
     show(if(NameKind.free == NameKind.free)=true then zeM env.cells l ((n,(env.cells.lookup n).getD 0)::acc) else zeM env.cells l acc)=_;rw [if_pos (by rfl),hc'];rfl
    dsimp only;rw [if_pos (by rfl),e,pure_bind,pure_bind,e2];exact ih _ hr
   ·have hb:¬(k == NameKind.free)=true:=by simpa using hk
    have e2:zeM env.cells ((n,k)::l) acc=zeM env.cells l acc:=by
     show(if(k == NameKind.free)=true then zeM env.cells l ((n,(env.cells.lookup n).getD 0)::acc) else zeM env.cells l acc)=_;rw [if_neg hb]
    dsimp only;rw [if_neg hb,pure_bind,e2];exact ih _ hr
 have q:=go scope.names [] h;unfold closureFor
 first
  |exact(bind_pure _).trans q
  | (simp only[bind_pure];exact q)
  | (simp only[pure_bind,bind_assoc,bind_pure];exact q)
theorem zfO{cells:List (Str×Addr)}{x:Str}{c:Addr}:∀(l:List (Str×NameKind)) (acc:List (Str×Addr)),(∀y∈l,y.2= .free→ ∃c,cells.lookup y.1=some c)→
  (zeM cells l acc).lookup x=some c→acc.lookup x=some c∨cells.lookup x=some c
 | [],acc,_,h=> .inl h
 | (n,k)::r,acc,hl,h=>by
  have hr:=fun y hy=>hl y (List.mem_cons_of_mem (n,k) hy);by_cases hk:k= .free
  ·subst hk;have h':(zeM cells r ((n,(cells.lookup n).getD 0)::acc)).lookup x=some c:=h;rcases zfO r _ hr h' with q |q
   ·rw [List.lookup_cons]at q;cases e:x == n with
    |true=>
     rw [e]at q;obtain⟨d,hd⟩:=hl (n, .free) List.mem_cons_self rfl;have hd':cells.lookup n=some d:=hd;have e1:x=n:=eq_of_beq e;rw [hd']at q;have q':d=c:=Option.some.inj q;exact .inr (by rw [e1,hd',q'])
    |false=>
     rw [e]at q;exact .inl q
   ·exact .inr q
  ·have hb:¬(k == NameKind.free)=true:=by simpa using hk
   have h':(if(k == NameKind.free)=true then zeM cells r ((n,(cells.lookup n).getD 0)::acc) else zeM cells r acc).lookup x=some c:=h;rw [if_neg hb]at h';exact zfO r acc hr h'
theorem zee{cells:List (Str×Addr)}{x:Str}:∀(l:List (Str×NameKind)) (acc:List (Str×Addr)),((x,NameKind.free)∈l∨ ∃c,acc.lookup x=some c)→ ∃c,(zeM cells l acc).lookup x=some c
 | [],acc,h=>by
  rcases h with h |h
  ·cases h
  ·exact h
 | (n,k)::r,acc,h=>by
  by_cases hk:k= .free
  ·subst hk;refine zee r ((n,(cells.lookup n).getD 0)::acc) ?_;cases e:x == n with
   |true=>exact .inr ⟨_,by rw [List.lookup_cons,e]⟩
   |false=>
    rcases h with h |⟨c,h⟩
    ·rcases List.mem_cons.mp h with q |q
     ·have:x=n:=congrArg Prod.fst q;rw [this]at e;simp at e
     ·exact .inl q
    ·exact .inr ⟨c,by rw [List.lookup_cons,e];exact h⟩
  ·have hb:¬(k == NameKind.free)=true:=by simpa using hk
   show ∃c,(if(k == NameKind.free)=true then zeM cells r ((n,(cells.lookup n).getD 0)::acc) else zeM cells r acc).lookup x=some c;rw [if_neg hb];refine zee r acc ?_;rcases h with h |h
   ·rcases List.mem_cons.mp h with q |q
    ·exact absurd (congrArg Prod.snd q).symm hk
    ·exact .inl q
   ·exact .inr h
theorem zcm{env:Env}{x:Str}{k:NameKind}:∀{names:List (Str×NameKind)},(∀y∈names,y.2≠ .cell)→
  (names.map fun(n,k)=>if(k == NameKind.free&&env.scope.kind == .function&&env.kindOf n == some .cell) then(n,NameKind.cell) else(n,k)).lookup x=some k→(k= .cell∨k= .free)→(x,NameKind.free)∈names
 | [],_,h,_=>by simp at h
 | (n,j)::r,hc,h,hk=>by
  have h':List.lookup x ((if(j == NameKind.free&&env.scope.kind == .function&&env.kindOf n == some .cell)=true then(n,NameKind.cell) else(n,j)) ::
   (r.map fun(n,k)=>if(k == NameKind.free&&env.scope.kind == .function&&env.kindOf n == some .cell) then(n,NameKind.cell) else(n,k)))=some k:=h
  have hr:=fun y hy=>hc y (List.mem_cons_of_mem (n,j) hy);have hj:j≠ .cell:=hc (n,j) List.mem_cons_self;cases e:x == n with
  |true=>
   have e1:x=n:=eq_of_beq e;subst e1;by_cases c:(j == NameKind.free&&env.scope.kind == .function&&env.kindOf x == some .cell)=true
   ·have c1:(j == NameKind.free)=true:=by
     cases q:(j == NameKind.free) with
     |true=>rfl
     |false=>rw [q]at c;simp at c
    have c2:j= .free:=by simpa using c1
    rw [c2];exact List.mem_cons_self
   ·rw [if_neg c]at h';simp only[List.lookup_cons,beq_self_eq_true]at h';have h2:j=k:=Option.some.inj h';rcases hk with z |z
    ·exact absurd (h2.trans z) hj
    ·rw [h2,z];exact List.mem_cons_self
  |false=>
   by_cases c:(j == NameKind.free&&env.scope.kind == .function&&env.kindOf n == some .cell)=true
   ·rw [if_pos c]at h';simp only[List.lookup_cons,e]at h';exact List.mem_cons_of_mem _ (zcm hr h' hk)
   ·rw [if_neg c]at h';simp only[List.lookup_cons,e]at h';exact List.mem_cons_of_mem _ (zcm hr h' hk)
theorem zcR{env:Env}{x:Str}:∀{names:List (Str×NameKind)},names.lookup x=some .free→
  (names.map fun(n,k)=>if(k == NameKind.free&&env.scope.kind == .function&&env.kindOf n == some .cell) then(n,NameKind.cell) else(n,k)).lookup x=some .cell∨
  (names.map fun(n,k)=>if(k == NameKind.free&&env.scope.kind == .function&&env.kindOf n == some .cell) then(n,NameKind.cell) else(n,k)).lookup x=some .free
 | [],h=>by simp at h
 | (n,j)::r,h=>by
  show List.lookup x ((if(j == NameKind.free&&env.scope.kind == .function&&env.kindOf n == some .cell)=true then(n,NameKind.cell) else(n,j)) ::
   (r.map fun(n,k)=>if(k == NameKind.free&&env.scope.kind == .function&&env.kindOf n == some .cell) then(n,NameKind.cell) else(n,k)))=_∨
   List.lookup x ((if(j == NameKind.free&&env.scope.kind == .function&&env.kindOf n == some .cell)=true then(n,NameKind.cell) else(n,j)) ::
   (r.map fun(n,k)=>if(k == NameKind.free&&env.scope.kind == .function&&env.kindOf n == some .cell) then(n,NameKind.cell) else(n,k)))=_
  cases e:x == n with
  |true=>
   simp only[List.lookup_cons,e]at h;have h2:j= .free:=Option.some.inj h;subst h2;by_cases c:(NameKind.free == NameKind.free&&env.scope.kind == .function&&env.kindOf n == some .cell)=true
   ·rw [if_pos c];simp only[List.lookup_cons,e];exact .inl trivial
   ·rw [if_neg c];simp only[List.lookup_cons,e];exact .inr trivial
  |false=>
   simp only[List.lookup_cons,e]at h;by_cases c:(j == NameKind.free&&env.scope.kind == .function&&env.kindOf n == some .cell)=true
   ·rw [if_pos c];simp only[List.lookup_cons,e];exact zcR h
   ·rw [if_neg c];simp only[List.lookup_cons,e];exact zcR h
noncomputable def zaY (X:Cx) (scope:Scope) (N:List Str) (s:Shared) (H:Hp) (fp:List Addr) (pins:List (Addr×Obj)):Cx:=
 { X with N:=N,s₀:=s,H₀:=H,env:=compEnvC scope (zeM X.env.cells scope.names []) s.heap.objs.size X.env,outer:=X.stack,stack:=X.stack,ex:=fp,fn:=fun _=>false,pn:=X.pn++pins,xe:=fun _ _=>False }
structure CompSc (X:Cx) (scope:Scope) (N:List Str) (k:Nat) (fr:List Nat):Prop where
  kind:scope.kind= .function
  nd:N.Nodup
  len:N.length=k+fr.length
  cell:(scope.names.all fun y=>y.2 != NameKind.cell)=true
  loc:(scope.names.all fun y=>y.2 != NameKind.local || scope.names.lookup y.1 == some NameKind.local)=true
  free:(scope.names.all fun y=>y.2 != NameKind.free || X.env.kindOf y.1 == some NameKind.cell || X.env.kindOf y.1 == some NameKind.free)=true
  frs:((N.drop k).all fun x=>scope.names.lookup x == some NameKind.free)=true
  pl:N.drop k=fr.map fun j=>X.N.getD j Str.empty
  plen:(fr.all fun j=>decide (j<X.N.length))=true
noncomputable def zei (σ:St) (fr:List Nat):St:=fr.map fun j=>(σ[j]?).join
noncomputable def zhV (σ:St) (k:Nat) (fr:List Nat):St:=List.replicate k none++zei σ fr
section
variable {X:Cx}{scope:Scope}{N:List Str}{k:Nat}{fr:List Nat}
theorem CompSc.cell' (S:CompSc X scope N k fr):∀y∈scope.names,y.2≠ .cell:=fun y hy=>by
 have q:=List.all_eq_true.mp S.cell y hy;simpa using q
theorem CompSc.loc' (S:CompSc X scope N k fr):∀y∈scope.names,y.2= .local→scope.names.lookup y.1=some .local:=fun y hy e=>by
 have q:=List.all_eq_true.mp S.loc y hy;rw [e]at q;simpa using q
theorem CompSc.kinds (S:CompSc X scope N k fr):∀y∈scope.names,y.2= .free→X.env.kindOf y.1=some .cell∨X.env.kindOf y.1=some .free:=fun y hy e=>by
 have q:=List.all_eq_true.mp S.free y hy;rw [e]at q;simpa using q
theorem CompSc.hasCell (S:CompSc X scope N k fr) (ok:X.Ok):∀y∈scope.names,y.2= .free→ ∃c,X.env.cells.lookup y.1=some c:=fun y hy e=>ok.has y.1 (S.kinds y hy e)
theorem CompSc.sub (S:CompSc X scope N k fr) (ok:X.Ok) {x:Str}{c:Addr}(h:(zeM X.env.cells scope.names []).lookup x=some c):X.env.cells.lookup x=some c:=by
 rcases zfO scope.names [] (S.hasCell ok) h with q |q
 ·simp at q
 ·exact q
end
section
variable {X:Cx}{pins:List (Addr×Obj)}{σ:St}{H:Hp}{s:Shared}{scope:Scope}{N:List Str}{k:Nat}{fr:List Nat}{fp:List Addr}
theorem zoE (I:Inv X pins σ H s) (S:CompSc X scope N k fr) (hfp:∀b∈fp,zfU X pins H b) (hob:∀b∈fp,∃o,s.heap.get? b=some o):(zaY X scope N s H fp pins).Ok where
  mod:=I.ok.mod
  kind:=S.kind
  glob:=I.ok.glob
  blt:=I.ok.blt
  above:=Nat.le_refl _
  inj:=fun x y c h1 h2=>I.ok.inj x y c (S.sub I.ok h1) (S.sub I.ok h2)
  has:=fun x hx=>zee scope.names [] (.inl (by
    rcases hx with hx |hx
    · exact zcm S.cell' hx (.inl rfl)
    · exact zcm S.cell' hx (.inr rfl)))
  cab:=fun x c h _=>absurd h (by show ¬(false=true);decide)
  hd:=I.ok.hd
  frames:=I.ok.frames
  stk:= .inl rfl
  exf:=fun b hb=>⟨by
    obtain⟨o,e⟩:=hob b hb;exact Nat.ne_of_lt (Heap.lt_size e),fun x c h=>(hfp b hb).2.2.2.2.1 x c (S.sub I.ok h)⟩
  bs:=I.bs
  bsz:=Nat.le_trans I.ok.bsz I.sz
  noex:=fun b o e hb=>by
    rcases(hfp b hb).2.2.2.1 with z |z
    · exact I.ok.noex b o e z
    · exact absurd (Nat.lt_of_lt_of_le (Heap.lt_size (I.ok.bs b o e).1) z) (Nat.lt_irrefl _)
  exfs:=fun b hb z=>by
    rcases List.mem_cons.mp (I.stkSub b z) with q |q
    · exact(hfp b hb).2.1 q
    · exact(hfp b hb).2.2.1 q
  funs:=I.stack
  frf:=I.stkFree
theorem znT (I:Inv X pins σ H s) (S:CompSc X scope N k fr) {H':Hp}{b:Addr}(hb:b∈fp) (hf:zfU X pins H b) (hob:∃o,s.heap.get? b=some o) (hn:H' b=none):zfU (zaY X scope N s H fp pins) [] H' b:=by
 refine⟨hn,?_,fun z=>?_, .inl hb,fun x c h=>hf.2.2.2.2.1 x c (S.sub I.ok h),fun p hp=>?_⟩
 ·obtain⟨o,e⟩:=hob;exact Nat.ne_of_lt (Heap.lt_size e)
 ·rcases List.mem_cons.mp (I.stkSub b z) with q |q
  ·exact hf.2.1 q
  ·exact hf.2.2.1 q
 ·rcases List.mem_append.mp hp with z |z
  ·exact hf.2.2.2.2.2 p z
  ·cases z
theorem zjn{j:Nat}{v:V}(h:(zei σ fr)[j]? =some (some v)):∃i,fr[j]? =some i∧σ[i]? =some (some v):=by
 unfold zei at h;rw [List.getElem?_map]at h;cases e:fr[j]? with
 |none=>rw [e]at h;cases h
 |some i=>
  rw [e]at h;have h':(σ[i]?).join=some v:=Option.some.inj h;refine⟨i,rfl,?_⟩;cases q:σ[i]? with
  |none=>rw [q]at h';cases h'
  |some o=>
   rw [q]at h';have h2:o=some v:=h';rw [h2]
theorem zmG (I:Inv X pins σ H s) (S:CompSc X scope N k fr) (hfp:∀b∈fp,zfU X pins H b) (hob:∀b∈fp,∃o,s.heap.get? b=some o) {h1:Heap}{tk:Nat}{m:Str→Option Value}
    (hns:h1.Ns s.heap.objs.size m) (hk:∀b o,s.heap.get? b=some o→h1.get? b=some o):Inv (zaY X scope N s H fp pins) [] (zhV σ k fr) H { s with heap:=h1,toks:=tk } where
  ok:=zoE I S hfp hob
  os:=rfl
  bare:=I.bare
  base:=Un.kept hk
  loc:=⟨m,hns,fun i x v e1 e2 e3=>by
    have e2':(List.replicate k (none:Option V)++zei σ fr)[i]? =some (some v):=e2;have hi:k≤i:=by
      refine Nat.le_of_not_lt fun z=>?_;rw [List.getElem?_append_left (by simpa using z),List.getElem?_replicate]at e2';split at e2'<;>cases e2'
    rw [List.getElem?_append_right (by simpa using hi),List.length_replicate]at e2';obtain⟨j,f1,f2⟩:=zjn e2';have e1':N[i]? =some x:=e1;have d1:(N.drop k)[i - k]? =some x:=by
      rw [List.getElem?_drop];have:k+(i - k)=i:=by omega
      rw [this];exact e1'
    have d2:=d1;rw [S.pl,List.getElem?_map,f1]at d2;have d3:X.N.getD j Str.empty=x:=Option.some.inj d2;have jl:j<X.N.length:=of_decide_eq_true (List.all_eq_true.mp S.plen j (List.mem_of_getElem? f1));have d4:X.N[j]? =some x:=by
      rw [List.getD_eq_getElem?_getD,List.getElem?_eq_getElem jl]at d3;rw [List.getElem?_eq_getElem jl];exact congrArg some d3
    have fk:scope.names.lookup x=some .free:=by
      have q:=List.all_eq_true.mp S.frs x (List.mem_of_getElem? d1);simpa using q
    have hmem:(x,NameKind.free)∈scope.names:=PySem.mem_of_lookup fk;have kd:=S.kinds _ hmem rfl;have vis:Vis X.env.scope x:=by
      rcases kd with z |z
      · exact .inr (.inl z)
      · exact .inr (.inr z)
    obtain⟨m0,_,hl⟩:=I.loc;obtain⟨u,ru,lk⟩:=hl j x v d4 f2 vis;refine⟨u,ru, .inr ⟨zcR fk,?_⟩⟩;have kd':X.env.kindOf x=some .cell∨X.env.kindOf x=some .free:=kd;rcases lk with⟨z,_⟩ |⟨_,c,hc,hcell⟩
    · rcases kd' with q |q<;>(rw [z]at q;cases q)
    · obtain⟨c',hc'⟩:=zee (cells:=X.env.cells) scope.names [] (.inl hmem);have e:=S.sub I.ok hc';rw [hc]at e;cases e;exact⟨c,hc',hcell.keeps hk⟩⟩
  cell:=fun x c h=>by
    obtain⟨v,z⟩:=I.cell x c (S.sub I.ok h);exact⟨v,z.keeps hk⟩
  free:=I.hok.fresh (Nat.le_refl _)
  freeC:=fun x c h=>I.freeC x c (S.sub I.ok h)
  pin:=fun p hp=>by
    have hp':p∈X.pn++pins:=by
      rcases List.mem_append.mp hp with z |z
      · exact z
      · cases z
    obtain⟨e,n,ne,nf,d⟩:=I.pin p hp';refine⟨hk _ _ e,n,Nat.ne_of_lt (Heap.lt_size e),fun z=>?_,d⟩;rcases List.mem_cons.mp (I.stkSub p.1 z) with q |q
    · exact ne q
    · exact nf q
  hok:=I.hok.kept hk
  len:=by
    show(List.replicate k (none:Option V)++zei σ fr).length=N.length;rw [List.length_append,List.length_replicate,S.len];unfold zei;rw [List.length_map]
theorem zgE{σ':St}{H':Hp}{s':Shared}{h':Heap}(I:Inv X pins σ H s) (hfp:∀b∈fp,zfU X pins H b) (J:Inv (zaY X scope N s H fp pins) [] σ' H' s') (sb:Heap.SameBut s.heap.objs.size s'.heap h'):Inv X pins σ H' { s' with heap:=h' }:=by
 have neC:∀b o,s.heap.get? b=some o→b≠s.heap.objs.size:=fun b o e=>Nat.ne_of_lt (Heap.lt_size e);have frC:H' s.heap.objs.size=none:=J.free;refine Inv.call' (s':={ s' with heap:=h' }) (ch:=fp) I J.os ⟨fun b o e n hf hx=>?_,fun b o e n hf hx=>?_,fun b o e n hx=>J.base.free b o e n hx,fun b o e hx=>?_,J.base.tups,J.base.frzs,J.base.tbls⟩ (fun b o e=>?_) J.bare fun b hb=>⟨(hfp b hb).2.2.2.1,(hfp b hb).2.1,(hfp b hb).2.2.2.2.1,(hfp b hb).2.2.2.2.2⟩
 ·exact(sb.2 b (neC b o e)).trans (J.base.keep b o e n hf hx)
 ·obtain⟨sl,q⟩:=J.base.slot b o e n hf hx;exact⟨sl,(sb.2 b (neC b o e)).trans q⟩
 ·obtain⟨o',q⟩:=J.base.there b o e hx;exact⟨o',(sb.2 b (neC b o e)).trans q⟩
 ·refine(J.hok b o e).stay (fun c v hc q=>(sb.2 c ?_).trans q) (fun _ q=>q) fun _ _ q=>q;rintro rfl;rcases hc with rfl |hc
  ·rw [frC]at e;cases e
  ·rw [frC]at hc;cases hc
end
noncomputable def PTs (X:Cx) (ifs:List Expr) (t:TT):Prop:=
 ∀(pins:List (Addr×Obj)) (s:Shared) (σ:St) (H:Hp) (Q:Bool→Hp→Prop),Inv X pins σ H s→t σ H Q→
  wpAny (model X.prog X.w) X.A (forIn ifs true fun c r=>if r=true then do let ok ←isTrue c X.env (eval c X.env);pure (ForInStep.yield ok) else pure (ForInStep.yield r)) (TP X pins σ Q) X.xe s
noncomputable def ztL:TT:=fun _ H Q=>Q true H
theorem zpx{X:Cx}:PTs X [] ztL:=fun _ _ _ H _ I h=>wpAny_tests_nil ⟨H,I,h⟩
theorem znX{X:Cx}{c:Expr}{t:TT}(h:PT X c t):PTs X [c] t:=fun pins s σ H Q I q=>wpAny_tests_one (h pins s σ H Q I q)
noncomputable def ztc (X:Cx) (scope:Scope) (N:List Str) (tg:Expr) (ifs:List Expr) (elt:Expr) (l:Addr) (x:V) (σ:St) (H:Hp) (M:St→Hp→Prop):Prop:=
 ∀(s₀:Shared) (H₀:Hp) (fp:List Addr) (pn:List (Addr×Obj)),∃(g:TG) (tt:TT) (te:TE),PG (zaY X scope N s₀ H₀ fp pn) tg g∧PTs (zaY X scope N s₀ H₀ fp pn) ifs tt∧PE (zaY X scope N s₀ H₀ fp pn) elt te∧
  g x σ H fun σ2 H2=>tt σ2 H2 fun b H3=>if b=true then te σ2 H3 fun y H4=>∃ys,H4 l=some (.lst ys)∧ys.length<sizeLine∧M σ2 (upd H4 l (.lst (ys++[y]))) else M σ2 H3
noncomputable def znV (X:Cx) (scope:Scope) (N:List Str) (k:Nat) (fr:List Nat) (tg:Expr) (ifs:List Expr) (elt:Expr) (σ:St) (Q:VK) (J:It) (H1:Hp):Prop:=∀l,H1 l=none→
 ∃W:Nat→Nat→St→Hp→Prop,(∃m,W 0 m (zhV σ k fr) (upd H1 l (.lst [])))∧ ∀i m σ' H',W i m σ' H'→
  (J.stop i H'∧Q (.ref l) H')∨(J.go i H'∧ ∃M:St→Hp→Prop,(∀σ'' H'',M σ'' H''→ ∃m',m'<m∧W (i+1) m' σ'' H'')∧ ∀x H2,J.yld i H' x H2→ztc X scope N tg ifs elt l x σ' H2 M)
noncomputable def zlQ (X:Cx) (scope:Scope) (N:List Str) (k:Nat) (fr:List Nat) (tg:Expr) (ifs:List Expr) (elt:Expr) (wi:TI):TE:=fun σ H Q=>wi σ H fun J H1=>znV X scope N k fr tg ifs elt σ Q J H1
theorem zgz{X:Cx}{use:Option (Value→Sem Unit)}{Qf:Value→Shared→Prop}{pins:List (Addr×Obj)}{s:Shared}{σ:St}{H:Hp}{Q:VK}{scope:Scope}{N:List Str}{k:Nat}{fr:List Nat}{tg iter elt:Expr}{ifs:List Expr}{wi:TI}{pos:Pos}(hx:X.xe=fun _ _=>False) (hc:X.calm=true) (S:CompSc X scope N k fr) (hi:PI X tg iter wi) (I:Inv X pins σ H s)
  (fin:∀{s3 s6:Shared}{H3 H5:Hp}{fp:List Addr}{σ5:St}{l:Addr}{a:Flow},Inv X pins σ H3 s3→(∀b∈fp,zfU X pins H3 b)→Inv (zaY X scope N s3 H3 fp pins) [] σ5 H5 s6→Q (.ref l) H5→compPost (model X.prog X.w) X.A X.xe use Qf (.ref l) s3.heap.objs.size (.ok a) s6)
  (h:zlQ X scope N k fr tg ifs elt wi σ H Q)
  (hs:∀x,foldedSetIterable iter X.env x=pure x:=by intro _;rfl):wpAny (model X.prog X.w) X.A (comprehension (.ListComp elt [⟨tg,iter,ifs,0⟩] scope pos) scope X.env (firstIterPos [⟨tg,iter,ifs,0⟩] pos) (newList []) (firstAsync [⟨tg,iter,ifs,0⟩]) (firstIter [⟨tg,iter,ifs,0⟩] X.env) use) Qf X.xe s:=by
 refine wpAny_comprehension_free (use:=use) rfl hs (zjk (S.hasCell I.ok)) S.kind S.loc' (thn (hi pins s σ H _ I h) fun v s1 h1=>thn h1 fun itv s2 h2=>?_);obtain⟨it,fp,tn,J,H2,e,I2,T,st2,f2,h2⟩:=h2;subst e;have fr2:H2 s2.heap.objs.size=none:=I2.hok.fresh (Nat.le_refl _);obtain⟨W,⟨m0,w0⟩,turn⟩:=h2 s2.heap.objs.size fr2;refine wpAny_newList ?_ (by show 0≤sizeLine;exact Nat.zero_le _);have I3:Inv X pins σ (upd H2 s2.heap.objs.size (.lst [])) { s2 with heap:=s2.heap.push { cls:= .type "list",data:= .seq ([]:List Value).toArray } }:=I2.lnew (t':=s2.toks) (ys:=[]) .nil (Nat.zero_le _);have old:∀b o,s2.heap.get? b=some o→(s2.heap.push { cls:= .type "list",data:= .seq ([]:List Value).toArray }).get? b=some o:=fun b o e=>Heap.get?_push_of_some _ e;have fpo2:∀b∈fp,∃o,s2.heap.get? b=some o:=fun b hb=>by
  obtain⟨o,e,_⟩:=T.obj _ _ st2 b hb;exact⟨o,e⟩
 have fpo:∀b∈fp,∃o,(s2.heap.push { cls:= .type "list",data:= .seq ([]:List Value).toArray }).get? b=some o:=fun b hb=>by
  obtain⟨o,e⟩:=fpo2 b hb;exact⟨o,old b o e⟩
 have f3:∀b∈fp,zfU X pins (upd H2 s2.heap.objs.size (.lst [])) b:=fun b hb=>by
  obtain⟨o,e⟩:=fpo2 b hb;refine⟨?_,(f2 b hb).2⟩;rw [zas (Nat.ne_of_lt (Heap.lt_size e))];exact(f2 b hb).1
 generalize hs3:({ s2 with heap:=s2.heap.push { cls:= .type "list",data:= .seq ([]:List Value).toArray } }:Shared)=s3 at I3⊢;have st3:tn 0 s3.heap:=by
  rw [←hs3];exact T.keep _ _ _ st2 fun b _ o e=>old b o e
 have fpo3:∀b∈fp,∃o,s3.heap.get? b=some o:=by rw [←hs3];exact fpo
 clear fpo old hs3;refine wpAny_newFunctionEnv S.cell' (by intro y hy;simp at hy) (fun h1 hns1 hsb1=>?_) S.kind;have hk1:∀b o,s3.heap.get? b=some o→h1.get? b=some o:=fun b o e=>hsb1.extBut b o (Nat.ne_of_lt (Heap.lt_size e)) (Heap.get?_push_of_some _ e);have I4:=zmG (tk:=s3.toks+([]:List (Str×Value)).length) I3 S f3 fpo3 hns1 hk1;have st4:tn 0 h1:=T.keep _ _ _ st3 fun b _ o e=>hk1 b o e;have stat:∀{H':Hp},(∀b∈fp,H' b=none)→ ∀b∈fp,zfU (zaY X scope N s3 (upd H2 s2.heap.objs.size (.lst [])) fp pins) [] H' b:=fun hn b hb=>znT I3 S hb (f3 b hb) (fpo3 b hb) (hn b hb);have loop:∀s4:Shared,s4={ s3 with heap:=h1,toks:=s3.toks+([]:List (Str×Value)).length }→
   codeAny (model X.prog X.w) X.A (.compLoop (.ListComp elt [⟨tg,iter,ifs,0⟩] scope pos) 0 (.ref it) (.ref s2.heap.objs.size) (compEnvC scope (zeM X.env.cells scope.names []) s3.heap.objs.size X.env))
    (compPost (model X.prog X.w) X.A X.xe use Qf (.ref s2.heap.objs.size) s3.heap.objs.size) s4:=by
  rintro s4 rfl;refine zgf (fun n s'=>∃i σ' H',Inv (zaY X scope N s3 (upd H2 s2.heap.objs.size (.lst [])) fp pins) [] σ' H' s'∧tn i s'.heap∧(∀b∈fp,H' b=none)∧W i n σ' H') ?_ m0 ⟨0,_,_,I4,st4,fun b hb=>(f3 b hb).1,w0⟩;rintro n s5 ⟨i,σ5,H5,I5,st5,fr5,w5⟩;rcases turn i n σ5 H5 w5 with⟨stop,qn⟩ |⟨go,M,hM,step⟩
  ·refine thn (T.done (zaY X scope N s3 (upd H2 s2.heap.objs.size (.lst [])) fp pins) rfl rfl rfl hc i [] s5 σ5 H5 _ I5 (stat fr5) st5 stop) fun r s6 ⟨hr,I6⟩=>?_;subst hr;exact fin I3 f3 I6 qn
  ·refine thn (T.item (zaY X scope N s3 (upd H2 s2.heap.objs.size (.lst [])) fp pins) rfl rfl rfl hc i [] s5 σ5 H5 _ I5 (stat fr5) st5 go) fun r s6 ⟨u,hr,h6⟩=>?_;subst hr;refine thn h6 fun _ s7 ⟨x,H7,I7,r7,y7,st7,fr7⟩=>?_;have I7':=I7.pinned (stat fr7) (T.obj _ _ st7);obtain⟨g,tt,te,hg,ht,he,q⟩:=step x H7 y7 s3 (upd H2 s2.heap.objs.size (.lst [])) fp pins;have again:∀{s8:Shared}{σ8:St}{H8:Hp},Inv (zaY X scope N s3 (upd H2 s2.heap.objs.size (.lst [])) fp pins) ([]++zgY fp s7.heap) σ8 H8 s8→M σ8 H8→
     ∃m,m<n∧ ∃i σ' H',Inv (zaY X scope N s3 (upd H2 s2.heap.objs.size (.lst [])) fp pins) [] σ' H' s8∧tn i s8.heap∧(∀b∈fp,H' b=none)∧W i m σ' H':=fun {s8 σ8 H8} I8 n8=>by
    obtain⟨m',hm,w8⟩:=hM σ8 H8 n8;refine⟨m',hm,i+1,σ8,H8,I8.unpinned,T.keep _ _ _ st7 fun b hb o e=>(I8.pin (b,o) (List.mem_append_right _ (List.mem_append_right _ (zdc hb e)))).1,fun b hb=>?_,w8⟩;obtain⟨o,e,d⟩:=T.obj _ _ st7 b hb;exact(I8.pin (b,o) (List.mem_append_right _ (List.mem_append_right _ (zdc hb e)))).2.1
   refine thn (hg _ s7 σ5 H7 x u _ I7' r7 q) fun _ s8 ⟨σ8,H8,I8,q8⟩=>?_;refine thn (ht _ s8 σ8 H8 _ I8 q8) fun b s9 ⟨H9,I9,q9⟩=>?_;cases b with
   |false=>exact again I9 q9
   |true=>
    refine thn (he _ s9 σ8 H9 _ I9 q9) fun y s10 ⟨yv,H10,I10,r10,ys,hl,hz,qM⟩=>?_;exact thn (zhb _ s10 σ8 H10 (.ref s2.heap.objs.size) [yv] (.ref s2.heap.objs.size) [y] (fun _ H'=>M σ8 H') I10 rfl (.cons r10 .nil) ⟨_,ys,yv,rfl,rfl,hl,hz,qM⟩) fun _ s11 ⟨_,H11,I11,_,q11⟩=>again I11 q11
 exact codeAny_compStart_list (loop _ rfl) (T.self _ 0 _ _ _ st4 (loop _ rfl))
theorem zof{X:Cx}{scope:Scope}{N:List Str}{k:Nat}{fr:List Nat}{tg iter elt:Expr}{ifs:List Expr}{wi:TI}{pos:Pos}(hx:X.xe=fun _ _=>False) (hc:X.calm=true) (S:CompSc X scope N k fr) (hi:PI X tg iter wi)
  (hs:∀x,foldedSetIterable iter X.env x=pure x:=by intro _;rfl):PE X (.ListComp elt [⟨tg,iter,ifs,0⟩] scope pos) (zlQ X scope N k fr tg ifs elt wi):=by
 intro pins s σ H Q I h;rw [eval_ListComp];refine zgz hx hc S hi I (fun {s3 s6 H3 H5 fp σ5 l a} I3 f3 I6 qn=>?_) h hs;obtain⟨m6,ns6,_⟩:=I6.loc;exact⟨m6,ns6,fun h' sb=>⟨.ref l,H5,zgE I3 f3 I6 sb,rfl,qn⟩⟩
theorem zpy{X:Cx}{scope:Scope}{N:List Str}{k:Nat}{fr:List Nat}{tg iter elt:Expr}{ifs:List Expr}{wi:TI}{pos spos pos':Pos}{i:Nat}{x:Str}(hx:X.xe=fun _ _=>False) (hc:X.calm=true) (S:CompSc X scope N k fr) (hi:PI X tg iter wi)
  (hN:X.N.Nodup) (hxi:X.N[i]? =some x) (hxl:Loc X.env.scope x) (hw:swapsWith (.ListComp elt [⟨tg,iter,ifs,0⟩] scope pos) (some (.Name x pos')) spos.line X.env=pure true) (hf:X.fn x=true∨X.env.scope.names.lookup x=some .local)
  (hs:∀x,foldedSetIterable iter X.env x=pure x:=by intro _;rfl):PS X (.Assign [.Name x pos'] (.ListComp elt [⟨tg,iter,ifs,0⟩] scope pos) spos) (zsj (zlQ X scope N k fr tg ifs elt wi) (zoo i)):=by
 intro pins s σ H D I h;rw [exec_Assign_Name_used x pos' _ spos hw];refine wpAny_bind (wpAny_standAt (wpAny_bind ?_));rw [arm_evalThenUse_ListComp];refine wpAny_bind ?_;refine zgz (Qf:=fun _ s'=>wpAny (model X.prog X.w) X.A (pure ()) (fun _ s2=>wpAny (model X.prog X.w) X.A (pure Flow.next) (SP X pins D) X.xe s2) X.xe s') hx hc S hi I (fun {s3 s6 H3 H5 fp σ5 l a} I3 f3 I6 qn=>?_) h hs;have IX:Inv X pins σ H5 s6:=zgE (h':=s6.heap) I3 f3 I6 ⟨rfl,fun _ _=>rfl⟩;obtain⟨m6,ns6,_⟩:=I6.loc;have ns6:s6.heap.Ns s3.heap.objs.size m6:=ns6;have frC:H5 s3.heap.objs.size=none:=I6.free;have fC:zfU X pins H5 s3.heap.objs.size:=I3.fpOk (Nat.le_refl _) frC;refine wpAny_assign_Name (zgW IX hN hxi hxl (v:= .ref l) rfl (fun s7 I7 ⟨b,sb,hb⟩=>?_) hf);have hbC:s3.heap.objs.size≠b:=by
  rcases hb with rfl |hb
  ·exact fC.2.1
  ·exact Ne.symm (fC.2.2.2.2.1 _ _ hb)
 refine⟨m6,ns6.sameBut sb hbC,fun h' sb2=>wpAny_pure (wpAny_pure ⟨_,H5,?_,qn⟩)⟩;refine Inv.call' (s':={ s7 with heap:=h' }) (ch:=[s3.heap.objs.size]) I7 rfl ⟨fun c o e n hfs hex=>?_,fun c o e n hfs hex=>?_,fun c o e n _=>n,fun c o e hex=>?_,fun _ _ q=>q,fun _ _ _ q=>q,fun _ ps q=>⟨#[],by simpa using q⟩⟩ (fun c o e=>?_) I7.bare fun c hcm=>?_
 ·exact(sb2.2 c (fun z=>hex (by simp [z]))).trans e
 ·exact⟨o.slots,(sb2.2 c (fun z=>hex (by simp [z]))).trans e⟩
 ·exact⟨o,(sb2.2 c (fun z=>hex (by simp [z]))).trans e⟩
 ·refine(I7.hok c o e).stay (fun d v hd q=>(sb2.2 d ?_).trans q) (fun _ q=>q) fun _ _ q=>q;rintro rfl;rcases hd with rfl |hd
  ·rw [frC]at e;cases e
  ·rw [frC]at hd;cases hd
 ·rw [List.mem_singleton.mp hcm];exact⟨fC.2.2.2.1,fC.2.1,fC.2.2.2.2.1,fC.2.2.2.2.2⟩
noncomputable def Its (x:Str):It:=⟨fun i _=>i<x.cps.size,fun i H v H'=>H'=H∧ ∃c,x.cps[i]? =some c∧v= .str ⟨#[c]⟩,fun i _=>i=x.cps.size⟩
theorem zhR{P:Program}{w:World}{K:PySem.W.Frag}{tg:Expr}(it:Addr) (x:Str) (t:Tok) (ty:String)
    (hn: ["enumerate", "zip", "dict_itemiterator", "dict_reverseitemiterator", "odict_iterator", "itertools.zip_longest", "itertools.pairwise"].contains ty=false)
    (hW:∀A':Around,A'.handled=none→Walks P w A' it [it] [it] x.cps.size (SignAt x) (fun i h=>h.IsStrIter it ty x t i))
    (hself:∀(A:Around) (i:Nat) (s:Shared) (Q:Value→Shared→Prop) (E:Value→Shared→Prop),s.heap.IsStrIter it ty x t i→Q (.ref it) s→wpAny (model P w) A (pyIter (.ref it)) Q E s) :
    Turn P w K tg (Its x) [it] it (fun i h=>h.IsStrIter it ty x t i) where
  mem:=by simp
  obj:=fun i h st b hb=>by
    have e:b=it:=by simpa using hb
    subst e;obtain⟨o,e,c,d⟩:=st;exact⟨o,e,fun v z=>by rw [d]at z;cases z⟩
  keep:=fun i h h' st k=>by
    obtain⟨o,e,r⟩:=st;exact⟨o,k it (by simp) o e,r⟩
  item:=by
    intro X hP hw hK hc i pins s σ H E I hf st hg;subst hP hw hK;obtain⟨f0,f1,f2,f3,f4,f5⟩:=hf it (by simp);refine(hW X.A (I.ok.hd hc)).item i s _ _ hg st fun v h' tk hv st' kk=>?_;obtain⟨c,u,hc',rfl⟩:=hv;have I1:Inv X pins σ H { s with heap:=h',toks:=tk }:=I.turned (fun b o hb e=>kk b o (by simpa using hb) e) f0 f1 f3 f4 f5;obtain⟨o,e,c',d⟩:=id st';exact⟨_,rfl,zlL (s:={ s with heap:=h',toks:=tk }) e c' d hn ⟨.str ⟨#[c]⟩,H,I1,⟨u,rfl⟩,⟨rfl,c,hc',rfl⟩,st',fun b hb=>(hf b hb).1⟩⟩
  done:=by
    intro X hP hw hK hc i pins s σ H E I hf st hg;subst hP hw hK;obtain⟨f0,f1,f2,f3,f4,f5⟩:=hf it (by simp);have hi:i=x.cps.size:=hg;subst hi;exact(hW X.A (I.ok.hd hc)).done s _ _ st fun h' tk kk=>⟨rfl,I.turned (fun b o hb e=>kk b o (by simpa using hb) e) f0 f1 f3 f4 f5⟩
  self:=hself
noncomputable def TupsOn (H H':Hp):Prop:=∀b xs,H b=some (.tup xs)→H' b=some (.tup xs)
theorem TupsOn.trans{H H1 H2:Hp}(a:TupsOn H H1) (b:TupsOn H1 H2):TupsOn H H2:=fun c xs h=>b c xs (a c xs h)
section
variable {X:Cx}
noncomputable def ztU:V→Option Int→Option Int→Hp→VK→Prop:=fun x lo hi H Q=>∃z,x= .str z∧z.length≤sizeLine∧Q (.str (Txt.slice z lo hi)) H
theorem sl_str:SlR X ztU:=by
 intro pins s σ H x v vl vu lo hi sl Q I rx hs pl pu h;obtain⟨z,rfl,hz,q⟩:=h;obtain⟨t,rfl⟩:=rx;refine⟨"str",_,F.slot_str_getitem.lookup,typeIs_str _ _ _,?_⟩;obtain⟨o,ho,hc,hd⟩:=hs;have fin:∀t' k,EP X pins σ Q (.str (Txt.slice z lo hi) t') { s with toks:=k }:=fun t' k=>⟨.str _,H,I.tok _,⟨t',rfl⟩,q⟩;have le:=Nat.le_trans (Txt.slice_le z lo hi) hz;cases pl with
 |none=>
  cases pu with
  |none=>exact wpAny_getItem_str_slice (l:=none) (u:=none) (st:=none) ⟨o,ho,hc,hd⟩ rfl (post_val_or_str ⟨le,fin⟩)
  |int j u=>exact wpAny_getItem_str_slice (l:=none) (u:=some (j,u)) (st:=none) ⟨o,ho,hc,hd⟩ rfl (post_val_or_str ⟨le,fin⟩)
 |int i w=>
  cases pu with
  |none=>exact wpAny_getItem_str_slice (l:=some (i,w)) (u:=none) (st:=none) ⟨o,ho,hc,hd⟩ rfl (post_val_or_str ⟨le,fin⟩)
  |int j u=>exact wpAny_getItem_str_slice (l:=some (i,w)) (u:=some (j,u)) (st:=none) ⟨o,ho,hc,hd⟩ rfl (post_val_or_str ⟨le,fin⟩)
noncomputable def zrX (xs:List Nat) (lo hi:Option Int):List Nat:=(xs.drop (HT.sIx xs.length 0 lo)).take (HT.sIx xs.length xs.length hi - HT.sIx xs.length 0 lo)
theorem znj (lo hi:Option Int) (n:Nat):Builtin.Str.strSliceIndices lo hi 1 n=sliceRange ((HT.sIx n 0 lo:Nat):Int) ((HT.sIx n n hi:Nat):Int) 1:=by
 have one:(1:Int) > 0:=by decide
 have a:∀(v:Option Int) (d:Nat),(match v with |none=>(d:Int) |some i=>(if(1:Int) > 0 then max 0 (min (if i<0 then i+(n:Int) else i) (n:Int)) else max (-1) (min (if i<0 then i+(n:Int) else i) ((n:Int) - 1))))=((HT.sIx n d v:Nat):Int):=by
  intro v d;cases v with
  |none=>rfl
  |some i=>
   simp only[HT.sIx,one,if_true];by_cases h:i<0
   ·simp only[h,if_true];omega
   ·simp only[h,if_false];omega
 have l:=a lo 0;have u:=a hi n;unfold Builtin.Str.strSliceIndices;simp only[one,if_true]at l u⊢
 first
  |rw [l,u]
  | (cases lo<;>cases hi<;>simp_all)
theorem zlB (z:Str) (lo hi:Option Int):(Txt.slice z lo hi).cps.toList=zrX z.cps.toList lo hi:=by
 have hn:z.length=z.cps.toList.length:=by simp [Str.length]
 have hp:(Builtin.Str.strSliceIndices lo hi 1 z.length).filterMap (z.cps[·]?)=zrX z.cps.toList lo hi:=by
  rw [znj,sliceRange_one,pick_run,hn];rfl
 unfold Txt.slice;split
 ·rename_i h;have h1:(Builtin.Str.strSliceIndices lo hi 1 z.length).length=z.length:=by simpa using h
  rw [znj,sliceRange_one,List.length_map,List.length_range]at h1;have le1:=HT.sIx_le z.length z.length (Nat.le_refl _) hi;unfold zrX;rw [←hn];have e0:HT.sIx z.length 0 lo=0∨z.length=0:=by omega
  have hz:z.cps.toList.length=z.length:=hn.symm;rcases e0 with e0 |e0
  ·rw [e0,List.drop_zero,List.take_of_length_le (by omega)]
  ·have:z.cps.toList=[]:=List.eq_nil_of_length_eq_zero (by omega);rw [this];simp
 ·show(List.filterMap _ _).toArray.toList=_;rw [hp]
theorem zlO (hc:X.calm=true):CallR X (.builtin "all") (fun xs H Q=>∃(p:Addr) (bs:List Bool),xs=[.ref p]∧SqL X.K H p (bs.map V.bl)∧Q (.bl (bs.all id)) H):=by
 intro pins s σ H xs us Q I r h;obtain⟨p,bs,rfl,hq,q⟩:=h;obtain⟨u,rfl,rx⟩:=zhw r;cases rx;obtain⟨its,r',pl,hz⟩:=I.list hq;have hlen:bs.length=its.length:=by have:=r'.length;rw [List.length_map]at this;exact this
 have hp:p<s.heap.objs.size:=by obtain⟨o,n,e,_⟩:=pl;exact Heap.lt_size e
 have hd:X.A.in1.handled=none:=I.ok.hd hc;have get:∀(i:Nat) (v:Value),its.toArray[i]? =some v→v= .bool (bs.getD i false):=fun i v e=>by
  have e':its[i]? =some v:=by simpa using e
  have hi:i<bs.length:=by rw [hlen];exact(List.getElem?_eq_some_iff.mp e').1
  obtain⟨u,hu,ru⟩:=r'.get (i:=i) (x:= .bl (bs.getD i false)) (by rw [List.getElem?_map,List.getElem?_eq_getElem hi,List.getD_eq_getElem?_getD,List.getElem?_eq_getElem hi];rfl);rw [e']at hu;cases hu;exact ru
 refine call_all_walk (wpAny_pyIter_list pl.isList ?_);refine⟨s.heap.objs.size,_,_,_,_,_,fun i=>bs.getD i false,rfl,Walks.list hd _ p (Nat.ne_of_lt hp) its.toArray,⟨⟨_,Heap.get?_push_size _ rfl,rfl,rfl⟩,pl.isList.push _⟩,fun i v s' Q' E' hP hQ=>?_,fun h' tk hk=>?_⟩
 ·rw [get i v hP];exact wpAny_truthy_bool hQ
 ·have e:(List.range its.toArray.size).all (fun i=>bs.getD i false)=bs.all id:=by
   rw [List.size_toArray,←hlen];have:bs=(List.range bs.length).map fun i=>bs.getD i false:=by
    apply List.ext_getElem?;intro i;rw [List.getElem?_map];by_cases hi:i<bs.length
    ·rw [List.getElem?_range hi,List.getElem?_eq_getElem hi];show some bs[i]=some (bs.getD i false);rw [List.getD_eq_getElem?_getD,List.getElem?_eq_getElem hi];rfl
    ·rw [List.getElem?_eq_none (by omega),List.getElem?_eq_none (by simpa using hi)];rfl
   conv=>rhs;rw [this]
   rw [List.all_map];rfl
  have I1:Inv X pins σ H { s with heap:=h',toks:=tk }:=I.kept fun b o e=>hk b o (fun z=>by
   have z':b=s.heap.objs.size:=by simpa using z
   rw [z']at e;exact absurd (Heap.lt_size e) (Nat.lt_irrefl _)) (Heap.get?_push_of_some _ e)
  exact⟨.bl _,H,I1,by rw [e];exact rfl,q⟩
theorem zmV:CallR X (.builtin "isinstance") (fun xs H Q=>∃x t c b,xs=[x, .ty c]∧TyOf X.K H x t∧PySem.W.kitOne X.K t (.type c)=some b∧Q (.bl b) H):=by
 intro pins s σ H xs us Q I r h;obtain⟨x,t,c,b,rfl,ty,e,q⟩:=h;obtain⟨u,v,rfl,rx,ry⟩:=zrF r;cases(show v=Value.type c from ry);exact zkc I rx ty e fun tk=>⟨.bl b,H,I.tok _,rfl,q⟩
end
section
variable {X:Cx}
noncomputable def zqt (K:PySem.W.Frag):V→List V→Hp→VK→Prop:=fun x vs H Q=>∃(z:Str) (b:Addr) (ys:List Str),x= .str z∧vs=[.ref b]∧SqL K H b (ys.map V.str)∧(ys.map (·.length)).sum+ys.length*z.length≤16777216∧Q (.str (Str.join z ys)) H
theorem zpe{ys:List Str}:∀{us:List Value},Vals (ys.map V.str) us→StrsAre us ys:=by
 induction ys with
 |nil=>
  intro us r;cases r;exact .nil
 |cons y ys ih=>
  intro us r;cases r with
  |cons a b=>
   obtain⟨t,rfl⟩:=a;exact .cons y t (ih b)
theorem zpo:MtM X "str.join" (zqt X.K):=by
 intro pins s σ H x vs v us Q I rx rv h;obtain⟨z,b,ys,rfl,rfl,hB,hz,q⟩:=h;obtain⟨t,rfl⟩:=rx;obtain⟨u,rfl,ru⟩:=rv.one;cases ru;obtain⟨its,r,pl,_⟩:=I.list hB;refine join_list pl.isList (by simpa using zpe r) hz fun t' k=>⟨.str (Str.join z ys),H,I.tok _,⟨t',?_⟩,q⟩;show Value.str (Builtin.Str.glued z ys) t'=_;rw [StrLaws.glued_eq_join]
end
inductive W where
  |non |bl (b:Bool) |int (i:Int) |str (x:Str) |tup (ws:List W) |ref (a:Addr) |scr (ns:List Int)
inductive Ob where
  |lst (ws:List W)
  |dct (kvs:List (List Int×W))
  |ins (C:Addr) (fs:List (Str×W))
noncomputable abbrev Sto:=Addr→Option Ob
noncomputable def put (S:Sto) (a:Addr) (o:Ob):Sto:=fun b=>if b=a then some o else S b
noncomputable def FzL (K:PySem.W.Frag) (H:Hp) (a:Addr) (xs:List V):Prop:=
 (∃o,H a=some (.frz o (.lst xs)))∨
  ∃(o:Obj) (its:Array Value) (n:Nat),K.lookup a=some o∧o.cls= .type "list" ∧o.dict=none∧o.data= .seq its n∧its.size≤sizeLine∧Vals xs its.toList
mutual
inductive Rep (K:PySem.W.Frag) (H:Hp):W→V→Prop
 |non:Rep K H .non .non
 |bl (b:Bool):Rep K H (.bl b) (.bl b)
 |int (i:Int):Rep K H (.int i) (.int i)
 |str (x:Str):Rep K H (.str x) (.str x)
 |ref (a:Addr):Rep K H (.ref a) (.ref a)
 |scr {a:Addr}{ns:List Int}:FzL K H a (ns.map V.int)→Rep K H (.scr ns) (.ref a)
 |tup {a:Addr}{vs:List V}{ws:List W}:H a=some (.tup vs)→Reps K H ws vs→Rep K H (.tup ws) (.ref a)
inductive Reps (K:PySem.W.Frag) (H:Hp):List W→List V→Prop
 |nil:Reps K H [] []
 |cons {w:W}{v:V}{ws:List W}{vs:List V}:Rep K H w v→Reps K H ws vs→Reps K H (w::ws) (v::vs)
end
structure Ext (H:Hp) (S:Sto) (H':Hp) (S':Sto):Prop where
  tup:∀b xs,H b=some (.tup xs)→H' b=some (.tup xs)
  frz:∀b o u,H b=some (.frz o u)→H' b=some (.frz o u)
  fr:∀b xs,H b=some (.lst xs)→S b=none→H' b=some (.lst xs)∧S' b=none
  all:∀b o,H b=some o→ ∃o',H' b=some o'
noncomputable def Sub (S S':Sto):Prop:=∀a o,S a=some o→S' a=some o
section
variable {K:PySem.W.Frag}{H H' H1 H2:Hp}{S S' S1 S2:Sto}
theorem zag{a:Addr}{o:Ob}:put S a o a=some o:=by unfold put;rw [if_pos rfl]
theorem zaX{a b:Addr}{o:Ob}(h:b≠a):put S a o b=S b:=by unfold put;rw [if_neg h]
theorem zbt{a:Addr}{o o':Ob}:put (put S a o) a o'=put S a o':=by funext b;unfold put;split<;>rfl
theorem Ext.refl:Ext H S H S:=⟨fun _ _ h=>h,fun _ _ _ h=>h,fun _ _ h g=>⟨h,g⟩,fun _ o h=>⟨o,h⟩⟩
theorem Ext.trans (a:Ext H S H1 S1) (b:Ext H1 S1 H2 S2):Ext H S H2 S2:=⟨fun c xs h=>b.tup c xs (a.tup c xs h),fun c o u h=>b.frz c o u (a.frz c o u h),
 fun c o h g=>by
  obtain⟨h1,g1⟩:=a.fr c o h g;exact b.fr c o h1 g1,fun c o h=>by
  obtain⟨o1,h1⟩:=a.all c o h;exact b.all c o1 h1⟩
theorem Ext.new{p:Addr}{o:HO}(h:H p=none):Ext H S (upd H p o) S:=
  ⟨fun b xs e=>by rw [zas (zan e h)];exact e,fun b ob u e=>by rw [zas (zan e h)];exact e,
   fun b ob e g=>⟨by rw [zas (zan e h)];exact e,g⟩,fun b ob e=>⟨ob,by rw [zas (zan e h)];exact e⟩⟩
theorem Ext.newS{p:Addr}{o:HO}{ob:Ob}(h:H p=none):Ext H S (upd H p o) (put S p ob):=
  ⟨fun b xs e=>by rw [zas (zan e h)];exact e,fun b ob u e=>by rw [zas (zan e h)];exact e,
   fun b ob e g=>⟨by rw [zas (zan e h)];exact e,by rw [zaX (zan e h)];exact g⟩,fun b ob e=>⟨ob,by rw [zas (zan e h)];exact e⟩⟩
theorem Ext.mut{p:Addr}{o u:HO}{ob ob0:Ob}(h:H p=some u) (hs:S p=some ob0) (ht:∀xs,u≠ .tup xs) (hf:∀ob q,u≠ .frz ob q):Ext H S (upd H p o) (put S p ob):=
  ⟨fun b xs e=>by rw [zas (zlN e h fun z=>ht xs z.symm)];exact e,fun b ob q e=>by rw [zas (zlN e h fun z=>hf ob q z.symm)];exact e,
   fun b ob e g=>by
     have hb:b≠p:=by rintro rfl;rw [hs]at g;cases g
     exact⟨by rw [zas hb];exact e,by rw [zaX hb];exact g⟩,fun b ob e=>by
     by_cases hb:b=p
     · subst hb;exact⟨o,zay⟩
     · exact⟨ob,by rw [zas hb];exact e⟩⟩
theorem Ext.lst{p:Addr}{o:HO}{ob ob0:Ob}{xs:List V}(h:H p=some (.lst xs)) (hs:S p=some ob0):Ext H S (upd H p o) (put S p ob):= .mut h hs (fun _ z=>nomatch z) fun _ _ z=>nomatch z
theorem Ext.drop (h:Sub S' S):Ext H S H S':=⟨fun _ _ h=>h,fun _ _ _ h=>h,fun b o e g=>⟨e,by
 cases q:S' b with
 |none=>rfl
 |some z=>rw [h b z q]at g;cases g⟩,fun _ o h=>⟨o,h⟩⟩
theorem Ext.free (e:Ext H S H' S') {p:Addr}(h:H' p=none):H p=none:=by
 cases q:H p with
 |none=>rfl
 |some o=>obtain⟨o',z⟩:=e.all p o q;rw [h]at z;cases z
theorem Ext.fz{a:Addr}{xs:List V}(e:Ext H S H' S') (h:FzL K H a xs):FzL K H' a xs:=by
 rcases h with⟨o,h⟩ |h
 ·exact .inl ⟨o,e.frz _ _ _ h⟩
 ·exact .inr h
theorem FzL.sq{a:Addr}{xs:List V}(h:FzL K H a xs):SqL K H a xs:=by
 rcases h with⟨o,h⟩ |h
 ·exact .inl (.inr ⟨o,h⟩)
 ·exact .inr h
mutual
theorem Rep.ext (e:Ext H S H' S') {w:W}{v:V}:Rep K H w v→Rep K H' w v
 | .non=> .non
 | .bl b=> .bl b
 | .int i=> .int i
 | .str x=> .str x
 | .ref a=> .ref a
 | .scr h=> .scr (e.fz h)
 | .tup h hs=> .tup (e.tup _ _ h) (Reps.ext e hs)
theorem Reps.ext (e:Ext H S H' S') {ws:List W}{vs:List V}:Reps K H ws vs→Reps K H' ws vs
 | .nil=> .nil
 | .cons h hs=> .cons (Rep.ext e h) (Reps.ext e hs)
end
theorem Reps.length:∀{ws:List W}{vs:List V},Reps K H ws vs→ws.length=vs.length
 |_,_, .nil=>rfl
 |_,_, .cons _ hs=>congrArg (· +1) (Reps.length hs)
theorem Reps.get:∀{ws:List W}{vs:List V}{i:Nat}{w:W},Reps K H ws vs→ws[i]? =some w→ ∃v,vs[i]? =some v∧Rep K H w v
 |_,_,_,_, .nil,e=>by simp at e
 |_,_,0,_, .cons h _,e=>by simp at e;subst e;exact⟨_,rfl,h⟩
 |_,_,i+1,w, .cons _ hs,e=>by
  obtain⟨v,h1,h2⟩:=Reps.get (i:=i) (w:=w) hs (by simpa using e);exact⟨v,by simpa using h1,h2⟩
theorem Reps.append:∀{ws us:List W}{vs xs:List V},Reps K H ws vs→Reps K H us xs→Reps K H (ws++us) (vs++xs)
 |_,_,_,_, .nil,h=>h
 |_,_,_,_, .cons r t,h=> .cons r (Reps.append t h)
theorem Reps.take:∀{ws:List W}{vs:List V}(n:Nat),Reps K H ws vs→Reps K H (ws.take n) (vs.take n)
 |_,_,0,_=> .nil
 |_,_,_+1, .nil=> .nil
 |_,_,n+1, .cons r t=> .cons r (Reps.take n t)
theorem Reps.drop:∀{ws:List W}{vs:List V}(n:Nat),Reps K H ws vs→Reps K H (ws.drop n) (vs.drop n)
 |_,_,0,r=>r
 |_,_,_+1, .nil=> .nil
 |_,_,n+1, .cons _ t=>Reps.drop n t
theorem Reps.one{w:W}{v:V}(h:Rep K H w v):Reps K H [w] [v]:= .cons h .nil
theorem Reps.ofInts:∀(ns:List Int),Reps K H (ns.map W.int) (ns.map V.int)
 | []=> .nil
 |n::ns=> .cons (.int n) (Reps.ofInts ns)
end
noncomputable def RepO (K:PySem.W.Frag) (H:Hp) (a:Addr):Ob→Prop
 | .lst ws=>∃vs,H a=some (.lst vs)∧Reps K H ws vs
 | .dct kvs=>∃ps:List (List Key×V),H a=some (.dT ps)∧Paired (fun q p=>p.1=q.1.map Sum.inl∧Rep K H q.2 p.2) kvs ps
 | .ins C fs=>False
noncomputable def RepS (K:PySem.W.Frag) (H:Hp) (S:Sto):Prop:=∀a o,S a=some o→RepO K H a o
section
variable {K:PySem.W.Frag}{H H':Hp}{S S' S0 S0':Sto}{a b p:Addr}{o:Ob}
theorem Sub.refl:Sub S S:=fun _ _ h=>h
theorem Sub.trans{S1 S2 S3:Sto}(h:Sub S1 S2) (g:Sub S2 S3):Sub S1 S3:=fun a o e=>g a o (h a o e)
theorem Sub.new (h:S a=none):Sub S (put S a o):=fun b u e=>by rw [zaX (by rintro rfl;rw [h]at e;cases e)];exact e
theorem RepS.sub (h:RepS K H S') (q:Sub S S'):RepS K H S:=fun a o e=>h a o (q a o e)
theorem RepO.some (h:RepO K H a o):∃u,H a=some u:=by
 cases o with
 |lst ws=>obtain⟨vs,e,_⟩:=h;exact⟨_,e⟩
 |dct kvs=>obtain⟨vs,e,_⟩:=h;exact⟨_,e⟩
 |ins C fs=>exact h.elim
theorem RepS.free (h:RepS K H S) (e:H p=none):S p=none:=by
 cases q:S p with
 |none=>rfl
 |some o=>obtain⟨u,z⟩:=(h p o q).some;rw [e]at z;cases z
theorem RepO.keep (e:Ext H S0 H' S0') (k:∀u,H a=Option.some u→H' a=Option.some u) (h:RepO K H a o):RepO K H' a o:=by
 cases o with
 |lst ws=>obtain⟨vs,e1,r⟩:=h;exact⟨vs,k _ e1,r.ext e⟩
 |dct kvs=>obtain⟨vs,e1,r⟩:=h;exact⟨vs,k _ e1,Paired.mapP r fun _ _ z=>⟨z.1,z.2.ext e⟩⟩
 |ins C fs=>exact h.elim
theorem RepS.new{u:HO}(h:RepS K H S) (e:H p=none):RepS K (upd H p u) S:=fun a o q=>
 (h a o q).keep (.new (S:=S) e) fun v z=>by rw [zas (zan z e)];exact z
theorem RepS.put_lst{ws:List W}{vs:List V}(h:RepS K H S) (e:H p=none) (r:Reps K (upd H p (.lst vs)) ws vs):RepS K (upd H p (.lst vs)) (put S p (.lst ws)):=fun a o q=>by
 by_cases ha:a=p
 ·subst ha;rw [zag]at q;cases q;exact⟨vs,zay,r⟩
 ·rw [zaX ha]at q;exact h.new e a o q
theorem RepS.set_lst{ws0 ws:List W}{vs:List V}(h:RepS K H S) (e:S a=some (.lst ws0)) (r:Reps K H ws vs):Ext H S (upd H a (.lst vs)) (put S a (.lst ws))∧RepS K (upd H a (.lst vs)) (put S a (.lst ws)):=by
 obtain⟨vs0,e0,_⟩:=h a _ e;have x:Ext H S (upd H a (.lst vs)) (put S a (.lst ws)):= .lst e0 e;refine⟨x,fun b o q=>?_⟩;by_cases hb:b=a
 ·subst hb;rw [zag]at q;cases q;exact⟨vs,zay,r.ext x⟩
 ·rw [zaX hb]at q;exact(h b o q).keep x fun u z=>by rw [zas hb];exact z
end
noncomputable abbrev WSt:=List (Option W)
noncomputable abbrev WK:=W→Sto→Prop
noncomputable abbrev WX:=Str→WSt→Sto→Prop
noncomputable abbrev WE:=WX→WSt→Sto→WK→Prop
noncomputable abbrev WT:=WX→WSt→Sto→(Bool→Sto→Prop)→Prop
noncomputable abbrev WA:=WX→WSt→Sto→(List W→Sto→Prop)→Prop
structure WEnds where
  nx:WSt→Sto→Prop
  rt:WK
  bk:WSt→Sto→Prop:=fun _ _=>False
  ct:WSt→Sto→Prop:=fun _ _=>False
noncomputable abbrev WS:=WX→WEnds→WSt→Sto→Prop
noncomputable abbrev WG:=W→WSt→Sto→(WSt→Sto→Prop)→Prop
noncomputable abbrev WSp:=List W→Sto→WK→(Str→Sto→Prop)→Prop
noncomputable abbrev WI:=WX→WSt→Sto→(List W→(Sto→Prop)→Sto→Prop)→Prop
noncomputable abbrev WL:=WX→WSt→Sto→(List W→Sto→Prop)→Prop
noncomputable def RpO (K:PySem.W.Frag) (H:Hp):Option W→Option V→Prop
 |none,_=>True
 |some w,some v=>Rep K H w v
 |some _,none=>False
noncomputable def RpSt (K:PySem.W.Frag) (H:Hp) (σW:WSt) (σ:St):Prop:=Paired (RpO K H) σW σ
section
variable {K:PySem.W.Frag}{H H':Hp}{S S':Sto}
theorem RpO.ext (e:Ext H S H' S'):∀{w:Option W}{v:Option V},RpO K H w v→RpO K H' w v
 |none,_,_=>trivial
 |some _,some _,h=>Rep.ext e h
 |some _,none,h=>h.elim
theorem RpSt.ext (e:Ext H S H' S') {σW:WSt}{σ:St}(h:RpSt K H σW σ):RpSt K H' σW σ:=Paired.mapP h fun _ _ r=>RpO.ext e r
theorem RpSt.get:∀{σW:WSt}{σ:St}{i:Nat}{w:W},RpSt K H σW σ→σW[i]? =some (some w)→ ∃v,σ[i]? =some (some v)∧Rep K H w v
 |_,_,_,_, .nil,e=>by simp at e
 |_,_,0,_, .cons (b:=b) h _,e=>by
  simp at e;subst e;cases b with
  |none=>exact(show False from h).elim
  |some v=>exact⟨v,rfl,h⟩
 |_,_,i+1,w, .cons _ hs,e=>by
  obtain⟨v,h1,h2⟩:=RpSt.get (i:=i) (w:=w) hs (by simpa using e);exact⟨v,by simpa using h1,h2⟩
theorem RpSt.set{w:W}{v:V}(h:Rep K H w v):∀{σW:WSt}{σ:St}(i:Nat),RpSt K H σW σ→RpSt K H (σW.set i (some w)) (σ.set i (some v))
 |_,_,_, .nil=> .nil
 |_,_,0, .cons _ t=> .cons h t
 |_,_,i+1, .cons q t=> .cons q (RpSt.set h i t)
end
noncomputable def Wish (K:PySem.W.Frag) (H:Hp) (S:Sto) (QW:WK) (Q:VK):Prop:=∀w S' v H',Ext H S H' S'→Rep K H' w v→RepS K H' S'→QW w S'→Q v H'
noncomputable def zrY (K:PySem.W.Frag) (t:WSt→Sto→WK→Prop):TE:=fun σ H Q=>∃σW S QW,RpSt K H σW σ∧RepS K H S∧t σW S QW∧Wish K H S QW Q
noncomputable def zoN (K:PySem.W.Frag) (t:WSt→Sto→(Bool→Sto→Prop)→Prop):TT:=fun σ H Q=>∃σW S QW,RpSt K H σW σ∧RepS K H S∧t σW S QW∧ ∀b S' H',Ext H S H' S'→RepS K H' S'→QW b S'→Q b H'
noncomputable def zsv (K:PySem.W.Frag) (t:WSt→Sto→(List W→Sto→Prop)→Prop):TA:=fun σ H Q=>∃σW S QW,RpSt K H σW σ∧RepS K H S∧t σW S QW∧ ∀ws S' vs H',Ext H S H' S'→Reps K H' ws vs→RepS K H' S'→QW ws S'→Q vs H'
noncomputable def Goes (K:PySem.W.Frag) (H:Hp) (S:Sto) (P:WSt→Sto→Prop) (Q:St→Hp→Prop):Prop:=∀σW S' σ H',Ext H S H' S'→RpSt K H' σW σ→RepS K H' S'→P σW S'→Q σ H'
structure Meets (K:PySem.W.Frag) (H:Hp) (S:Sto) (DW:WEnds) (D:Ends):Prop where
  nx:Goes K H S DW.nx D.nx
  rt:Wish K H S DW.rt D.rt
  bk:Goes K H S DW.bk D.bk
  ct:Goes K H S DW.ct D.ct
noncomputable def zrP (K:PySem.W.Frag) (t:WEnds→WSt→Sto→Prop):TS:=fun D σ H=>∃σW S DW,RpSt K H σW σ∧RepS K H S∧t DW σW S∧Meets K H S DW D
noncomputable def zsh (K:PySem.W.Frag) (t:WG):TG:=fun v σ H Q=>∃w σW S P,Rep K H w v∧RpSt K H σW σ∧RepS K H S∧t w σW S P∧Goes K H S P Q
noncomputable def ItW (K:PySem.W.Frag) (J:It) (ws:List W) (G:Sto→Prop) (H0:Hp) (S0:Sto):Prop:=∀i S H,Ext H0 S0 H S→RepS K H S→G S→
 (∀w,ws[i]? =some w→J.go i H∧ ∀x H',J.yld i H x H'→Ext H S H' S∧RepS K H' S∧Rep K H' w x)∧(i=ws.length→J.stop i H)
noncomputable def zqw (K:PySem.W.Frag) (t:WSt→Sto→(List W→(Sto→Prop)→Sto→Prop)→Prop):TI:=fun σ H R=>∃σW S QW,RpSt K H σW σ∧RepS K H S∧t σW S QW∧
 ∀ws G S' J H',Ext H S H' S'→RepS K H' S'→G S'→ItW K J ws G H' S'→QW ws G S'→R J H'
noncomputable def zrt (K:PySem.W.Frag) (t:WSt→Sto→(List W→Sto→Prop)→Prop):TE:=fun σ H Q=>∃σW S QW,RpSt K H σW σ∧RepS K H S∧t σW S QW∧
 ∀ws S' vs a H',Ext H S H' S'→H a=none→H' a=some (.lst vs)→S' a=none→Reps K H' ws vs→RepS K H' S'→QW ws S'→Q (.ref a) H'
noncomputable def zch (K:PySem.W.Frag) (sp:WSp):Sp:=fun vs H Q E=>∃ws S QW EW,Reps K H ws vs∧RepS K H S∧sp ws S QW EW∧Wish K H S QW Q∧
 ∀cl C S' H',PySem.W.nsIn K mainGlobals cl=some (some (.ref C))→RepS K H' S'→EW cl S'→E (.ref C) none H'
noncomputable def Fly (g h:Heap) (H:Hp) (a C:Addr):Prop:=g.get? a=none∧H a=none∧ ∃oe vs T oT ts,h.get? a=some oe∧oe.cls= .ref C∧oe.data= .fields vs∧vs[1]? =some (.ref T)∧
 g.get? T=none∧H T=none∧T≠a∧h.get? T=some oT∧oT.data= .fields ts∧ts[3]? =some .none
noncomputable def CX1 (P:Program) (w:World):CXT:=fun outer H s E e s'=>∃a C H',e= .ref a∧s'.os=s.os∧AllBare s'.gens∧Un (frs outer) [] H H' s.heap s'.heap∧HOk P w H' s'.heap∧Fly s.heap s'.heap H' a C∧E (.ref C) none H'
structure Hook (X:Cx) (E:WX):Prop where
  own:PassesOwn (model X.prog X.w) X.A X.env X.xe
  far:∀(pins:List (Addr×Obj)) (σ:St) (H:Hp) (s:Shared) (σW:WSt) (cl:Str) (C a:Addr) (H':Hp) (S':Sto) (s':Shared),Inv X pins σ H s→RpSt X.K H σW σ→PySem.W.nsIn X.K mainGlobals cl=some (some (.ref C))→
    s'.os=s.os→AllBare s'.gens→Un (frs X.stack) [] H H' s.heap s'.heap→HOk X.prog X.w H' s'.heap→Fly s.heap s'.heap H' a C→RepS X.K H' S'→E cl σW S'→X.xe (.ref a) s'
  near:∀(pins:List (Addr×Obj)) (σ:St) (H:Hp) (s:Shared) (σW:WSt) (cl:Str) (C a:Addr) (S:Sto) (h':Heap) (args:List Value),Inv X pins σ H s→RpSt X.K H σW σ→PySem.W.nsIn X.K mainGlobals cl=some (some (.ref C))→
    Heap.MadeExcOf s.heap h' a (.ref C) args→RepS X.K H S→E cl σW S→X.xe (.ref a) { s with heap:=h' }
noncomputable def JE (X:Cx) (e:Expr) (t:WE):Prop:=∀E,Hook X E→PE X e (zrY X.K (t E))
noncomputable def JT (X:Cx) (e:Expr) (t:WT):Prop:=∀E,Hook X E→PT X e (zoN X.K (t E))
noncomputable def JW (X:Cx) (e:Expr) (t:WT):Prop:=∀E,Hook X E→PW X e (zoN X.K (t E))
noncomputable def JA (X:Cx) (es:List Expr) (t:WA):Prop:=∀E,Hook X E→PA X es (zsv X.K (t E))
noncomputable def JS (X:Cx) (st:Stmt) (t:WS):Prop:=∀E,Hook X E→PS X st (zrP X.K (t E))
noncomputable def JSs (X:Cx) (st:List Stmt) (t:WS):Prop:=∀E,Hook X E→PSs X st (zrP X.K (t E))
noncomputable def JG (X:Cx) (tg:Expr) (t:WG):Prop:=∀E,Hook X E→PG X tg (zsh X.K t)
noncomputable def JI (X:Cx) (tg iter:Expr) (t:WI):Prop:=∀E,Hook X E→PI X tg iter (zqw X.K (t E))
noncomputable def JL (X:Cx) (e:Expr) (t:WL):Prop:=∀E,Hook X E→PE X e (zrt X.K (t E))
theorem PE.mono{X:Cx}{e:Expr}{t t':TE}(h:PE X e t) (q:∀σ H Q,t' σ H Q→t σ H Q):PE X e t':=fun pins s σ H Q I z=>h pins s σ H Q I (q σ H Q z)
theorem PT.mono{X:Cx}{e:Expr}{t t':TT}(h:PT X e t) (q:∀σ H Q,t' σ H Q→t σ H Q):PT X e t':=fun pins s σ H Q I z=>h pins s σ H Q I (q σ H Q z)
theorem PW.mono{X:Cx}{e:Expr}{t t':TT}(h:PW X e t) (q:∀σ H Q,t' σ H Q→t σ H Q):PW X e t':=fun wh pins s σ H Q I z=>h wh pins s σ H Q I (q σ H Q z)
theorem PA.mono{X:Cx}{e:List Expr}{t t':TA}(h:PA X e t) (q:∀σ H Q,t' σ H Q→t σ H Q):PA X e t':=fun pos pins s σ H Q I z=>h pos pins s σ H Q I (q σ H Q z)
theorem PS.mono{X:Cx}{e:Stmt}{t t':TS}(h:PS X e t) (q:∀D σ H,t' D σ H→t D σ H):PS X e t':=fun pins s σ H D I z=>h pins s σ H D I (q D σ H z)
theorem PSs.mono{X:Cx}{e:List Stmt}{t t':TS}(h:PSs X e t) (q:∀D σ H,t' D σ H→t D σ H):PSs X e t':=fun pins s σ H D I z=>h pins s σ H D I (q D σ H z)
theorem PG.mono{X:Cx}{e:Expr}{t t':TG}(h:PG X e t) (q:∀v σ H Q,t' v σ H Q→t v σ H Q):PG X e t':=fun pins s σ H v u Q I r z=>h pins s σ H v u Q I r (q v σ H Q z)
theorem PI.mono{X:Cx}{tg e:Expr}{t t':TI}(h:PI X tg e t) (q:∀σ H R,t' σ H R→t σ H R):PI X tg e t':=fun pins s σ H R I z=>h pins s σ H R I (q σ H R z)
noncomputable def zaf (i:Nat):WE:=fun _ σ S Q=>match σ[i]? with
 |some (some w)=>Q w S
 |_=>False
noncomputable def wC (w:W):WE:=fun _ _ S Q=>Q w S
section
variable {X:Cx}
theorem jv (i:Nat) {x:Str}{pos:Pos}(hN:X.N[i]? =some x:=by rfl) (hv:Vis X.env.scope x:=by first |exact Or.inl rfl |exact Or.inr (Or.inl rfl) |exact Or.inr (Or.inr rfl)) (hd:(x == ("__debug__" :Str))=false:=by decide)
  (hcd:(x == ("__classdict__" :Str))=false:=by decide):JE X (.Name x pos) (zaf i):=fun E hE=>(znz hN hv hd hcd).mono fun σ H Q ⟨σW,S,QW,hσ,hS,ht,hQ⟩=>by
 unfold zaf at ht;split at ht
 ·rename_i w e;obtain⟨v,e',r⟩:=hσ.get e;exact⟨v,e',hQ w S v H .refl r hS ht⟩
 ·exact ht.elim
theorem zkx{e:Expr}{v:V}{w:W}(h:PE X e (tC v)) (r:∀K H,Rep K H w v):JE X e (wC w):=fun E hE=>h.mono fun σ H Q ⟨σW,S,QW,hσ,hS,ht,hQ⟩=>hQ w S v H .refl (r _ _) hS ht
theorem zac{i j pos}:JE X (.Constant (.int i) j pos) (wC (.int i)):=zkx zrb fun _ _=> .int i
theorem zhH{b j pos}:JE X (.Constant (.bool b) j pos) (wC (.bl b)):=zkx zsP fun _ _=> .bl b
theorem zkA{j pos}:JE X (.Constant .none j pos) (wC .non):=zkx zqq fun _ _=> .non
theorem ziG{x j pos}:JE X (.Constant (.str x) j pos) (wC (.str x)):=zkx zqI fun _ _=> .str x
theorem zpt{x:Str}{i:Int}{u:Tok}{pos:Pos}(hg:Gl X x) (hm:X.mg x=some (.int i u)) (hd:(x == ("__debug__" :Str))=false:=by decide):JE X (.Name x pos) (wC (.int i)):=zkx (v:= .int i) (zoG hg hm ⟨u,rfl⟩ hd) fun _ _=> .int i
end
noncomputable abbrev W2:=W→W→Sto→WK→Prop
noncomputable def wOp (r:W2) (a b:WE):WE:=fun E σ S Q=>a E σ S fun x S1=>b E σ S1 fun y S2=>r x y S2 Q
noncomputable def OpW (K:PySem.W.Frag) (r:R2) (wr:W2):Prop:=∀H x y wx wy S (Q:VK) (QW:WK),Rep K H wx x→Rep K H wy y→RepS K H S→wr wx wy S QW→Wish K H S QW Q→r x y H Q
theorem Wish.from{K:PySem.W.Frag}{H H':Hp}{S S':Sto}{QW:WK}{Q:VK}(h:Wish K H S QW Q) (e:Ext H S H' S'):Wish K H' S' QW Q:=fun w S v H'' e' r hS q=>h w S v H'' (e.trans e') r hS q
theorem Goes.from{K:PySem.W.Frag}{H H':Hp}{S S':Sto}{P:WSt→Sto→Prop}{Q:St→Hp→Prop}(h:Goes K H S P Q) (e:Ext H S H' S'):Goes K H' S' P Q:=fun σW S σ H'' e' r hS q=>h σW S σ H'' (e.trans e') r hS q
theorem Meets.from{K:PySem.W.Frag}{H H':Hp}{S S':Sto}{DW:WEnds}{D:Ends}(h:Meets K H S DW D) (e:Ext H S H' S'):Meets K H' S' DW D:=⟨h.nx.from e,h.rt.from e,h.bk.from e,h.ct.from e⟩
section
variable {X:Cx}{a b:Expr}{pos:Pos}
theorem zed{K:PySem.W.Frag}{ta tb:WSt→Sto→WK→Prop}{wr:W→W→Sto→WK→Prop}{σ:St}{H:Hp}{Q:VK}{R:V→V→Hp→Prop}
  (h:zrY K (fun σ S Q=>ta σ S fun x S1=>tb σ S1 fun y S2=>wr x y S2 Q) σ H Q)
  (hR:∀H2 x y wx wy S (QW:WK),Rep K H2 wx x→Rep K H2 wy y→RepS K H2 S→wr wx wy S QW→Wish K H2 S QW Q→R x y H2) :
  zrY K ta σ H fun x H1=>zrY K tb σ H1 fun y H2=>R x y H2:=by
 obtain⟨σW,S,QW,hσ,hS,ht,hQ⟩:=h;refine⟨σW,S,_,hσ,hS,ht,fun w1 S1 v1 H1 e1 r1 hS1 h1=>?_⟩;refine⟨σW,S1,_,hσ.ext e1,hS1,h1,fun w2 S2 v2 H2 e2 r2 hS2 h2=>?_⟩;exact hR H2 v1 v2 w1 w2 S2 QW (r1.ext e2) r2 hS2 h2 (hQ.from (e1.trans e2))
theorem zjh{op:Operator}{r:R2}{wr:W2}{ta tb:WE}(ho:OpR X (binaryOp op) r) (hw:OpW X.K r wr) (ha:JE X a ta) (hb:JE X b tb):JE X (.BinOp a op b pos) (wOp wr ta tb):=fun E hE=>
 (zku ho (ha E hE) (hb E hE)).mono fun σ H Q h=>zed h fun H2 x y wx wy S QW rx ry hS q hQ=>hw H2 x y wx wy S Q QW rx ry hS q hQ
theorem zpT{op:CmpOp}{r:R2}{wr:W2}{ta tb:WE}(ho:OpR X (compareOp op) r) (hw:OpW X.K r wr) (ha:JE X a ta) (hb:JE X b tb) (hm:behindInMarks op b=false):JE X (.Compare a [op] [b] pos) (wOp wr ta tb):=fun E hE=>
 (zoa ho (ha E hE) (hb E hE) hm).mono fun σ H Q h=>zed h fun H2 x y wx wy S QW rx ry hS q hQ=>hw H2 x y wx wy S Q QW rx ry hS q hQ
end
theorem ObjOk.ex{P:Program}{w:World}{H:Hp}{h:Heap}{a:Addr}{o:HO}(x:ObjOk P w H h a o):∃u,h.get? a=some u:=by
 cases o with
 |lst xs=>obtain⟨_,_,_,_,e⟩:=x;exact⟨_,e⟩
 |tup xs=>obtain⟨_,_,_,o,e,_⟩:=x;exact⟨_,e⟩
 |dK kvs=>obtain⟨_,_,_,_,o,_,_,e,_⟩:=x;exact⟨_,e⟩
 |dT kvs=>obtain⟨_,_,_,_,o,_,_,e,_⟩:=x;exact⟨_,e⟩
 |set S n=>obtain⟨o,_,_,_,e,_⟩:=x;exact⟨_,e⟩
 |ins C dx fs=>obtain⟨_,_,_,e,_⟩:=x;exact⟨_,e⟩
 |own y=>exact x
 |xd fs=>obtain⟨_,⟨_,_,_,e,_⟩,_⟩:=x;exact⟨_,e⟩
 |rng lo hi=>obtain⟨_,_,_,e⟩:=x;exact⟨_,e⟩
 |frz ob u=>obtain⟨e,_⟩:=x;exact⟨_,e⟩
 |tbl ps=>exact⟨_,show h.get? a=some _ from x⟩
 |met f y=>exact⟨_,show h.get? a=some _ from x⟩
 |ext φ=>exact x.2.1
noncomputable def unt (H:Hp) (S:Sto):Hp:=fun b=>match H b with
 |some (.lst xs)=>match S b with
  |none=>none
  |some _=>some (.lst xs)
 |o=>o
noncomputable def rtk (H:Hp) (S:Sto) (H':Hp):Hp:=fun b=>match unt H S b with
 |none=>match H b with
  |some o=>some o
  |none=>H' b
 |some _=>match H' b with
  |some o=>some o
  |none=>some (.ext fun h=>∃o,h.get? b=some o)
section
variable {w:World}{K:PySem.W.Frag}{H:Hp}{S:Sto}{h:Heap}{b:Addr}{o:HO}
theorem zhX (e:unt H S b=some o):H b=some o:=by
 unfold unt at e;split at e
 ·rename_i xs q;split at e
  ·cases e
  ·rw [q];exact e
 ·exact e
theorem zdn (e:H b=none):unt H S b=none:=by unfold unt;rw [e]
theorem ziw (e:H b=some o) (n:∀xs,o≠ .lst xs):unt H S b=some o:=by
 unfold unt;rw [e];cases o<;>first |rfl |exact absurd rfl (n _)
theorem znE{u:Ob}(e:H b=some o) (hs:S b=some u):unt H S b=some o:=by
 unfold unt;rw [e];cases o<;>first |rfl | (dsimp only;rw [hs])
theorem zjQ{xs:List V}(e:H b=some (.lst xs)) (hs:S b=none):unt H S b=none:=by
 unfold unt;rw [e];dsimp only;rw [hs]
theorem zqU (e:unt H S b=none) (q:H b=some o):(∃xs,o= .lst xs)∧S b=none:=by
 unfold unt at e;rw [q]at e;cases o<;>first |cases e |skip;rename_i xs;dsimp only at e;split at e
 ·exact⟨⟨xs,rfl⟩, ‹_›⟩
 ·cases e
mutual
theorem Rep.mv{H1:Hp}(t:∀b xs,H b=some (.tup xs)→H1 b=some (.tup xs)) (f:∀b o u,H b=some (.frz o u)→H1 b=some (.frz o u)) {w:W}{v:V}:Rep K H w v→Rep K H1 w v
 | .non=> .non
 | .bl b=> .bl b
 | .int i=> .int i
 | .str x=> .str x
 | .ref a=> .ref a
 | .scr h=> .scr (by
  rcases h with⟨o,h⟩ |h
  ·exact .inl ⟨o,f _ _ _ h⟩
  ·exact .inr h)
 | .tup h hs=> .tup (t _ _ h) (Reps.mv t f hs)
theorem Reps.mv{H1:Hp}(t:∀b xs,H b=some (.tup xs)→H1 b=some (.tup xs)) (f:∀b o u,H b=some (.frz o u)→H1 b=some (.frz o u)) {ws:List W}{vs:List V}:Reps K H ws vs→Reps K H1 ws vs
 | .nil=> .nil
 | .cons h hs=> .cons (Rep.mv t f h) (Reps.mv t f hs)
end
theorem zem:∀b xs,H b=some (.tup xs)→unt H S b=some (.tup xs):=fun b xs e=>ziw e fun _ z=>nomatch z
theorem zfo:∀b o u,H b=some (.frz o u)→unt H S b=some (.frz o u):=fun b o u e=>ziw e fun _ z=>nomatch z
theorem RepS.unt (r:RepS K H S):RepS K (unt H S) S:=fun a o e=>by
 have q:=r a o e;cases o with
 |lst ws=>obtain⟨vs,z,rs⟩:=q;exact⟨vs,znE z e,Reps.mv zem zfo rs⟩
 |dct kvs=>obtain⟨ps,z,rs⟩:=q;exact⟨ps,znE z e,Paired.mapP rs fun _ _ z=>⟨z.1,Rep.mv zem zfo z.2⟩⟩
 |ins C fs=>exact q.elim
theorem HOk.unt (x:HOk P w H h):HOk P w (unt H S) h:=fun a o e=>
 (x a o (zhX e)).stay (fun _ _ _ q=>q) (fun b q=>ziw q fun _ z=>nomatch z) fun b xs q=>zem b xs q
theorem zdi (ok:HOk P w H h) (un:Un fs [] (unt H S) H' h h') (e:H' b=some o):rtk H S H' b=some o:=by
 unfold rtk;split
 ·rename_i q;split
  ·rename_i u z;obtain⟨ob,eo⟩:=(ok b u z).ex;rw [un.free b ob eo q (by simp)]at e;cases e
  ·exact e
 ·rw [e]
theorem ziN (un:Un fs [] (unt H S) H' h h') (ok:HOk P w H h):Un fs [] H (rtk H S H') h h' where
  keep:=fun b o e n hb hx=>un.keep b o e (zdn n) hb hx
  slot:=fun b o e n hb hx=>un.slot b o e (zdn n) hb hx
  free:=fun b o e n hx=>by
    unfold rtk;rw [zdn n,n];exact un.free b o e (zdn n) hx
  there:=un.there
  tups:=fun b xs e=>zdi ok un (un.tups b xs (zem b xs e))
  frzs:=fun b o u e=>zdi ok un (un.frzs b o u (zfo b o u e))
  tbls:=fun b ps e=>by
    obtain⟨m,z⟩:=un.tbls b ps (ziw e fun _ z=>nomatch z);exact⟨m,zdi ok un z⟩
theorem znI (un:Un fs [] (unt H S) H' h h') (ok:HOk P w H h) (ok':HOk P w H' h') (hf:∀b∈fs,H b=none):HOk P w (rtk H S H') h':=fun b o e=>by
 have back:∀{o},H' b=some o→ObjOk P w (rtk H S H') h' b o:=fun {o} q=>(ok' b o q).stay (fun _ _ _ z=>z) (fun c z=>zdi ok un z) fun c xs z=>zdi ok un z;unfold rtk at e;split at e
 ·rename_i q;split at e
  ·rename_i u z;cases e;obtain⟨⟨xs,rfl⟩,_⟩:=zqU q z;obtain⟨l,its,n,r,g⟩:=ok b _ z;exact⟨l,its,n,r,un.keep b _ g q (fun hb=>by rw [hf b hb]at z;cases z) (by simp)⟩
  ·exact back e
 ·rename_i u q;split at e
  ·rename_i u' z;cases e;exact back z
  ·rename_i z;cases e;obtain⟨ob,eo⟩:=(ok b u (zhX q)).ex;obtain⟨ob',eo'⟩:=un.there b ob eo (by simp);exact⟨⟨ob',eo'⟩,⟨ob',eo'⟩,fun h1 h2 ⟨o,z⟩ k=>⟨o,k o z⟩⟩
theorem zoZ (e:H b=some o):∃o',rtk H S H' b=some o':=by
 unfold rtk;split
 ·rw [e];exact⟨_,rfl⟩
 ·split
  ·exact⟨_,rfl⟩
  ·exact⟨_,rfl⟩
theorem zkb (un:Un fs [] (unt H S) H' h h') (ok:HOk P w H h) (r:RepS K H' S'):Ext H S (rtk H S H') S' where
  tup:=fun b xs e=>(ziN un ok).tups b xs e
  frz:=fun b o u e=>(ziN un ok).frzs b o u e
  fr:=fun b xs e hs=>by
    refine⟨?_,?_⟩
    · unfold rtk;rw [zjQ e hs,e]
    · cases q:S' b with
      |none=>rfl
      |some u=>
        obtain⟨v,z⟩:=(r b u q).some;obtain⟨ob,eo⟩:=(ok b _ e).ex;rw [un.free b ob eo (zjQ e hs) (by simp)]at z;cases z
  all:=fun b o e=>zoZ e
theorem znh (un:Un fs [] (unt H S) H' h h') (ok:HOk P w H h):Ext H' S' (rtk H S H') S' where
  tup:=fun b xs e=>zdi ok un e
  frz:=fun b o u e=>zdi ok un e
  fr:=fun b xs e hs=>⟨zdi ok un e,hs⟩
  all:=fun b o e=>⟨o,zdi ok un e⟩
theorem zqW (un:Un fs [] (unt H S) H' h h') (ok:HOk P w H h) (r:RepS K H' S'):RepS K (rtk H S H') S':=fun a o e=>(r a o e).keep (znh (S':=S') un ok) fun u z=>zdi ok un z
end
theorem zsx{X:Cx}{k:Nat}{f:Addr}{fd:FuncData}{ps:List Str}{c:WSp}{E:WX}{pins:List (Addr×Obj)}{σ:St}{σW:WSt}{H:Hp}{S:Sto}{s:Shared}{Q:VK}{QW:WK}{us:List Value}{vs:List V}{ws:List W}
  (F:FnOk X.prog X.w X.K X.mg X.base (CX1 X.prog X.w) k f fd ps (zch X.K c)) (hr:Room k X.A) (hb:Binds X.K fd ps []) (I:Inv X pins σ H s) (r:Vals vs us) (rs:Reps X.K H ws vs) (hσ:RpSt X.K H σW σ) (hS:RepS X.K H S)
  (h:c ws S QW fun cl S'=>E cl σW S') (hQ:Wish X.K H S QW Q)
  (hx:∀(cl:Str) (C a:Addr) (H':Hp) (S':Sto) (s':Shared),PySem.W.nsIn X.K mainGlobals cl=some (some (.ref C))→s'.os=s.os→AllBare s'.gens→Un (frs X.stack) [] H H' s.heap s'.heap→HOk X.prog X.w H' s'.heap→Fly s.heap s'.heap H' a C→Ext H S H' S'→RepS X.K H' S'→E cl σW S'→X.xe (.ref a) s'):wpAny (model X.prog X.w) X.A (call (.ref f) us) (EP X pins σ Q) X.xe s:=by
 have e0:=I.env0;have sp:zch X.K c vs (unt H S) (fun v H'=>∃w S',Rep X.K H' w v∧RepS X.K H' S'∧QW w S') (fun cv _ H'=>∃cl C S',cv= .ref C∧PySem.W.nsIn X.K mainGlobals cl=some (some (.ref C))∧RepS X.K H' S'∧E cl σW S'):=
  ⟨ws,S,QW,_,Reps.mv zem zfo rs,hS.unt,h,fun w S' v H' _ r1 r2 q=>⟨w,S',r1,r2,q⟩,fun cl C S' H' hn hS' q=>⟨cl,C,S',rfl,hn,hS',q⟩⟩
 have e1:Env0 X.prog X.w X.K X.mg X.base X.A X.stack s (unt H S):=⟨e0.frames,e0.mod,fun b o e=>⟨(e0.bs b o e).1,zdn (e0.bs b o e).2⟩,e0.bsz,e0.funs,fun b hb=>zdn (e0.frf b hb),e0.hok.unt,e0.bare⟩;have hl:us.length=ps.length:=by rw [←r.length];exact F.len _ _ _ _ sp
 have hb':=hb s us I.kIn (by rw [List.append_nil];exact hl);rw [List.append_nil]at hb';refine wpAny_call (codeAny_mono (F.run X.A X.stack s (unt H S) ⟨us,[]⟩ us vs _ _ hr e1 hb' r sp) fun rr s' hq=>?_);cases rr with
 |error e=>
  obtain⟨a,C,H',rfl,os,bare,un,ok',fly,cl,C',S',ec,hn,hS',q⟩:=hq;cases ec;refine hx cl C a (rtk H S H') S' s' hn os bare (ziN un I.hok) (znI un I.hok ok' e0.frf) ?_ (zkb un I.hok hS') (zqW un I.hok hS') q;obtain⟨g1,g2,oe,vs',T,oT,ts,a1,a2,a3,a4,a5,a6,a7⟩:=fly;have free:∀{b:Addr},s.heap.get? b=none→H' b=none→rtk H S H' b=none:=fun {b} q1 q2=>by
   have hn:H b=none:=by
    cases z:H b with
    |none=>rfl
    |some u=>obtain⟨ob,eo⟩:=(I.hok b u z).ex;rw [q1]at eo;cases eo
   unfold rtk;rw [zdn hn,hn];exact q2
  exact⟨g1,free g1 g2,oe,vs',T,oT,ts,a1,a2,a3,a4,a5,free a5 a6,a7⟩
 |ok fl=>
  cases fl with
  |ret u=>
   obtain⟨v,H',os,bare,un,ok',rv,w,S',r1,r2,q⟩:=hq;exact⟨v,rtk H S H',I.call' os (ziN un I.hok) (znI un I.hok ok' e0.frf) bare (fun _ z=>nomatch z),rv,hQ w S' v _ (zkb un I.hok r2) (r1.ext (znh (S':=S') un I.hok)) (zqW un I.hok r2) q⟩
  |next=>exact False.elim hq
  |brk=>exact False.elim hq
  |cont=>exact False.elim hq
theorem ztg{X:Cx}{k:Nat}{f:Addr}{fd:FuncData}{ps:List Str}{c:WSp}{E:WX}{pins:List (Addr×Obj)}{σ:St}{σW:WSt}{H:Hp}{S:Sto}{s:Shared}{Q:VK}{QW:WK}{us:List Value}{vs:List V}{ws:List W}
  (F:FnOk X.prog X.w X.K X.mg X.base (CX1 X.prog X.w) k f fd ps (zch X.K c)) (hr:Room k X.A) (hb:Binds X.K fd ps []) (hE:Hook X E) (I:Inv X pins σ H s) (r:Vals vs us) (rs:Reps X.K H ws vs) (hσ:RpSt X.K H σW σ) (hS:RepS X.K H S)
  (h:c ws S QW fun cl S'=>E cl σW S') (hQ:Wish X.K H S QW Q):wpAny (model X.prog X.w) X.A (call (.ref f) us) (EP X pins σ Q) X.xe s:=
 zsx (E:=E) F hr hb I r rs hσ hS h hQ fun cl C a H' S' s' hn os bare un ok fly _ hS' q=>hE.far pins σ H s σW cl C a H' S' s' I hσ hn os bare un ok fly hS' q
theorem zke{X:Cx}{pins:List (Addr×Obj)}{σ:St}{H':Hp}{s':Shared}{a C:Addr}{hid:List Addr}{h':Heap}(I:Inv X pins σ H' s') (hst:X.stack=X.env::X.outer) (hf:X.env.frame=some X.env.locals) (hex:X.ex=[])
  (h0:∀b∈hid,X.s₀.heap.get? b=none∧H' b=none) (ha:a∈hid) (L:Heap.Left (PySem.W.hideAll s'.heap (hid++frs X.stack)) X.stack a (.ref C) s'.heap h') :
  Un X.fs [] X.H₀ H' X.s₀.heap h'∧HOk X.prog X.w H' h'∧Fly X.s₀.heap h' H' a C:=by
 obtain⟨st,ff,tr,sl⟩:=L;have keepB:∀b o,s'.heap.get? b=some o→b∉hid→b∉frs X.stack→h'.get? b=some o:=fun b o e h1 h2=>st b o (PySem.W.hideAll_get _ e fun z=>(List.mem_append.mp z).elim h1 h2);have nh:∀b o,X.s₀.heap.get? b=some o→b∉hid:=fun b o e hb=>by rw [(h0 b hb).1]at e;cases e
 have slotB:∀b o,b∈frs X.stack→s'.heap.get? b=some o→ ∃sl,h'.get? b=some { o with slots:=sl }:=fun b o hb e=>by
  obtain⟨_,o',eo',nf⟩:=I.stack.mem hb;rw [e]at eo';cases eo';exact sl b o e nf
 have nx:∀b:Addr,b∉X.ex:=fun b=>by rw [hex];simp
 have fsS:∀b∈X.fs,b∈frs X.stack:=fun b hb=>by
  rw [hst];unfold frs;rw [List.filterMap_cons,hf];exact List.mem_cons_of_mem _ hb
 refine⟨⟨fun b o e n hb _=>?_,fun b o e n hb _=>?_,fun b o e n _=>I.base.free b o e n (nx b),fun b o e _=>?_,I.base.tups,I.base.frzs,I.base.tbls⟩,fun b o e=>?_,(h0 a ha).1,(h0 a ha).2,?_⟩
 ·refine keepB b o (I.base.keep b o e n hb (nx b)) (nh b o e) fun z=>?_;rcases List.mem_cons.mp (I.stkSub b z) with q |q
  ·exact absurd (Nat.lt_of_lt_of_le (Heap.lt_size e) I.ok.above) (by rw [q];exact Nat.lt_irrefl _)
  ·exact hb q
 ·obtain⟨sl1,e1⟩:=I.base.slot b o e n hb (nx b);obtain⟨sl2,e2⟩:=slotB b _ (fsS b hb) e1;exact⟨sl2,e2⟩
 ·obtain⟨o',e1⟩:=I.base.there b o e (nx b);by_cases hb:b∈frs X.stack
  ·obtain⟨sl2,e2⟩:=slotB b _ hb e1;exact⟨_,e2⟩
  ·exact⟨o',keepB b o' e1 (nh b o e) hb⟩
 ·refine(I.hok b o e).stay (fun c u hc q=>?_) (fun _ q=>q) fun _ _ q=>q;have tk:∃v,H' c=some v:=by
   rcases hc with z |z
   ·exact⟨o,by rw [z];exact e⟩
   ·exact⟨_,z⟩
  obtain⟨v,tk⟩:=tk;exact keepB c u q (fun z=>by rw [(h0 c z).2]at tk;cases tk) fun z=>by rw [I.stkFree c z]at tk;cases tk
 ·obtain⟨oe,vs,T,oT,ts,e1,e2,e3,e4,e5,e6,e7,e8,e9⟩:=tr;have nf:T∉frs X.stack:=fun hb=>by
   obtain⟨_,o,eo,nf⟩:=ff.mem hb;rw [e7]at eo;cases eo;exact nf ts e8
  have both:X.s₀.heap.get? T=none∧H' T=none:=by
   by_cases hT:T∈hid
   ·exact h0 T hT
   ·have z:s'.heap.get? T=none:=by
     cases q:s'.heap.get? T with
     |none=>rfl
     |some o=>
      rw [PySem.W.hideAll_get _ q fun z=>(List.mem_append.mp z).elim hT nf]at e5;cases e5
    constructor
    ·cases q:X.s₀.heap.get? T with
     |none=>rfl
     |some o=>obtain⟨o',q'⟩:=I.base.there T o q (nx T);rw [z]at q';cases q'
    ·cases q:H' T with
     |none=>rfl
     |some u=>obtain⟨o',q'⟩:=(I.hok T u q).ex;rw [z]at q';cases q'
  exact⟨oe,vs,T,oT,ts,e1,e2,e3,e4,both.1,both.2,e6,e7,e8,e9⟩
theorem zki{h base:Heap}{l:List Env}{hid:List Addr}(hl:h.FunFrames base l):h.FunFrames (PySem.W.hideAll h (hid++frs l)) l:=
 PySem.W.funFrames_hide hl fun env he a ha=>List.mem_append_right _ (List.mem_filterMap.mpr ⟨env,he,ha⟩)
theorem zlX{P:Program}{w:World}{K:PySem.W.Frag}{mg:Str→Option Value}{base:Heap}{N:List Str}{qual:Str}{scope:Scope}{f:Addr}{cdv:Value}{A:Around}{outer:List Env}{s:Shared}{H:Hp}{E:XK}{EW:Str→Sto→Prop}
    (hEW:∀cl C S' H',PySem.W.nsIn K mainGlobals cl=some (some (.ref C))→RepS K H' S'→EW cl S'→E (.ref C) none H'):Hook (znQ (CX1 P w) P w K mg base N qual scope f cdv A outer s H E) (fun c _ S'=>EW c S') where
  own:=PassesOwn.leaving
  far:=fun pins σ H1 s1 σW cl C a H' S' s' I hσ hn os bare un ok fly hS q=>by
    have I':=I.call' os un ok bare (fun _ z=>nomatch z);obtain⟨g1,g2,oe,vs,T,oT,ts,e1,e2,e3,e4,g3,g4,e5,e6,e7,e8⟩:=fly;have s0:∀{b:Addr},s1.heap.get? b=none→s.heap.get? b=none:=fun {b} z=>by
      cases q:s.heap.get? b with
      |none=>rfl
      |some o=>obtain⟨o',q'⟩:=I.base.there b o q (by exact fun z=>nomatch z);rw [z]at q';cases q'
    refine wpAny_leaving_next (base:=PySem.W.hideAll s'.heap ([a,T]++frs (envOfC qual scope s.heap.objs.size f cdv::outer))) I'.ok.frames (zki I'.stack) rfl ⟨oe,vs,T,oT,ts,e1,e2,e3,e4,PySem.W.hideAll_none _ (by simp),e5,e6,e7,e8⟩ (fun b o z=>PySem.W.of_hideAll _ z) (PySem.W.hideAll_none _ (by simp)) fun h' L=>?_;obtain⟨u1,u2,u3⟩:=zke (hid:=[a,T]) I' rfl rfl rfl (fun b hb=>by
      rcases List.mem_cons.mp hb with rfl |hb
      · exact⟨s0 g1,g2⟩
      · rw [List.mem_singleton.mp hb];exact⟨s0 g3,g4⟩) (by simp) L
    exact⟨a,C,H',rfl,I'.os,I'.bare,u1,u2,u3,hEW cl C S' H' hn hS q⟩
  near:=fun pins σ H1 s1 σW cl C a S h' args I hσ hn me hS q=>by
    have I':=I.kept (t':=s1.toks) me.keeps;obtain⟨t,e1,_,_⟩:=me.there;have s0:s.heap.get? a=none:=by
      cases q:s.heap.get? a with
      |none=>rfl
      |some o=>obtain⟨o',q'⟩:=I.base.there a o q (by exact fun z=>nomatch z);rw [me.new]at q';cases q'
    have h1:H1 a=none:=by
      cases q:H1 a with
      |none=>rfl
      |some u=>obtain⟨o',q'⟩:=(I.hok a u q).ex;rw [me.new]at q';cases q'
    refine wpAny_leaving_first (base:=PySem.W.hideAll h' ([a]++frs (envOfC qual scope s.heap.objs.size f cdv::outer))) (s:={ s1 with heap:=h' }) I'.ok.frames (zki I'.stack) rfl e1 (fun b o z=>PySem.W.of_hideAll _ z) (PySem.W.hideAll_none _ (by simp)) rfl rfl fun h'' L=>?_;obtain⟨u1,u2,u3⟩:=zke (hid:=[a]) I' rfl rfl rfl (fun b hb=>by rw [List.mem_singleton.mp hb];exact⟨s0,h1⟩) (by simp) L
    exact⟨a,C,H1,rfl,I'.os,I'.bare,u1,u2,u3,hEW cl C S H1 hn hS q⟩
noncomputable def zbK (S:Sto) (a:Addr) (Q:List W→Prop):Prop:=match S a with
 |some (.lst ws)=>Q ws
 |_=>False
theorem zaj{S:Sto}{a:Addr}{Q:List W→Prop}{ws:List W}(h:S a=some (.lst ws)):zbK S a Q=Q ws:=by unfold zbK;rw [h]
theorem zbg{S:Sto}{a:Addr}{Q:List W→Prop}(h:zbK S a Q):∃ws,S a=some (.lst ws)∧Q ws:=by
 unfold zbK at h;split at h
 ·exact⟨_, ‹_›,h⟩
 ·exact h.elim
noncomputable def znJ:W→Sto→(Bool→Sto→Prop)→Prop
 | .non,S,Q=>Q false S
 | .bl b,S,Q=>Q b S
 | .int i,S,Q=>Q (i != 0) S
 | .str x,S,Q=>x.length≤sizeLine∧Q ((x.length:Int) != 0) S
 | .tup ws,S,Q=>Q (!ws.isEmpty) S
 | .ref a,S,Q=>zbK S a fun ws=>Q (!ws.isEmpty) S
 | .scr ns,S,Q=>Q (!ns.isEmpty) S
noncomputable def zft (t:WE):WT:=fun E σ S Q=>t E σ S fun w S'=>znJ w S' Q
noncomputable def wTb (t:WE):WT:=fun E σ S Q=>t E σ S fun w S'=>match w with
 | .bl b=>Q b S'
 |_=>False
noncomputable def zrj (t u:WT):WT:=fun E σ S Q=>t E σ S fun c S1=>if c=true then u E σ S1 Q else Q false S1
noncomputable def wOr (t u:WT):WT:=fun E σ S Q=>t E σ S fun c S1=>if c=true then Q true S1 else u E σ S1 Q
noncomputable def zpD (t:WT):WT:=fun E σ S Q=>t E σ S fun c S1=>Q (!c) S1
noncomputable def zcx (c:WT) (t u:WS):WS:=fun E D σ S=>c E σ S fun b S1=>if b=true then t E D σ S1 else u E D σ S1
noncomputable def zaQ:WS:=fun _ D σ S=>D.nx σ S
noncomputable def zaC (t u:WS):WS:=fun E D σ S=>t E { D with nx:=u E D } σ S
noncomputable def zbx (e:WE):WS:=fun E D σ S=>e E σ S D.rt
noncomputable def zeG (e:WE):WS:=fun E D σ S=>e E σ S fun _ S1=>D.nx σ S1
noncomputable def wGN (i:Nat):WG:=fun w σ S Q=>Q (σ.set i (some w)) S
noncomputable def wAsg (e:WE) (g:WG):WS:=fun E D σ S=>e E σ S fun w S1=>g w σ S1 D.nx
noncomputable abbrev WGs:=List W→WSt→Sto→(WSt→Sto→Prop)→Prop
noncomputable def zcI:WGs:=fun ws σ S Q=>match ws with
 | []=>Q σ S
 |_=>False
noncomputable def zaG (g:WG) (u:WGs):WGs:=fun ws σ S Q=>match ws with
 | []=>False
 |w::r=>g w σ S fun σ' S'=>u r σ' S' Q
noncomputable def wGT (u:WGs):WG:=fun w σ S Q=>match w with
 | .tup ws=>u ws σ S Q
 |_=>False
section
variable {X:Cx}{a b c e:Expr}{pos:Pos}{ta tb:WE}{tc tA tB':WT}{st:Stmt}{rest:List Stmt}{t u:WS}
theorem znR{K:PySem.W.Frag}{H:Hp}{w:W}{v:V}{S:Sto}{QW:Bool→Sto→Prop}(r:Rep K H w v) (hS:RepS K H S) (h:znJ w S QW):∃k,zsl K v H k∧QW k S:=by
 cases r with
 |non=>exact⟨false,rfl,h⟩
 |bl b=>exact⟨b,rfl,h⟩
 |int i=>exact⟨_,rfl,h⟩
 |str x=>exact⟨_,⟨h.1,rfl⟩,h.2⟩
 |ref a=>
  obtain⟨ws,e,h⟩:=zbg h;obtain⟨vs,e1,r1⟩:=hS a _ e;refine⟨_, .inl ⟨vs, .of e1,rfl⟩,?_⟩;have q:vs.isEmpty=ws.isEmpty:=by cases r1<;>rfl
  rw [q];exact h
 | @scr a ns f=>
  refine⟨_, .inl ⟨_,f.sq,rfl⟩,?_⟩;have q:(ns.map V.int).isEmpty=ns.isEmpty:=by cases ns<;>rfl
  rw [q];exact h
 | @tup a vs ws f hs=>
  refine⟨_, .inr (.inl ⟨vs, .of f,rfl⟩),?_⟩;have q:vs.isEmpty=ws.isEmpty:=by cases hs<;>rfl
  rw [q];exact h
theorem zbJ (ha:JE X a ta) (he:∀whole,isTrue a X.env whole=(do let v ←whole;standAt a.pos;holding [v] (truthy v)):=by intro _;rfl):JT X a (zft ta):=fun E hE=>
 (zma (ha E hE) he).mono fun σ H Q ⟨σW,S,QW,hσ,hS,ht,hQ⟩=>⟨σW,S,_,hσ,hS,ht,fun w S1 v H1 e1 r1 hS1 h1=>by
  obtain⟨k,hk,q⟩:=znR r1 hS1 h1;exact⟨k,hk,hQ k S1 H1 e1 hS1 q⟩⟩
theorem zer{op:CmpOp}{r:R2}{wr:W2}(ho:OpR X (compareOp op) r) (hw:OpW X.K r wr) (ha:JE X a ta) (hb:JE X b tb) (hm:behindInMarks op b=false):JT X (.Compare a [op] [b] pos) (wTb (wOp wr ta tb)):=fun E hE=>
 (zph ho (ha E hE) (hb E hE) hm).mono fun σ H Q ⟨σW,S,QW,hσ,hS,ht,hQ⟩=>by
  refine zed (Q:=fun v H1=>∃k,v= .bl k∧Q k H1) ⟨σW,S,fun w S'=>match w with
   | .bl b=>QW b S'
   |_=>False,hσ,hS,ht,fun w S1 v H1 e1 r1 hS1 h1=>?_⟩ fun H2 x y wx wy S QW rx ry hS q hQ=>hw H2 x y wx wy S _ QW rx ry hS q hQ
  cases r1 with
  |bl k=>exact⟨k,rfl,hQ k S1 H1 e1 hS1 h1⟩
  |_=>exact h1.elim
theorem ziM (ha:JT X a tA):JT X (.UnaryOp .Not a pos) (zpD tA):=fun E hE=>
 (zpK (ha E hE)).mono fun σ H Q ⟨σW,S,QW,hσ,hS,ht,hQ⟩=>⟨σW,S,_,hσ,hS,ht,fun b S1 H1 e1 hS1 h1=>hQ _ S1 H1 e1 hS1 h1⟩
theorem JW.jt (h:JW X a tA):JT X a tA:=fun E hE=>(h E hE).pt
theorem zll (ha:JT X a tA):JW X (.BoolOp .And [a] pos) tA:=fun E hE=>znU (ha E hE)
theorem zlx (ha:JT X a tA):JW X (.BoolOp .Or [a] pos) tA:=fun E hE=>zpH (ha E hE)
theorem znv{rest:List Expr}(ha:JT X a tA) (hb:JW X (.BoolOp .And (b::rest) pos) tB'):JW X (.BoolOp .And (a::b::rest) pos) (zrj tA tB'):=fun E hE=>
 (zrw (ha E hE) (hb E hE)).mono fun σ H Q ⟨σW,S,QW,hσ,hS,ht,hQ⟩=>⟨σW,S,_,hσ,hS,ht,fun b S1 H1 e1 hS1 h1=>by
  cases b with
  |true=>exact⟨σW,S1,_,hσ.ext e1,hS1,h1,fun b S2 H2 e2 hS2 h2=>hQ b S2 H2 (e1.trans e2) hS2 h2⟩
  |false=>exact hQ _ S1 H1 e1 hS1 h1⟩
theorem zoY{rest:List Expr}(ha:JT X a tA) (hb:JW X (.BoolOp .Or (b::rest) pos) tB'):JW X (.BoolOp .Or (a::b::rest) pos) (wOr tA tB'):=fun E hE=>
 (zsZ (ha E hE) (hb E hE)).mono fun σ H Q ⟨σW,S,QW,hσ,hS,ht,hQ⟩=>⟨σW,S,_,hσ,hS,ht,fun b S1 H1 e1 hS1 h1=>by
  cases b with
  |false=>exact⟨σW,S1,_,hσ.ext e1,hS1,h1,fun b S2 H2 e2 hS2 h2=>hQ b S2 H2 (e1.trans e2) hS2 h2⟩
  |true=>exact hQ _ S1 H1 e1 hS1 h1⟩
theorem zaD:JSs X [] zaQ:=fun E hE=>pss_nil.mono fun D σ H ⟨σW,S,DW,hσ,hS,ht,hD⟩=>hD.nx σW S σ H .refl hσ hS ht
theorem zae (h1:JS X st t) (h2:JSs X rest u):JSs X (st::rest) (zaC t u):=fun E hE=>
 (zmg (h1 E hE) (h2 E hE)).mono fun D σ H ⟨σW,S,DW,hσ,hS,ht,hD⟩=>
  ⟨σW,S,{ DW with nx:=u E DW },hσ,hS,ht,⟨fun σW' S' σ' H' e r hS' q=>⟨σW',S',DW,r,hS',q,hD.from e⟩,hD.rt,hD.bk,hD.ct⟩⟩
theorem zai (h1:JS X st t):JSs X [st] t:=fun E hE=>zoI (h1 E hE)
theorem zcA (he:JE X e ta) (hs:swapsWith e none pos.line X.env=pure false:=by rfl):JS X (.Expr e pos) (zeG ta):=fun E hE=>
 (zoT (he E hE) hs).mono fun D σ H ⟨σW,S,DW,hσ,hS,ht,hD⟩=>⟨σW,S,_,hσ,hS,ht,fun w S1 v H1 e1 r1 hS1 h1=>hD.nx σW S1 σ H1 e1 (hσ.ext e1) hS1 h1⟩
theorem zaq (he:JE X e ta):JS X (.Return (some e) pos) (zbx ta):=fun E hE=>
 (zrI (he E hE)).mono fun D σ H ⟨σW,S,DW,hσ,hS,ht,hD⟩=>⟨σW,S,_,hσ,hS,ht,hD.rt⟩
theorem zaZ{a b:List Stmt}(hc:JT X c tc) (ha:JSs X a t) (hb:JSs X b u):JS X (.If c a b pos) (zcx tc t u):=fun E hE=>
 (zsN (hc E hE) (ha E hE) (hb E hE)).mono fun D σ H ⟨σW,S,DW,hσ,hS,ht,hD⟩=>⟨σW,S,_,hσ,hS,ht,fun k S1 H1 e1 hS1 h1=>by
  cases k with
  |true=>exact⟨σW,S1,DW,hσ.ext e1,hS1,h1,hD.from e1⟩
  |false=>exact⟨σW,S1,DW,hσ.ext e1,hS1,h1,hD.from e1⟩⟩
theorem zar{i:Nat}{x:Str}(hN:X.N.Nodup) (hi:X.N[i]? =some x) (hx:Loc X.env.scope x) (hf:X.fn x=true∨X.env.scope.names.lookup x=some .local:=by first |exact .inl rfl |exact .inr rfl |assumption):JG X (.Name x pos) (wGN i):=fun E hE=>
 (zop hN hi hx hf).mono fun v σ H Q ⟨w,σW,S,P,r,hσ,hS,ht,hP⟩=>hP _ S _ H .refl (hσ.set r i) hS ht
noncomputable def JGs (X:Cx) (tgs:List Expr) (t:WGs):Prop:=∀E,Hook X E→PGs X tgs (fun vs σ H Q=>∃ws σW S P,Reps X.K H ws vs∧RpSt X.K H σW σ∧RepS X.K H S∧t ws σW S P∧Goes X.K H S P Q)
theorem zcM:JGs X [] zcI:=fun E hE pins s σ H vs us Q I r h=>by
 obtain⟨ws,σW,S,P,rs,hσ,hS,ht,hP⟩:=h;unfold zcI at ht;split at ht
 ·cases rs;exact zox pins s σ H [] us Q I r ⟨rfl,hP σW S σ H .refl hσ hS ht⟩
 ·exact ht.elim
theorem zaO{es:List Expr}{g:WG}{gs:WGs}(h1:JG X e g) (h2:JGs X es gs)
  (hs:(assignEach (e::es) X.env).map (·.2)=assign e X.env::(assignEach es X.env).map (·.2):=by rfl):JGs X (e::es) (zaG g gs):=fun E hE pins s σ H vs us Q I r h=>by
 obtain⟨ws,σW,S,P,rs,hσ,hS,ht,hP⟩:=h;unfold zaG at ht;split at ht
 ·exact ht.elim
 ·cases rs with
  |cons r1 r2=>
   refine zmj (h1 E hE) (h2 E hE) hs pins s σ H _ us Q I r ⟨_,_,rfl,⟨_,σW,S,_,r1,hσ,hS,ht,fun σW' S' σ' H' e' rr hS' q=>?_⟩⟩;exact⟨_,σW',S',P,r2.ext e',rr,hS',q,hP.from e'⟩
theorem zdS{es:List Expr}{k n:Nat}{gs:WGs}(h:JGs X es gs) (hlen:∀ws σ S P,gs ws σ S P→ws.length=n)
  (hn:(assignEach es X.env).length=n:=by rfl) (hst:(assignEach es X.env).findIdx? (·.1)=none:=by rfl) (hcl:X.calm=true:=by rfl):JG X (.Tuple es k pos) (wGT gs):=fun E hE=>
 (zqy hcl (h E hE) hn hst).mono fun v σ H Q ⟨w,σW,S,P,r,hσ,hS,ht,hP⟩=>by
  cases r with
  |tup f hs=>exact⟨_,_,rfl, .of f,by rw [←hs.length];exact hlen _ _ _ _ ht,⟨_,σW,S,P,hs,hσ,hS,ht,hP⟩⟩
  |_=>exact ht.elim
theorem zpG{tg:Expr}{g:WG}(he:JE X e ta) (hg:JG X tg g) (hs:swapsWithSole [tg] e pos.line X.env=pure false:=by rfl) (hw:swappedStores [tg] e X.env=pure none:=by rfl)
  (h1:(assignEach [tg] X.env).map (·.2)=[assign tg X.env]:=by rfl):JS X (.Assign [tg] e pos) (wAsg ta g):=fun E hE=>
 (zrs (he E hE) (hg E hE) hs hw h1).mono fun D σ H ⟨σW,S,DW,hσ,hS,ht,hD⟩=>⟨σW,S,_,hσ,hS,ht,fun w S1 v H1 e1 r1 hS1 h1=>⟨w,σW,S1,_,r1,hσ.ext e1,hS1,h1,hD.nx.from e1⟩⟩
theorem zao{i:Nat}{x:Str}{pos':Pos}(hN:X.N.Nodup) (hi:X.N[i]? =some x) (hx:Loc X.env.scope x) (he:JE X e ta) (hs:swapsWith e (some (.Name x pos')) pos.line X.env=pure false:=by rfl)
  (hf:X.fn x=true∨X.env.scope.names.lookup x=some .local:=by first |exact .inl rfl |exact .inr rfl |assumption):JS X (.Assign [.Name x pos'] e pos) (wAsg ta (wGN i)):=fun E hE=>
 (zqr hN hi hx (he E hE) hs hf).mono fun D σ H ⟨σW,S,DW,hσ,hS,ht,hD⟩=>⟨σW,S,_,hσ,hS,ht,fun w S1 v H1 e1 r1 hS1 h1=>hD.nx _ S1 _ H1 e1 ((hσ.ext e1).set r1 i) hS1 h1⟩
end
noncomputable def waNil:WA:=fun _ _ S Q=>Q [] S
noncomputable def zab (t:WE) (u:WA):WA:=fun E σ S Q=>t E σ S fun w S1=>u E σ S1 fun ws S2=>Q (w::ws) S2
noncomputable def zaP (t:WA):WE:=fun E σ S Q=>t E σ S fun ws S1=>ws.length≤sizeLine∧Q (.tup ws) S1
noncomputable def zci (t:WA):WL:=fun E σ S Q=>t E σ S fun ws S1=>ws.length≤sizeLine∧Q ws S1
noncomputable def zbQ (t:WL):WE:=fun E σ S Q=>t E σ S fun ws S1=>∀a,S1 a=none→Q (.ref a) (put S1 a (.lst ws))
section
variable {X:Cx}{e:Expr}{es:List Expr}{te:WE}{ta:WA}{tl:WL}{pos:Pos}
theorem zad:JA X [] waNil:=fun E hE=>pa_nil.mono fun σ H Q ⟨σW,S,QW,hσ,hS,ht,hQ⟩=>hQ [] S [] H .refl .nil hS ht
theorem zaa (ha:JE X e te) (hr:JA X es ta) (hs:starEach (e::es) X.env=(false,eval e X.env)::starEach es X.env:=by rfl):JA X (e::es) (zab te ta):=fun E hE=>
 (zcE (ha E hE) (hr E hE) hs).mono fun σ H Q ⟨σW,S,QW,hσ,hS,ht,hQ⟩=>⟨σW,S,_,hσ,hS,ht,fun w S1 v H1 e1 r1 hS1 h1=>⟨σW,S1,_,hσ.ext e1,hS1,h1,fun ws S2 vs H2 e2 r2 hS2 h2=>
  hQ (w::ws) S2 (v::vs) H2 (e1.trans e2) (.cons (r1.ext e2) r2) hS2 h2⟩⟩
theorem zak{x1}(h:JA X es ta):JE X (.Tuple es x1 pos) (zaP ta):=fun E hE=>
 (zqM (h E hE)).mono fun σ H Q ⟨σW,S,QW,hσ,hS,ht,hQ⟩=>⟨σW,S,_,hσ,hS,ht,fun ws S1 vs H1 e1 r1 hS1 h1=>by
  refine⟨by rw [←r1.length];exact h1.1,fun p hp=>hQ (.tup ws) S1 _ _ (e1.trans (.new hp)) (.tup zay (r1.ext (.new (S:=S1) hp))) (hS1.new hp) h1.2⟩⟩
theorem zaB (h:JA X es ta):JL X (.List es pos) (zci ta):=fun E hE=>
 (zqE (h E hE)).mono fun σ H Q ⟨σW,S,QW,hσ,hS,ht,hQ⟩=>⟨σW,S,_,hσ,hS,ht,fun ws S1 vs H1 e1 r1 hS1 h1=>by
  refine⟨by rw [←r1.length];exact h1.1,fun p hp=>hQ ws S1 vs p _ (e1.trans (.new hp)) (e1.free hp) zay (hS1.free hp) (r1.ext (.new (S:=S1) hp)) (hS1.new hp) h1.2⟩⟩
theorem zax (h:JL X e tl):JE X e (zbQ tl):=fun E hE=>
 (h E hE).mono fun σ H Q ⟨σW,S,QW,hσ,hS,ht,hQ⟩=>⟨σW,S,_,hσ,hS,ht,fun ws S1 vs a H1 e1 fa ea na r1 hS1 h1=>by
  refine hQ (.ref a) (put S1 a (.lst ws)) (.ref a) H1 ⟨e1.tup,e1.frz,fun b o q g=>by
   have hb:b≠a:=by rintro rfl;rw [fa]at q;cases q
   rw [zaX hb];exact e1.fr b o q g,e1.all⟩ (.ref a) (fun b o q=>?_) (h1 a na)
  by_cases hb:b=a
  ·subst hb;rw [zag]at q;cases q;exact⟨vs,ea,r1⟩
  ·rw [zaX hb]at q;exact hS1 b o q⟩
end
noncomputable def zaz (c:WSp) (t:WA):WE:=fun E σ S Q=>t E σ S fun ws S1=>c ws S1 Q fun cl S2=>E cl σ S2
noncomputable def zdo (n k:Nat) (body:WS):WSp:=fun ws S Q E=>ws.length=k∧body (fun c _ S'=>E c S') { nx:=fun _ S'=>∃S'',Sub S'' S'∧Q .non S'',rt:=fun w S'=>∃S'',Sub S'' S'∧Q w S'' } (ws.map some++List.replicate (n - k) none) S
section
variable {X:Cx}{k:Nat}{f:Addr}{fd:FuncData}{ps:List Str}{c:WSp}{x:Str}{p pos:Pos}{e:Expr}{es:List Expr}{t:WA}
theorem zal (F:FnOk X.prog X.w X.K X.mg X.base (CX1 X.prog X.w) k f fd ps (zch X.K c)) (hr:Room k X.A) (hg:Gl X x) (hm:X.mg x=some (.ref f)) (hk:PySem.W.keepIn X.K (.ref f)=true) (hb:Binds X.K fd ps [])
  (ha:JA X (e::es) t) (hdb:(x == ("__debug__" :Str))=false:=by decide) (he:starEach (e::es) X.env=(false,eval e X.env)::starEach es X.env:=by rfl) (hpl:(backTo pos (starEach es X.env)).any (·.1)=false:=by rfl) :
  JE X (.Call (.Name x p) (e::es) [] pos) (zaz c t):=fun E hE pins s σ H Q I h=>by
 obtain⟨σW,S,QW,hσ,hS,ht,hQ⟩:=h;refine wpAny_Call_Name_kw (zhG I hg hm ?_ hdb);refine PySem.W.callWith_K (h₀:=X.base) I.ok.mod.kin hk (thn (ha E hE pos pins s σ H (fun vs H1=>∃ws S1,Reps X.K H1 ws vs∧RpSt X.K H1 σW σ∧RepS X.K H1 S1∧c ws S1 QW (fun cl S'=>E cl σW S')∧Wish X.K H1 S1 QW Q) I
  ⟨σW,S,_,hσ,hS,ht,fun ws S1 vs H1 e1 r1 hS1 h1=>⟨ws,S1,r1,hσ.ext e1,hS1,h1,hQ.from e1⟩⟩) fun us s1 ⟨vs,H1,I1,r,ws,S1,r1,hσ1,hS1,h1,hQ1⟩=>⟨I1.kIn,?_⟩) he hpl
 exact ztg F hr hb hE I1 r r1 hσ1 hS1 h1 hQ1
theorem zjB{K:PySem.W.Frag}{H:Hp}{N:List Str}{ws:List W}{vs:List V}(h:Reps K H ws vs):RpSt K H (ws.map some++List.replicate (N.length - ws.length) none) (zfw N vs):=by
 have go:∀{ws:List W}{vs:List V}(m:Nat),Reps K H ws vs→RpSt K H (ws.map some++List.replicate m none) (vs.map some++List.replicate m none):=by
  intro ws
  induction ws with
  |nil=>
   intro vs m h;cases h
   induction m with
   |zero=>exact .nil
   |succ m ih=>exact .cons trivial ih
  |cons w ws ih=>
   intro vs m h;cases h with
   |cons r rs=>exact .cons r (ih m rs)
 unfold zfw;rw [←h.length];exact go _ h
theorem zbs{P:Program}{w:World}{K:PySem.W.Frag}{mg:Str→Option Value}{base:Heap}{x qual:Str}{st:Stmt}{f:Addr}{fd:FuncData}{N ps:List Str}{r n k:Nat}{body:WS}(F:Fun K x qual st f fd) (S:FnScope N ps (zam st)) (hn:N.length=n) (hk:ps.length=k)
  (hbody:∀(cdv:Value) (A:Around) (outer:List Env) (s:Shared) (H:Hp) (E:XK),Room r (A.deeper (envOfC qual (zam st) s.heap.objs.size f cdv))→
   JSs (znQ (CX1 P w) P w K mg base N qual (zam st) f cdv A outer s H E) (zdN st) body):FnOk P w K mg base (CX1 P w) (r+1) f fd ps (zch K (zdo n k body)):=by
 obtain⟨oc,od,kV,doc,pm,an,cdv,ct,osl,rfl,lk,hcd⟩:=F.ex;refine zsq lk hcd S (fun vs H Q E h=>?_) fun A outer s H vs Q E hr h=>?_
 ·obtain⟨ws,S,QW,EW,rs,_,h,_⟩:=h;rw [←rs.length,h.1,hk]
 ·obtain⟨ws,S',QW,EW,rs,hS,h,hQ,hEW⟩:=h;refine⟨_,hbody cdv A outer s H E hr (fun c _ S'=>EW c S') (zlX hEW),?_⟩;refine⟨_,S',{ nx:=fun _ S'=>∃S'',Sub S'' S'∧QW .non S'',rt:=fun w S'=>∃S'',Sub S'' S'∧QW w S'' },zjB (N:=N) rs,hS,by rw [hn,h.1];exact h.2,⟨fun σW S1 σ H1 e1 rr hS1 q=>?_,fun w S1 v H1 e1 rr hS1 q=>?_,fun _ _ _ _ _ _ _ q=>q,fun _ _ _ _ _ _ _ q=>q⟩⟩
  ·obtain⟨S2,sb,q⟩:=q;exact hQ .non S2 .non H1 (e1.trans (.drop sb)) .non (hS1.sub sb) q
  ·obtain⟨S2,sb,q⟩:=q;exact hQ w S2 v H1 (e1.trans (.drop sb)) rr (hS1.sub sb) q
end
noncomputable def zde (C:Int→Int→Prop) (g:Int→Int→W):W2
 | .int i, .int j,S,Q=>C i j∧Q (g i j) S
 |_,_,_,_=>False
noncomputable def zdp (g:Int→Int→W):W2
 | .int i, .int j,S,Q=>Q (g i j) S
 |_,_,_,_=>False
theorem zfv{K:PySem.W.Frag}{C:Int→Int→Prop}{g:Int→Int→Int}:OpW K (rI C fun i j=> .int (g i j)) (zde C fun i j=> .int (g i j)):=fun H x y wx wy S Q QW rx ry hS h hQ=>by
 cases rx<;>cases ry<;>first |exact⟨_,_,rfl,rfl,h.1,hQ _ S _ H .refl (.int _) hS h.2⟩ |exact h.elim
theorem zlS{K:PySem.W.Frag}{g:Int→Int→Int}:OpW K (rI0 fun i j=> .int (g i j)) (zdp fun i j=> .int (g i j)):=fun H x y wx wy S Q QW rx ry hS h hQ=>by
 cases rx<;>cases ry<;>first |exact⟨_,_,rfl,rfl,hQ _ S _ H .refl (.int _) hS h⟩ |exact h.elim
theorem zfQ{K:PySem.W.Frag}{g:Int→Int→Bool}:OpW K (rI0 fun i j=> .bl (g i j)) (zdp fun i j=> .bl (g i j)):=fun H x y wx wy S Q QW rx ry hS h hQ=>by
 cases rx<;>cases ry<;>first |exact⟨_,_,rfl,rfl,hQ _ S _ H .refl (.bl _) hS h⟩ |exact h.elim
noncomputable def zcO:W2
 | .int i, .int j,S,Q=>Q (.int (i+j)) S
 | .str x, .str y,S,Q=>x.length+y.length≤sizeLine∧Q (.str (x++y)) S
 | .tup xs, .tup ys,S,Q=>xs.length+ys.length≤sizeLine∧Q (.tup (xs++ys)) S
 | .ref a, .ref b,S,Q=>zbK S a fun xs=>zbK S b fun ys=>xs.length+ys.length≤sizeLine∧ ∀p,S p=none→Q (.ref p) (put S p (.lst (xs++ys)))
 |_,_,_,_=>False
section
variable {X:Cx}
theorem Reps.nil_r{K:PySem.W.Frag}{H:Hp}{ws:List W}(h:Reps K H ws []):ws=[]:=by cases h;rfl
theorem op_catT0:OpR X (binaryOp .Add) (fun x y H Q=>∃a b ys,x= .ref a∧y= .ref b∧SqT X.K H a []∧SqT X.K H b ys∧Q (.ref b) H):=by
 intro pins s σ H x y v u Q I rx ry h;obtain⟨a,b,ys,rfl,rfl,ha,hb,q⟩:=h;cases rx;cases ry;obtain⟨its,r1,p1,_⟩:=I.tuple ha;obtain⟨its2,r2,p2,_⟩:=I.tuple hb;cases r1;obtain⟨⟨cls,dd,data,sl⟩,ho,hc,n,hd⟩:=id p1;obtain⟨⟨cls2,dd2,data2,sl2⟩,ho2,hc2,n2,hd2⟩:=id p2;simp only at hc hd hc2 hd2;subst hc hd hc2 hd2;exact concat_meets ⟨_,ho,rfl⟩ ⟨_,ho2,rfl⟩ noFill_tuple_add seq_tuple_add PySem.F.slot_tuple_add PySem.F.entry_tuple_add (PySem.F.args_tuple_add_2 _ _)
   (tuple_addW0 a b _ _ n n2 dd dd2 sl sl2 (by simp)) ⟨ho,ho2,⟨.ref b,H,I,rfl,q⟩⟩
theorem zkr:OpR X (binaryOp .Add) (fun x y H Q=>(rI0 fun i j=> .int (i+j)) x y H Q∨(∃i j,x= .str i∧y= .str j∧i.length+j.length≤sizeLine∧Q (.str (i++j)) H)∨
  (∃a b ys,x= .ref a∧y= .ref b∧SqT X.K H a []∧SqT X.K H b ys∧Q (.ref b) H)∨zou X.K x y H Q∨zrZ x y H Q):=op_add.or (op_add_str.or (op_catT0.or (op_catT.or ziB)))
theorem zoU{K:PySem.W.Frag}:OpW K (fun x y H Q=>(rI0 fun i j=> .int (i+j)) x y H Q∨(∃i j,x= .str i∧y= .str j∧i.length+j.length≤sizeLine∧Q (.str (i++j)) H)∨
  (∃a b ys,x= .ref a∧y= .ref b∧SqT K H a []∧SqT K H b ys∧Q (.ref b) H)∨zou K x y H Q∨zrZ x y H Q) zcO:=fun H x y wx wy S Q QW rx ry hS h hQ=>by
 cases rx with
 |int i=>
  cases ry with
  |int j=>exact .inl ⟨i,j,rfl,rfl,hQ _ S _ H .refl (.int _) hS h⟩
  |_=>exact h.elim
 |str i=>
  cases ry with
  |str j=>exact .inr (.inl ⟨i,j,rfl,rfl,h.1,hQ _ S _ H .refl (.str _) hS h.2⟩)
  |_=>exact h.elim
 | @tup a vs ws f hs=>
  cases ry with
  | @tup b us zs g ks=>
   cases hs with
   |nil=>exact .inr (.inr (.inl ⟨a,b,us,rfl,rfl, .of f, .of g,hQ (.tup zs) S _ H .refl (.tup g ks) hS h.2⟩))
   |cons h1 h2=>
    refine .inr (.inr (.inr (.inl ⟨a,b,_,us,rfl,rfl, .of f, .of g,by simp,?_,fun e=>?_,fun e p hp=>?_⟩)))
    ·rw [←(Reps.cons h1 h2).length,←ks.length];exact h.1
    ·subst e;have e':=ks.nil_r;subst e';have q:=h.2;rw [List.append_nil]at q;exact hQ _ S _ H .refl (.tup f (.cons h1 h2)) hS q
    ·exact hQ _ S _ _ (.new hp) (.tup zay (((Reps.cons h1 h2).append ks).ext (.new (S:=S) hp))) (hS.new hp) h.2
  |_=>exact h.elim
 |ref a=>
  cases ry with
  |ref b=>
   obtain⟨xs,ea,h⟩:=zbg h;obtain⟨ys,eb,h⟩:=zbg h;obtain⟨vs,e1,r1⟩:=hS a _ ea;obtain⟨us,e2,r2⟩:=hS b _ eb;refine .inr (.inr (.inr (.inr ⟨a,b,vs,us,rfl,rfl,e1,e2,by rw [←r1.length,←r2.length];exact h.1,fun p hp=>?_⟩)))
   exact hQ _ _ _ _ (.newS hp) (.ref p) (hS.put_lst hp ((r1.append r2).ext (.new (S:=S) hp))) (h.2 p (hS.free hp))
  |_=>exact h.elim
 |_=>exact h.elim
variable {a b:Expr}{pos:Pos}{ta tb:WE}
theorem zaU (ha:JE X a ta) (hb:JE X b tb):JE X (.BinOp a .Add b pos) (wOp zcO ta tb):=zjh zkr zoU ha hb
theorem zhd (ha:JE X a ta) (hb:JE X b tb):JE X (.BinOp a .Sub b pos) (wOp (zdp fun i j=> .int (i - j)) ta tb):=zjh zqK zlS ha hb
theorem znw (ha:JE X a ta) (hb:JE X b tb):JE X (.BinOp a .Mult b pos) (wOp (zde CMul fun i j=> .int (i*j)) ta tb):=zjh zpV zfv ha hb
theorem zdJ (ha:JE X a ta) (hb:JE X b tb):JE X (.BinOp a .FloorDiv b pos) (wOp (zde zkY fun i j=> .int (i / j)) ta tb):=zjh zpw zfv ha hb
theorem zcw (ha:JE X a ta) (hb:JE X b tb):JE X (.BinOp a .Mod b pos) (wOp (zde (fun _ j=>0<j) fun i j=> .int (i % j)) ta tb):=zjh zpL zfv ha hb
theorem zqA (ha:JE X a ta) (hb:JE X b tb):JE X (.BinOp a .Pow b pos) (wOp (zde zsR fun i j=> .int (i ^ j.toNat)) ta tb):=zjh zqf zfv ha hb
noncomputable def zlE (t:WE):WE:=fun E σ S Q=>t E σ S fun w S1=>match w with
 | .int i=>Q (.int (-i)) S1
 |_=>False
theorem zfk (ha:JE X a ta):JE X (.UnaryOp .USub a pos) (zlE ta):=fun E hE=>
 (zsw zqd (ha E hE)).mono fun σ H Q ⟨σW,S,QW,hσ,hS,ht,hQ⟩=>⟨σW,S,_,hσ,hS,ht,fun w S1 v H1 e1 r1 hS1 h1=>by
  cases r1 with
  |int i=>exact⟨i,rfl,hQ _ S1 _ H1 e1 (.int _) hS1 h1⟩
  |_=>exact h1.elim⟩
noncomputable def zsF (t u:WE):WL:=fun E σ S Q=>t E σ S fun x S1=>u E σ S1 fun y S2=>match x,y with
 | .ref a, .ref b=>zbK S2 a fun xs=>zbK S2 b fun ys=>xs.length+ys.length≤sizeLine∧Q (xs++ys) S2
 |_,_=>False
end
noncomputable def zdK (f:W→W→Option Bool):List W→List W→Option Bool
 | [],[]=>some true
 | [],_=>some false
 |_,[]=>some false
 |x::xs,y::ys=>match f x y,zdK f xs ys with
  |some a,some b=>some (a&&b)
  |_,_=>none
noncomputable def eqF (S:Sto):Nat→W→W→Option Bool
 |0,_,_=>none
 |n+1,w,u=>match w,u with
  | .non, .non=>some true
  | .bl a, .bl b=>some (a == b)
  | .int a, .int b=>some (a == b)
  | .str a, .str b=>some (a == b)
  | .tup _, .int _=>some false
  | .int _, .tup _=>some false
  | .tup xs, .tup ys=>zdK (eqF S n) xs ys
  | .ref a, .ref b=>match S a with
   |some (.lst xs)=>match S b with
    |some (.lst ys)=>zdK (eqF S n) xs ys
    |_=>none
   |_=>none
  |_,_=>none
theorem zhW{f:W→W→Option Bool}:∀{xs ys:List W}{b:Bool},zdK f xs ys=some b→
  (∀j,j<xs.length→j<ys.length→ ∃c,f (xs.getD j .non) (ys.getD j .non)=some c)∧
  ((List.range (min xs.length ys.length)).all (fun j=>(f (xs.getD j .non) (ys.getD j .non)).getD true)&&xs.length == ys.length)=b
 | [],[],b,h=>by
  have:true=b:=Option.some.inj h;subst this;exact⟨fun j h=>absurd h (by simp),by simp⟩
 | [],y::ys,b,h=>by
  have:false=b:=Option.some.inj h;subst this;exact⟨fun j h=>absurd h (by simp),by simp⟩
 |x::xs,[],b,h=>by
  have:false=b:=Option.some.inj h;subst this;exact⟨fun j _ h=>absurd h (by simp),by simp⟩
 |x::xs,y::ys,b,h=>by
  unfold zdK at h;split at h
  ·rename_i c d e1 e2;have hb:(c&&d)=b:=Option.some.inj h;obtain⟨h1,h2⟩:=zhW e2;refine⟨fun j j1 j2=>?_,?_⟩
   ·cases j with
    |zero=>exact⟨c,by simpa using e1⟩
    |succ j=>simpa using h1 j (by simpa using j1) (by simpa using j2)
   ·have hm:min (xs.length+1) (ys.length+1)=min xs.length ys.length+1:=by omega
    have hl:(xs.length+1 == ys.length+1)=(xs.length == ys.length):=by simp
    rw [List.length_cons,List.length_cons,hm,List.range_succ_eq_map,List.all_cons,List.all_map,hl];have q:((fun j=>(f ((x::xs).getD j .non) ((y::ys).getD j .non)).getD true)∘Nat.succ)=fun j=>(f (xs.getD j .non) (ys.getD j .non)).getD true:=by
     funext j;simp
    rw [q,Bool.and_assoc,h2];have q0:(f ((x::xs).getD 0 .non) ((y::ys).getD 0 .non)).getD true=c:=by simp [e1]
    rw [q0,hb]
  ·cases h
section
variable {X:Cx}{pins:List (Addr×Obj)}{σ:St}{H:Hp}{s:Shared}{S:Sto}
theorem zfT (I:Inv X pins σ H s):∀(n:Nat) {wx wy:W}{v:V}{b:Bool},Rep X.K H wx v→Rep X.K H wy v→RepS X.K H S→eqF S n wx wy=some b→b=true
 |0,_,_,_,_,_,_,_,h=>by cases h
 |n+1,wx,wy,v,b,rx,ry,hS,h=>by
  have list:∀{ws us:List W}{vs:List V}{b:Bool},Reps X.K H ws vs→Reps X.K H us vs→zdK (eqF S n) ws us=some b→b=true:=by
   intro ws
   induction ws with
   |nil=>
    intro us vs b r1 r2 e;cases r1;cases r2;exact(Option.some.inj e).symm
   |cons w ws ih=>
    intro us vs b r1 r2 e;cases r1 with
    |cons a1 a2=>
     cases r2 with
     |cons c1 c2=>
      unfold zdK at e;split at e
      ·rename_i c d e1 e2;have q1:=zfT I n a1 c1 hS e1;have q2:=ih a2 c2 e2;have:=Option.some.inj e;rw [q1,q2]at this;exact this.symm
      ·cases e
  cases rx with
  |non=>cases ry;exact(Option.some.inj h).symm
  |bl k=>cases ry;have:=Option.some.inj h;simpa using this.symm
  |int k=>cases ry;have:=Option.some.inj h;simpa using this.symm
  |str k=>cases ry;have:=Option.some.inj h;simpa using this.symm
  |ref a=>
   cases ry with
   |ref _=>
    have h':(match S a with
     |some (.lst xs)=>match S a with
      |some (.lst ys)=>zdK (eqF S n) xs ys
      |_=>none
     |_=>none)=some b:=h
    cases e:S a with
    |none=>rw [e]at h';cases h'
    |some o=>
     rw [e]at h';cases o with
     |lst ws=>
      obtain⟨vs,_,r⟩:=hS a _ e;exact list r r h'
     |dct _=>cases h'
     |ins _ _=>cases h'
   |scr _=>cases h
   |tup _ _=>cases h
  |scr f=>cases ry<;>cases h
  |tup f hs=>
   cases ry with
   |ref _=>cases h
   |scr _=>cases h
   |tup g ks=>
    have e:=I.tuple_inj (.of f) (.of g);subst e;exact list hs ks h
theorem zkG{A:Around}:A.in1.units=A.units+1:=rfl
theorem zls (I:Inv X pins σ H s) (hS:RepS X.K H S):∀(n:Nat) {A:Around}{wx wy:W}{x y:V}{u v:Value}{b:Bool},A.units+n<cLine→Rep X.K H wx x→Rep X.K H wy y→RelV x u→RelV y v→eqF S n wx wy=some b→
  SeqAt.EqAt A s u v b∧SeqAt.RcAt A s u v b∧SeqAt.RcNeAt A s u v (!b)
 |0,_,_,_,_,_,_,_,_,_,_,_,_,_,h=>by cases h
 |n+1,A,wx,wy,x,y,u,v,b,hu,rx,ry,ru,rv,h=>by
  have hu0:A.units<cLine:=by omega
  have items:∀{ws zs:List W}{xs ys:List V}{us vs:List Value}{b:Bool},Reps X.K H ws xs→Reps X.K H zs ys→Vals xs us→Vals ys vs→zdK (eqF S n) ws zs=some b→
    (∀j (h1:j<us.toArray.size) (h2:j<vs.toArray.size),SeqAt.EqAt A.in1 s us.toArray[j] vs.toArray[j] ((eqF S n (ws.getD j .non) (zs.getD j .non)).getD true))∧
    ((List.range (min us.toArray.size vs.toArray.size)).all (fun j=>(eqF S n (ws.getD j .non) (zs.getD j .non)).getD true)&&us.toArray.size == vs.toArray.size)=b:=by
   intro ws zs xs ys us vs b r1 r2 q1 q2 e;obtain⟨h1,h2⟩:=zhW e;have l1:=r1.length;have l2:=r2.length;have l3:=q1.length;have l4:=q2.length;refine⟨fun j j1 j2=>?_,?_⟩
   ·rw [List.size_toArray]at j1 j2;obtain⟨c,hc⟩:=h1 j (by omega) (by omega);have jw:j<ws.length:=by omega
    have jz:j<zs.length:=by omega
    obtain⟨x',ex,rx'⟩:=r1.get (List.getElem?_eq_getElem jw);obtain⟨y',ey,ry'⟩:=r2.get (List.getElem?_eq_getElem jz);obtain⟨u',eu,ru'⟩:=q1.get ex;obtain⟨v',ev,rv'⟩:=q2.get ey;have e1:us.toArray[j]=u':=by
     obtain⟨_,e⟩:=List.getElem?_eq_some_iff.mp eu;simpa using e
    have e2:vs.toArray[j]=v':=by
     obtain⟨_,e⟩:=List.getElem?_eq_some_iff.mp ev;simpa using e
    have g1:ws.getD j .non=ws[j]:=by rw [List.getD_eq_getElem?_getD,List.getElem?_eq_getElem jw];rfl
    have g2:zs.getD j .non=zs[j]:=by rw [List.getD_eq_getElem?_getD,List.getElem?_eq_getElem jz];rfl
    rw [e1,e2,hc];rw [g1,g2]at hc;exact(zls I hS n (by rw [zkG];omega) rx' ry' ru' rv' hc).1
   ·rw [List.size_toArray,List.size_toArray,←l3,←l4,←l1,←l2];exact h2
  cases rx with
  |non=>
   cases(show u=Value.none from ru);cases ry with
   |non=>cases(show v=Value.none from rv);cases h;exact⟨.same _, .none_none, .none_none⟩
   |_=>cases h
  |bl k=>
   cases(show u=Value.bool k from ru);cases ry with
   |bl j=>cases(show v=Value.bool j from rv);cases h;exact⟨.bool_bool _ _, .bool_bool _ _, .bool_bool _ _⟩
   |_=>cases h
  |int k=>
   obtain⟨t0,rfl⟩:=ru;cases ry with
   |int j=>obtain⟨t,rfl⟩:=rv;cases h;exact⟨.int_int _ _ _ _, .int_int _ _ _ _, .int_int _ _ _ _⟩
   |tup f hs=>cases(show v=Value.ref _ from rv);cases h;obtain⟨its,_,p,_⟩:=I.tuple (.of f);exact⟨.int_tuple _ _ p hu0, .int_tuple _ _ p hu0, .int_tuple _ _ p hu0⟩
   |_=>cases h
  |str k=>
   obtain⟨t0,rfl⟩:=ru;cases ry with
   |str j=>obtain⟨t,rfl⟩:=rv;cases h;exact⟨.str_str _ _ _ _, .str_str _ _ _ _, .str_str _ _ _ _⟩
   |_=>cases h
  | @tup a xs ws f hs=>
   cases(show u=Value.ref a from ru);obtain⟨its,q1,p,_⟩:=I.tuple (.of f);cases ry with
   |int j=>obtain⟨t,rfl⟩:=rv;cases h;exact⟨.tuple_int _ _ p hu0, .tuple_int _ _ p hu0, .tuple_int _ _ p hu0⟩
   | @tup c ys zs g ks=>
    cases(show v=Value.ref c from rv);obtain⟨its2,q2,p2,_⟩:=I.tuple (.of g);obtain⟨h1,h2⟩:=items hs ks q1 q2 h;have rc:SeqAt.RcAt A s (.ref a) (.ref c) b:=by
     have:=SeqAt.RcAt.tuples p p2 hu0 h1;rw [h2]at this;exact this
    have rn:SeqAt.RcNeAt A s (.ref a) (.ref c) (!b):=by
     have:=SeqAt.RcNeAt.tuples p p2 hu0 h1;rw [h2]at this;exact this
    refine⟨?_,rc,rn⟩;by_cases e:a=c
    ·subst e;have:=zfT I (n+1) (.tup f hs) (.tup g ks) hS h;rw [this];exact .same _
    ·exact .of_refs e rc
   |_=>cases h
  |ref a=>
   cases(show u=Value.ref a from ru);cases ry with
   |ref c=>
    cases(show v=Value.ref c from rv);have h':(match S a with
     |some (.lst xs)=>match S c with
      |some (.lst ys)=>zdK (eqF S n) xs ys
      |_=>none
     |_=>none)=some b:=h
    cases e:S a with
    |none=>rw [e]at h';cases h'
    |some o=>
     rw [e]at h';cases o with
     |dct _=>cases h'
     |ins _ _=>cases h'
     |lst ws=>
      cases e2:S c with
      |none=>rw [e2]at h';cases h'
      |some o2=>
       rw [e2]at h';cases o2 with
       |dct _=>cases h'
       |ins _ _=>cases h'
       |lst zs=>
        obtain⟨xs,f,hs⟩:=hS a _ e;obtain⟨ys,g,ks⟩:=hS c _ e2;obtain⟨its,q1,p,_⟩:=I.list (.of f);obtain⟨its2,q2,p2,_⟩:=I.list (.of g);obtain⟨h1,h2⟩:=items hs ks q1 q2 h';have both:SeqAt.RcAt A s (.ref a) (.ref c) b∧SeqAt.RcNeAt A s (.ref a) (.ref c) (!b):=by
         by_cases hz:its.toArray.size=its2.toArray.size
         ·have t1:=SeqAt.RcAt.lists p.isList p2.isList hz hu0 h1;have t2:=SeqAt.RcNeAt.lists p.isList p2.isList hz hu0 h1;rw [←hz,Nat.min_self,beq_self_eq_true,Bool.and_true]at h2;rw [h2]at t1 t2;exact⟨t1,t2⟩
         ·have hz':(its.toArray.size != its2.toArray.size)=true:=by simpa using hz
          have hz2:(its.toArray.size == its2.toArray.size)=false:=by simpa using hz
          rw [hz2,Bool.and_false]at h2;subst h2;exact⟨.lists_lengths p.isList p2.isList hz' hu0, .lists_lengths p.isList p2.isList hz' hu0⟩
        refine⟨?_,both.1,both.2⟩;by_cases ee:a=c
        ·subst ee;have:=zfT I (n+1) (.ref a) (.ref a) hS h;rw [this];exact .same _
        ·exact .of_refs ee both.1
   |_=>cases h
  |scr f=>cases ry<;>cases h
end
noncomputable def oEq (neg:Bool):W2:=fun x y S Q=>match eqF S 60 x y with
 |some b=>Q (.bl (if neg then !b else b)) S
 |none=>False
noncomputable def zsg (K:PySem.W.Frag) (neg:Bool):R2:=fun x y H Q=>∃wx wy S b,Rep K H wx x∧Rep K H wy y∧RepS K H S∧eqF S 60 wx wy=some b∧Q (.bl (if neg then !b else b)) H
section
variable {X:Cx}
theorem zni (hu:X.A.units+60<cLine):OpR X (compareOp .Eq) (zsg X.K false):=by
 intro pins s σ H x y v u Q I rx ry h;obtain⟨wx,wy,S,b,r1,r2,hS,e,q⟩:=h;exact(zls I hS 60 hu r1 r2 rx ry e).2.1 _ _ _ _ ⟨.bl b,H,I,rfl,q⟩
theorem zpJ (hu:X.A.units+60<cLine):OpR X (compareOp .NotEq) (zsg X.K true):=by
 intro pins s σ H x y v u Q I rx ry h;obtain⟨wx,wy,S,b,r1,r2,hS,e,q⟩:=h;exact(zls I hS 60 hu r1 r2 rx ry e).2.2 _ _ _ _ ⟨.bl (!b),H,I,rfl,q⟩
theorem zjV{K:PySem.W.Frag}{neg:Bool}:OpW K (zsg K neg) (oEq neg):=fun H x y wx wy S Q QW rx ry hS h hQ=>by
 unfold oEq at h;split at h
 ·rename_i b e;exact⟨wx,wy,S,b,rx,ry,hS,e,hQ _ S _ H .refl (.bl _) hS h⟩
 ·exact h.elim
variable {a b:Expr}{pos:Pos}{ta tb:WE}
theorem znY{k:Nat}(hr:Room k X.A) (ha:JE X a ta) (hb:JE X b tb):JE X (.Compare a [.Eq] [b] pos) (wOp (oEq false) ta tb):=zpT (zni (by have:=hr.units;omega)) zjV ha hb (nomark b)
theorem zdy{k:Nat}(hr:Room k X.A) (ha:JE X a ta) (hb:JE X b tb):JT X (.Compare a [.Eq] [b] pos) (wTb (wOp (oEq false) ta tb)):=zer (zni (by have:=hr.units;omega)) zjV ha hb (nomark b)
theorem zlJ{k:Nat}(hr:Room k X.A) (ha:JE X a ta) (hb:JE X b tb):JT X (.Compare a [.NotEq] [b] pos) (wTb (wOp (oEq true) ta tb)):=zer (zpJ (by have:=hr.units;omega)) zjV ha hb (nomark b)
noncomputable abbrev oLt:W2:=zdp fun i j=> .bl (decide (i<j))
noncomputable abbrev oGt:W2:=zdp fun i j=> .bl (decide (j<i))
noncomputable abbrev oGe:W2:=zdp fun i j=> .bl (decide (j≤i))
noncomputable def oLe:W2
 | .int i, .int j,S,Q=>Q (.bl (decide (i≤j))) S
 | .str i, .str j,S,Q=>Q (.bl (!decide (j.cps.toList<i.cps.toList))) S
 |_,_,_,_=>False
theorem zmz (ha:JE X a ta) (hb:JE X b tb):JT X (.Compare a [.Lt] [b] pos) (wTb (wOp oLt ta tb)):=zer zsX zfQ ha hb (nomark b)
theorem zoS (ha:JE X a ta) (hb:JE X b tb):JT X (.Compare a [.Gt] [b] pos) (wTb (wOp oGt ta tb)):=zer zsH zfQ ha hb (nomark b)
theorem zte (ha:JE X a ta) (hb:JE X b tb):JT X (.Compare a [.GtE] [b] pos) (wTb (wOp oGe ta tb)):=zer zta zfQ ha hb (nomark b)
noncomputable def oIs (neg:Bool):W2
 | .non, .non,S,Q=>Q (.bl (!neg)) S
 | .bl a, .bl b,S,Q=>Q (.bl (if neg then a != b else a == b)) S
 | .bl _, .non,S,Q=>Q (.bl neg) S
 | .int _, .non,S,Q=>Q (.bl neg) S
 | .str _, .non,S,Q=>Q (.bl neg) S
 | .tup _, .non,S,Q=>Q (.bl neg) S
 | .ref _, .non,S,Q=>Q (.bl neg) S
 |_,_,_,_=>False
theorem zrG:OpR X (compareOp .Is) (fun x y H Q=>(y= .non∧Q (.bl (decide (x= .non))) H)∨ ∃a b,x= .bl a∧y= .bl b∧Q (.bl (a == b)) H):=op_isN.or (by
 intro pins s σ H x y v u Q I rx ry h;obtain⟨a,b,rfl,rfl,q⟩:=h;cases rx;cases ry;exact is_bool ⟨.bl _,H,I,rfl,q⟩)
theorem zjW:OpR X (compareOp .IsNot) (fun x y H Q=>(y= .non∧Q (.bl (!decide (x= .non))) H)∨ ∃a b,x= .bl a∧y= .bl b∧Q (.bl (a != b)) H):=op_notN.or (by
 intro pins s σ H x y v u Q I rx ry h;obtain⟨a,b,rfl,rfl,q⟩:=h;cases rx;cases ry;exact isnot_bool ⟨.bl _,H,I,rfl,q⟩)
theorem zpE{K:PySem.W.Frag}:OpW K (fun x y H Q=>(y= .non∧Q (.bl (decide (x= .non))) H)∨ ∃a b,x= .bl a∧y= .bl b∧Q (.bl (a == b)) H) (oIs false):=fun H x y wx wy S Q QW rx ry hS h hQ=>by
 cases ry with
 |non=>cases rx<;>first |exact .inl ⟨rfl,by simpa using hQ _ S _ H .refl (.bl _) hS h⟩ |exact h.elim
 |bl b=>
  cases rx with
  |bl a=>exact .inr ⟨a,b,rfl,rfl,hQ _ S _ H .refl (.bl _) hS h⟩
  |_=>exact h.elim
 |_=>cases rx<;>exact h.elim
theorem zkp{K:PySem.W.Frag}:OpW K (fun x y H Q=>(y= .non∧Q (.bl (!decide (x= .non))) H)∨ ∃a b,x= .bl a∧y= .bl b∧Q (.bl (a != b)) H) (oIs true):=fun H x y wx wy S Q QW rx ry hS h hQ=>by
 cases ry with
 |non=>cases rx<;>first |exact .inl ⟨rfl,by simpa using hQ _ S _ H .refl (.bl _) hS h⟩ |exact h.elim
 |bl b=>
  cases rx with
  |bl a=>exact .inr ⟨a,b,rfl,rfl,hQ _ S _ H .refl (.bl _) hS h⟩
  |_=>exact h.elim
 |_=>cases rx<;>exact h.elim
theorem zsT (ha:JE X a ta) (hb:JE X b tb):JT X (.Compare a [.Is] [b] pos) (wTb (wOp (oIs false) ta tb)):=zer zrG zpE ha hb (nomark b)
theorem zmE (ha:JE X a ta) (hb:JE X b tb):JT X (.Compare a [.IsNot] [b] pos) (wTb (wOp (oIs true) ta tb)):=zer zjW zkp ha hb (nomark b)
end
noncomputable def inF (S:Sto) (x:W):List W→Option Bool
 | []=>some false
 |w::ws=>match eqF S 59 w x with
  |some a=>match inF S x ws with
   |some b=>some (a || b)
   |none=>none
  |none=>none
noncomputable def oIn (neg:Bool):W2:=fun x y S Q=>match y with
 | .str j=>match x with
  | .str i=>Q (.bl (if neg then !(!(Builtin.Str.occurrences j i 0 j.length 1).isEmpty) else !(Builtin.Str.occurrences j i 0 j.length 1).isEmpty)) S
  |_=>False
 | .tup ws=>match inF S x ws with
  |some b=>Q (.bl (if neg then !b else b)) S
  |none=>False
 | .ref a=>zbK S a fun ws=>match inF S x ws with
  |some b=>Q (.bl (if neg then !b else b)) S
  |none=>False
 |_=>False
noncomputable def oIx:W2:=fun x y S Q=>match y with
 | .int i=>match x with
  | .tup ws=>match atI ws i with
   |some w=>Q w S
   |none=>False
  | .ref a=>zbK S a fun ws=>match atI ws i with
   |some w=>Q w S
   |none=>False
  | .scr ns=>match atI ns i with
   |some n=>Q (.int n) S
   |none=>False
  | .str x=>x.length≤sizeLine∧match atI x.cps.toList i with
   |some c=>Q (.str ⟨#[c]⟩) S
   |none=>False
  |_=>False
 |_=>False
theorem zhs{K:PySem.W.Frag}{H:Hp}{ws:List W}{vs:List V}{i:Int}{w:W}(r:Reps K H ws vs) (e:atI ws i=some w):∃v,atI vs i=some v∧Rep K H w v:=by
 unfold atI at e⊢;rw [←r.length];cases q:ixN ws.length i with
 |none=>rw [q]at e;cases e
 |some j=>rw [q]at e;exact r.get e
theorem znS{α β:Type}{f:α→β}{xs:List α}{i:Int}{x:α}(e:atI xs i=some x):atI (xs.map f) i=some (f x):=by
 unfold atI at e⊢;rw [List.length_map];cases q:ixN xs.length i with
 |none=>rw [q]at e;cases e
 |some j=>
  rw [q]at e;show(xs.map f)[j]? =_;rw [List.getElem?_map,show xs[j]? =some x from e];rfl
theorem zrS{K:PySem.W.Frag}:OpW K (rIx K) oIx:=fun H x y wx wy S Q QW rx ry hS h hQ=>by
 cases ry with
 |int i=>
  cases rx with
  |tup f hs=>
   unfold oIx at h;dsimp only at h;split at h
   ·obtain⟨v,ev,r⟩:=zhs hs ‹_›;exact .inr (.inl ⟨_,_,i,v,rfl,rfl, .of f,ev,hQ _ S _ H .refl r hS h⟩)
   ·exact h.elim
  |ref a=>
   obtain⟨ws,e,h⟩:=zbg h;obtain⟨vs,f,hs⟩:=hS a _ e;split at h
   ·obtain⟨v,ev,r⟩:=zhs hs ‹_›;exact .inl ⟨_,_,i,v,rfl,rfl, .of f,ev,hQ _ S _ H .refl r hS h⟩
   ·exact h.elim
  |scr f=>
   unfold oIx at h;dsimp only at h;split at h
   ·exact .inl ⟨_,_,i,_,rfl,rfl,f.sq,znS ‹_›,hQ _ S _ H .refl (.int _) hS h⟩
   ·exact h.elim
  |str z=>
   unfold oIx at h;dsimp only at h;obtain⟨hz,h⟩:=h;split at h
   ·exact .inr (.inr ⟨z,i,_,rfl,rfl,hz, ‹_›,hQ _ S _ H .refl (.str _) hS h⟩)
   ·exact h.elim
  |_=>exact h.elim
 |_=>exact h.elim
section
variable {X:Cx}{a b e:Expr}{pos p2:Pos}{ta tb te:WE}{lo hi:Option Expr}
theorem zap (ha:JE X a ta) (hb:JE X b tb) (hs:zhv b:=by intro _ _;rfl):JE X (.Subscript a b pos) (wOp oIx ta tb):=fun E hE=>
 (zrM znp (ha E hE) (hb E hE) hs).mono fun σ H Q h=>zed h fun H2 x y wx wy S QW rx ry hS q hQ=>zrS H2 x y wx wy S Q QW rx ry hS q hQ
noncomputable abbrev WO:=WX→WSt→Sto→(Option Int→Sto→Prop)→Prop
noncomputable def zsY (K:PySem.W.Frag) (t:WSt→Sto→(Option Int→Sto→Prop)→Prop):TO:=fun σ H Q=>∃σW S QW,RpSt K H σW σ∧RepS K H S∧t σW S QW∧ ∀b S' H',Ext H S H' S'→RepS K H' S'→QW b S'→Q b H'
noncomputable def JO (X:Cx) (e:Option Expr) (t:WO):Prop:=∀E,Hook X E→PO X e (zsY X.K (t E))
noncomputable def woN:WO:=fun _ _ S Q=>Q none S
noncomputable def woS (t:WE):WO:=fun E σ S Q=>t E σ S fun w S1=>match w with
 | .int i=>Q (some i) S1
 |_=>False
theorem PO.mono{X:Cx}{e:Option Expr}{t t':TO}(h:PO X e t) (q:∀σ H Q,t' σ H Q→t σ H Q):PO X e t':=fun pins s σ H Q I z=>h pins s σ H Q I (q σ H Q z)
theorem zaN:JO X none woN:=fun E hE=>po_none.mono fun σ H Q ⟨σW,S,QW,hσ,hS,ht,hQ⟩=>hQ none S H .refl hS ht
theorem zaM (h:JE X e te):JO X (some e) (woS te):=fun E hE=>(zpq (h E hE)).mono fun σ H Q ⟨σW,S,QW,hσ,hS,ht,hQ⟩=>⟨σW,S,_,hσ,hS,ht,fun w S1 v H1 e1 r1 hS1 h1=>by
 cases r1 with
 |int i=>exact⟨i,rfl,hQ _ S1 H1 e1 hS1 h1⟩
 |_=>exact h1.elim⟩
noncomputable def zdg {α:Type}(xs:List α) (lo hi:Option Int):List α:=(xs.drop (HT.sIx xs.length 0 lo)).take (HT.sIx xs.length xs.length hi - HT.sIx xs.length 0 lo)
theorem zfH{K:PySem.W.Frag}{H:Hp}{ws:List W}{vs:List V}{lo hi:Option Int}(r:Reps K H ws vs):Reps K H (zdg ws lo hi) (zlA vs lo hi):=by
 unfold zdg zlA;rw [r.length];exact(r.drop _).take _
theorem ziC{α β:Type}{f:α→β}{xs:List α}{lo hi:Option Int}:zdg (xs.map f) lo hi=(zdg xs lo hi).map f:=by
 unfold zdg;rw [List.length_map,List.map_take,List.map_drop]
theorem zdr{prog:Program}{w:World}{A:Around}{E:Value→Shared→Prop}{s:Shared}{t sl:Addr}{items:Array Value}{vl vu:Value}{lo hi:Option Int}{Q:Value→Shared→Prop}(ht:IsTup s.heap t items) (hs:s.heap.IsSliceOf sl vl vu .none) (pl:IsPart vl lo) (pu:IsPart vu hi)
  (hw:HT.sIx items.size 0 lo=0∧HT.sIx items.size items.size hi=items.size) (h:Q (.ref t) s):wpAny (model prog w) A (getItem (.ref t) (.ref sl)) Q E s:=by
 obtain⟨os,hos,hcs,hds⟩:=id hs;have hTs:s.TypeIs (.ref sl) "slice" :=⟨os,hos,hcs⟩;unfold getItem
 try with_reducible refine wpAny_holding ?_
 first |refine wpAny_bind (wpAny_pure ?_) |skip
 refine wpAny_bind (wpAny_sequenceKey ht.typeIs (by decide) ?_);refine wpAny_bind (wpAny_callSpecial?_slot (name:=Str.ofString "__getitem__") ht.typeIs PyProof.Rows.slot_tuple_getitem
  (wpAny_call_entry PyProof.Rows.slot_tuple_getitem ht.typeIs entry_tuple_getitem ?_ (args_tuple_getitem _ _)))
 show wpAny _ _ (Builtin.Tuple.tupleItemsOf (.ref t) >>= _) _ _ s;refine wpAny_bind (tupleItemsOf_ ht ?_);refine wpAny_bind (wpAny_typeOf hTs ?_);rw [if_pos (by decide)];refine wpAny_bind (HT.sliceApplied_gen hs pl pu ?_);show wpAny _ _ (if(((HT.sIx items.size 0 lo:Nat):Int) == 0&&(1:Int) == 1&&(HT.sIx items.size items.size hi - HT.sIx items.size 0 lo) == items.size)=true then _ else _) _ _ s;rw [hw.1,hw.2,if_pos (by simp)];unfold Builtin.Tuple.tupleIsExact;refine wpAny_bind (wpAny_bind (wpAny_typeOf ht.typeIs (wpAny_pure ?_)));rw [if_pos (by decide)];exact wpAny_bind (wpAny_rule (wpAny_pure ⟨_,rfl,wpAny_pure h⟩))
theorem sl_tupW:SlR X (fun x lo hi H Q=>∃a xs,x= .ref a∧SqT X.K H a xs∧((HT.sIx xs.length 0 lo=0∧HT.sIx xs.length xs.length hi=xs.length)∧Q (.ref a) H∨ ¬(HT.sIx xs.length 0 lo=0∧HT.sIx xs.length xs.length hi=xs.length)∧ ∀p,H p=none→Q (.ref p) (upd H p (.tup (zlA xs lo hi))))):=by
 intro pins s σ H x v vl vu lo hi sl Q I rx hs pl pu h;obtain⟨a,xs,rfl,hx,⟨hw,q⟩ |⟨hw,q⟩⟩:=h
 ·cases rx;obtain⟨its,r,ht,hz⟩:=I.tuple hx;have hlen:its.toArray.size=xs.length:=by rw [List.size_toArray];exact r.length.symm
  refine⟨"tuple",_,PyProof.Rows.slot_tuple_getitem.lookup,ht.typeIs,?_⟩;exact zdr ht hs pl pu (by rw [hlen];exact hw) ⟨.ref a,H,I,rfl,q⟩
 ·exact zqj pins s σ H _ v vl vu lo hi sl Q I rx hs pl pu ⟨a,xs,rfl,hx,hw,q⟩
noncomputable def oSl:W→Option Int→Option Int→Sto→WK→Prop
 | .tup ws,lo,hi,S,Q=>Q (.tup (zdg ws lo hi)) S
 | .str z,lo,hi,S,Q=>z.length≤sizeLine∧Q (.str (Txt.slice z lo hi)) S
 | .ref a,lo,hi,S,Q=>zbK S a fun ws=>∀p,S p=none→Q (.ref p) (put S p (.lst (zdg ws lo hi)))
 | .scr ns,lo,hi,S,Q=>∀p,S p=none→Q (.ref p) (put S p (.lst ((zdg ns lo hi).map W.int)))
 |_,_,_,_,_=>False
noncomputable def wSl (t:WE) (l h:WO):WE:=fun E σ S Q=>t E σ S fun x S1=>l E σ S1 fun lo S2=>h E σ S2 fun hi S3=>oSl x lo hi S3 Q
theorem zjf{α:Type}{xs:List α}{lo hi:Option Int}(h:HT.sIx xs.length 0 lo=0∧HT.sIx xs.length xs.length hi=xs.length):zdg xs lo hi=xs:=by
 unfold zdg;rw [h.1,h.2,List.drop_zero,Nat.sub_zero,List.take_length]
theorem zcs{tl th:WO}(he:JE X e te) (hl:JO X lo tl) (hh:JO X hi th):JE X (.Subscript e (.Slice lo hi none p2) pos) (wSl te tl th):=fun E hE=>
 (zhP (sl_tupW.or (sl_str.or zjN)) (he E hE) (hl E hE) (hh E hE)).mono fun σ H Q ⟨σW,S,QW,hσ,hS,ht,hQ⟩=>
  ⟨σW,S,_,hσ,hS,ht,fun w S1 v H1 e1 r1 hS1 h1=>⟨σW,S1,_,hσ.ext e1,hS1,h1,fun lo S2 H2 e2 hS2 h2=>⟨σW,S2,_,(hσ.ext e1).ext e2,hS2,h2,fun hi S3 H3 e3 hS3 h3=>by
   have hQ':=hQ.from (e1.trans (e2.trans e3));have r3:=(r1.ext e2).ext e3;cases r3 with
   | @tup a vs ws f hs=>
    refine .inl ⟨a,vs,rfl, .of f,?_⟩;by_cases hw:HT.sIx vs.length 0 lo=0∧HT.sIx vs.length vs.length hi=vs.length
    ·refine .inl ⟨hw,hQ' (.tup ws) S3 _ H3 .refl (.tup f hs) hS3 ?_⟩;have:=zjf (xs:=ws) (lo:=lo) (hi:=hi) (by rw [hs.length];exact hw);have h3':QW (.tup (zdg ws lo hi)) S3:=h3;rw [this]at h3';exact h3'
    ·exact .inr ⟨hw,fun p hp=>hQ' _ S3 _ _ (.new hp) (.tup zay ((zfH hs).ext (.new (S:=S3) hp))) (hS3.new hp) h3⟩
   |str z=>exact .inr (.inl ⟨z,rfl,h3.1,hQ' _ S3 _ H3 .refl (.str _) hS3 h3.2⟩)
   |ref a=>
    obtain⟨ws,ea,h⟩:=zbg h3;obtain⟨vs,f,hs⟩:=hS3 a _ ea;exact .inr (.inr ⟨a,vs,rfl, .of f,fun p hp=>hQ' _ _ _ _ (.newS hp) (.ref p) (hS3.put_lst hp ((zfH hs).ext (.new (S:=S3) hp))) (h p (hS3.free hp))⟩)
   | @scr a ns f=>
    refine .inr (.inr ⟨a,_,rfl,f.sq,fun p hp=>hQ' _ _ _ _ (.newS hp) (.ref p) (hS3.put_lst hp ?_) (h3 p (hS3.free hp))⟩);have q:zlA (ns.map V.int) lo hi=(zdg ns lo hi).map V.int:=ziC;rw [q];exact Reps.ofInts _
   |_=>exact h3.elim⟩⟩⟩
noncomputable def zpC (t:WE) (l h:WO):WL:=fun E σ S Q=>t E σ S fun x S1=>l E σ S1 fun lo S2=>h E σ S2 fun hi S3=>match x with
 | .ref a=>zbK S3 a fun ws=>Q (zdg ws lo hi) S3
 | .scr ns=>Q ((zdg ns lo hi).map W.int) S3
 |_=>False
theorem zoL{tl th:WO}(he:JE X e te) (hl:JO X lo tl) (hh:JO X hi th):JL X (.Subscript e (.Slice lo hi none p2) pos) (zpC te tl th):=fun E hE=>
 (zhP zjN (he E hE) (hl E hE) (hh E hE)).mono fun σ H Q ⟨σW,S,QW,hσ,hS,ht,hQ⟩=>
  ⟨σW,S,_,hσ,hS,ht,fun w S1 v H1 e1 r1 hS1 h1=>⟨σW,S1,_,hσ.ext e1,hS1,h1,fun lo S2 H2 e2 hS2 h2=>⟨σW,S2,_,(hσ.ext e1).ext e2,hS2,h2,fun hi S3 H3 e3 hS3 h3=>by
   have e':=e1.trans (e2.trans e3);have r3:=(r1.ext e2).ext e3;cases r3 with
   |ref a=>
    obtain⟨ws,ea,h⟩:=zbg h3;obtain⟨vs,f,hs⟩:=hS3 a _ ea;exact⟨a,vs,rfl, .of f,fun p hp=>hQ _ S3 _ p _ (e'.trans (.new hp)) (e'.free hp) zay (hS3.free hp) ((zfH hs).ext (.new (S:=S3) hp)) (hS3.new hp) h⟩
   | @scr a ns f=>
    refine⟨a,_,rfl,f.sq,fun p hp=>hQ _ S3 _ p _ (e'.trans (.new hp)) (e'.free hp) zay (hS3.free hp) ?_ (hS3.new hp) h3⟩;have q:zlA (ns.map V.int) lo hi=(zdg ns lo hi).map V.int:=ziC;rw [q];exact Reps.ofInts _
   |_=>exact h3.elim⟩⟩⟩
end
noncomputable abbrev WF:=List W→Sto→WK→Prop
noncomputable def wB (f:WF) (t:WA):WE:=fun E σ S Q=>t E σ S fun ws S1=>f ws S1 Q
noncomputable def zhM (K:PySem.W.Frag) (r:List V→Hp→VK→Prop) (f:WF):Prop:=∀H vs ws S (Q:VK) (QW:WK),Reps K H ws vs→RepS K H S→f ws S QW→Wish K H S QW Q→r vs H Q
noncomputable def wBL (f:WF) (t:WL):WE:=fun E σ S Q=>t E σ S fun ws S1=>f ws S1 Q
noncomputable def zkS (K:PySem.W.Frag) (r:List V→Hp→VK→Prop) (f:WF):Prop:=∀H a vs ws S (Q:VK) (QW:WK),H a=some (.lst vs)→S a=none→Reps K H ws vs→RepS K H S→f ws S QW→Wish K H S QW Q→r [.ref a] H Q
section
variable {X:Cx}{x:Str}{p pos:Pos}{e:Expr}{es:List Expr}{t:WA}{tl:WL}{id T:String}{r:List V→Hp→VK→Prop}{f:WF}
theorem znA (hc:CallR X (.builtin id) r) (hw:zhM X.K r f) (hg:Gl X x) (hm:X.mg x=none) (hv:bootBuiltins x=some (.builtin id)) (ha:JA X (e::es) t) (hn:x≠ "__name__" :=by decide) (hdb:(x == ("__debug__" :Str))=false:=by decide)
  (he:starEach (e::es) X.env=(false,eval e X.env)::starEach es X.env:=by rfl) (hpl:(backTo pos (starEach es X.env)).any (·.1)=false:=by rfl):JE X (.Call (.Name x p) (e::es) [] pos) (wB f t):=fun E hE=>
 (zfs hc hg hm hv (ha E hE) hn hdb he hpl).mono fun σ H Q ⟨σW,S,QW,hσ,hS,ht,hQ⟩=>⟨σW,S,_,hσ,hS,ht,fun ws S1 vs H1 e1 r1 hS1 h1=>hw H1 vs ws S1 Q QW r1 hS1 h1 (hQ.from e1)⟩
theorem zqb (hc:CallR X (.type T) r) (hw:zhM X.K r f) (hg:Gl X x) (hm:X.mg x=none) (hv:bootBuiltins x=some (.type T)) (ha:JA X (e::es) t) (hn:x≠ "__name__" :=by decide) (hdb:(x == ("__debug__" :Str))=false:=by decide)
  (he:starEach (e::es) X.env=(false,eval e X.env)::starEach es X.env:=by rfl) (hpl:(backTo pos (starEach es X.env)).any (·.1)=false:=by rfl):JE X (.Call (.Name x p) (e::es) [] pos) (wB f t):=fun E hE=>
 (zgK hc hg hm hv (ha E hE) hn hdb he hpl).mono fun σ H Q ⟨σW,S,QW,hσ,hS,ht,hQ⟩=>⟨σW,S,_,hσ,hS,ht,fun ws S1 vs H1 e1 r1 hS1 h1=>hw H1 vs ws S1 Q QW r1 hS1 h1 (hQ.from e1)⟩
theorem zkI (hc:CallR X (.builtin id) r) (hw:zkS X.K r f) (hg:Gl X x) (hm:X.mg x=none) (hv:bootBuiltins x=some (.builtin id)) (ha:JL X e tl) (hn:x≠ "__name__" :=by decide) (hdb:(x == ("__debug__" :Str))=false:=by decide)
  (he:starEach [e] X.env=(false,eval e X.env)::starEach [] X.env:=by rfl) (hpl:(backTo pos (starEach [] X.env)).any (·.1)=false:=by rfl):JE X (.Call (.Name x p) [e] [] pos) (wBL f tl):=fun E hE=>
 (zfs hc hg hm hv (zcE (ha E hE) pa_nil he) hn hdb he hpl).mono fun σ H Q ⟨σW,S,QW,hσ,hS,ht,hQ⟩=>⟨σW,S,_,hσ,hS,ht,fun ws S1 vs a H1 e1 fa ea na r1 hS1 h1=>hw H1 a vs ws S1 Q QW ea na r1 hS1 h1 (hQ.from e1)⟩
theorem zqs (hc:CallR X (.type T) r) (hw:zkS X.K r f) (hg:Gl X x) (hm:X.mg x=none) (hv:bootBuiltins x=some (.type T)) (ha:JL X e tl) (hn:x≠ "__name__" :=by decide) (hdb:(x == ("__debug__" :Str))=false:=by decide)
  (he:starEach [e] X.env=(false,eval e X.env)::starEach [] X.env:=by rfl) (hpl:(backTo pos (starEach [] X.env)).any (·.1)=false:=by rfl):JE X (.Call (.Name x p) [e] [] pos) (wBL f tl):=fun E hE=>
 (zgK hc hg hm hv (zcE (ha E hE) pa_nil he) hn hdb he hpl).mono fun σ H Q ⟨σW,S,QW,hσ,hS,ht,hQ⟩=>⟨σW,S,_,hσ,hS,ht,fun ws S1 vs a H1 e1 fa ea na r1 hS1 h1=>hw H1 a vs ws S1 Q QW ea na r1 hS1 h1 (hQ.from e1)⟩
noncomputable def zec:WF:=fun ws S Q=>match ws with
 | [.tup us]=>Q (.int us.length) S
 | [.ref a]=>zbK S a fun us=>Q (.int us.length) S
 | [.scr ns]=>Q (.int ns.length) S
 | [.str z]=>z.length≤sizeLine∧Q (.int z.length) S
 |_=>False
theorem zkh{K:PySem.W.Frag}:zhM K (fun xs H Q=>(∃p ys,xs=[.ref p]∧(SqL K H p ys∨SqT K H p ys)∧Q (.int ys.length) H)∨ ∃z,xs=[.str z]∧z.length≤sizeLine∧Q (.int z.length) H) zec:=fun H vs ws S Q QW r hS h hQ=>by
 cases r with
 |nil=>exact h.elim
 |cons r1 r2=>
  cases r2 with
  |cons _ _=>cases r1<;>exact h.elim
  |nil=>
   cases r1 with
   |tup f hs=>exact .inl ⟨_,_,rfl, .inr (.of f),by rw [←hs.length];exact hQ _ S _ H .refl (.int _) hS h⟩
   |ref a=>
    obtain⟨us,e,h⟩:=zbg h;obtain⟨vs,f,hs⟩:=hS a _ e;exact .inl ⟨_,_,rfl, .inl (.of f),by rw [←hs.length];exact hQ _ S _ H .refl (.int _) hS h⟩
   |scr f=>exact .inl ⟨_,_,rfl, .inl f.sq,by rw [List.length_map];exact hQ _ S _ H .refl (.int _) hS h⟩
   |str z=>exact .inr ⟨z,rfl,h.1,hQ _ S _ H .refl (.int _) hS h.2⟩
   |_=>exact h.elim
theorem zcd (hg:Gl X "len") (hm:X.mg "len" =none) (ha:JA X (e::es) t) 
  (he:starEach (e::es) X.env=(false,eval e X.env)::starEach es X.env:=by rfl) (hpl:(backTo pos (starEach es X.env)).any (·.1)=false:=by rfl):JE X (.Call (.Name "len" p) (e::es) [] pos) (wB zec t):=
 znA (call_len_seq.or zgw) zkh hg hm PySem.boot_len ha (by decide) (by decide) he hpl
noncomputable def zev:WF:=fun ws S Q=>match ws with
 | [.tup us]=>Q (.tup us) S
 | [.ref a]=>zbK S a fun us=>Q (.tup us) S
 |_=>False
theorem zho{K:PySem.W.Frag}:zhM K (fun xs H Q=>∃p ys,xs=[.ref p]∧((SqL K H p ys∧ ∀l,H l=none→Q (.ref l) (upd H l (.tup ys)))∨(SqT K H p ys∧Q (.ref p) H))) zev:=fun H vs ws S Q QW r hS h hQ=>by
 cases r with
 |nil=>exact h.elim
 |cons r1 r2=>
  cases r2 with
  |cons _ _=>cases r1<;>exact h.elim
  |nil=>
   cases r1 with
   |tup f hs=>exact⟨_,_,rfl, .inr ⟨.of f,hQ _ S _ H .refl (.tup f hs) hS h⟩⟩
   |ref a=>
    obtain⟨us,e,h⟩:=zbg h;obtain⟨vs,f,hs⟩:=hS a _ e;exact⟨_,_,rfl, .inl ⟨.of f,fun l hl=>hQ _ S _ _ (.new hl) (.tup zay (hs.ext (.new (S:=S) hl))) (hS.new hl) h⟩⟩
   |_=>exact h.elim
noncomputable def zfz:WF:=fun ws S Q=>Q (.tup ws) S
theorem zhh{K:PySem.W.Frag}:zkS K (fun xs H Q=>∃p ys,xs=[.ref p]∧((SqL K H p ys∧ ∀l,H l=none→Q (.ref l) (upd H l (.tup ys)))∨(SqT K H p ys∧Q (.ref p) H))) zfz:=fun H a vs ws S Q QW ea na r hS h hQ=>
 ⟨a,vs,rfl, .inl ⟨.of ea,fun l hl=>hQ _ S _ _ (.new hl) (.tup zay (r.ext (.new (S:=S) hl))) (hS.new hl) h⟩⟩
noncomputable def zgA:List W→Option (List Bool)
 | []=>some []
 | .bl b::ws=>(zgA ws).map (b:: ·)
 |_=>none
theorem zlg{K:PySem.W.Frag}{H:Hp}:∀{ws:List W}{vs:List V}{bs:List Bool},Reps K H ws vs→zgA ws=some bs→vs=bs.map V.bl
 | [],_,_, .nil,e=>by have:=Option.some.inj e;subst this;rfl
 |w::ws,_,_, .cons r rs,e=>by
  cases r with
  |bl b=>
   have e':(zgA ws).map (b:: ·)=some _:=e;cases q:zgA ws with
   |none=>rw [q]at e';cases e'
   |some cs=>
    rw [q]at e';have:=Option.some.inj e';subst this;rw [List.map_cons,zlg rs q]
  |_=>cases e
noncomputable def zlr:WF:=fun ws S Q=>match zgA ws with
 |some bs=>Q (.bl (bs.all _root_.id)) S
 |none=>False
theorem zlz{K:PySem.W.Frag}:zkS K (fun xs H Q=>∃(p:Addr) (bs:List Bool),xs=[.ref p]∧SqL K H p (bs.map V.bl)∧Q (.bl (bs.all _root_.id)) H) zlr:=fun H a vs ws S Q QW ea na r hS h hQ=>by
 unfold zlr at h;split at h
 ·rename_i bs e;have:=zlg r e;subst this;exact⟨a,bs,rfl, .of ea,hQ _ S _ H .refl (.bl _) hS h⟩
 ·exact h.elim
noncomputable def tyW:W→Sto→(String→Prop)→Prop
 | .non,_,Q=>Q "NoneType"
 | .bl _,_,Q=>Q "bool"
 | .int _,_,Q=>Q "int"
 | .str _,_,Q=>Q "str"
 | .tup _,_,Q=>Q "tuple"
 | .ref a,S,Q=>zbK S a fun _=>Q "list"
 | .scr _,_,_=>False
noncomputable def zbp (A B:String):Bool:=A == B || (A == "bool" &&B == "int")
noncomputable def zjo (T:String) (t:WE):WE:=fun E σ S Q=>t E σ S fun w S1=>tyW w S1 fun A=>Q (.bl (zbp A T)) S1
theorem zdl{a:Expr}{ta:WE}{p2:Pos}{T:Str}{T':String}(hg:Gl X "isinstance") (hm:X.mg "isinstance" =none) (hgT:Gl X T) (hmT:X.mg T=none) (hv:bootBuiltins T=some (.type T')) (ha:JE X a ta) (hn:T≠ "__name__") (hd:(T == ("__debug__" :Str))=false)
  (hk:∀A∈ ["NoneType", "bool", "int", "str", "tuple", "list"],PySem.W.kitOne X.K (.type A) (.type T')=some (zbp A T'))
  (he:starEach [a, .Name T p2] X.env=(false,eval a X.env)::starEach [.Name T p2] X.env:=by rfl) (he2:starEach [.Name T p2] X.env=(false,eval (.Name T p2) X.env)::starEach [] X.env:=by rfl) (hpl:(backTo pos (starEach [.Name T p2] X.env)).any (·.1)=false:=by rfl) :
  JE X (.Call (.Name "isinstance" p) [a, .Name T p2] [] pos) (zjo T' ta):=fun E hE=>
 (zfs zmV hg hm PyProof.Rows.boot_isinstance (zcE (ha E hE) (zcE (znW (v:= .ty T') hgT hmT hv rfl hn hd) pa_nil he2) he) (by decide) (by decide) he hpl).mono fun σ H Q ⟨σW,S,QW,hσ,hS,ht,hQ⟩=>⟨σW,S,_,hσ,hS,ht,fun w S1 v H1 e1 r1 hS1 h1=>by
  have fin:∀{t:Value}(A:String),t= .type A→A∈ ["NoneType", "bool", "int", "str", "tuple", "list"]→TyOf X.K H1 v t→QW (.bl (zbp A T')) S1→ ∃x t c b,[v,V.ty T']=[x, .ty c]∧TyOf X.K H1 x t∧PySem.W.kitOne X.K t (.type c)=some b∧Q (.bl b) H1:=fun A e hA ty q=>by
   subst e;exact⟨v,_,T',_,rfl,ty,hk A hA,hQ _ S1 _ H1 e1 (.bl _) hS1 q⟩
  cases r1 with
  |non=>exact fin _ rfl (by simp) .non h1
  |bl b=>exact fin _ rfl (by simp) (.bl b) h1
  |int i=>exact fin _ rfl (by simp) (.int i) h1
  |str z=>exact fin _ rfl (by simp) (.str z) h1
  |tup f hs=>exact fin _ rfl (by simp) (.tup f) h1
  |ref a=>
   obtain⟨ws,ea,h⟩:=zbg h1;obtain⟨vs,f,hs⟩:=hS1 a _ ea;exact fin _ rfl (by simp) (.lst f) h
  |scr f=>exact h1.elim⟩
end
noncomputable abbrev WMf:=W→List W→Sto→WK→Prop
noncomputable def rvL:W→Sto→Prop
 | .ref a,S=>zbK S a fun _=>True
 |_,_=>False
noncomputable def rvS:W→Sto→Prop
 | .str _,_=>True
 |_,_=>False
noncomputable def wM (rv:W→Sto→Prop) (f:WMf) (to:WE) (t:WA):WE:=fun E σ S Q=>to E σ S fun w S1=>rv w S1∧t E σ S1 fun ws S2=>f w ws S2 Q
noncomputable def wML (rv:W→Sto→Prop) (f:WMf) (to:WE) (t:WL):WE:=fun E σ S Q=>to E σ S fun w S1=>rv w S1∧t E σ S1 fun ws S2=>f w ws S2 Q
noncomputable def MtW (K:PySem.W.Frag) (r:V→List V→Hp→VK→Prop) (f:WMf):Prop:=∀H x w vs ws S (Q:VK) (QW:WK),Rep K H w x→Reps K H ws vs→RepS K H S→f w ws S QW→Wish K H S QW Q→r x vs H Q
noncomputable def MtL (K:PySem.W.Frag) (r:V→List V→Hp→VK→Prop) (f:WMf):Prop:=∀H x w a vs ws S (Q:VK) (QW:WK),Rep K H w x→H a=some (.lst vs)→S a=none→Reps K H ws vs→RepS K H S→f w ws S QW→Wish K H S QW Q→r x [.ref a] H Q
noncomputable def zrl (K:PySem.W.Frag) (T:String) (rv:W→Sto→Prop):Prop:=∀H w v S,Rep K H w v→RepS K H S→rv w S→tyV K T v H
theorem zrD{K:PySem.W.Frag}:zrl K "list" rvL:=fun H w v S r hS h=>by
 cases r with
 |ref a=>
  obtain⟨ws,e,_⟩:=zbg h;obtain⟨vs,f,_⟩:=hS a _ e;exact .inl ⟨rfl,vs, .of f⟩
 |_=>exact h.elim
theorem znm{K:PySem.W.Frag}:zrl K "str" rvS:=fun H w v S r hS h=>by
 cases r with
 |str x=>exact rfl
 |_=>exact h.elim
section
variable {X:Cx}{o e:Expr}{es:List Expr}{to:WE}{t:WA}{tl:WL}{name:Str}{apos cpos:Pos}{id T:String}{r:V→List V→Hp→VK→Prop}{f:WMf}{rv:W→Sto→Prop}
theorem ztK (pa:PlainAttrs T) (slot:Slot T name id) (hty:typeOf (.builtin id)=pure (.type "method_descriptor")) (hrv:zrl X.K T rv) (hm:MtR X id r) (hw:MtW X.K r f) (ho:JE X o to) (ha:JA X (e::es) t)
  (hbase:attributeBase o name X.env (eval o X.env)=eval o X.env:=by rfl)
  (hfew:((backTo cpos (starEach (e::es) X.env)).all (fun x=> !x.1)&&(backToKw cpos (keywordEach [] X.env)).all (fun x=>x.1.isSome)
   &&decide ((e::es).length+([]:List Keyword).length+(if([]:List Keyword).isEmpty then 0 else 1)<30))=true:=by rfl)
  (hline:(apos.endLine == cpos.line)=true:=by rfl) (hs:starEach (e::es) X.env=(false,eval e X.env)::starEach es X.env:=by rfl) (hplain:(backTo cpos (starEach es X.env)).any (·.1)=false:=by rfl) :
  JE X (.Call (.Attribute o name apos) (e::es) [] cpos) (wM rv f to t):=fun E hE=>
 (zpN pa slot hty hm (ho E hE) (ha E hE) hbase hfew hline hs hplain).mono fun σ H Q ⟨σW,S,QW,hσ,hS,ht,hQ⟩=>⟨σW,S,_,hσ,hS,ht,fun w S1 v H1 e1 r1 hS1 h1=>
  ⟨hrv H1 w v S1 r1 hS1 h1.1,σW,S1,_,hσ.ext e1,hS1,h1.2,fun ws S2 vs H2 e2 r2 hS2 h2=>hw H2 v w vs ws S2 Q QW (r1.ext e2) r2 hS2 h2 (hQ.from (e1.trans e2))⟩⟩
theorem zsc (pa:PlainAttrs T) (slot:Slot T name id) (hty:typeOf (.builtin id)=pure (.type "method_descriptor")) (hrv:zrl X.K T rv) (hm:MtR X id r) (hw:MtL X.K r f) (ho:JE X o to) (ha:JL X e tl)
  (hbase:attributeBase o name X.env (eval o X.env)=eval o X.env:=by rfl)
  (hfew:((backTo cpos (starEach [e] X.env)).all (fun x=> !x.1)&&(backToKw cpos (keywordEach [] X.env)).all (fun x=>x.1.isSome)
   &&decide ([e].length+([]:List Keyword).length+(if([]:List Keyword).isEmpty then 0 else 1)<30))=true:=by rfl)
  (hline:(apos.endLine == cpos.line)=true:=by rfl) (hs:starEach [e] X.env=(false,eval e X.env)::starEach [] X.env:=by rfl) (hplain:(backTo cpos (starEach [] X.env)).any (·.1)=false:=by rfl) :
  JE X (.Call (.Attribute o name apos) [e] [] cpos) (wML rv f to tl):=fun E hE=>
 (zpN pa slot hty hm (ho E hE) (zcE (ha E hE) pa_nil hs) hbase hfew hline hs hplain).mono fun σ H Q ⟨σW,S,QW,hσ,hS,ht,hQ⟩=>⟨σW,S,_,hσ,hS,ht,fun w S1 v H1 e1 r1 hS1 h1=>
  ⟨hrv H1 w v S1 r1 hS1 h1.1,σW,S1,_,hσ.ext e1,hS1,h1.2,fun ws S2 vs a H2 e2 fa ea na r2 hS2 h2=>hw H2 v w a vs ws S2 Q QW (r1.ext e2) ea na r2 hS2 h2 (hQ.from (e1.trans e2))⟩⟩
theorem ztl (pa:PlainAttrs T) (slot:Slot T name id) (hty:typeOf (.builtin id)=pure (.type "method_descriptor")) (hrv:zrl X.K T rv) (hm:MtR X id r) (hw:MtW X.K r f) (ho:JE X o to)
  (hbase:attributeBase o name X.env (eval o X.env)=eval o X.env:=by rfl) (hline:(apos.endLine == cpos.line)=true:=by rfl):JE X (.Call (.Attribute o name apos) [] [] cpos) (wM rv f to waNil):=fun E hE=>
 (zqN pa slot hty hm (ho E hE) hbase hline).mono fun σ H Q ⟨σW,S,QW,hσ,hS,ht,hQ⟩=>⟨σW,S,_,hσ,hS,ht,fun w S1 v H1 e1 r1 hS1 h1=>
  ⟨hrv H1 w v S1 r1 hS1 h1.1,hw H1 v w [] [] S1 Q QW r1 .nil hS1 h1.2 (hQ.from e1)⟩⟩
noncomputable def zcP:WMf:=fun w ws S Q=>match w with
 | .ref a=>zbK S a fun xs=>match ws with
  | [y]=>xs.length<sizeLine∧Q .non (put S a (.lst (xs++[y])))
  |_=>False
 |_=>False
theorem zji{K:PySem.W.Frag}:MtW K zjA zcP:=fun H x w vs ws S Q QW r rs hS h hQ=>by
 cases r with
 |ref a=>
  obtain⟨xs,ea,h⟩:=zbg h;obtain⟨us,f,hs⟩:=hS a _ ea;cases rs with
  |nil=>exact h.elim
  |cons r1 r2=>
   cases r2 with
   |cons _ _=>exact h.elim
   |nil=>
    obtain⟨e,hS'⟩:=hS.set_lst ea (hs.append (.one r1));exact⟨a,us,_,rfl,rfl,f,by rw [←hs.length];exact h.1,hQ _ _ _ _ e .non hS' h.2⟩
 |_=>exact h.elim
theorem zcZ (ho:JE X o to) (ha:JA X (e::es) t)
  (hbase:attributeBase o "append" X.env (eval o X.env)=eval o X.env:=by rfl)
  (hfew:((backTo cpos (starEach (e::es) X.env)).all (fun x=> !x.1)&&(backToKw cpos (keywordEach [] X.env)).all (fun x=>x.1.isSome)
   &&decide ((e::es).length+([]:List Keyword).length+(if([]:List Keyword).isEmpty then 0 else 1)<30))=true:=by rfl)
  (hline:(apos.endLine == cpos.line)=true:=by rfl) (hs:starEach (e::es) X.env=(false,eval e X.env)::starEach es X.env:=by rfl) (hplain:(backTo cpos (starEach es X.env)).any (·.1)=false:=by rfl) :
  JE X (.Call (.Attribute o "append" apos) (e::es) [] cpos) (wM rvL zcP to t):=ztK PySem.F.plainAttrs_list PySem.F.slot_list_append PySem.F.type_list_append zrD zhb zji ho ha hbase hfew hline hs hplain
noncomputable def ztv:WMf:=fun w ws S Q=>match w with
 | .ref a=>zbK S a fun xs=>match ws with
  | []=>match xs[xs.length - 1]? with
   |some y=>Q y (put S a (.lst xs.dropLast))
   |none=>False
  |_=>False
 |_=>False
noncomputable def zkw:WMf:=fun w ws S Q=>match w with
 | .ref a=>zbK S a fun xs=>match ws with
  | [.tup ys]=>xs.length+ys.length≤sizeLine∧Q .non (put S a (.lst (xs++ys)))
  | [.ref b]=>zbK S b fun ys=>xs.length+ys.length≤sizeLine∧Q .non (put S a (.lst (xs++ys)))
  |_=>False
 |_=>False
noncomputable def zlT:WMf:=fun w ws S Q=>match w with
 | .ref a=>zbK S a fun xs=>xs.length+ws.length≤sizeLine∧Q .non (put S a (.lst (xs++ws)))
 |_=>False
noncomputable def zdU:List W→Option (List Str)
 | []=>some []
 | .str b::ws=>(zdU ws).map (b:: ·)
 |_=>none
theorem zin{K:PySem.W.Frag}{H:Hp}:∀{ws:List W}{vs:List V}{bs:List Str},Reps K H ws vs→zdU ws=some bs→vs=bs.map V.str
 | [],_,_, .nil,e=>by have:=Option.some.inj e;subst this;rfl
 |w::ws,_,_, .cons r rs,e=>by
  cases r with
  |str b=>
   have e':(zdU ws).map (b:: ·)=some _:=e;cases q:zdU ws with
   |none=>rw [q]at e';cases e'
   |some cs=>
    rw [q]at e';have:=Option.some.inj e';subst this;rw [List.map_cons,zin rs q]
  |_=>cases e
noncomputable def zgM:WMf:=fun w ws S Q=>match w with
 | .str z=>match zdU ws with
  |some ys=>(ys.map (·.length)).sum+ys.length*z.length≤16777216∧Q (.str (Str.join z ys)) S
  |none=>False
 |_=>False
theorem zmD{K:PySem.W.Frag}:MtL K (zqt K) zgM:=fun H x w a vs ws S Q QW r ea na rs hS h hQ=>by
 cases r with
 |str z=>
  unfold zgM at h;dsimp only at h;split at h
  ·rename_i ys e;have:=zin rs e;subst this;exact⟨z,a,ys,rfl,rfl, .of ea,h.1,hQ _ S _ H .refl (.str _) hS h.2⟩
  ·exact h.elim
 |_=>exact h.elim
theorem zmh (ho:JE X o to) (ha:JL X e tl)
  (hbase:attributeBase o "join" X.env (eval o X.env)=eval o X.env:=by rfl)
  (hfew:((backTo cpos (starEach [e] X.env)).all (fun x=> !x.1)&&(backToKw cpos (keywordEach [] X.env)).all (fun x=>x.1.isSome)
   &&decide ([e].length+([]:List Keyword).length+(if([]:List Keyword).isEmpty then 0 else 1)<30))=true:=by rfl)
  (hline:(apos.endLine == cpos.line)=true:=by rfl) (hs:starEach [e] X.env=(false,eval e X.env)::starEach [] X.env:=by rfl) (hplain:(backTo cpos (starEach [] X.env)).any (·.1)=false:=by rfl) :
  JE X (.Call (.Attribute o "join" apos) [e] [] cpos) (wML rvS zgM to tl):=zsc PySem.F.plainAttrs_str PySem.F.slot_str_join PySem.F.type_str_join znm zpo zmD ho ha hbase hfew hline hs hplain
noncomputable def zqo:WMf:=fun w ws S Q=>match w with
 | .str z=>match ws with
  | [.str y]=>match Builtin.Str.occurrences z y 0 z.length 1 with
   |i::_=>Q (.int i) S
   | []=>False
  |_=>False
 |_=>False
end
noncomputable def znk (c:WT) (b:WS):WS:=fun E D σ S=>∃I:Nat→WSt→Sto→Prop,(∃m,I m σ S)∧ ∀m σ S,I m σ S→c E σ S fun k S1=>if k=true then
 b E { D with nx:=fun σ' S'=>∃m' S'',m'<m∧Sub S'' S'∧I m' σ' S'',ct:=fun σ' S'=>∃m' S'',m'<m∧Sub S'' S'∧I m' σ' S'',bk:=D.nx } σ S1 else D.nx σ S1
section
variable {X:Cx}{c:Expr}{body:List Stmt}{tc:WT}{tb:WS}{pos:Pos}
theorem zmK (hc:JT X c tc) (hb:JSs X body tb):JS X (.While c body [] pos) (znk tc tb):=fun E hE=>
 (zmW hE.own (hc E hE) (hb E hE)).mono fun D σ H ⟨σW,S,DW,hσ,hS,⟨J,⟨n,ht⟩,step⟩,hD⟩=>by
  refine⟨fun m σ1 H1=>∃σW1 S1,Ext H S H1 S1∧RpSt X.K H1 σW1 σ1∧RepS X.K H1 S1∧J m σW1 S1,⟨n,σW,S, .refl,hσ,hS,ht⟩,?_⟩;rintro m σ1 H1 ⟨σW1,S1,e1,hσ1,hS1,h1⟩;refine⟨σW1,S1,_,hσ1,hS1,step m σW1 S1 h1,fun k S2 H2 e2 hS2 h2=>?_⟩;cases k with
  |false=>exact hD.nx σW1 S2 σ1 H2 (e1.trans e2) (hσ1.ext e2) hS2 h2
  |true=>
   rw [if_pos rfl]at h2⊢;refine⟨fun σ' H'=>∃m',m'<m∧ ∃σW1 S1,Ext H S H' S1∧RpSt X.K H' σW1 σ'∧RepS X.K H' S1∧J m' σW1 S1,fun σ' H' n'=>n',σW1,S2,_,hσ1.ext e2,hS2,h2,?_⟩;have e12:=e1.trans e2;have go:Goes X.K H2 S2 (fun σ' S'=>∃m' S'',m'<m∧Sub S'' S'∧J m' σ' S'') (fun σ' H'=>∃m',m'<m∧ ∃σW1 S1,Ext H S H' S1∧RpSt X.K H' σW1 σ'∧RepS X.K H' S1∧J m' σW1 S1):=fun σW3 S3 σ3 H3 e3 hσ3 hS3 ⟨m',S4,hm,sb,q⟩=>
    ⟨m',hm,σW3,S4,(e12.trans e3).trans (.drop sb),hσ3,hS3.sub sb,q⟩
   exact⟨go,hD.rt.from e12,hD.nx.from e12,go⟩
end
noncomputable def forL (g:WG) (b:WS) (E:WX) (D:WEnds) (G:Sto→Prop):List W→WSt→Sto→Prop
 | [],σ,S=>D.nx σ S
 |w::ws,σ,S=>g w σ S fun σ1 S1=>b E { D with nx:=fun σ' S'=>∃S'',Sub S'' S'∧G S''∧forL g b E D G ws σ' S'',ct:=fun σ' S'=>∃S'',Sub S'' S'∧G S''∧forL g b E D G ws σ' S'',bk:=D.nx } σ1 S1
noncomputable def zfr (q:WI) (g:WG) (b:WS):WS:=fun E D σ S=>q E σ S fun ws G S1=>forL g b E D G ws σ S1
section
variable {X:Cx}{tg iter:Expr}{body:List Stmt}{q:WI}{g:WG}{tb:WS}{pos:Pos}
theorem zbI (hi:JI X tg iter q) (hg:JG X tg g) (hb:JSs X body tb) (hcl:X.calm=true:=by rfl)
  (hs:∀x,foldedSetIterable iter X.env x=pure x:=by intro _;rfl):JS X (.For tg iter body [] pos) (zfr q g tb):=fun E hE=>
 (zqY hE.own hcl (hi E hE) (hg E hE) (hb E hE) hs).mono fun D σ H ⟨σW,S,DW,hσ,hS,ht,hD⟩=>by
  refine⟨σW,S,_,hσ,hS,ht,fun ws G S1 J H1 e1 hS1 hG1 hJ h1=>?_⟩;refine⟨fun i m σ2 H2=>∃σW2 S2,Ext H1 S1 H2 S2∧RpSt X.K H2 σW2 σ2∧RepS X.K H2 S2∧G S2∧m=ws.length - i∧i≤ws.length∧forL g tb E DW G (ws.drop i) σW2 S2,
   ⟨ws.length,σW,S1, .refl,hσ.ext e1,hS1,hG1,rfl,Nat.zero_le _,h1⟩,?_⟩
  rintro i m σ2 H2 ⟨σW2,S2,e2,hσ2,hS2,hG2,rfl,hi2,h2⟩;obtain⟨ji,js⟩:=hJ i S2 H2 e2 hS2 hG2;by_cases hlt:i<ws.length
  ·obtain⟨jgo,jy⟩:=ji ws[i] (List.getElem?_eq_getElem hlt);refine .inr ⟨jgo,fun σ' H'=>∃σW2 S2,Ext H1 S1 H' S2∧RpSt X.K H' σW2 σ'∧RepS X.K H' S2∧G S2∧ws.length - (i+1)=ws.length - (i+1)∧i+1≤ws.length∧forL g tb E DW G (ws.drop (i+1)) σW2 S2,fun σ' H' z=>⟨_,by omega,z⟩,fun x H3 y3=>?_⟩
   obtain⟨e3,hS3,r3⟩:=jy x H3 y3;rw [List.drop_eq_getElem_cons hlt]at h2;refine⟨_,σW2,S2,_,r3,hσ2.ext e3,hS3,h2,fun σW4 S4 σ4 H4 e4 hσ4 hS4 h4=>?_⟩;have e14:Ext H1 S1 H4 S4:=(e2.trans e3).trans e4;refine⟨σW4,S4,_,hσ4,hS4,h4,?_⟩;have go:Goes X.K H4 S4 (fun σ' S'=>∃S'',Sub S'' S'∧G S''∧forL g tb E DW G (ws.drop (i+1)) σ' S'') (fun σ' H'=>∃σW2 S2,Ext H1 S1 H' S2∧RpSt X.K H' σW2 σ'∧RepS X.K H' S2∧G S2∧ws.length - (i+1)=ws.length - (i+1)∧i+1≤ws.length∧forL g tb E DW G (ws.drop (i+1)) σW2 S2):=
    fun σW5 S5 σ5 H5 e5 hσ5 hS5 ⟨S6,sb,hG6,q⟩=>⟨σW5,S6,(e14.trans e5).trans (.drop sb),hσ5,hS5.sub sb,hG6,rfl,hlt,q⟩
   exact⟨go,hD.rt.from (e1.trans e14),hD.nx.from (e1.trans e14),go⟩
  ·have hl:i=ws.length:=by omega
   rw [List.drop_of_length_le (Nat.le_of_eq hl.symm)]at h2;exact .inl ⟨js hl,hD.nx σW2 S2 σ2 H2 (e1.trans e2) hσ2 hS2 h2⟩
end
section
variable {X:Cx}{tg:Expr}
noncomputable def zuc (K:PySem.W.Frag) (tl:TE):TI:=fun σ H R=>tl σ H fun x H1=>(∃a,x= .ref a∧(∃xs,SqL K H1 a xs)∧R (Itl K a) H1)∨(∃a,x= .ref a∧(∃xs,SqT K H1 a xs)∧R (Itt K a) H1)∨ ∃z,x= .str z∧R (Its z) H1
theorem zrH{l:Expr}{tl:TE}(hl:PE X l tl):PI X tg l (zuc X.K tl):=by
 intro pins s σ H R I h;refine thn (hl pins s σ H _ I h) fun v s1 ⟨x,H1,I1,r1,q1⟩=>?_;have fp:∀b∈ [s1.heap.objs.size],zfU X pins H1 b:=fun b hb=>by
  have e:b=s1.heap.objs.size:=by simpa using hb
  subst e;exact I1.fpOk (Nat.le_refl _) (I1.hok.fresh (Nat.le_refl _))
 rcases q1 with⟨a,e,⟨xs,hq⟩,q⟩ |⟨a,e,⟨xs,hq⟩,q⟩ |⟨z,e,q⟩
 ·subst e;cases r1;obtain⟨its,rv,p,hz⟩:=I1.list hq;refine wpAny_pyIter_list p.isList ?_;exact⟨s1.heap.objs.size,[s1.heap.objs.size],_,_,H1,rfl,I1.kept (t':=s1.toks) fun b o e=>Heap.get?_push_of_some _ e,zlj a _,⟨_,Heap.get?_push_size _ rfl,rfl,rfl⟩,fp,q⟩
 ·subst e;cases r1;obtain⟨its,rv,p,hz⟩:=I1.tuple hq;refine wpAny_pyIter_tuple (show s1.heap.IsTuple a its.toArray from p) ?_;exact⟨s1.heap.objs.size,[s1.heap.objs.size],_,_,H1,rfl,I1.kept (t':=s1.toks) fun b o e=>Heap.get?_push_of_some _ e,ziV a _,⟨_,Heap.get?_push_size _ rfl,rfl,rfl⟩,fp,q⟩
 ·subst e;obtain⟨t,rfl⟩:=r1;cases ha:z.cps.all (· <128)
  ·refine wpAny_pyIter_wide ha ?_;exact⟨s1.heap.objs.size,[s1.heap.objs.size],_,_,H1,rfl,I1.kept (t':=s1.toks) fun b o e=>Heap.get?_push_of_some _ e,
    zhR _ z t "str_iterator" (by decide) (fun A' hA=>Walks.strWide hA _ z t) (fun _ _ _ _ _ st h=>wpAny_pyIter_striter_wide st h),⟨_,Heap.get?_push_size _ rfl,rfl,rfl⟩,fp,q⟩
  ·refine wpAny_pyIter_ascii ha ?_;exact⟨s1.heap.objs.size,[s1.heap.objs.size],_,_,H1,rfl,I1.kept (t':=s1.toks) fun b o e=>Heap.get?_push_of_some _ e,
    zhR _ z t "str_ascii_iterator" (by decide) (fun A' hA=>Walks.strAscii hA _ z t) (fun _ _ _ _ _ st h=>wpAny_pyIter_striter_ascii st h),⟨_,Heap.get?_push_size _ rfl,rfl,rfl⟩,fp,q⟩
noncomputable def zhr (z:Str):List W:=z.cps.toList.map fun c=> .str ⟨#[c]⟩
noncomputable def wIv (t:WE):WI:=fun E σ S Q=>t E σ S fun w S1=>match w with
 | .tup ws=>Q ws (fun _=>True) S1
 | .ref a=>zbK S1 a fun ws=>Q ws (fun S'=>S' a=some (.lst ws)) S1
 | .scr ns=>Q (ns.map W.int) (fun _=>True) S1
 | .str z=>Q (zhr z) (fun _=>True) S1
 |_=>False
theorem zjy{K:PySem.W.Frag}{a:Addr}{ws:List W}{G:Sto→Prop}{H0:Hp}{S0:Sto}(h:∀S H,Ext H0 S0 H S→RepS K H S→G S→ ∃vs,SqL K H a vs∧Reps K H ws vs):ItW K (Itl K a) ws G H0 S0:=fun i S H e hS hG=>by
 obtain⟨vs,hq,r⟩:=h S H e hS hG;refine⟨fun w ew=>?_,fun hl=>⟨vs,hq,by rw [←r.length,hl];exact Nat.le_refl _⟩⟩
 obtain⟨v,ev,rv⟩:=r.get ew;refine⟨⟨vs,v,hq,ev⟩,fun x H' ⟨e1,e2⟩=>?_⟩;subst e1;have e3:=e2 vs hq;rw [ev]at e3;cases e3;exact⟨.refl,hS,rv⟩
theorem zqm{K:PySem.W.Frag}{a:Addr}{ws:List W}{vs:List V}{H0:Hp}{S0:Sto}(f:H0 a=some (.tup vs)) (r:Reps K H0 ws vs):ItW K (Itt K a) ws (fun _=>True) H0 S0:=fun i S H e hS hG=>by
 have f':=e.tup _ _ f;have r':=r.ext e;refine⟨fun w ew=>?_,fun hl=>⟨vs, .of f',by rw [←r'.length,hl];exact Nat.le_refl _⟩⟩
 obtain⟨v,ev,rv⟩:=r'.get ew;refine⟨⟨vs,v, .of f',ev⟩,fun x H' ⟨e1,e2⟩=>?_⟩;subst e1;have e3:=e2 vs (.of f');rw [ev]at e3;cases e3;exact⟨.refl,hS,rv⟩
theorem zrB{K:PySem.W.Frag}{z:Str}{H0:Hp}{S0:Sto}:ItW K (Its z) (zhr z) (fun _=>True) H0 S0:=fun i S H e hS hG=>by
 unfold zhr;refine⟨fun w ew=>?_,fun hl=>?_⟩
 ·rw [List.getElem?_map]at ew;cases ec:z.cps.toList[i]? with
  |none=>rw [ec]at ew;cases ew
  |some c=>
   rw [ec]at ew;have ew':=Option.some.inj ew;subst ew';have hi:i<z.cps.size:=by
    have:=(List.getElem?_eq_some_iff.mp ec).1;simpa using this
   refine⟨hi,fun x H' ⟨e1,c',e2,e3⟩=>?_⟩;subst e1 e3;have:c'=c:=by
    have q:z.cps.toList[i]? =some c':=by rw [←e2];simp
    rw [ec]at q;exact(Option.some.inj q).symm
   subst this;exact⟨.refl,hS, .str _⟩
 ·show i=z.cps.size;simpa using hl
theorem zbL{l:Expr}{tl:WE}(hl:JE X l tl):JI X tg l (wIv tl):=fun E hE=>
 (zrH (hl E hE)).mono fun σ H R ⟨σW,S,QW,hσ,hS,ht,hR⟩=>⟨σW,S,_,hσ,hS,ht,fun w S1 v H1 e1 r1 hS1 h1=>by
  cases r1 with
  |tup f hs=>exact .inr (.inl ⟨_,rfl,⟨_, .of f⟩,hR _ _ S1 _ H1 e1 hS1 trivial (zqm f hs) h1⟩)
  |ref a=>
   obtain⟨ws,ea,h⟩:=zbg h1;obtain⟨vs,f,hs⟩:=hS1 a _ ea;refine .inl ⟨_,rfl,⟨_, .of f⟩,hR _ _ S1 _ H1 e1 hS1 ea (zjy fun S2 H2 e2 hS2 g2=>?_) h⟩;obtain⟨vs2,f2,hs2⟩:=hS2 a _ g2;exact⟨vs2, .of f2,hs2⟩
  |scr f=>exact .inl ⟨_,rfl,⟨_,f.sq⟩,hR _ _ S1 _ H1 e1 hS1 trivial (zjy fun S2 H2 e2 hS2 g2=>⟨_,(e2.fz f).sq,Reps.ofInts _⟩) h1⟩
  |str z=>exact .inr (.inr ⟨z,rfl,hR _ _ S1 _ H1 e1 hS1 trivial zrB h1⟩)
  |_=>exact h1.elim⟩
noncomputable def zjc (lo:Int) (n:Nat):List W:=(List.range n).map fun(i:Nat)=> .int (lo+(i:Int))
theorem zrR{K:PySem.W.Frag}{lo:Int}{n:Nat}{H0:Hp}{S0:Sto}:ItW K (Itr lo n) (zjc lo n) (fun _=>True) H0 S0:=fun i S H e hS hG=>by
 unfold zjc;refine⟨fun w ew=>?_,fun hl=>by
  have:i=n:=by simpa using hl
  exact Nat.le_of_eq this.symm⟩
 rw [List.getElem?_map]at ew;by_cases hi:i<n
 ·rw [List.getElem?_range hi]at ew;have ew':=Option.some.inj ew;subst ew';refine⟨hi,fun x H' ⟨e1,e2⟩=>?_⟩;subst e1 e2;exact⟨.refl,hS, .int _⟩
 ·rw [List.getElem?_eq_none (by simpa using hi)]at ew;cases ew
noncomputable def zne (t:WA):WI:=fun E σ S Q=>t E σ S fun ws S1=>match ws with
 | [.int j]=>(-(2 ^ 62)≤j∧j<2 ^ 62)∧Q (zjc 0 j.toNat) (fun _=>True) S1
 |_=>False
theorem zda{a:Expr}{ta:WA}{p pos:Pos}(hg:Gl X "range") (hm:X.mg "range" =none) (ha:JA X [a] ta) (hs:starEach [a] X.env=[(false,eval a X.env)]:=by rfl):JI X tg (.Call (.Name "range" p) [a] [] pos) (zne ta):=fun E hE=>
 (zkq hg hm (ha E hE) hs).mono fun σ H R ⟨σW,S,QW,hσ,hS,ht,hR⟩=>⟨σW,S,_,hσ,hS,ht,fun ws S1 vs H1 e1 r1 hS1 h1=>by
  cases r1 with
  |nil=>exact h1.elim
  |cons r2 r3=>
   cases r3 with
   |cons _ _=>cases r2<;>exact h1.elim
   |nil=>
    cases r2 with
    |int j=>exact⟨j,rfl,h1.1.1,h1.1.2,hR _ _ S1 _ H1 e1 hS1 trivial zrR h1.2⟩
    |_=>exact h1.elim⟩
end
noncomputable def ziX:WT:=fun _ _ S Q=>Q true S
noncomputable def JTs (X:Cx) (ifs:List Expr) (t:WT):Prop:=∀E,Hook X E→PTs X ifs (zoN X.K (t E))
theorem zcD{X:Cx}:JTs X [] ziX:=fun E hE pins s σ H Q I ⟨σW,S,QW,hσ,hS,ht,hQ⟩=>zpx pins s σ H Q I (hQ true S H .refl hS ht)
theorem zht{X:Cx}{c:Expr}{t:WT}(h:JT X c t):JTs X [c] t:=fun E hE=>znX (h E hE)
noncomputable def zdO (g:WG) (c:WT) (e:WE) (E:WX) (G:Sto→Prop) (Q:List W→Sto→Prop):List W→List W→WSt→Sto→Prop
 | [],acc,_,S=>Q acc S
 |w::ws,acc,σ,S=>g w σ S fun σ1 S1=>c E σ1 S1 fun b S2=>if b=true then e E σ1 S2 fun y S3=>acc.length<sizeLine∧ ∃S4,Sub S4 S3∧G S4∧zdO g c e E G Q ws (acc++[y]) σ1 S4
   else ∃S4,Sub S4 S2∧G S4∧zdO g c e E G Q ws acc σ1 S4
noncomputable abbrev noE:WX:=fun _ _ _=>False
theorem zhI{X:Cx}(h:X.xe=fun _ _=>False):Hook X noE:=⟨by rw [h];exact PassesOwn.never,fun _ _ _ _ _ _ _ _ _ _ _ _ _ _ _ _ _ _ _ _ z=>z.elim,fun _ _ _ _ _ _ _ _ _ _ _ _ _ _ _ _ z=>z.elim⟩
theorem PS.nox{X:Cx}{st:Stmt}{t:TS}(h:PS X.nox st t):PS X st t:=fun pins s σ H D I hw=>
 wpAny_mono (h pins s σ H D (I.wish _) hw) (fun _ _ q=>q.unwish) fun _ _ z=>False.elim z
noncomputable def zdf (k:Nat) (fr:List Nat) (q:WI) (g:WG) (c:WT) (e:WE):WL:=fun _ σ S Q=>q noE σ S fun ws G S1=>zdO g c e noE G Q ws [] (List.replicate k none++fr.map fun j=>(σ[j]?).join) S1
theorem ziP{K:PySem.W.Frag}{H:Hp}{σW:WSt}{σ:St}{k:Nat}{fr:List Nat}(h:RpSt K H σW σ):RpSt K H (List.replicate k none++fr.map fun j=>(σW[j]?).join) (zhV σ k fr):=by
 have one:∀j:Nat,RpO K H (σW[j]?).join (σ[j]?).join:=fun j=>by
  cases e:σW[j]? with
  |none=>exact trivial
  |some w=>
   cases w with
   |none=>exact trivial
   |some w=>
    obtain⟨v,ev,r⟩:=h.get e;rw [ev];exact r
 have go:∀fr:List Nat,RpSt K H (fr.map fun j=>(σW[j]?).join) (zei σ fr):=by
  intro fr
  induction fr with
  |nil=>exact .nil
  |cons j fr ih=>exact .cons (one j) ih
 unfold zhV
 induction k with
 |zero=>exact go fr
 |succ k ih=>exact .cons trivial ih
section
variable {X:Cx}{scope:Scope}{N:List Str}{k:Nat}{fr:List Nat}{tg iter elt:Expr}{ifs:List Expr}{pos:Pos}{q:WI}{g:WG}{c:WT}{e:WE}
theorem Ext.loose{H H':Hp}(a:∀b xs,H b=some (.tup xs)→H' b=some (.tup xs)) (b:∀c o u,H c=some (.frz o u)→H' c=some (.frz o u)) (d:∀b o,H b=some o→ ∃o',H' b=some o'):Ext H (fun _=>some (.lst [])) H' (fun _=>some (.lst [])):=
 ⟨a,b,(fun _ _ _ g=>nomatch g),d⟩
theorem Ext.over{H H':Hp}{S S':Sto}{l:Addr}{o:HO}(e:Ext H S H' S') (h:H l=none):Ext H S (upd H' l o) S':=
 ⟨fun b xs q=>by rw [zas (zan q h)];exact e.tup b xs q,fun b ob u q=>by rw [zas (zan q h)];exact e.frz b ob u q,fun b ob q z=>by rw [zas (zan q h)];exact e.fr b ob q z,fun b ob q=>by rw [zas (zan q h)];exact e.all b ob q⟩
theorem zgS (hg:∀s₀ H₀ fp pn,JG (zaY X scope N s₀ H₀ fp pn) tg g) (hc:∀s₀ H₀ fp pn,JTs (zaY X scope N s₀ H₀ fp pn) ifs c) (he:∀s₀ H₀ fp pn,JE (zaY X scope N s₀ H₀ fp pn) elt e)
  {E:WX}(σ:St) (H:Hp) (Q:VK):zrt X.K (zdf k fr q g c e E) σ H Q→zlQ X scope N k fr tg ifs elt (zqw X.K (q noE)) σ H Q:=fun⟨σW,S0,QW,hσ,hS,ht,hQ⟩=>by
  refine⟨σW,S0,_,hσ,hS,ht,fun ws G S1 J H1 e1 hS1 hG1 hJ h1 l hl=>?_⟩;have upl:∀{H':Hp}{vs us:List V}{S':Sto},H' l=some (.lst vs)→S' l=none→RepS X.K H' S'→Ext H' (fun _=>some (.lst [])) (upd H' l (.lst us)) (fun _=>some (.lst []))∧RepS X.K (upd H' l (.lst us)) S':=fun {H' vs us S'} f n hS'=>by
   have x:Ext H' (fun _=>some (.lst [])) (upd H' l (.lst us)) (fun _=>some (.lst [])):= .loose (fun b xs q=>by rw [zas (zlN q f fun z=>nomatch z)];exact q) (fun b o u q=>by rw [zas (zlN q f fun z=>nomatch z)];exact q) fun b o q=>by
    by_cases hb:b=l
    ·subst hb;exact⟨_,zay⟩
    ·exact⟨o,by rw [zas hb];exact q⟩
   refine⟨x,fun a o q=>(hS' a o q).keep x fun u z=>?_⟩;have ha:a≠l:=by rintro rfl;rw [n]at q;cases q
   rw [zas ha];exact z
  refine⟨fun i m σ' H'=>∃σW' S' acc vs,Ext H1 S1 H' S'∧H' l=some (.lst vs)∧S' l=none∧Reps X.K H' acc vs∧RpSt X.K H' σW' σ'∧RepS X.K H' S'∧G S'∧m=ws.length - i∧i≤ws.length∧zdO g c e noE G QW (ws.drop i) acc σW' S',
   ⟨ws.length,_,S1,[],[], .new hl,zay,hS1.free hl, .nil,ziP (hσ.ext (e1.trans (.new (S:=S1) hl))),hS1.new hl,hG1,rfl,Nat.zero_le _,h1⟩,?_⟩
  rintro i m σ' H' ⟨σW',S',acc,vs,e2,f2,n2,ra,hσ2,hS2,hG2,rfl,hi2,h2⟩;obtain⟨ji,js⟩:=hJ i S' H' e2 hS2 hG2;by_cases hlt:i<ws.length
  ·obtain⟨jgo,jy⟩:=ji ws[i] (List.getElem?_eq_getElem hlt);refine .inr ⟨jgo,fun σ'' H''=>∃σW' S' acc vs,Ext H1 S1 H'' S'∧H'' l=some (.lst vs)∧S' l=none∧Reps X.K H'' acc vs∧RpSt X.K H'' σW' σ''∧RepS X.K H'' S'∧G S'∧ws.length - (i+1)=ws.length - (i+1)∧i+1≤ws.length∧zdO g c e noE G QW (ws.drop (i+1)) acc σW' S',
    fun σ'' H'' z=>⟨_,by omega,z⟩,fun x H3 y3=>?_⟩
   obtain⟨e3,hS3,r3⟩:=jy x H3 y3;rw [List.drop_eq_getElem_cons hlt]at h2;intro s₀ H₀ fp pn;have hk:Hook (zaY X scope N s₀ H₀ fp pn) noE:=zhI rfl;refine⟨_,_,_,hg s₀ H₀ fp pn noE hk,hc s₀ H₀ fp pn noE hk,he s₀ H₀ fp pn noE hk,?_⟩;refine⟨_,σW',S',_,r3,hσ2.ext e3,hS3,h2,fun σW4 S4 σ4 H4 e4 hσ4 hS4 h4=>?_⟩;refine⟨σW4,S4,_,hσ4,hS4,h4,fun b S5 H5 e5 hS5 h5=>?_⟩;have e15:Ext H' S' H5 S5:=(e3.trans e4).trans e5;have hσ5:=hσ4.ext e5;obtain⟨f5,n5⟩:=e15.fr l _ f2 n2;cases b with
   |false=>
    have h5:∃S4,Sub S4 S5∧G S4∧zdO g c e noE G QW (ws.drop (i+1)) acc σW4 S4:=h5;refine ztT ?_;obtain⟨S6,sb,hG6,h6⟩:=h5;have e16:=e15.trans (.drop sb);exact⟨σW4,S6,acc,vs,e2.trans e16,f5,(e16.fr l _ f2 n2).2,ra.ext e15,hσ5,hS5.sub sb,hG6,rfl,hlt,h6⟩
   |true=>
    rw [if_pos rfl]at h5;refine ztS ?_;refine⟨σW4,S5,_,hσ5,hS5,h5,fun y S6 v H6 e6 r6 hS6 h6=>?_⟩;have e17:=e15.trans e6;obtain⟨f6,n6⟩:=e17.fr l _ f2 n2;obtain⟨hz,S7,sb,hG7,h7⟩:=h6;obtain⟨x6,hS6'⟩:=upl (us:=vs++[v]) f6 n6 hS6;have ra6:Reps X.K H6 (acc++[y]) (vs++[v]):=(ra.ext e17).append (.one r6);refine⟨vs,f6,by rw [←ra.length];exact hz,σW4,S7,acc++[y],vs++[v],?_,zay,((e17.trans (.drop sb)).fr l _ f2 n2).2,ra6.ext x6,(hσ5.ext e6).ext x6,hS6'.sub sb,hG7,rfl,hlt,h7⟩
    exact(e2.trans (e17.trans (.drop sb))).over hl
  ·have hll:i=ws.length:=by omega
   rw [List.drop_of_length_le (Nat.le_of_eq hll.symm)]at h2;exact .inl ⟨js hll,hQ acc S' vs l H' (e1.trans e2) (e1.free hl) f2 n2 ra hS2 h2⟩
theorem zcC (S:CompSc X.nox scope N k fr) (hi:JI X.nox tg iter q) (hg:∀s₀ H₀ fp pn,JG (zaY X.nox scope N s₀ H₀ fp pn) tg g) (hc:∀s₀ H₀ fp pn,JTs (zaY X.nox scope N s₀ H₀ fp pn) ifs c) (he:∀s₀ H₀ fp pn,JE (zaY X.nox scope N s₀ H₀ fp pn) elt e)
  (hs:∀x,foldedSetIterable iter X.env x=pure x:=by intro _;rfl) (hcl:X.calm=true:=by rfl):JL X (.ListComp elt [⟨tg,iter,ifs,0⟩] scope pos) (zdf k fr q g c e):=fun E hE=>
 (PE.nox (zof rfl hcl S (hi noE (zhI rfl)) hs)).mono (zgS (X:=X.nox) hg hc he)
theorem zhL{i:Nat}{x:Str}{pos' spos:Pos}(hN:X.N.Nodup) (hxi:X.N[i]? =some x) (hxl:Loc X.env.scope x) (S:CompSc X.nox scope N k fr) (hi:JI X.nox tg iter q) (hg:∀s₀ H₀ fp pn,JG (zaY X.nox scope N s₀ H₀ fp pn) tg g) (hc:∀s₀ H₀ fp pn,JTs (zaY X.nox scope N s₀ H₀ fp pn) ifs c) (he:∀s₀ H₀ fp pn,JE (zaY X.nox scope N s₀ H₀ fp pn) elt e)
  (hw:swapsWith (.ListComp elt [⟨tg,iter,ifs,0⟩] scope pos) (some (.Name x pos')) spos.line X.env=pure true:=by rfl) (hf:X.fn x=true∨X.env.scope.names.lookup x=some .local:=by first |exact .inl rfl |exact .inr rfl |assumption)
  (hs:∀x,foldedSetIterable iter X.env x=pure x:=by intro _;rfl) (hcl:X.calm=true:=by rfl):JS X (.Assign [.Name x pos'] (.ListComp elt [⟨tg,iter,ifs,0⟩] scope pos) spos) (wAsg (zbQ (zdf k fr q g c e)) (wGN i)):=fun E hE=>
 (PS.nox (zpy (X:=X.nox) rfl hcl S (hi noE (zhI rfl)) hN hxi hxl hw hf hs)).mono fun D σ H ⟨σW,S0,DW,hσ,hS,ht,hD⟩=>
  zgS (X:=X.nox) (E:=E) hg hc he σ H _ ⟨σW,S0,_,hσ,hS,ht,fun ws S1 vs a H1 e1 fa ea na r1 hS1 h1=>by
   have ex:Ext H S0 H1 (put S1 a (.lst ws)):=⟨e1.tup,e1.frz,fun b o q g=>by
    have hb:b≠a:=by rintro rfl;rw [fa]at q;cases q
    rw [zaX hb];exact e1.fr b o q g,e1.all⟩
   refine hD.nx _ (put S1 a (.lst ws)) _ H1 ex ((hσ.ext ex).set (.ref a) i) (fun b o q=>?_) (h1 a na);by_cases hb:b=a
   ·subst hb;rw [zag]at q;cases q;exact⟨vs,ea,r1⟩
   ·rw [zaX hb]at q;exact hS1 b o q⟩
end
noncomputable def SeqIt (k:Bool) (h:Heap) (it a:Addr) (i:Nat):Prop:=if k=true then h.IsListIter it a i else h.IsTupleIter it a i
noncomputable def SeqIs (k:Bool) (h:Heap) (a:Addr) (its:Array Value):Prop:=if k=true then h.IsList a its else h.IsTuple a its
section
variable {k:Bool}{h h':Heap}{it a:Addr}{i:Nat}{its:Array Value}
theorem SeqIt.at (x:SeqIt k h it a i) (e:∀o,h.get? it=some o→h'.get? it=some o):SeqIt k h' it a i:=by
 cases k with
 |true=>exact Heap.IsListIter.at (show h.IsListIter it a i from x) e
 |false=>exact Heap.IsTupleIter.at (show h.IsTupleIter it a i from x) e
theorem SeqIs.at (x:SeqIs k h a its) (e:∀o,h.get? a=some o→h'.get? a=some o):SeqIs k h' a its:=by
 cases k with
 |true=>exact Heap.IsList.at (show h.IsList a its from x) e
 |false=>obtain⟨o,ho,r⟩:=(show h.IsTuple a its from x);exact⟨o,e o ho,r⟩
theorem SeqIt.ob (x:SeqIt k h it a i):∃o vs,h.get? it=some o∧o.data= .fields vs:=by
 cases k with
 |true=>obtain⟨o,ho,_,hd⟩:=(show h.IsListIter it a i from x);exact⟨o,_,ho,hd⟩
 |false=>obtain⟨o,ho,_,hd⟩:=(show h.IsTupleIter it a i from x);exact⟨o,_,ho,hd⟩
end
section
variable {prog:Program}{w:World}{A:Around}{E:Value→Shared→Prop}{s:Shared}
theorem zeu{it t:Addr}{i:Nat}{its:Array Value}{x:Value}{Q:Value→Shared→Prop}(hit:s.heap.IsTupleIter it t i) (ht:s.heap.IsTuple t its) (hx:its[i]? =some x)
  (hQ:∀g,g.IsTupleIter it t (i+1)→Heap.SameBut it s.heap g→Q x { s with heap:=g }):wpAny (model prog w) A (Builtin.SmallTypes.nextOf (.ref it)) Q E s:=by
 obtain⟨o,ho,hc,hd⟩:=id hit;obtain⟨ot,hot,_,nt,hdt⟩:=ht;unfold Builtin.SmallTypes.nextOf;refine wpAny_bind (wpAny_callSpecial?_slot (name:=Str.ofString "__next__") hit.typeIs PySem.F.slot_tuple_iterator_next (wpAny_call_entry PySem.F.slot_tuple_iterator_next hit.typeIs PySem.F.entry_tuple_iterator_next ?_ (PySem.F.args_tuple_iterator_next_1 _)));show wpAny _ _ (field (.ref it) 0 >>= _) _ _ s;refine wpAny_bind (wpAny_field ho hd (x:= .ref t) rfl ?_);show wpAny _ _ (if(Value.ref t == Value.none)=true then _ else _) _ _ s;rw [if_neg (show ¬((Value.ref t == Value.none)=true) from Bool.false_ne_true)];show wpAny _ _ (field (.ref it) 1 >>= _) _ _ s;refine wpAny_bind (wpAny_field ho hd (x:= .int i 0) rfl ?_);show wpAny _ _ (seqItems? (.ref t) >>= _) _ _ s;refine wpAny_bind (wpAny_seqItems hot hdt ?_);simp only[Int.toNat_natCast,hx];refine wpAny_bind (wpAny_setField ho hd (by simp) (wpAny_pure ⟨x,rfl,wpAny_pure (hQ _ ?_ (Heap.SameBut.update ..))⟩));exact⟨_,Heap.get?_update_self _ ho (Obj.isFreed_of_fields (Obj.data_mapFields hd _)),(Obj.cls_mapFields ..).trans hc,by rw [Obj.data_mapFields hd];simp [rawInt]⟩
theorem zeS{it t:Addr}{i:Nat}{its:Array Value}{Q:Value→Shared→Prop}(hh:A.handled=none) (hit:s.heap.IsTupleIter it t i) (ht:s.heap.IsTuple t its) (hx:its[i]? =none)
  (hE:∀g e,Heap.ExtBut it s.heap g→(∃o,g.get? e=some o∧o.cls= .type "StopIteration")→E (.ref e) { s with heap:=g }):wpAny (model prog w) A (Builtin.SmallTypes.nextOf (.ref it)) Q E s:=by
 obtain⟨o,ho,hc,hd⟩:=id hit;obtain⟨ot,hot,_,nt,hdt⟩:=ht;unfold Builtin.SmallTypes.nextOf;refine wpAny_bind (wpAny_callSpecial?_slot (name:=Str.ofString "__next__") hit.typeIs PySem.F.slot_tuple_iterator_next (wpAny_call_entry PySem.F.slot_tuple_iterator_next hit.typeIs PySem.F.entry_tuple_iterator_next ?_ (PySem.F.args_tuple_iterator_next_1 _)));show wpAny _ _ (field (.ref it) 0 >>= _) _ _ s;refine wpAny_bind (wpAny_field ho hd (x:= .ref t) rfl ?_);show wpAny _ _ (if(Value.ref t == Value.none)=true then _ else _) _ _ s;rw [if_neg (show ¬((Value.ref t == Value.none)=true) from Bool.false_ne_true)];show wpAny _ _ (field (.ref it) 1 >>= _) _ _ s;refine wpAny_bind (wpAny_field ho hd (x:= .int i 0) rfl ?_);show wpAny _ _ (seqItems? (.ref t) >>= _) _ _ s;refine wpAny_bind (wpAny_seqItems hot hdt ?_);simp only[Int.toNat_natCast,hx];refine wpAny_bind (wpAny_rule (wpAny_bind (wpAny_setField ho hd (by simp) ?_)));show wpAny _ _ (newExc (.type "StopIteration") [] >>= _) _ _ _;refine wpAny_bind ?_;simp only[newExc,newTuple];refine wpAny_bind (wpAny_newObj_type ?_ (by size_fits));refine wpAny_bind (m:=firstArgMember _ _) (wpAny_of_eq (a:=Value.none) (by first |rfl | (simp only[firstArgMember];rfl)) ?_);refine wpAny_newObj_type ?_ (by size_fits);simp only[raiseNew];refine wpAny_bind (wpAny_handled ?_)
 first |rw [show A.in1.handled=none from hh] |rw [hh]
 refine wpAny_bind (wpAny_pure (wpAny_throw ?_));exact hE _ _ (((Heap.SameBut.update ..).extBut.push _).push _) ⟨_,Heap.get?_push_size _ rfl,rfl⟩
theorem zdH{k:Bool}{it t:Addr}{i:Nat}{its:Array Value}{x:Value}{Q:Value→Shared→Prop}(hit:SeqIt k s.heap it t i) (ht:SeqIs k s.heap t its) (hx:its[i]? =some x)
  (hQ:∀g,SeqIt k g it t (i+1)→Heap.SameBut it s.heap g→Q x { s with heap:=g }):wpAny (model prog w) A (Builtin.SmallTypes.nextOf (.ref it)) Q E s:=by
 cases k with
 |true=>exact wpAny_nextOf_list_item hit ht hx hQ
 |false=>exact zeu hit ht hx hQ
theorem zfL{k:Bool}{it t:Addr}{i:Nat}{its:Array Value}{Q:Value→Shared→Prop}(hh:A.handled=none) (hit:SeqIt k s.heap it t i) (ht:SeqIs k s.heap t its) (hx:its[i]? =none)
  (hE:∀g e,Heap.ExtBut it s.heap g→(∃o,g.get? e=some o∧o.cls= .type "StopIteration")→E (.ref e) { s with heap:=g }):wpAny (model prog w) A (Builtin.SmallTypes.nextOf (.ref it)) Q E s:=by
 cases k with
 |true=>exact wpAny_nextOf_list_end hh hit ht hx hE
 |false=>exact zeS hh hit ht hx hE
theorem zjH{k:Bool}{e it l:Addr}{i:Nat}{its:Array Value}{x old:Value}{Q:Option Value→Shared→Prop}
  (he:IsEnum s.heap e it i old) (hit:SeqIt k s.heap it l i) (hl:SeqIs k s.heap l its) (hx:its[i]? =some x) (hne:e≠it)
  (hQ:∀g,IsEnumOut g e it ((i:Int)+1) x s.heap.objs.size→SeqIt k g it l (i+1)→g.get? s.heap.objs.size=some { cls:= .type "tuple",data:= .seq #[.int i s.toks,x] }→g.objs.size=s.heap.objs.size+1→
   (∀b o,b≠e→b≠it→s.heap.get? b=some o→g.get? b=some o)→Q (some (.ref s.heap.objs.size)) { s with heap:=g,toks:=s.toks+1 }):wpAny (model prog w) A (pyNext (.ref e)) Q E s:=by
 have hT:s.TypeIs (.ref e) "enumerate" :=⟨_,he,rfl⟩;unfold pyNext;refine wpAny_bind (wpAny_attempt (wpAny_callSpecial?_slot (name:=Str.ofString "__next__") hT PySem.F.slot_enumerate_next (wpAny_call_entry PySem.F.slot_enumerate_next hT PySem.F.entry_enumerate_next ?_ (PySem.F.args_enumerate_next_1 _))));obtain⟨hp,g,d,tk,os⟩:=s;show wpAny _ _ (field (.ref e) 2 >>= _) _ _ _;refine wpAny_bind (wpAny_field he rfl (x:= .ref it) rfl ?_);refine wpAny_bind (zdH hit hl hx fun g1 hit1 hs1=>?_);replace hs1:Heap.SameBut it hp g1:=hs1;have he1:IsEnum g1 e it i old:=(hs1.2 e hne).trans he;show wpAny _ _ (field (.ref e) 3 >>= _) _ _ ⟨g1,g,d,tk,os⟩;refine wpAny_bind (wpAny_field he1 rfl (x:=rawInt i) rfl ?_);show wpAny _ _ (field (.ref e) 4 >>= _) _ _ ⟨g1,g,d,tk,os⟩;refine wpAny_bind (wpAny_field he1 rfl (x:= .none) rfl ?_);show wpAny _ _ (mkInt i >>= _) _ _ ⟨g1,g,d,tk,os⟩;refine wpAny_bind (wpAny_mkInt ?_);show wpAny _ _ (setField (.ref e) 3 (rawInt ((i:Int)+1)) >>= _) _ _ ⟨g1,g,d,tk+1,os⟩;refine wpAny_bind (wpAny_setField_rec he1 (by simp) fun g2 he2 hs2=>?_);replace hs2:Heap.SameBut e g1 g2:=hs2;replace he2:IsEnum g2 e it ((i:Int)+1) old:=he2;show wpAny _ _ (setField (.ref e) 4 .none >>= _) _ _ ⟨g2,g,d,tk+1,os⟩;refine wpAny_bind (wpAny_setField_rec he2 (by simp) fun g3 he3 hs3=>?_);replace hs3:Heap.SameBut e g2 g3:=hs3;replace he3:IsEnum g3 e it ((i:Int)+1) old:=he3;show wpAny _ _ (newTuple [.int i tk,x] >>= _) _ _ ⟨g3,g,d,tk+1,os⟩;refine wpAny_bind (wpAny_newTuple ?_);have he4:IsEnum (g3.push { cls:= .type "tuple",data:= .seq #[.int i tk,x] }) e it ((i:Int)+1) old:=Heap.get?_push_of_some _ he3;generalize hg4:g3.push { cls:= .type "tuple",data:= .seq #[.int i tk,x] }=g4 at he4;have hsz:g3.objs.size=hp.objs.size:=by rw [hs3.1,hs2.1,hs1.1]
 have hel:e<hp.objs.size:=Heap.lt_size he;have ht4:g4.get? hp.objs.size=some { cls:= .type "tuple",data:= .seq #[.int i tk,x] }:=by rw [←hg4,←hsz];exact Heap.get?_push_size _ rfl
 have hz4:g4.objs.size=hp.objs.size+1:=by rw [←hg4,Heap.size_push,hsz]
 have hk4:∀b o,b≠e→b≠it→hp.get? b=some o→g4.get? b=some o:=fun b o hbe hbi hb=>by rw [←hg4];exact Heap.get?_push_of_some _ (hs3.extBut b o hbe (hs2.extBut b o hbe (hs1.extBut b o hbi hb)))
 have hit4:SeqIt k g4 it l (i+1):=by rw [←hg4];exact hit1.at fun o ho=>Heap.get?_push_of_some _ (hs3.extBut it o (Ne.symm hne) (hs2.extBut it o (Ne.symm hne) ho))
 show wpAny _ _ (Builtin.SmallTypes.ownedTupleIsFree (.ref e) >>= _) _ _ ⟨g4,g,d,tk+1,os⟩;rw [hsz];clear hg4 he3 hs3 he2 hs2 he1 hs1 hit1 hsz g3 g2 g1;refine wpAny_bind ?_;unfold Builtin.SmallTypes.ownedTupleIsFree;refine wpAny_bind (wpAny_field he4 rfl (x:= .none) rfl (wpAny_pure ?_));simp only[if_true];refine wpAny_bind (wpAny_rule ?_);refine wpAny_bind (wpAny_field he4 rfl (x:=old) rfl ?_);refine wpAny_bind (wpAny_setField_rec he4 (by simp) fun g5 he5 hs5=>?_);replace hs5:Heap.SameBut e g4 g5:=hs5;replace he5:IsEnum g5 e it ((i:Int)+1) x:=he5;show wpAny _ _ (Builtin.SmallTypes.ownedTupleHandOut (.ref e) (.ref hp.objs.size) >>= _) _ _ ⟨g5,g,d,tk+1,os⟩;refine wpAny_bind ?_;unfold Builtin.SmallTypes.ownedTupleHandOut;refine wpAny_bind (wpAny_setField_rec he5 (by simp) fun g6 he6 hs6=>?_);replace hs6:Heap.SameBut e g5 g6:=hs6;replace he6:IsEnumOut g6 e it ((i:Int)+1) x hp.objs.size:=he6;refine wpAny_setField_rec he6 (by simp) fun g7 he7 hs7=>?_;replace hs7:Heap.SameBut e g6 g7:=hs7;replace he7:IsEnumOut g7 e it ((i:Int)+1) x hp.objs.size:=he7;refine wpAny_bind (wpAny_letGo (wpAny_pure ⟨_,rfl,wpAny_pure (hQ g7 he7 ?_ ?_ ?_ ?_)⟩))
 ·exact hit4.at fun o ho=>hs7.extBut it o (Ne.symm hne) (hs6.extBut it o (Ne.symm hne) (hs5.extBut it o (Ne.symm hne) ho))
 ·exact hs7.extBut _ _ (Nat.ne_of_gt hel) (hs6.extBut _ _ (Nat.ne_of_gt hel) (hs5.extBut _ _ (Nat.ne_of_gt hel) ht4))
 ·rw [hs7.1,hs6.1,hs5.1,hz4]
 ·exact fun b o hbe hbi hb=>hs7.extBut b o hbe (hs6.extBut b o hbe (hs5.extBut b o hbe (hk4 b o hbe hbi hb)))
theorem zmo{k:Bool}{e it l:Addr}{i:Nat}{its:Array Value}{old:Value}{Q:Option Value→Shared→Prop}(hh:A.handled=none)
  (he:IsEnum s.heap e it i old) (hit:SeqIt k s.heap it l i) (hl:SeqIs k s.heap l its) (hx:its[i]? =none) (hQ:∀g,Heap.ExtBut it s.heap g→Q none { s with heap:=g }):wpAny (model prog w) A (pyNext (.ref e)) Q E s:=by
 have hT:s.TypeIs (.ref e) "enumerate" :=⟨_,he,rfl⟩;unfold pyNext;refine wpAny_bind (wpAny_attempt (wpAny_callSpecial?_slot (name:=Str.ofString "__next__") hT PySem.F.slot_enumerate_next (wpAny_call_entry PySem.F.slot_enumerate_next hT PySem.F.entry_enumerate_next ?_ (PySem.F.args_enumerate_next_1 _))));show wpAny _ _ (field (.ref e) 2 >>= _) _ _ _;refine wpAny_bind (wpAny_field he rfl (x:= .ref it) rfl ?_);refine wpAny_bind (zfL hh hit hl hx fun g x he' hx'=>?_);obtain⟨o,ho,hc⟩:=hx';refine wpAny_bind (wpAny_isInstance (T:= "StopIteration") (b:=true) ⟨o,ho,hc⟩ isSubtype_stop ?_);exact wpAny_pure (hQ _ he')
end
noncomputable def zcN (k:Bool) (a:Addr):Obj:={ cls:= .type (if k=true then "list_iterator" else "tuple_iterator"),data:= .fields #[.ref a, .int 0 0] }
theorem zfn{k:Bool}{h:Heap}{it a:Addr}(e:h.get? it=some (zcN k a)):SeqIt k h it a 0:=by
 cases k with
 |true=>exact⟨_,e,rfl,rfl⟩
 |false=>exact⟨_,e,rfl,rfl⟩
theorem zdL{k:Bool}{a:Addr}:(zcN k a).isFreed=false:=by cases k<;>rfl
section
variable {prog:Program}{w:World}{A:Around}{E:Value→Shared→Prop}{s:Shared}
theorem zfB{k:Bool}{a:Addr}{its:Array Value}{Q:Value→Shared→Prop}(ha:SeqIs k s.heap a its) (hQ:Q (.ref s.heap.objs.size) { s with heap:=s.heap.push (zcN k a) }):wpAny (model prog w) A (pyIter (.ref a)) Q E s:=by
 cases k with
 |true=>exact wpAny_pyIter_list ha hQ
 |false=>exact wpAny_pyIter_tuple ha hQ
end
theorem SeqIs.push{k:Bool}{h:Heap}{a:Addr}{its:Array Value}(x:SeqIs k h a its) (o:Obj):SeqIs k (h.push o) a its:=x.at fun _ e=>Heap.get?_push_of_some _ e
theorem zje{k:Bool}(l:Addr) (its:Array Value) :
  PySem.Meets (Builtin.«enumerate.__new__» ⟨[.type "enumerate", .ref l],[]⟩) (fun _ R s=>SeqIs k s.heap l its∧
   R (.ok (.ret (.ref (s.heap.push (zcN k l)).objs.size))) { s with heap:=(s.heap.push (zcN k l)).push { cls:= .type "enumerate",data:= .fields #[.none, .bool false, .ref s.heap.objs.size,rawInt 0, .none, .none] } }):=
 .of_wp fun prog w A R s h=>by
  obtain⟨hp,g,d,tk,os⟩:=s;obtain⟨hl,h⟩:=h;have hsub:=sub_enumerate;have hL:SeqIs k (Shared.heap ⟨hp,g,d,tk,os⟩) l its:=hl;have fin:∀{A:Around}{E:Value→Shared→Prop}{Q:Value→Shared→Prop},Q (.ref hp.objs.size) ⟨hp.push (zcN k l),g,d,tk,os⟩→wpAny (model prog w) A (pyIter (.ref l)) Q E ⟨hp,g,d,tk,os⟩:=fun q=>zfB hL q
  wp_walk
  refine wpAny_stack_any fun st=>wpAny_pure ?_;split
  ·rename_i c _ _ _ _ _;cases(c == Value.type "enumerate")
   ·wp_walk using fin
    exact⟨_,rfl,h⟩
   ·wp_walk using fin
    exact⟨_,rfl,h⟩
  ·wp_walk using fin
   exact⟨_,rfl,h⟩
section
variable {prog:Program}{w:World}{A:Around}{E:Value→Shared→Prop}{s:Shared}
theorem zle{k:Bool}{l:Addr}{its:Array Value}{Q:Value→Shared→Prop}(hL:SeqIs k s.heap l its)
  (h:∀g,IsEnum g (s.heap.objs.size+1) s.heap.objs.size 0 .none→SeqIt k g s.heap.objs.size l 0→g.objs.size=s.heap.objs.size+2→(∀b o,s.heap.get? b=some o→g.get? b=some o)→Q (.ref (s.heap.objs.size+1)) { s with heap:=g }) :
  wpAny (model prog w) A (call (.type "enumerate") [.ref l]) Q E s:=by
 refine callType_new PySem.F.called_enumerate (by decide) (PySem.F.typeCall_enumerate_1 _) (PySem.F.newCall_enumerate_1 _) (fun obj=>PySem.F.args_object_init_2 obj _) PySem.F.entry_enumerate_new (zje (k:=k) l its) ⟨hL,?_⟩;have hz:(s.heap.push (zcN k l)).objs.size=s.heap.objs.size+1:=Heap.size_push ..;show _∧_;rw [hz];have he:IsEnum ((s.heap.push (zcN k l)).push { cls:= .type "enumerate",data:= .fields #[.none, .bool false, .ref s.heap.objs.size,rawInt 0, .none, .none] }) (s.heap.objs.size+1) s.heap.objs.size 0 .none:=by
  have:=Heap.get?_push_size (s.heap.push (zcN k l)) (o:={ cls:= .type "enumerate",data:= .fields #[.none, .bool false, .ref s.heap.objs.size,rawInt 0, .none, .none] }) rfl;rw [hz]at this;exact this
 exact⟨⟨_,he,rfl⟩,h _ he (zfn (Heap.get?_push_of_some _ (Heap.get?_push_size _ zdL))) (by rw [Heap.size_push,hz]) fun b o x=>Heap.get?_push_of_some _ (Heap.get?_push_of_some _ x)⟩
end
section
variable {X:Cx}{pins:List (Addr×Obj)}{σ:St}{H:Hp}{s:Shared}{g:Heap}{fp:List Addr}
theorem Inv.turnNew{p:Addr}{o:HO}{t':Nat}(I:Inv X pins σ H s) (hp:s.heap.objs.size≤p) (k:∀b u,b∉fp→s.heap.get? b=some u→g.get? b=some u) (hf:∀b∈fp,zfU X pins H b) (new:ObjOk X.prog X.w (upd H p o) g p o) :
  Inv X pins σ (upd H p o) { s with heap:=g,toks:=t' }:=by
 have hn:=I.hok.fresh hp;have lt:∀{b u},s.heap.get? b=some u→b≠p:=fun e=>Nat.ne_of_lt (Nat.lt_of_lt_of_le (Heap.lt_size e) hp);have nfp:∀{b u},H b=some u→b∉fp:=fun e z=>by rw [(hf _ z).1]at e;cases e
 refine I.call (g':=s.gens) (d':=s.drawn) (ch:=fp) ⟨fun b u e _ _ hx=>k b u hx e,fun b u e _ _ hx=>⟨u.slots,k b u hx e⟩,fun b u e n _=>by rw [zas (lt e)];exact n,fun b u e hx=>⟨u,k b u hx e⟩,
  fun b xs e=>by rw [zas (zan e hn)];exact e,fun b u xs e=>by rw [zas (zan e hn)];exact e,fun b ps e=>⟨#[],by rw [zas (zan e hn),e];simp⟩⟩ (fun b u e=>?_) I.bare fun b hb=>⟨(hf b hb).2.2.2.1,(hf b hb).2.1,(hf b hb).2.2.2.2.1,(hf b hb).2.2.2.2.2⟩
 by_cases hb:b=p
 ·subst hb;rw [zay]at e;cases e;exact new
 ·rw [zas hb]at e;refine(I.hok b u e).stay (fun c v hc q=>k c v ?_ q) (fun c q=>by rw [zas (zan q hn)];exact q) fun c xs q=>by rw [zas (zan q hn)];exact q
  rcases hc with rfl |hc
  ·exact nfp e
  ·exact nfp hc
theorem Inv.turnedL{t':Nat}(I:Inv X pins σ H s) (k:∀b u,b∉fp→s.heap.get? b=some u→g.get? b=some u) (hf:∀b∈fp,zfU X pins H b):Inv X pins σ H { s with heap:=g,toks:=t' }:=by
 have nfp:∀{b u},H b=some u→b∉fp:=fun e z=>by rw [(hf _ z).1]at e;cases e
 refine I.call (g':=s.gens) (d':=s.drawn) (ch:=fp) ⟨fun b u e _ _ hx=>k b u hx e,fun b u e _ _ hx=>⟨u.slots,k b u hx e⟩,fun b u e n _=>n,fun b u e hx=>⟨u,k b u hx e⟩,
  fun b xs e=>e,fun b u xs e=>e,fun b ps e=>⟨#[],by rw [e];simp⟩⟩ (fun b u e=>?_) I.bare fun b hb=>⟨(hf b hb).2.2.2.1,(hf b hb).2.1,(hf b hb).2.2.2.2.1,(hf b hb).2.2.2.2.2⟩
 refine(I.hok b u e).stay (fun c v hc q=>k c v ?_ q) (fun c q=>q) fun c xs q=>q;rcases hc with rfl |hc
 ·exact nfp e
 ·exact nfp hc
noncomputable def SqK (k:Bool) (K:PySem.W.Frag) (H:Hp) (a:Addr) (xs:List V):Prop:=if k=true then SqL K H a xs else SqT K H a xs
theorem Inv.seq{k:Bool}{a:Addr}{xs:List V}(I:Inv X pins σ H s) (h:SqK k X.K H a xs):∃its:List Value,Vals xs its∧SeqIs k s.heap a its.toArray∧xs.length≤sizeLine:=by
 cases k with
 |true=>obtain⟨its,r,p,z⟩:=I.list h;exact⟨its,r,p.isList,z⟩
 |false=>obtain⟨its,r,p,z⟩:=I.tuple h;exact⟨its,r,p,z⟩
theorem Inv.seq_inj{k:Bool}{a:Addr}{xs ys:List V}(I:Inv X pins σ H s) (h:SqK k X.K H a xs) (h':SqK k X.K H a ys):xs=ys:=by
 cases k with
 |true=>exact I.list_inj h h'
 |false=>exact I.tuple_inj h h'
end
noncomputable def Ite (k:Bool) (K:PySem.W.Frag) (a:Addr):It:=
 ⟨fun i H=>∃xs x,SqK k K H a xs∧xs[i]? =some x,fun i H v H'=>∃p x,H p=none∧v= .ref p∧H'=upd H p (.tup [.int i,x])∧ ∀xs,SqK k K H a xs→xs[i]? =some x,fun i H=>∃xs,SqK k K H a xs∧xs.length≤i⟩
theorem zjY{P:Program}{w:World}{K:PySem.W.Frag}{es:List Expr}{x1:Nat}{pos:Pos}(k:Bool) (a e it:Addr) (hne:e≠it):Turn P w K (.Tuple es x1 pos) (Ite k K a) [e,it] e (fun i h=>(∃old,IsEnum h e it (i:Nat) old)∧SeqIt k h it a i) where
  mem:=by simp
  obj:=fun i h ⟨⟨old,he⟩,hit⟩ b hb=>by
    rcases List.mem_cons.mp hb with rfl |hb
    · exact⟨_,he,fun v z=>by cases z⟩
    · have q:b=it:=by simpa using hb
      subst q;obtain⟨o,vs,e,d⟩:=hit.ob;exact⟨o,e,fun v z=>by rw [d]at z;cases z⟩
  keep:=fun i h h' ⟨⟨old,he⟩,hit⟩ kk=>⟨⟨old,kk e (by simp) _ he⟩,hit.at fun o q=>kk it (by simp) o q⟩
  item:=by
    intro X hP hw hK hc i pins s σ H E I hf st hg;subst hP hw hK;obtain⟨xs,x,hq,hx⟩:=hg;obtain⟨⟨old,he⟩,hit⟩:=st;obtain⟨its,rv,p,hz⟩:=I.seq hq;obtain⟨u,hu,ru⟩:=rv.get hx;refine zjH he hit p (x:=u) (by simpa using hu) hne fun g ho hit' ht hz' kk=>⟨_,rfl,?_⟩;refine wpAny_letOwnedTupleGo_enum ho fun g2 he2 hs2=>?_;have hlt:s.heap.objs.size≠e:=Nat.ne_of_gt (Heap.lt_size he);have kk2:∀b o,b∉ [e,it]→s.heap.get? b=some o→g2.get? b=some o:=fun b o hb q=>by
      have h1:b≠e:=fun z=>hb (by simp [z]);have h2:b≠it:=fun z=>hb (by simp [z]);exact(hs2.2 b h1).trans (kk b o h1 h2 q)
    have hn:=I.hok.fresh (Nat.le_refl s.heap.objs.size);have ht2:g2.get? s.heap.objs.size=some { cls:= .type "tuple",data:= .seq #[.int i s.toks,u] }:=(hs2.2 _ hlt).trans ht;refine⟨.ref s.heap.objs.size,upd H s.heap.objs.size (.tup [.int i,x]),I.turnNew (fp:=[e,it]) (t':=s.toks+1) (Nat.le_refl _) kk2 hf ⟨by show 2≤sizeLine;rw [sizeLine_eq];decide,[.int i s.toks,u], .cons ⟨_,rfl⟩ (.cons ru .nil),⟨_,ht2,rfl,_,rfl⟩⟩,rfl,
      ⟨_,x,hn,rfl,rfl,fun ys hy=>by rw [I.seq_inj hy hq];exact hx⟩,⟨⟨u,by simpa using he2⟩,hit'.at fun o q=>(hs2.2 it (Ne.symm hne)).trans q⟩,fun b hb=>?_⟩
    have hb':=(hf b hb).1;have:b≠s.heap.objs.size:=by
      rcases List.mem_cons.mp hb with rfl |hb
      · exact Ne.symm hlt
      · have q:b=it:=by simpa using hb
        subst q;obtain⟨o,vs,e,d⟩:=hit.ob;exact Nat.ne_of_lt (Heap.lt_size e)
    rw [zas this];exact hb'
  done:=by
    intro X hP hw hK hc i pins s σ H E I hf st hg;subst hP hw hK;obtain⟨xs,hq,hx⟩:=hg;obtain⟨⟨old,he⟩,hit⟩:=st;obtain⟨its,rv,p,hz⟩:=I.seq hq;have hl:=rv.length;exact zmo (I.ok.hd hc) he hit p (by simp;omega) fun g eb=>⟨rfl,I.turnedL (fp:=[e,it]) (t':=s.toks) (fun b o hb q=>eb b o (fun z=>hb (by simp [z])) q) hf⟩
  self:=fun A i s Q E ⟨⟨old,he⟩,hit⟩ h=>wpAny_pyIter_enum he h
section
variable {X:Cx}{es:List Expr}{x1:Nat}{tpos:Pos}
noncomputable def ztm (K:PySem.W.Frag) (ta:TA):TI:=fun σ H R=>ta σ H fun vs H1=>∃k a xs,vs=[.ref a]∧SqK k K H1 a xs∧R (Ite k K a) H1
theorem zor{a:Expr}{ta:TA}{p pos:Pos}(hg:Gl X "enumerate") (hm:X.mg "enumerate" =none) (ha:PA X [a] ta) (hs:starEach [a] X.env=[(false,eval a X.env)]:=by rfl):PI X (.Tuple es x1 tpos) (.Call (.Name "enumerate" p) [a] [] pos) (ztm X.K ta):=by
 intro pins s σ H R I h;refine Call_ (zfe I hg hm boot_enumerate (PyProof.Rows.callWith_type1 (thn (ha pos pins s σ H _ I h) fun us s1 ⟨vs,H1,I1,r1,q1⟩=>?_) hs rfl));obtain⟨k,a,xs,e,hq,q⟩:=q1;subst e;cases r1 with
 |cons r rr=>
  cases rr;cases(show _=Value.ref a from r);obtain⟨its,rv,pl,hz⟩:=I1.seq hq;refine zle pl fun g he hit hz' kk=>wpAny_pyIter_enum he ?_;have I2:Inv X pins σ H1 { s1 with heap:=g }:=I1.kept (t':=s1.toks) kk;refine⟨s1.heap.objs.size+1,[s1.heap.objs.size+1,s1.heap.objs.size],_,_,H1,rfl,I2,zjY k a _ _ (Nat.succ_ne_self _),⟨⟨.none,he⟩,hit⟩,fun b hb=>?_,q⟩;have hb':s1.heap.objs.size≤b:=by
   rcases List.mem_cons.mp hb with rfl |hb
   ·exact Nat.le_succ _
   ·have q:b=s1.heap.objs.size:=by simpa using hb
    exact Nat.le_of_eq q.symm
  exact I1.fpOk hb' (I1.hok.fresh hb')
noncomputable def zfa:Nat→List W→List W
 |_,[]=>[]
 |n,w::ws=> .tup [.int n,w]::zfa (n+1) ws
theorem zih:∀{ws:List W}{n i:Nat}{u:W},(zfa n ws)[i]? =some u→ ∃w,ws[i]? =some w∧u= .tup [.int ((n+i:Nat):Int),w]
 | [],_,_,_,h=>by simp [zfa]at h
 |w::ws,n,0,u,h=>by
  simp [zfa]at h;exact⟨w,rfl,by rw [←h];rfl⟩
 |w::ws,n,i+1,u,h=>by
  obtain⟨w',e,q⟩:=zih (ws:=ws) (n:=n+1) (i:=i) (u:=u) (by simpa [zfa]using h);refine⟨w',by simpa using e,?_⟩
  rw [q,show n+1+i=n+(i+1) by omega]
theorem ziO:∀{ws:List W}{n:Nat},(zfa n ws).length=ws.length
 | [],_=>rfl
 |w::ws,n=>by simp [zfa,ziO (ws:=ws)]
theorem zos{K:PySem.W.Frag}{k:Bool}{a:Addr}{ws:List W}{G:Sto→Prop}{H0:Hp}{S0:Sto}(h:∀S H,Ext H0 S0 H S→RepS K H S→G S→ ∃vs,SqK k K H a vs∧Reps K H ws vs):ItW K (Ite k K a) (zfa 0 ws) G H0 S0:=fun i S H e hS hG=>by
 obtain⟨vs,hq,r⟩:=h S H e hS hG;refine⟨fun u eu=>?_,fun hl=>⟨vs,hq,by rw [←r.length,hl,ziO];exact Nat.le_refl _⟩⟩
 obtain⟨w,ew,rfl⟩:=zih eu;obtain⟨v,ev,rv⟩:=r.get ew;refine⟨⟨vs,v,hq,ev⟩,fun x H' ⟨p,y,hp,e1,e2,e3⟩=>?_⟩;subst e1 e2;have e4:=e3 vs hq;rw [ev]at e4;cases e4;rw [Nat.zero_add];exact⟨.new hp,hS.new hp, .tup zay (.cons (.int _) (.cons (rv.ext (.new (S:=S) hp)) .nil))⟩
noncomputable def zlD:W→Sto→(List W→(Sto→Prop)→Prop)→Prop
 | .tup ws,_,Q=>Q ws fun _=>True
 | .ref a,S,Q=>zbK S a fun ws=>Q ws fun S'=>S' a=some (.lst ws)
 | .scr ns,_,Q=>Q (ns.map W.int) fun _=>True
 |_,_,_=>False
theorem zpi{K:PySem.W.Frag}{H:Hp}{S:Sto}{w:W}{v:V}{Q:List W→(Sto→Prop)→Prop}(r:Rep K H w v) (hS:RepS K H S) (h:zlD w S Q) :
  ∃k a ws G,v= .ref a∧G S∧(∀S' H',Ext H S H' S'→RepS K H' S'→G S'→ ∃vs,SqK k K H' a vs∧Reps K H' ws vs)∧Q ws G:=by
 cases r with
 |tup f hs=>exact⟨false,_,_,_,rfl,trivial,fun S' H' e hS' _=>⟨_, .of (e.tup _ _ f),hs.ext e⟩,h⟩
 |ref a=>
  obtain⟨ws,ea,h⟩:=zbg h;exact⟨true,_,ws,_,rfl,ea,fun S' H' e hS' g=>by
   obtain⟨vs,f,hs⟩:=hS' a _ g;exact⟨vs, .of f,hs⟩,h⟩
 |scr f=>exact⟨true,_,_,_,rfl,trivial,fun S' H' e hS' _=>⟨_,(e.fz f).sq,Reps.ofInts _⟩,h⟩
 |_=>exact h.elim
noncomputable def zjp (t:WE):WI:=fun E σ S Q=>t E σ S fun w S1=>zlD w S1 fun ws G=>Q (zfa 0 ws) G S1
theorem zhz{a:Expr}{ta:WE}{p pos:Pos}(hg:Gl X "enumerate") (hm:X.mg "enumerate" =none) (ha:JE X a ta) (hs:starEach [a] X.env=[(false,eval a X.env)]:=by rfl) (hs2:starEach [a] X.env=(false,eval a X.env)::starEach [] X.env:=by rfl):JI X (.Tuple es x1 tpos) (.Call (.Name "enumerate" p) [a] [] pos) (zjp ta):=fun E hE=>
 (zor hg hm (zcE (ha E hE) pa_nil hs2) hs).mono fun σ H R ⟨σW,S,QW,hσ,hS,ht,hR⟩=>⟨σW,S,_,hσ,hS,ht,fun w S1 v H1 e1 r1 hS1 h1=>by
  obtain⟨k,a,ws,G,rfl,hG,hq,h⟩:=zpi r1 hS1 h1;obtain⟨vs,hv,_⟩:=hq S1 H1 .refl hS1 hG;exact⟨k,a,vs,rfl,hv,hR _ _ S1 _ H1 e1 hS1 hG (zos hq) h⟩⟩
end
section
variable {prog:Program}{w:World}{A:Around}{E:Value→Shared→Prop}{s:Shared}
theorem zmU{k1 k2:Bool}{z TI TO i1 i2 l1 l2:Addr}{n1 n2:Nat}{xs ys:Array Value}{x y a b:Value}{Q:Option Value→Shared→Prop}(D:ZipApart z TI TO i1 i2 l1 l2)
  (hz:IsZip s.heap z TI TO .none) (hTI:IsPair s.heap TI (.ref i1) (.ref i2)) (hTO:IsPair s.heap TO a b) (h1:SeqIt k1 s.heap i1 l1 n1) (h2:SeqIt k2 s.heap i2 l2 n2) (hl1:SeqIs k1 s.heap l1 xs) (hl2:SeqIs k2 s.heap l2 ys) (hx:xs[n1]? =some x) (hy:ys[n2]? =some y)
  (hQ:∀g,IsZip g z TI TO (rawInt s.heap.objs.size)→IsPair g TO x y→SeqIt k1 g i1 l1 (n1+1)→SeqIt k2 g i2 l2 (n2+1)→IsPair g s.heap.objs.size x y→g.objs.size=s.heap.objs.size+1→
   (∀c o,c≠z→c≠TO→c≠i1→c≠i2→s.heap.get? c=some o→g.get? c=some o)→Q (some (.ref s.heap.objs.size)) { s with heap:=g }):wpAny (model prog w) A (pyNext (.ref z)) Q E s:=by
 have hT:s.TypeIs (.ref z) "zip" :=⟨_,hz,rfl⟩;unfold pyNext;refine wpAny_bind (wpAny_attempt (wpAny_callSpecial?_slot (name:=Str.ofString "__next__") hT PySem.F.slot_zip_next (wpAny_call_entry PySem.F.slot_zip_next hT PySem.F.entry_zip_next ?_ (PySem.F.args_zip_next_1 _))));show wpAny _ _ (field (.ref z) 2 >>= _) _ _ _;refine wpAny_bind (wpAny_field hz rfl (x:= .bool false) rfl ?_);show wpAny _ _ (field (.ref z) 3 >>= _) _ _ _;refine wpAny_bind (wpAny_field hz rfl (x:= .ref TI) rfl ?_);refine wpAny_bind (wpAny_seqItems hTI rfl ?_);show wpAny _ _ (Builtin.SmallTypes.ownedTupleIsFree (.ref z) >>= _) _ _ _;refine wpAny_bind ?_;unfold Builtin.SmallTypes.ownedTupleIsFree;refine wpAny_bind (wpAny_field hz rfl (x:= .none) rfl (wpAny_pure ?_));simp only[if_true];refine wpAny_bind (wpAny_rule ?_);refine wpAny_bind (wpAny_field hz rfl (x:= .ref TO) rfl ?_);refine wpAny_bind (wpAny_setField_rec hz (by simp) fun g1 hz1 hs1=>?_);replace hz1:IsZip g1 z TI TO .ellipsis:=hz1;refine wpAny_bind ?_;simp only[List.zipIdx_cons,List.zipIdx_nil,List.forIn_cons,List.forIn_nil];refine wpAny_bind (wpAny_bind (wpAny_onRaise ?_));show wpAny _ _ (Builtin.SmallTypes.nextOf (.ref i1) >>= _) _ _ _;refine wpAny_bind (zdH (h1.at fun o e=>hs1.extBut _ o D.i1z e) (hl1.at fun o e=>hs1.extBut _ o D.l1z e) hx fun g2 h12 hs2=>wpAny_pure ?_);have hTO2:IsPair g2 TO a b:=hs2.extBut _ _ D.TOi1 (hs1.extBut _ _ D.TOz hTO);refine wpAny_bind (wpAny_seqItems hTO2 rfl ?_);refine wpAny_bind (wpAny_updateSeq_pair hTO2 fun g3 hTO3 hs3=>?_);replace hTO3:IsPair g3 TO x b:=hTO3;refine wpAny_bind (wpAny_letGo (wpAny_pure ?_));refine wpAny_bind (wpAny_bind (wpAny_onRaise ?_));show wpAny _ _ (Builtin.SmallTypes.nextOf (.ref i2) >>= _) _ _ _;refine wpAny_bind (zdH (h2.at fun o e=>hs3.extBut _ o D.TOi2.symm (hs2.extBut _ o D.i12.symm (hs1.extBut _ o D.i2z e))) (hl2.at fun o e=>hs3.extBut _ o D.l2TO (hs2.extBut _ o D.l2i1 (hs1.extBut _ o D.l2z e))) hy fun g4 h24 hs4=>wpAny_pure ?_);have hTO4:IsPair g4 TO x b:=hs4.extBut _ _ D.TOi2 hTO3;refine wpAny_bind (wpAny_seqItems hTO4 rfl ?_);refine wpAny_bind (wpAny_updateSeq_pair hTO4 fun g5 hTO5 hs5=>?_);replace hTO5:IsPair g5 TO x y:=hTO5;refine wpAny_bind (wpAny_letGo (wpAny_pure (wpAny_pure ?_)));refine wpAny_bind (wpAny_seqItems hTO5 rfl ?_);refine wpAny_bind (wpAny_newTuple ?_);have hsz:g5.objs.size=s.heap.objs.size:=by rw [hs5.1,hs4.1,hs3.1,hs2.1,hs1.1]
 have hz5:IsZip g5 z TI TO .ellipsis:=hs5.extBut _ _ D.TOz.symm (hs4.extBut _ _ D.i2z.symm (hs3.extBut _ _ D.TOz.symm (hs2.extBut _ _ D.i1z.symm hz1)));have hk5:∀c o,c≠z→c≠TO→c≠i1→c≠i2→s.heap.get? c=some o→g5.get? c=some o:=fun c o c1 c2 c3 c4 e=>hs5.extBut _ _ c2 (hs4.extBut _ _ c4 (hs3.extBut _ _ c2 (hs2.extBut _ _ c3 (hs1.extBut _ _ c1 e))));have h15:SeqIt k1 g5 i1 l1 (n1+1):=h12.at fun o e=>hs5.extBut _ o D.TOi1.symm (hs4.extBut _ o D.i12 (hs3.extBut _ o D.TOi1.symm e));have h25:SeqIt k2 g5 i2 l2 (n2+1):=h24.at fun o e=>hs5.extBut _ o D.TOi2.symm e;have hzlt:z<g5.objs.size:=Heap.lt_size hz5;show wpAny _ _ (Builtin.SmallTypes.ownedTupleHandOut (.ref z) (.ref g5.objs.size) >>= _) _ _ _;refine wpAny_bind ?_;unfold Builtin.SmallTypes.ownedTupleHandOut;have hz6:IsZip (g5.push { cls:= .type "tuple",data:= .seq #[x,y] }) z TI TO .ellipsis:=Heap.get?_push_of_some _ hz5;refine wpAny_bind (wpAny_setField_rec hz6 (by simp) fun g7 hz7 hs7=>?_);replace hz7:IsZip g7 z TI TO (rawInt g5.objs.size):=hz7;refine wpAny_setField_rec hz7 (by simp) fun g8 hz8 hs8=>?_;replace hz8:IsZip g8 z TI TO (rawInt g5.objs.size):=hz8;have up:∀c o,c≠z→g5.get? c=some o→g8.get? c=some o:=fun c o c1 e=>hs8.extBut _ _ c1 (hs7.extBut _ _ c1 (Heap.get?_push_of_some _ e));have hT8:IsPair g8 g5.objs.size x y:=hs8.extBut _ _ (Nat.ne_of_gt hzlt) (hs7.extBut _ _ (Nat.ne_of_gt hzlt) (Heap.get?_push_size _ rfl));have hzz:g8.objs.size=g5.objs.size+1:=by rw [hs8.1,hs7.1,Heap.size_push]
 rw [hsz]at hz8 hT8 hzz;refine wpAny_pure ⟨_,rfl,wpAny_pure ?_⟩;show Q (some (.ref g5.objs.size)) _;rw [hsz];exact hQ g8 hz8 (up _ _ D.TOz hTO5) (h15.at fun o e=>up _ o D.i1z e) (h25.at fun o e=>up _ o D.i2z e) hT8 hzz fun c o c1 c2 c3 c4 e=>up c o c1 (hk5 c o c1 c2 c3 c4 e)
theorem zoA{k1 k2:Bool}{z TI TO i1 i2 l1 l2:Addr}{n1 n2:Nat}{xs ys:Array Value}{a b:Value}{Q:Option Value→Shared→Prop}(hh:A.handled=none) (D:ZipApart z TI TO i1 i2 l1 l2)
  (hz:IsZip s.heap z TI TO .none) (hTI:IsPair s.heap TI (.ref i1) (.ref i2)) (hTO:IsPair s.heap TO a b) (h1:SeqIt k1 s.heap i1 l1 n1) (h2:SeqIt k2 s.heap i2 l2 n2) (hl1:SeqIs k1 s.heap l1 xs) (hl2:SeqIs k2 s.heap l2 ys) (hend:xs[n1]? =none∨ys[n2]? =none)
  (hQ:∀g,(∀c o,c≠z→c≠TO→c≠i1→c≠i2→s.heap.get? c=some o→g.get? c=some o)→Q none { s with heap:=g }):wpAny (model prog w) A (pyNext (.ref z)) Q E s:=by
 have hT:s.TypeIs (.ref z) "zip" :=⟨_,hz,rfl⟩;have fin:∀(g:Heap) (e:Addr),(∀c o,c≠z→c≠TO→c≠i1→c≠i2→s.heap.get? c=some o→g.get? c=some o)→(∃o,g.get? e=some o∧o.cls= .type "StopIteration")→
   wpAny (model prog w) A (do if(←isInstance (.ref e) (.type "StopIteration")) then pure none else throw (.ref e)) Q E { s with heap:=g }:=fun g e hk ⟨o,ho,hc⟩=>
  wpAny_bind (wpAny_isInstance (T:= "StopIteration") (b:=true) ⟨o,ho,hc⟩ isSubtype_stop (wpAny_pure (hQ _ hk)))
 unfold pyNext;refine wpAny_bind (wpAny_attempt (wpAny_callSpecial?_slot (name:=Str.ofString "__next__") hT PySem.F.slot_zip_next (wpAny_call_entry PySem.F.slot_zip_next hT PySem.F.entry_zip_next ?_ (PySem.F.args_zip_next_1 _))));show wpAny _ _ (field (.ref z) 2 >>= _) _ _ _;refine wpAny_bind (wpAny_field hz rfl (x:= .bool false) rfl ?_);show wpAny _ _ (field (.ref z) 3 >>= _) _ _ _;refine wpAny_bind (wpAny_field hz rfl (x:= .ref TI) rfl ?_);refine wpAny_bind (wpAny_seqItems hTI rfl ?_);show wpAny _ _ (Builtin.SmallTypes.ownedTupleIsFree (.ref z) >>= _) _ _ _;refine wpAny_bind ?_;unfold Builtin.SmallTypes.ownedTupleIsFree;refine wpAny_bind (wpAny_field hz rfl (x:= .none) rfl (wpAny_pure ?_));simp only[if_true];refine wpAny_bind (wpAny_rule ?_);refine wpAny_bind (wpAny_field hz rfl (x:= .ref TO) rfl ?_);refine wpAny_bind (wpAny_setField_rec hz (by simp) fun g1 hz1 hs1=>?_);replace hz1:IsZip g1 z TI TO .ellipsis:=hz1;refine wpAny_bind ?_;simp only[List.zipIdx_cons,List.zipIdx_nil,List.forIn_cons,List.forIn_nil];refine wpAny_bind (wpAny_bind (wpAny_onRaise ?_));show wpAny _ _ (Builtin.SmallTypes.nextOf (.ref i1) >>= _) _ _ _;cases hx:xs[n1]? with
 |none=>
  refine wpAny_bind (zfL hh (h1.at fun o e=>hs1.extBut _ o D.i1z e) (hl1.at fun o e=>hs1.extBut _ o D.l1z e) hx fun g2 e hs2 he=>?_);obtain⟨oe,hoe,hce⟩:=he;have hz2:IsZip g2 z TI TO .ellipsis:=hs2 _ _ D.i1z.symm hz1;have hez:e≠z:=fun x=>by subst x;rw [hz2]at hoe;cases hoe;simp at hce
  refine wpAny_setField_rec hz2 (by simp) fun g3 _ hs3=>fin g3 e (fun c o c1 _ c3 _ x=>hs3.extBut _ _ c1 (hs2 _ _ c3 (hs1.extBut _ _ c1 x))) ⟨oe,hs3.extBut _ _ hez hoe,hce⟩
 |some x=>
  have hy:ys[n2]? =none:=by rcases hend with h |h;rw [hx]at h;cases h;exact h
  refine wpAny_bind (zdH (h1.at fun o e=>hs1.extBut _ o D.i1z e) (hl1.at fun o e=>hs1.extBut _ o D.l1z e) hx fun g2 h12 hs2=>wpAny_pure ?_);have hTO2:IsPair g2 TO a b:=hs2.extBut _ _ D.TOi1 (hs1.extBut _ _ D.TOz hTO);refine wpAny_bind (wpAny_seqItems hTO2 rfl ?_);refine wpAny_bind (wpAny_updateSeq_pair hTO2 fun g3 hTO3 hs3=>?_);refine wpAny_bind (wpAny_letGo (wpAny_pure ?_));refine wpAny_bind (wpAny_bind (wpAny_onRaise ?_));show wpAny _ _ (Builtin.SmallTypes.nextOf (.ref i2) >>= _) _ _ _;refine wpAny_bind (zfL hh (h2.at fun o e=>hs3.extBut _ o D.TOi2.symm (hs2.extBut _ o D.i12.symm (hs1.extBut _ o D.i2z e))) (hl2.at fun o e=>hs3.extBut _ o D.l2TO (hs2.extBut _ o D.l2i1 (hs1.extBut _ o D.l2z e))) hy fun g4 e hs4 he=>?_);obtain⟨oe,hoe,hce⟩:=he;have hz4:IsZip g4 z TI TO .ellipsis:=hs4 _ _ D.i2z.symm (hs3.extBut _ _ D.TOz.symm (hs2.extBut _ _ D.i1z.symm hz1));have hez:e≠z:=fun x=>by subst x;rw [hz4]at hoe;cases hoe;simp at hce
  refine wpAny_setField_rec hz4 (by simp) fun g5 _ hs5=>fin g5 e (fun c o c1 c2 c3 c4 x=>hs5.extBut _ _ c1 (hs4 _ _ c4 (hs3.extBut _ _ c2 (hs2.extBut _ _ c3 (hs1.extBut _ _ c1 x))))) ⟨oe,hs5.extBut _ _ hez hoe,hce⟩
end
noncomputable abbrev zH1 (k1:Bool) (h:Heap) (l1:Addr):Heap:=h.push (zcN k1 l1)
noncomputable abbrev zH2 (k1 k2:Bool) (h:Heap) (l1 l2:Addr):Heap:=(zH1 k1 h l1).push (zcN k2 l2)
noncomputable abbrev zH3 (k1 k2:Bool) (h:Heap) (l1 l2:Addr):Heap:=(zH2 k1 k2 h l1 l2).push { cls:= .type "tuple",data:= .seq #[.ref h.objs.size, .ref (zH1 k1 h l1).objs.size] }
noncomputable abbrev zH4 (k1 k2:Bool) (h:Heap) (l1 l2:Addr):Heap:=(zH3 k1 k2 h l1 l2).push { cls:= .type "tuple",data:= .seq #[.none, .none] }
noncomputable abbrev zH5 (k1 k2:Bool) (h:Heap) (l1 l2:Addr):Heap:=(zH4 k1 k2 h l1 l2).push { cls:= .type "zip",data:= .fields #[.none, .bool false, .bool false, .ref (zH2 k1 k2 h l1 l2).objs.size, .ref (zH3 k1 k2 h l1 l2).objs.size] }
theorem ziZ{k1 k2:Bool}(l1 l2:Addr) (xs ys:Array Value) :
  PySem.Meets (Builtin.«zip.__new__» ⟨[.type "zip", .ref l1, .ref l2],[]⟩) (fun _ R s=>SeqIs k1 s.heap l1 xs∧SeqIs k2 s.heap l2 ys∧R (.ok (.ret (.ref (zH4 k1 k2 s.heap l1 l2).objs.size))) { s with heap:=zH5 k1 k2 s.heap l1 l2 }):=
 .of_wp fun prog w A R s h=>by
  obtain⟨hp,g,d,tk,os⟩:=s;obtain⟨hl1,hl2,h⟩:=h;have hsub:=sub_zip;have f1:∀{A:Around}{E:Value→Shared→Prop}{Q:Value→Shared→Prop},Q (.ref hp.objs.size) ⟨hp.push (zcN k1 l1),g,d,tk,os⟩→wpAny (model prog w) A (pyIter (.ref l1)) Q E ⟨hp,g,d,tk,os⟩:=fun q=>zfB (s:=⟨hp,g,d,tk,os⟩) hl1 q;have f2:∀{A:Around}{E:Value→Shared→Prop}{Q:Value→Shared→Prop},Q (.ref (hp.push (zcN k1 l1)).objs.size) ⟨(hp.push (zcN k1 l1)).push (zcN k2 l2),g,d,tk,os⟩→wpAny (model prog w) A (pyIter (.ref l2)) Q E ⟨hp.push (zcN k1 l1),g,d,tk,os⟩:=fun q=>zfB (s:=⟨hp.push (zcN k1 l1),g,d,tk,os⟩) (hl2.push _) q
  wp_walk using f1,f2
  exact⟨_,rfl,h⟩
section
variable {prog:Program}{w:World}{A:Around}{E:Value→Shared→Prop}{s:Shared}
theorem zlP{k1 k2:Bool}{l1 l2:Addr}{xs ys:Array Value}{Q:Value→Shared→Prop}(hl1:SeqIs k1 s.heap l1 xs) (hl2:SeqIs k2 s.heap l2 ys)
  (h:∀g,IsZip g (s.heap.objs.size+4) (s.heap.objs.size+2) (s.heap.objs.size+3) .none→IsPair g (s.heap.objs.size+2) (.ref s.heap.objs.size) (.ref (s.heap.objs.size+1))→
   IsPair g (s.heap.objs.size+3) .none .none→SeqIt k1 g s.heap.objs.size l1 0→SeqIt k2 g (s.heap.objs.size+1) l2 0→g.objs.size=s.heap.objs.size+5→
   (∀c o,s.heap.get? c=some o→g.get? c=some o)→Q (.ref (s.heap.objs.size+4)) { s with heap:=g }):wpAny (model prog w) A (call (.type "zip") [.ref l1, .ref l2]) Q E s:=by
 refine callType_new PySem.F.called_zip (by decide) (PySem.F.typeCall_zip_2 _ _) (PySem.F.newCall_zip_2 _ _) (fun obj=>PySem.F.args_object_init_3 obj _ _) PySem.F.entry_zip_new (ziZ (k1:=k1) (k2:=k2) l1 l2 xs ys) ⟨hl1,hl2,?_⟩;have z1:(zH1 k1 s.heap l1).objs.size=s.heap.objs.size+1:=Heap.size_push ..;have z2:(zH2 k1 k2 s.heap l1 l2).objs.size=s.heap.objs.size+2:=by rw [Heap.size_push,z1]
 have z3:(zH3 k1 k2 s.heap l1 l2).objs.size=s.heap.objs.size+3:=by rw [Heap.size_push,z2]
 have z4:(zH4 k1 k2 s.heap l1 l2).objs.size=s.heap.objs.size+4:=by rw [Heap.size_push,z3]
 have z5:(zH5 k1 k2 s.heap l1 l2).objs.size=s.heap.objs.size+5:=by rw [Heap.size_push,z4]
 have g5:(zH5 k1 k2 s.heap l1 l2).get? (zH4 k1 k2 s.heap l1 l2).objs.size=some _:=Heap.get?_push_size _ rfl;have g4:(zH5 k1 k2 s.heap l1 l2).get? (zH3 k1 k2 s.heap l1 l2).objs.size=some _:=Heap.get?_push_of_some _ (Heap.get?_push_size _ rfl);have g3:(zH5 k1 k2 s.heap l1 l2).get? (zH2 k1 k2 s.heap l1 l2).objs.size=some _:=Heap.get?_push_of_some _ (Heap.get?_push_of_some _ (Heap.get?_push_size _ rfl));have g2:(zH5 k1 k2 s.heap l1 l2).get? (zH1 k1 s.heap l1).objs.size=some _:=Heap.get?_push_of_some _ (Heap.get?_push_of_some _ (Heap.get?_push_of_some _ (Heap.get?_push_size _ zdL)));have g1:(zH5 k1 k2 s.heap l1 l2).get? s.heap.objs.size=some _:=Heap.get?_push_of_some _ (Heap.get?_push_of_some _ (Heap.get?_push_of_some _ (Heap.get?_push_of_some _ (Heap.get?_push_size _ zdL))));show _∧_;rw [z2,z3,z4]at g5;rw [z1,z2]at g3;rw [z3]at g4;rw [z1]at g2;rw [z4];exact⟨⟨_,g5,rfl⟩,h _ g5 g3 g4 (zfn g1) (zfn g2) z5 fun c o x=>Heap.get?_push_of_some _ (Heap.get?_push_of_some _ (Heap.get?_push_of_some _ (Heap.get?_push_of_some _ (Heap.get?_push_of_some _ x))))⟩
end
noncomputable def SqZ (k:Bool) (K:PySem.W.Frag) (H:Hp) (a:Addr) (xs:List V):Prop:=if k=true then SqL K H a xs else H a=some (.tup xs)
theorem SqZ.sq{k:Bool}{K:PySem.W.Frag}{H:Hp}{a:Addr}{xs:List V}(h:SqZ k K H a xs):SqK k K H a xs:=by
 cases k with
 |true=>exact h
 |false=>exact .of h
theorem SeqIs.ob{k:Bool}{h:Heap}{a:Addr}{its:Array Value}(x:SeqIs k h a its):∃o n,h.get? a=some o∧o.data= .seq its n∧(k=true→o.cls= .type "list"):=by
 cases k with
 |true=>obtain⟨o,ho,hc,n,hd⟩:=(show h.IsList a its from x);exact⟨o,n,ho,hd,fun _=>hc⟩
 |false=>obtain⟨o,ho,hc,n,hd⟩:=(show h.IsTuple a its from x);exact⟨o,n,ho,hd,fun z=>by cases z⟩
theorem SeqIs.ne_fields{k:Bool}{h:Heap}{a b:Addr}{its:Array Value}{o:Obj}{vs:Array Value}(x:SeqIs k h a its) (e:h.get? b=some o) (d:o.data= .fields vs):a≠b:=fun z=>by
 subst z;obtain⟨o',n,ho,hd,_⟩:=x.ob;rw [ho]at e;cases e;rw [hd]at d;cases d
noncomputable def Itz (k1 k2:Bool) (K:PySem.W.Frag) (a b:Addr):It:=
  ⟨fun i H=>∃xs ys x y,SqZ k1 K H a xs∧SqZ k2 K H b ys∧xs[i]? =some x∧ys[i]? =some y,
   fun i H v H'=>∃p x y,H p=none∧v= .ref p∧H'=upd H p (.tup [x,y])∧(∀xs,SqZ k1 K H a xs→xs[i]? =some x)∧ ∀ys,SqZ k2 K H b ys→ys[i]? =some y,
   fun i H=>∃xs ys,SqZ k1 K H a xs∧SqZ k2 K H b ys∧(xs.length≤i∨ys.length≤i)⟩
structure ZipFar (z TI TO i1 i2:Addr):Prop where
  TIz:TI≠z
  TOz:TO≠z
  i1z:i1≠z
  i2z:i2≠z
  TITO:TI≠TO
  TIi1:TI≠i1
  TIi2:TI≠i2
  TOi1:TO≠i1
  TOi2:TO≠i2
  i12:i1≠i2
noncomputable def zpX (k1 k2:Bool) (z TI TO i1 i2 a b:Addr) (i:Nat) (h:Heap):Prop:=IsZip h z TI TO .none∧IsPair h TI (.ref i1) (.ref i2)∧(∃u v,IsPair h TO u v)∧SeqIt k1 h i1 a i∧SeqIt k2 h i2 b i
section
variable {X:Cx}{pins:List (Addr×Obj)}{σ:St}{H:Hp}{s:Shared}
theorem zgy{k1 k2:Bool}{z TI TO i1 i2 a b:Addr}{i:Nat}{xs ys:List V}(I:Inv X pins σ H s) (hTO:H TO=none) (D:ZipFar z TI TO i1 i2) (st:zpX k1 k2 z TI TO i1 i2 a b i s.heap) (ha:SqZ k1 X.K H a xs) (hb:SqZ k2 X.K H b ys):ZipApart z TI TO i1 i2 a b:=by
 obtain⟨hz,hTI,⟨u,v,hTOo⟩,h1,h2⟩:=st;obtain⟨o1,v1,e1,d1⟩:=h1.ob;obtain⟨o2,v2,e2,d2⟩:=h2.ob;obtain⟨its,_,pa,_⟩:=I.seq ha.sq;obtain⟨its2,_,pb,_⟩:=I.seq hb.sq;have nTO:∀{k:Bool}{c:Addr}{zs:List V}{its:Array Value},SqZ k X.K H c zs→SeqIs k s.heap c its→c≠TO:=fun {k c zs its} hc pc e=>by
  subst e;cases k with
  |false=>rw [show H c=some (.tup zs) from hc]at hTO;cases hTO
  |true=>
   obtain⟨o,n,ho,_,hcl⟩:=pc.ob;rw [hTOo]at ho;cases ho;have:=hcl rfl;simp at this
 exact⟨D.TIz,D.TOz,D.i1z,D.i2z,D.TITO,D.TIi1,D.TIi2,D.TOi1,D.TOi2,D.i12,pa.ne_fields hz rfl,nTO ha pa,pa.ne_fields e1 d1,pa.ne_fields e2 d2,pb.ne_fields hz rfl,nTO hb pb,pb.ne_fields e1 d1,pb.ne_fields e2 d2⟩
end
theorem zlG{P:Program}{w:World}{K:PySem.W.Frag}{es:List Expr}{x1:Nat}{pos:Pos}(k1 k2:Bool) (a b z TI TO i1 i2:Addr) (D:ZipFar z TI TO i1 i2):Turn P w K (.Tuple es x1 pos) (Itz k1 k2 K a b) [z,TI,TO,i1,i2] z (zpX k1 k2 z TI TO i1 i2 a b) where
  mem:=by simp
  obj:=fun i h ⟨hz,hTI,⟨u,v,hTO⟩,h1,h2⟩ c hc=>by
    obtain⟨o1,v1,e1,d1⟩:=h1.ob;obtain⟨o2,v2,e2,d2⟩:=h2.ob;simp only[List.mem_cons,List.not_mem_nil,or_false]at hc;rcases hc with rfl |rfl |rfl |rfl |rfl
    · exact⟨_,hz,fun v z=>by cases z⟩
    · exact⟨_,hTI,fun v z=>by cases z⟩
    · exact⟨_,hTO,fun v z=>by cases z⟩
    · exact⟨_,e1,fun v z=>by rw [d1]at z;cases z⟩
    · exact⟨_,e2,fun v z=>by rw [d2]at z;cases z⟩
  keep:=fun i h h' ⟨hz,hTI,⟨u,v,hTO⟩,h1,h2⟩ kk=>⟨kk z (by simp) _ hz,kk TI (by simp) _ hTI,⟨u,v,kk TO (by simp) _ hTO⟩,h1.at fun o q=>kk i1 (by simp) o q,h2.at fun o q=>kk i2 (by simp) o q⟩
  item:=by
    intro X hP hw hK hc i pins s σ H E I hf st hg;subst hP hw hK;obtain⟨xs,ys,x,y,ha,hb,hx,hy⟩:=hg;have Z:=zgy I (hf TO (by simp)).1 D st ha hb;obtain⟨hz,hTI,⟨c0,d0,hTO⟩,h1,h2⟩:=st;obtain⟨its,rv,pa,_⟩:=I.seq ha.sq;obtain⟨its2,rv2,pb,_⟩:=I.seq hb.sq;obtain⟨u,hu,ru⟩:=rv.get hx;obtain⟨u2,hu2,ru2⟩:=rv2.get hy;refine zmU Z hz hTI hTO h1 h2 pa pb (x:=u) (y:=u2) (by simpa using hu) (by simpa using hu2) fun g hz1 hTO1 h11 h21 hp hz' kk=>⟨_,rfl,?_⟩;refine wpAny_letOwnedTupleGo_zip hz1 fun g2 hz2 hs2=>?_;have hs2':∀c o,c≠z→g.get? c=some o→g2.get? c=some o:=fun c o hc e=>(hs2.2 c hc).trans e;have kk2:∀c o,c∉ [z,TI,TO,i1,i2]→s.heap.get? c=some o→g2.get? c=some o:=fun c o hc q=>by
      simp only[List.mem_cons,List.not_mem_nil,or_false,not_or]at hc;exact hs2' c o hc.1 (kk c o hc.1 hc.2.2.1 hc.2.2.2.1 hc.2.2.2.2 q)
    have hn:=I.hok.fresh (Nat.le_refl s.heap.objs.size);have hpz:s.heap.objs.size≠z:=Nat.ne_of_gt (Heap.lt_size hz);have ht2:g2.get? s.heap.objs.size=some { cls:= .type "tuple",data:= .seq #[u,u2] }:=hs2' _ _ hpz hp;refine⟨.ref s.heap.objs.size,upd H s.heap.objs.size (.tup [x,y]),I.turnNew (fp:=[z,TI,TO,i1,i2]) (t':=s.toks) (Nat.le_refl _) kk2 hf ⟨by show 2≤sizeLine;rw [sizeLine_eq];decide,[u,u2], .cons ru (.cons ru2 .nil),⟨_,ht2,rfl,_,rfl⟩⟩,rfl,
      ⟨_,x,y,hn,rfl,rfl,fun zs hy=>by rw [I.seq_inj hy.sq ha.sq];exact hx,fun zs hy'=>by rw [I.seq_inj hy'.sq hb.sq];exact hy⟩,
      ⟨hz2,hs2' _ _ D.TIz (kk _ _ D.TIz D.TITO D.TIi1 D.TIi2 hTI),⟨u,u2,hs2' _ _ D.TOz hTO1⟩,h11.at fun o q=>hs2' _ o D.i1z q,h21.at fun o q=>hs2' _ o D.i2z q⟩,fun c hc=>?_⟩
    have hlt:∃o,s.heap.get? c=some o:=by
      obtain⟨o1,v1,e1,d1⟩:=h1.ob;obtain⟨o2,v2,e2,d2⟩:=h2.ob;simp only[List.mem_cons,List.not_mem_nil,or_false]at hc;rcases hc with rfl |rfl |rfl |rfl |rfl
      · exact⟨_,hz⟩
      · exact⟨_,hTI⟩
      · exact⟨_,hTO⟩
      · exact⟨_,e1⟩
      · exact⟨_,e2⟩
    obtain⟨o,ho⟩:=hlt;rw [zas (Nat.ne_of_lt (Heap.lt_size ho))];exact(hf c hc).1
  done:=by
    intro X hP hw hK hc i pins s σ H E I hf st hg;subst hP hw hK;obtain⟨xs,ys,ha,hb,hx⟩:=hg;have Z:=zgy I (hf TO (by simp)).1 D st ha hb;obtain⟨hz,hTI,⟨c0,d0,hTO⟩,h1,h2⟩:=st;obtain⟨its,rv,pa,_⟩:=I.seq ha.sq;obtain⟨its2,rv2,pb,_⟩:=I.seq hb.sq;have hl:=rv.length;have hl2:=rv2.length;refine zoA (I.ok.hd hc) Z hz hTI hTO h1 h2 pa pb ?_ fun g eb=>⟨rfl,I.turnedL (fp:=[z,TI,TO,i1,i2]) (t':=s.toks) (fun c o hc q=>?_) hf⟩
    · rcases hx with hx |hx
      · exact .inl (by simp;omega)
      · exact .inr (by simp;omega)
    · simp only[List.mem_cons,List.not_mem_nil,or_false,not_or]at hc;exact eb c o hc.1 hc.2.2.1 hc.2.2.2.1 hc.2.2.2.2 q
  self:=fun A i s Q E st h=>wpAny_pyIter_zip st.1 h
section
variable {X:Cx}{es:List Expr}{x1:Nat}{tpos:Pos}
noncomputable def zue (K:PySem.W.Frag) (ta:TA):TI:=fun σ H R=>ta σ H fun vs H1=>∃k1 k2 a b xs ys,vs=[.ref a, .ref b]∧SqZ k1 K H1 a xs∧SqZ k2 K H1 b ys∧R (Itz k1 k2 K a b) H1
theorem zrz{a b:Expr}{ta:TA}{p pos:Pos}(hg:Gl X "zip") (hm:X.mg "zip" =none) (ha:PA X [a,b] ta) (hs:starEach [a,b] X.env=[(false,eval a X.env),(false,eval b X.env)]:=by rfl) (hs2:starEach [b] X.env=[(false,eval b X.env)]:=by rfl):PI X (.Tuple es x1 tpos) (.Call (.Name "zip" p) [a,b] [] pos) (zue X.K ta):=by
 intro pins s σ H R I h;refine Call_ (zfe I hg hm boot_zip (PyProof.Rows.callWith_type1 (thn (ha pos pins s σ H _ I h) fun us s1 ⟨vs,H1,I1,r1,q1⟩=>?_) (by rw [hs,hs2]) (by rw [hs2];rfl)));obtain⟨k1,k2,a,b,xs,ys,e,hq1,hq2,q⟩:=q1;subst e;cases r1 with
 |cons r rr=>
  cases rr with
  |cons r' rr=>
   cases rr;cases(show _=Value.ref a from r);cases(show _=Value.ref b from r');obtain⟨its,rv,pl,_⟩:=I1.seq hq1.sq;obtain⟨its2,rv2,pl2,_⟩:=I1.seq hq2.sq;refine zlP pl pl2 fun g hz hTI hTO h1 h2 hz' kk=>wpAny_pyIter_zip hz ?_;have I2:Inv X pins σ H1 { s1 with heap:=g }:=I1.kept (t':=s1.toks) kk;have ne:∀(n i j:Nat),i≠j→n+i≠n+j:=fun n i j h e=>h (Nat.add_left_cancel e);have D:ZipFar (s1.heap.objs.size+4) (s1.heap.objs.size+2) (s1.heap.objs.size+3) s1.heap.objs.size (s1.heap.objs.size+1):=
    ⟨ne _ 2 4 (by decide),ne _ 3 4 (by decide),ne _ 0 4 (by decide),ne _ 1 4 (by decide),ne _ 2 3 (by decide),ne _ 2 0 (by decide),ne _ 2 1 (by decide),ne _ 3 0 (by decide),ne _ 3 1 (by decide),ne _ 0 1 (by decide)⟩
   refine⟨_,_,_,_,H1,rfl,I2,zlG k1 k2 a b _ _ _ _ _ D,⟨hz,hTI,⟨_,_,hTO⟩,h1,h2⟩,fun c hc=>?_,q⟩;have hb':s1.heap.objs.size≤c:=by
    simp only[List.mem_cons,List.not_mem_nil,or_false]at hc;rcases hc with rfl |rfl |rfl |rfl |rfl
    ·exact Nat.le_add_right _ _
    ·exact Nat.le_add_right _ _
    ·exact Nat.le_add_right _ _
    ·exact Nat.le_refl _
    ·exact Nat.le_add_right _ _
   exact I1.fpOk hb' (I1.hok.fresh hb')
noncomputable def zbq:List W→List W→List W
 |x::xs,y::ys=> .tup [x,y]::zbq xs ys
 |_,_=>[]
theorem zgJ:∀{xs ys:List W}{i:Nat}{u:W},(zbq xs ys)[i]? =some u→ ∃x y,xs[i]? =some x∧ys[i]? =some y∧u= .tup [x,y]
 | [],_,_,_,h=>by simp [zbq]at h
 |_::_,[],_,_,h=>by simp [zbq]at h
 |x::xs,y::ys,0,u,h=>by
  simp [zbq]at h;exact⟨x,y,rfl,rfl,h.symm⟩
 |x::xs,y::ys,i+1,u,h=>by simpa using zgJ (xs:=xs) (ys:=ys) (i:=i) (u:=u) (by simpa [zbq]using h)
theorem zgZ:∀{xs ys:List W},(zbq xs ys).length=min xs.length ys.length
 | [],_=>by simp [zbq]
 |_::_,[]=>by simp [zbq]
 |x::xs,y::ys=>by simp [zbq,zgZ (xs:=xs) (ys:=ys)]
theorem zqB{K:PySem.W.Frag}{k1 k2:Bool}{a b:Addr}{ws us:List W}{G:Sto→Prop}{H0:Hp}{S0:Sto}(h:∀S H,Ext H0 S0 H S→RepS K H S→G S→(∃vs,SqZ k1 K H a vs∧Reps K H ws vs)∧ ∃vs,SqZ k2 K H b vs∧Reps K H us vs):ItW K (Itz k1 k2 K a b) (zbq ws us) G H0 S0:=fun i S H e hS hG=>by
 obtain⟨⟨xs,hq,r⟩,⟨ys,hq2,r2⟩⟩:=h S H e hS hG;refine⟨fun u eu=>?_,fun hl=>⟨xs,ys,hq,hq2,?_⟩⟩
 ·obtain⟨x,y,ex,ey,rfl⟩:=zgJ eu;obtain⟨v,ev,rv⟩:=r.get ex;obtain⟨v2,ev2,rv2⟩:=r2.get ey;refine⟨⟨xs,ys,v,v2,hq,hq2,ev,ev2⟩,fun x H' ⟨p,y1,y2,hp,e1,e2,e3,e4⟩=>?_⟩;subst e1 e2;have f1:=e3 xs hq;have f2:=e4 ys hq2;rw [ev]at f1;cases f1;rw [ev2]at f2;cases f2;exact⟨.new hp,hS.new hp, .tup zay (.cons (rv.ext (.new (S:=S) hp)) (.cons (rv2.ext (.new (S:=S) hp)) .nil))⟩
 ·rw [zgZ]at hl;rw [←r.length,←r2.length];omega
theorem zil{K:PySem.W.Frag}{H:Hp}{S:Sto}{w:W}{v:V}{Q:List W→(Sto→Prop)→Prop}(r:Rep K H w v) (hS:RepS K H S) (h:zlD w S Q) :
  ∃k a ws G,v= .ref a∧G S∧(∀S' H',Ext H S H' S'→RepS K H' S'→G S'→ ∃vs,SqZ k K H' a vs∧Reps K H' ws vs)∧Q ws G:=by
 cases r with
 |tup f hs=>exact⟨false,_,_,_,rfl,trivial,fun S' H' e hS' _=>⟨_,e.tup _ _ f,hs.ext e⟩,h⟩
 |ref a=>
  obtain⟨ws,ea,h⟩:=zbg h;exact⟨true,_,ws,_,rfl,ea,fun S' H' e hS' g=>by
   obtain⟨vs,f,hs⟩:=hS' a _ g;exact⟨vs, .of f,hs⟩,h⟩
 |scr f=>exact⟨true,_,_,_,rfl,trivial,fun S' H' e hS' _=>⟨_,(e.fz f).sq,Reps.ofInts _⟩,h⟩
 |_=>exact h.elim
noncomputable def zpA (t u:WE):WI:=fun E σ S Q=>t E σ S fun x S1=>u E σ S1 fun y S2=>zlD x S2 fun xs G=>zlD y S2 fun ys G'=>Q (zbq xs ys) (fun S'=>G S'∧G' S') S2
theorem ziD{a b:Expr}{ta tb:WE}{p pos:Pos}(hg:Gl X "zip") (hm:X.mg "zip" =none) (ha:JE X a ta) (hb:JE X b tb) (hs:starEach [a,b] X.env=[(false,eval a X.env),(false,eval b X.env)]:=by rfl) (hs2:starEach [b] X.env=[(false,eval b X.env)]:=by rfl)
  (h3:starEach [a,b] X.env=(false,eval a X.env)::starEach [b] X.env:=by rfl) (h4:starEach [b] X.env=(false,eval b X.env)::starEach [] X.env:=by rfl):JI X (.Tuple es x1 tpos) (.Call (.Name "zip" p) [a,b] [] pos) (zpA ta tb):=fun E hE=>
 (zrz hg hm (zcE (ha E hE) (zcE (hb E hE) pa_nil h4) h3) hs hs2).mono fun σ H R ⟨σW,S,QW,hσ,hS,ht,hR⟩=>⟨σW,S,_,hσ,hS,ht,fun x S1 v H1 e1 r1 hS1 h1=>⟨σW,S1,_,hσ.ext e1,hS1,h1,fun y S2 v2 H2 e2 r2 hS2 h2=>by
  obtain⟨k1,a,ws,G,rfl,hG,hq,h⟩:=zil (r1.ext e2) hS2 h2;obtain⟨k2,b,us,G',rfl,hG',hq',h⟩:=zil r2 hS2 h;obtain⟨vs,hv,_⟩:=hq S2 H2 .refl hS2 hG;obtain⟨vs',hv',_⟩:=hq' S2 H2 .refl hS2 hG';exact⟨k1,k2,a,b,vs,vs',rfl,hv,hv',hR _ _ S2 _ H2 (e1.trans e2) hS2 ⟨hG,hG'⟩ (zqB fun S' H' e hS' g=>⟨hq S' H' e hS' g.1,hq' S' H' e hS' g.2⟩) h⟩⟩⟩
end
section
noncomputable def zqg (hi:Int) (n:Nat):List W:=(List.range n).map fun(i:Nat)=> .int (hi - (i:Int))
noncomputable def ztD (t:WA):WI:=fun E σ S Q=>t E σ S fun ws S1=>match ws with
 | [.int i, .int j, .int c]=>c= -1∧(-(2 ^ 62)≤i∧i<2 ^ 62∧ -(2 ^ 62)≤j∧j<2 ^ 62)∧Q (zqg i (i - j).toNat) (fun _=>True) S1
 |_=>False
end
section
variable {X:Cx}{e:Expr}{es:List Expr}{t:WA}{p pos:Pos}
noncomputable def zqk:WF:=fun ws S Q=>match ws with
 | [.int i]=>Q (.int i) S
 | [.bl b]=>Q (.int (if b then 1 else 0)) S
 |_=>False
theorem zjX{K:PySem.W.Frag}:zhM K (fun xs H Q=>(∃i,xs=[.int i]∧Q (.int i) H)∨ ∃k,xs=[.bl k]∧Q (.int (if k then 1 else 0)) H) zqk:=fun H vs ws S Q QW r hS h hQ=>by
 cases r with
 |nil=>exact h.elim
 |cons r1 r2=>
  cases r2 with
  |cons _ _=>cases r1<;>exact h.elim
  |nil=>
   cases r1 with
   |int i=>exact .inl ⟨i,rfl,hQ _ S _ H .refl (.int _) hS h⟩
   |bl b=>exact .inr ⟨b,rfl,hQ _ S _ H .refl (.int _) hS h⟩
   |_=>exact h.elim
theorem zoQ (hg:Gl X "int") (hm:X.mg "int" =none) (ha:JA X (e::es) t)
  (he:starEach (e::es) X.env=(false,eval e X.env)::starEach es X.env:=by rfl) (hpl:(backTo pos (starEach es X.env)).any (·.1)=false:=by rfl):JE X (.Call (.Name "int" p) (e::es) [] pos) (wB zqk t):=
 zqb zjS zjX hg hm PyProof.Rows.boot_int ha (by decide) (by decide) he hpl
noncomputable def zsG:WF:=fun ws S Q=>match ws with
 | [.int i, .int j]=>Q (.int (if j > i then j else i)) S
 |_=>False
noncomputable def zgm:WF:=fun ws S Q=>match ws with
 | [.int i, .int j]=>Q (.int (if j<i then j else i)) S
 |_=>False
theorem ziY{K:PySem.W.Frag}:zhM K (fun xs H Q=>∃i j,xs=[.int i, .int j]∧Q (.int (if j<i then j else i)) H) zgm:=fun H vs ws S Q QW r hS h hQ=>by
 unfold zgm at h;split at h
 ·cases r with
  |cons r1 r2=>cases r2 with
   |cons r2 r3=>cases r3;cases r1;cases r2;exact⟨_,_,rfl,hQ _ S _ H .refl (.int _) hS h⟩
 ·exact h.elim
theorem zjC{id:String}{r:List V→Hp→VK→Prop}{f:WF}{x:Str}(hc:X.calm=true→CallR X (.builtin id) r) (hw:zhM X.K r f) (hg:Gl X x) (hm:X.mg x=none) (hv:bootBuiltins x=some (.builtin id)) (ha:JA X (e::es) t) (hn:x≠ "__name__" :=by decide) (hdb:(x == ("__debug__" :Str))=false:=by decide)
  (he:starEach (e::es) X.env=(false,eval e X.env)::starEach es X.env:=by rfl) (hpl:(backTo pos (starEach es X.env)).any (·.1)=false:=by rfl) (hcl:X.calm=true:=by rfl):JE X (.Call (.Name x p) (e::es) [] pos) (wB f t):=fun E hE=>znA (hc hcl) hw hg hm hv ha hn hdb he hpl E hE
theorem zlC (hg:Gl X "min") (hm:X.mg "min" =none) (ha:JA X (e::es) t)
  (he:starEach (e::es) X.env=(false,eval e X.env)::starEach es X.env:=by rfl) (hpl:(backTo pos (starEach es X.env)).any (·.1)=false:=by rfl) (hcl:X.calm=true:=by rfl):JE X (.Call (.Name "min" p) (e::es) [] pos) (wB zgm t):=zjC zks ziY hg hm PyProof.Rows.boot_min ha (by decide) (by decide) he hpl hcl
theorem zoC{tl:WL}(hg:Gl X "all") (hm:X.mg "all" =none) (ha:JL X e tl)
  (he:starEach [e] X.env=(false,eval e X.env)::starEach [] X.env:=by rfl) (hpl:(backTo pos (starEach [] X.env)).any (·.1)=false:=by rfl) (hcl:X.calm=true:=by rfl):JE X (.Call (.Name "all" p) [e] [] pos) (wBL zlr tl):=fun E hE=>zkI (zlO hcl) zlz hg hm PyProof.Rows.boot_all ha (by decide) (by decide) he hpl E hE
theorem zkJ{tl:WL}(hg:Gl X "tuple") (hm:X.mg "tuple" =none) (ha:JL X e tl)
  (he:starEach [e] X.env=(false,eval e X.env)::starEach [] X.env:=by rfl) (hpl:(backTo pos (starEach [] X.env)).any (·.1)=false:=by rfl):JE X (.Call (.Name "tuple" p) [e] [] pos) (wBL zfz tl):=zqs zds zhh hg hm PyProof.Rows.boot_tuple ha (by decide) (by decide) he hpl
theorem zfy (hg:Gl X "tuple") (hm:X.mg "tuple" =none) (ha:JA X (e::es) t)
  (he:starEach (e::es) X.env=(false,eval e X.env)::starEach es X.env:=by rfl) (hpl:(backTo pos (starEach es X.env)).any (·.1)=false:=by rfl):JE X (.Call (.Name "tuple" p) (e::es) [] pos) (wB zev t):=zqb zds zho hg hm PyProof.Rows.boot_tuple ha (by decide) (by decide) he hpl
end
theorem zlF{K:PySem.W.Frag}:∀T∈ ["int", "bool", "str", "tuple", "list"],∀A∈ ["NoneType", "bool", "int", "str", "tuple", "list"],PySem.W.kitOne K (.type A) (.type T)=some (zbp A T):=by
 intro T hT A hA;simp only[List.mem_cons,List.not_mem_nil,or_false]at hT hA;rcases hT with rfl |rfl |rfl |rfl |rfl<;>rcases hA with rfl |rfl |rfl |rfl |rfl |rfl<;>rfl
theorem gl0:∀(ws:List W) (σ:WSt) (S:Sto) (P:WSt→Sto→Prop),zcI ws σ S P→ws.length=0:=fun ws σ S P h=>by
 cases ws with
 |nil=>rfl
 |cons _ _=>exact h.elim
theorem glS{i n:Nat}{u:WGs}(h:∀(ws:List W) (σ:WSt) (S:Sto) (P:WSt→Sto→Prop),u ws σ S P→ws.length=n):∀(ws:List W) (σ:WSt) (S:Sto) (P:WSt→Sto→Prop),zaG (wGN i) u ws σ S P→ws.length=n+1:=fun ws σ S P q=>by
 cases ws with
 |nil=>exact q.elim
 |cons w ws=>exact congrArg (· +1) (h _ _ _ _ q)
noncomputable def zbw:WSp:=fun _ _ _ _=>False
theorem zqX{P:Program}{w:World}{K:PySem.W.Frag}{mg:Str→Option Value}{base:Heap}{f:Addr}{fd:FuncData}{ps:List Str}{k:Nat}:FnOk P w K mg base (CX1 P w) k f fd ps (zch K zbw):=
 ⟨fun vs H Q E ⟨_,_,_,_,_,_,h,_⟩=>h.elim,fun A outer s H args us vs Q E _ _ _ _ ⟨_,_,_,_,_,_,h,_⟩=>h.elim⟩
section
variable {X:Cx}{a b:Expr}{pos:Pos}{ta tb:WE}{la lb:WL}
noncomputable def zoM (t:WL) (u:WE):WE:=fun E σ S Q=>t E σ S fun ws S1=>u E σ S1 fun y S2=>match y with
 | .int i=>match atI ws i with
  |some w=>Q w S2
  |none=>False
 |_=>False
theorem zkH (ha:JL X a la) (hb:JE X b tb) (hs:zhv b:=by intro _ _;rfl):JE X (.Subscript a b pos) (zoM la tb):=fun E hE=>
 (zrM znp (ha E hE) (hb E hE) hs).mono fun σ H Q ⟨σW,S,QW,hσ,hS,ht,hQ⟩=>⟨σW,S,_,hσ,hS,ht,fun ws S1 vs p H1 e1 fp ep np r1 hS1 h1=>⟨σW,S1,_,hσ.ext e1,hS1,h1,fun y S2 v2 H2 e2 r2 hS2 h2=>by
  cases r2 with
  |int i=>
   dsimp only at h2;split at h2
   ·obtain⟨v,ev,r⟩:=zhs (r1.ext e2) ‹_›;exact .inl ⟨p,vs,i,v,rfl,rfl, .of (e2.fr p _ ep np).1,ev,hQ _ S2 _ H2 (e1.trans e2) r hS2 h2⟩
   ·exact h2.elim
  |_=>exact h2.elim⟩⟩
noncomputable def zeR (t:WE) (u:WL):WL:=fun E σ S Q=>t E σ S fun x S1=>u E σ S1 fun ys S2=>match x with
 | .ref a=>zbK S2 a fun xs=>xs.length+ys.length≤sizeLine∧Q (xs++ys) S2
 |_=>False
noncomputable def zjb (t u:WL):WL:=fun E σ S Q=>t E σ S fun xs S1=>u E σ S1 fun ys S2=>xs.length+ys.length≤sizeLine∧Q (xs++ys) S2
noncomputable def zlU (t:WL) (u:WE):WL:=fun E σ S Q=>t E σ S fun xs S1=>u E σ S1 fun y S2=>match y with
 | .ref a=>zbK S2 a fun ys=>xs.length+ys.length≤sizeLine∧Q (xs++ys) S2
 |_=>False
theorem zcS (ha:JE X a ta) (hb:JL X b lb):JL X (.BinOp a .Add b pos) (zeR ta lb):=fun E hE=>
 (zku ziB (ha E hE) (hb E hE)).mono fun σ H Q ⟨σW,S,QW,hσ,hS,ht,hQ⟩=>⟨σW,S,_,hσ,hS,ht,fun w1 S1 v1 H1 e1 r1 hS1 h1=>⟨σW,S1,_,hσ.ext e1,hS1,h1,fun ys S2 us q H2 e2 fq eq nq r2 hS2 h2=>by
  cases r1 with
  |ref p=>
   obtain⟨xs,ea,h⟩:=zbg h2;obtain⟨vs,f1,q1⟩:=hS2 p _ ea;exact⟨p,q,vs,us,rfl,rfl,f1,eq,by rw [←q1.length,←r2.length];exact h.1,fun p hp=>hQ _ S2 _ p _ ((e1.trans e2).trans (.new hp)) ((e1.trans e2).free hp) zay (hS2.free hp) ((q1.append r2).ext (.new (S:=S2) hp)) (hS2.new hp) h.2⟩
  |_=>exact h2.elim⟩⟩
theorem zhA (ha:JL X a la) (hb:JL X b lb):JL X (.BinOp a .Add b pos) (zjb la lb):=fun E hE=>
 (zku ziB (ha E hE) (hb E hE)).mono fun σ H Q ⟨σW,S,QW,hσ,hS,ht,hQ⟩=>⟨σW,S,_,hσ,hS,ht,fun xs S1 vs p H1 e1 fp ep np r1 hS1 h1=>⟨σW,S1,_,hσ.ext e1,hS1,h1,fun ys S2 us q H2 e2 fq eq nq r2 hS2 h2=>
  ⟨p,q,vs,us,rfl,rfl,(e2.fr p _ ep np).1,eq,by rw [←r1.length,←r2.length];exact h2.1,fun z hz=>hQ _ S2 _ z _ ((e1.trans e2).trans (.new hz)) ((e1.trans e2).free hz) zay (hS2.free hz) (((r1.ext e2).append r2).ext (.new (S:=S2) hz)) (hS2.new hz) h2.2⟩⟩⟩
theorem zoz (ha:JL X a la) (hb:JE X b tb):JL X (.BinOp a .Add b pos) (zlU la tb):=fun E hE=>
 (zku ziB (ha E hE) (hb E hE)).mono fun σ H Q ⟨σW,S,QW,hσ,hS,ht,hQ⟩=>⟨σW,S,_,hσ,hS,ht,fun xs S1 vs p H1 e1 fp ep np r1 hS1 h1=>⟨σW,S1,_,hσ.ext e1,hS1,h1,fun y S2 v2 H2 e2 r2 hS2 h2=>by
  cases r2 with
  |ref q=>
   obtain⟨ys,ea,h⟩:=zbg h2;obtain⟨us,f2,q2⟩:=hS2 q _ ea;exact⟨p,q,vs,us,rfl,rfl,(e2.fr p _ ep np).1,f2,by rw [←r1.length,←q2.length];exact h.1,fun z hz=>hQ _ S2 _ z _ ((e1.trans e2).trans (.new hz)) ((e1.trans e2).free hz) zay (hS2.free hz) (((r1.ext e2).append q2).ext (.new (S:=S2) hz)) (hS2.new hz) h.2⟩
  |_=>exact h2.elim⟩⟩
noncomputable def zms (t:WL) (u:WE):WL:=fun E σ S Q=>t E σ S fun xs S1=>u E σ S1 fun y S2=>match y with
 | .int k=>(-(2 ^ 63)≤k∧k<2 ^ 63∧xs.length*k.toNat≤sizeLine)∧Q (List.replicate k.toNat xs).flatten S2
 |_=>False
theorem Reps.rep{K:PySem.W.Frag}{H:Hp}{ws:List W}{vs:List V}(h:Reps K H ws vs):∀k:Nat,Reps K H (List.replicate k ws).flatten (List.replicate k vs).flatten
 |0=> .nil
 |k+1=>by
  rw [List.replicate_succ,List.replicate_succ,List.flatten_cons,List.flatten_cons];exact h.append (Reps.rep h k)
theorem zrE (ha:JL X a la) (hb:JE X b tb):JL X (.BinOp a .Mult b pos) (zms la tb):=fun E hE=>
 (zku zrN (ha E hE) (hb E hE)).mono fun σ H Q ⟨σW,S,QW,hσ,hS,ht,hQ⟩=>⟨σW,S,_,hσ,hS,ht,fun xs S1 vs p H1 e1 fp ep np r1 hS1 h1=>⟨σW,S1,_,hσ.ext e1,hS1,h1,fun y S2 v2 H2 e2 r2 hS2 h2=>by
  cases r2 with
  |int k=>
   obtain⟨⟨k1,k2,k3⟩,h⟩:=h2;exact⟨p,k,vs,rfl,rfl,(e2.fr p _ ep np).1,k1,k2,by rw [←r1.length];exact k3,fun z hz=>hQ _ S2 _ z _ ((e1.trans e2).trans (.new hz)) ((e1.trans e2).free hz) zay (hS2.free hz) (((r1.ext e2).rep k.toNat).ext (.new (S:=S2) hz)) (hS2.new hz) h⟩
  |_=>exact h2.elim⟩⟩
end
theorem zmP{K:PySem.W.Frag}{H:Hp}{a:Addr}{ns:List Int}{c:WSp}{E:XK}(hO:zrW H) (hS:SqL K H a (ns.map V.int)) (h:c [.scr ns] (fun _=>none) (fun w _=>w= .bl true) (fun _ _=>False)):zch K c [.ref a] H (fun v _=>v= .bl true) E:=by
 have fz:FzL K H a (ns.map V.int):=by
  rcases hS with(hS |⟨o,hS⟩) |hS
  ·rcases hO a with z |⟨o,xs,z⟩
   ·rw [hS]at z;cases z
   ·rw [hS]at z;cases z
  ·exact .inl ⟨o,hS⟩
  ·exact .inr hS
 refine⟨[.scr ns],fun _=>none,_,fun _ _=>False, .one (.scr fz),(fun a o e=>by cases e),h,fun w S v H' e r hS' q=>?_,fun _ _ _ _ _ _ z=>z.elim⟩
 subst q;cases r;rfl
section
noncomputable def zsm:W2
 | .tup xs, .int k,S,Q=>(xs≠ []∧ -(2 ^ 63)≤k∧k<2 ^ 63∧xs.length*k.toNat≤sizeLine)∧Q (.tup (List.replicate k.toNat xs).flatten) S
 |_,_,_,_=>False
end
noncomputable def zcT:List W→Option (List Int)
 | []=>some []
 | .int i::ws=>(zcT ws).map (i:: ·)
 |_=>none
section
variable {K:PySem.W.Frag}{H:Hp}
noncomputable abbrev RepD (K:PySem.W.Frag) (H:Hp):List (List Int×W)→List (List Key×V)→Prop:=Paired fun q p=>p.1=q.1.map Sum.inl∧Rep K H q.2 p.2
theorem RepD.length{kvs:List (List Int×W)}{ps:List (List Key×V)}(r:RepD K H kvs ps):kvs.length=ps.length:=Paired.length r
end
section
variable {X:Cx}{o e:Expr}{to:WE}{tl:WL}{apos cpos p pos:Pos}
noncomputable def znx:V→List V→Hp→VK→Prop:=fun x vs H Q=>∃z:Str,x= .str z∧vs=[]∧z.length≤5592405∧Q (.str (Txt.upper z)) H
theorem zml:MtR X "str.upper" znx:=by
 intro pins s σ H x vs v us Q I rx rv h;obtain⟨z,rfl,rfl,hz,q⟩:=h;obtain⟨t,rfl⟩:=rx;cases rv;exact SCL.upper hz fun _=>⟨.str (Txt.upper z),H,I.tok _,⟨_,rfl⟩,q⟩
noncomputable def zim:WMf:=fun w ws S Q=>match w,ws with
 | .str z,[]=>z.length≤5592405∧Q (.str (Txt.upper z)) S
 |_,_=>False
theorem zkj{K:PySem.W.Frag}:MtW K znx zim:=fun H x w vs ws S Q QW r rs hS h hQ=>by
 cases r with
 |str z=>
  cases rs with
  |nil=>exact⟨z,rfl,rfl,h.1,hQ _ S _ H .refl (.str _) hS h.2⟩
  |cons _ _=>exact h.elim
 |_=>exact h.elim
theorem zmH (ho:JE X o to) (hbase:attributeBase o "upper" X.env (eval o X.env)=eval o X.env:=by rfl) (hline:(apos.endLine == cpos.line)=true:=by rfl):JE X (.Call (.Attribute o "upper" apos) [] [] cpos) (wM rvS zim to waNil):=
 ztl PySem.F.plainAttrs_str PySem.F.slot_str_upper PySem.F.type_str_upper znm zml zkj ho hbase hline
theorem zeC:∀(ns:List Int) (n:Nat),n≤ns.length→preSum (fun i=>ns.getD i 0) n=(ns.take n).sum
 |ns,0,_=>by simp [preSum]
 |ns,n+1,h=>by
  rw [preSum,zeC ns n (by omega),List.take_succ,List.sum_append];congr 1;rw [List.getD_eq_getElem?_getD,List.getElem?_eq_getElem (by omega)];simp
theorem zly (hc:X.calm=true):CallR X (.builtin "sum") (fun xs H Q=>∃(p:Addr) (ns:List Int),xs=[.ref p]∧SqL X.K H p (ns.map V.int)∧Q (.int ns.sum) H):=by
 intro pins s σ H xs us Q I r h;obtain⟨p,ns,rfl,hq,q⟩:=h;obtain⟨u,rfl,rx⟩:=zhw r;cases rx;obtain⟨its,r',pl,hz⟩:=I.list hq;have hlen:ns.length=its.length:=by have:=r'.length;rw [List.length_map]at this;exact this
 have hp:p<s.heap.objs.size:=by obtain⟨o,n,e,_⟩:=pl;exact Heap.lt_size e
 have hd:X.A.in1.handled=none:=I.ok.hd hc;have get:∀(i:Nat) (v:Value),its.toArray[i]? =some v→ ∃t,v= .int (ns.getD i 0) t:=fun i v e=>by
  have e':its[i]? =some v:=by simpa using e
  have hi:i<ns.length:=by rw [hlen];exact(List.getElem?_eq_some_iff.mp e').1
  obtain⟨u,hu,ru⟩:=r'.get (i:=i) (x:= .int (ns.getD i 0)) (by rw [List.getElem?_map,List.getElem?_eq_getElem hi,List.getD_eq_getElem?_getD,List.getElem?_eq_getElem hi];rfl);rw [e']at hu;cases hu;exact ru
 refine call_sum_walkG (wpAny_pyIter_list pl.isList ?_);refine⟨s.heap.objs.size,_,_,_,_,_,fun i=>ns.getD i 0,rfl,Walks.list hd _ p (Nat.ne_of_lt hp) its.toArray,⟨⟨_,Heap.get?_push_size _ rfl,rfl,rfl⟩,pl.isList.push _⟩,?_,fun i v hP=>get i v hP,fun h' tk t' hk=>?_⟩
 ·intro b hb;have hsz:∀o:Obj,(s.heap.push o).objs.size=s.heap.objs.size+1:=fun o=>Heap.size_push ..;simp only[List.mem_cons,List.not_mem_nil,or_false]at hb;show b<(s.heap.push _).objs.size;rw [hsz];rcases hb with rfl |rfl
  ·exact Nat.lt_succ_self _
  ·exact Nat.lt_succ_of_lt hp
 ·have e:preSum (fun i=>ns.getD i 0) its.toArray.size=ns.sum:=by
   rw [List.size_toArray,←hlen,zeC ns _ (Nat.le_refl _),List.take_length]
  have I1:Inv X pins σ H { s with heap:=h',toks:=tk }:=I.kept fun b o e=>hk b o (fun z=>by
   have z':b=s.heap.objs.size:=by simpa using z
   rw [z']at e;exact absurd (Heap.lt_size e) (Nat.lt_irrefl _)) (Heap.get?_push_of_some _ e)
  exact⟨.int _,H,I1,⟨t',by rw [e]⟩,q⟩
noncomputable def zkk:WF:=fun ws S Q=>match zcT ws with
 |some ns=>Q (.int ns.sum) S
 |none=>False
theorem zep{K:PySem.W.Frag}{H:Hp}:∀{ws:List W}{vs:List V}{ns:List Int},Reps K H ws vs→zcT ws=some ns→vs=ns.map V.int
 | [],_,_, .nil,e=>by cases e;rfl
 |w::ws,_,ns, .cons r rs,e=>by
  cases r with
  |int i=>
   cases q:zcT ws with
   |none=>simp [zcT,q]at e
   |some ks=>
    simp only[zcT,q,Option.map_some,Option.some.injEq]at e;subst e;rw [zep rs q];rfl
  |_=>simp [zcT]at e
theorem zjr{K:PySem.W.Frag}:zkS K (fun xs H Q=>∃(p:Addr) (ns:List Int),xs=[.ref p]∧SqL K H p (ns.map V.int)∧Q (.int ns.sum) H) zkk:=fun H a vs ws S Q QW ea na r hS h hQ=>by
 unfold zkk at h;split at h
 ·rename_i ns e;have:=zep r e;subst this;exact⟨a,ns,rfl, .of ea,hQ _ S _ H .refl (.int _) hS h⟩
 ·exact h.elim
theorem zpd (hg:Gl X "sum") (hm:X.mg "sum" =none) (ha:JL X e tl)
  (he:starEach [e] X.env=(false,eval e X.env)::starEach [] X.env:=by rfl) (hpl:(backTo pos (starEach [] X.env)).any (·.1)=false:=by rfl) (hcl:X.calm=true:=by rfl):JE X (.Call (.Name "sum" p) [e] [] pos) (wBL zkk tl):=fun E hE=>
 zkI (zly hcl) zjr hg hm PyProof.Rows.boot_sum ha (by decide) (by decide) he hpl E hE
end
end L2
end
section
namespace L2
open PySem PySem.Spec PyProof.Rows PySem.W PySem.Calls Builtin Builtin.ObjectAttr Builtin.Getset_descriptor
structure XcOk (K:Frag) (C:Addr):Prop where
  ga:findIn K (.ref C) "__getattribute__" =some (some (.builtin "BaseException.__getattribute__"))
  gt:findIn K (.ref C) "__getattr__" =some none
  cl:findIn K (.ref C) "__class__" =some (some (.builtin "object.__class__"))
  ob:mroIn K C (.type "object")=some true
  be:mroIn K C (.type "BaseException")=some true
noncomputable abbrev bmV:List Value:=[.type "ValueError", .type "Exception", .type "BaseException", .type "object"]
structure XcIn (K:PySem.W.Frag) (x:Str) (C:Addr):Prop where
  nm:PySem.W.nsIn K mainGlobals x=some (some (.ref C))
  ex:PySem.W.excIn K C bmV "ValueError.__new__" =true
  xc:XcOk K C
theorem XcIn.own{K:PySem.W.Frag}{x:Str}{C:Addr}{h:Heap}{mg:Str→Option Value}(O:XcIn K x C) (X:K.In h) (G:h.Ns mainGlobals mg):OwnCls x C bmV "ValueError.__new__" mg h:=by
 have q:=O.ex;refine⟨PySem.W.mg_of X G O.nm,?_⟩;unfold PySem.W.excIn at q;split at q
 ·rename_i dd cd sl ho;split at q
  ·rename_i C' bm k0 k1 k2 k3 n k5 hm hs;simp only[Bool.and_eq_true,beq_iff_eq,Bool.not_eq_true']at q;obtain⟨⟨⟨⟨⟨rfl,hnn⟩,hdel⟩,ht⟩,hok⟩,hni⟩:=q;obtain⟨nm,bs,mro,ns,qn,hd,sn,sub,ab,col,del⟩:=cd;dsimp only at hm hdel hok hni;subst hm hdel;have hsl:sl= #[k0,k1,k2,k3,some (.builtin n),k5]:=by
    obtain⟨l⟩:=sl;simp only at hs;rw [hs]
   subst hsl;subst hnn;exact⟨bm,ns,nm,qn,bs,hd,sn,sub,ab,col,dd,k0,k1,k2,k3,k5,_,X _ _ ho, .of_isNs (PySem.W.isNs_of_in X hok),PySem.W.nsMap_none_of_in X hok hni,PySem.W.tail_of_in X ht⟩
  ·cases q
 ·cases q
noncomputable def znf (x:Str) (t:WA):WS:=fun E _ σ S=>t E σ S fun ws S1=>ws.length≤sizeLine∧E x σ S1
theorem zmp{X:Cx}{x:Str}{C:Addr}{e:Expr}{es:List Expr}{t:WA}{np cpos pos:Pos}(O:XcIn X.K x C) (hg:Gl X x) (hm:X.mg x=some (.ref C)) (ha:JA X (e::es) t) (hcl:X.calm=true:=by rfl) (hdb:(x == ("__debug__" :Str))=false:=by decide)
  (he:starEach (e::es) X.env=(false,eval e X.env)::starEach es X.env:=by rfl) (hpl:(backTo cpos (starEach es X.env)).any (·.1)=false:=by rfl) :
  JS X (.Raise (some (.Call (.Name x np) (e::es) [] cpos)) none pos) (znf x t):=fun E hE pins s σ H D I z=>by
 obtain⟨σW,S,DW,hσ,hS,ht,hD⟩:=z;have OC:=(O.own I.mod.kin I.mod.glob).keeps I.bk;obtain⟨tl,N,nm,q,bs,hdct,sn,sub,ab,col,dd,k0,k1,k2,k3,k5,mN,hC,hN,hni,T⟩:=(O.own I.mod.kin I.mod.glob).obj;refine wpAny_Raise_call_subT (C:=C) (nm:=nm) (q:=q) (N:=N) (bs:=bs) (bm:=tl) (hdct:=hdct) (sn:=sn) (sub:=sub) (ab:=ab) (col:=col) (dd:=dd) (k0:=k0) (k1:=k1) (k2:=k2) (k3:=k3) (k5:=k5)
  F.excBase_ValueError (mN:=mN) (T.hasType F.excBase_ValueError.hasBase) (I.ok.hd hcl) (by rw [he];show(false || (backTo cpos (starEach es X.env)).any (·.1))=false;rw [hpl];rfl) hni (zhG I hg hm ⟨rfl,?_⟩ hdb)
 have go:=ha E hE cpos pins s σ H (fun vs H1=>∃ws S1,Reps X.K H1 ws vs∧RpSt X.K H1 σW σ∧RepS X.K H1 S1∧ws.length≤sizeLine∧E x σW S1) I ⟨σW,S,_,hσ,hS,ht,fun ws S1 vs H1 e1 r1 hS1 h1=>⟨ws,S1,r1,hσ.ext e1,hS1,h1.1,h1.2⟩⟩;rw [he]at go⊢;refine Calls.evalArgs_plain (wpAny_mono go (fun us s2 ⟨vs,H1,I1,r,ws,S1,r1,hσ1,hS1,hl,h1⟩=>?_) fun _ _ y=>y);refine⟨rfl,by rw [←r.length,←r1.length];exact hl,I1.bk _ _ hC,hN.keeps I1.bk,T.keeps I1.bk,fun h' a me=>?_⟩
 exact hE.near pins σ H1 s2 σW x C a S1 h' us I1 hσ1 O.nm me hS1 h1
inductive Tr where
  |bl (n:Int)
  |nd (s:Str) (ts:List Tr)
noncomputable def Tr.kids:Tr→List Tr
 | .bl _=>[]
 | .nd _ ts=>ts
mutual
noncomputable def Tr.weight:Tr→Nat
 | .bl _=>1
 | .nd _ ts=>1+wts ts
noncomputable def wts:List Tr→Nat
 | []=>0
 |t::ts=>t.weight+wts ts
end
mutual
noncomputable def Tr.depth:Tr→Nat
 | .bl _=>1
 | .nd _ ts=>1+dts ts
noncomputable def dts:List Tr→Nat
 | []=>0
 |t::ts=>max t.depth (dts ts)
end
theorem zoc:wts []=0:=by unfold wts;rfl
theorem zbN (t:Tr) (ts:List Tr):wts (t::ts)=t.weight+wts ts:=by
 conv=>lhs;unfold wts
theorem zfg:∀(ts us:List Tr),wts (ts++us)=wts ts+wts us
 | [],us=>by
  show wts us=wts []+wts us;rw [zoc];omega
 |t::ts,us=>by
  show wts (t::(ts++us))=_;rw [zbN,zbN,zfg ts us];omega
theorem zpm:dts []=0:=by unfold dts;rfl
theorem zmY (t:Tr) (ts:List Tr):dts (t::ts)=max t.depth (dts ts):=by
 conv=>lhs;unfold dts
theorem zes (t:Tr):t.weight=1+wts t.kids:=by
 cases t with
 |bl n=>
  show Tr.weight (.bl n)=1+wts [];unfold Tr.weight wts;rfl
 |nd s ts=>
  show Tr.weight (.nd s ts)=1+wts ts
  conv=>lhs;unfold Tr.weight
theorem zeW (t:Tr):t.depth=1+dts t.kids:=by
 cases t with
 |bl n=>
  show Tr.depth (.bl n)=1+dts [];unfold Tr.depth dts;rfl
 |nd s ts=>
  show Tr.depth (.nd s ts)=1+dts ts
  conv=>lhs;unfold Tr.depth
theorem zfb (t:Tr):1≤t.weight:=by rw [zes];omega
theorem zbr (t:Tr):1≤t.depth:=by rw [zeW];omega
theorem zcX:∀(ts:List Tr),ts.length≤wts ts
 | []=>Nat.zero_le _
 |t::ts=>by
  have:=zcX ts;have:=zfb t;rw [zbN,List.length_cons];omega
theorem zcc{t:Tr}:∀{ts:List Tr},t∈ts→t.weight≤wts ts
 | [],h=>by cases h
 |u::ts,h=>by
  rw [zbN];rcases List.mem_cons.mp h with e |h
  ·rw [e];omega
  ·have:=zcc h;omega
mutual
theorem zcW:∀t:Tr,t.depth≤t.weight
 | .bl n=>by unfold Tr.depth Tr.weight;exact Nat.le_refl _
 | .nd s ts=>by
  have:=zfh ts;rw [zeW,zes];show 1+dts ts≤1+wts ts;omega
theorem zfh:∀ts:List Tr,dts ts≤wts ts
 | []=>by rw [zpm];exact Nat.zero_le _
 |t::ts=>by
  have:=zcW t;have:=zfh ts;rw [zmY,zbN];omega
end
mutual
noncomputable def enc:Tr→W
 | .bl n=> .int n
 | .nd s ts=> .tup (.str s::zaJ ts)
noncomputable def zaJ:List Tr→List W
 | []=>[]
 |t::ts=>enc t::zaJ ts
end
theorem zaA:∀ts:List Tr,zaJ ts=ts.map enc
 | []=>by simp [zaJ]
 |t::ts=>by simp [zaJ,zaA ts]
theorem zbe (ts:List Tr):(zaJ ts).length=ts.length:=by rw [zaA,List.length_map]
noncomputable def zaH (p:List Int):W:= .tup (p.map W.int)
theorem zhn:zbp "int" "int" =true:=by decide +kernel
theorem zgD:zbp "int" "bool" =false:=by decide +kernel
theorem zhl:zbp "int" "str" =false:=by decide +kernel
theorem zfP:zbp "int" "tuple" =false:=by decide +kernel
theorem zgn:zbp "int" "list" =false:=by decide +kernel
theorem zgx:zbp "bool" "int" =true:=by decide +kernel
theorem zfA:zbp "bool" "bool" =true:=by decide +kernel
theorem zgs:zbp "bool" "str" =false:=by decide +kernel
theorem zeP:zbp "bool" "tuple" =false:=by decide +kernel
theorem zfG:zbp "bool" "list" =false:=by decide +kernel
theorem zhg:zbp "str" "int" =false:=by decide +kernel
theorem zgg:zbp "str" "bool" =false:=by decide +kernel
theorem zhk:zbp "str" "str" =true:=by decide +kernel
theorem zfE:zbp "str" "tuple" =false:=by decide +kernel
theorem zfY:zbp "str" "list" =false:=by decide +kernel
theorem zfI:zbp "tuple" "int" =false:=by decide +kernel
theorem zeQ:zbp "tuple" "bool" =false:=by decide +kernel
theorem zfF:zbp "tuple" "str" =false:=by decide +kernel
theorem zeJ:zbp "tuple" "tuple" =true:=by decide +kernel
theorem zeO:zbp "tuple" "list" =false:=by decide +kernel
theorem zgb:zbp "list" "int" =false:=by decide +kernel
theorem zfK:zbp "list" "bool" =false:=by decide +kernel
theorem zhc:zbp "list" "str" =false:=by decide +kernel
theorem zeN:zbp "list" "tuple" =false:=by decide +kernel
theorem zfN:zbp "list" "list" =true:=by decide +kernel
section
variable {α:Type}{x:α}{xs:List α}
theorem zfu (n:Nat):zdg xs (some (n:Int)) none=xs.drop n:=by
 unfold zdg;rw [HT.sIx_nat,HT.sIx_none];by_cases h:n≤xs.length
 ·rw [Nat.min_eq_left h,List.take_of_length_le (by rw [List.length_drop];omega)]
 ·rw [Nat.min_eq_right (by omega),List.drop_of_length_le (Nat.le_refl _),List.drop_of_length_le (by omega),List.take_nil]
theorem zfl (n:Nat):zdg xs none (some (n:Int))=xs.take n:=by
 unfold zdg;rw [HT.sIx_nat,HT.sIx_none,List.drop_zero,Nat.sub_zero];by_cases h:n≤xs.length
 ·rw [Nat.min_eq_left h]
 ·rw [Nat.min_eq_right (by omega),List.take_length,List.take_of_length_le (by omega)]
theorem zoj:zdg (x::xs) (some 1) none=xs:=by rw [show(1:Int)=((1:Nat):Int) from rfl,zfu];rfl
theorem zkE{n d k:Nat}(h:0<k):HT.sIx n d (some (-(k:Int)))=n - k:=by
 show(if(-(k:Int))<0 then(-(k:Int)+(n:Int)).toNat else min (-(k:Int)).toNat n)=n - k;rw [if_pos (by omega)];omega
theorem zhp (k:Nat) (h:0<k):zdg xs none (some (-(k:Int)))=xs.take (xs.length - k):=by
 unfold zdg;rw [zkE h,HT.sIx_none,List.drop_zero,Nat.sub_zero]
theorem zlk (k:Nat) (h:0<k):zdg xs (some (-(k:Int))) none=xs.drop (xs.length - k):=by
 unfold zdg;rw [zkE h,HT.sIx_none,List.take_of_length_le (by rw [List.length_drop];omega)]
theorem zbk{n:Nat}:atI xs (n:Int)=xs[n]? :=by
 unfold atI ixN;rw [if_pos (by omega)];by_cases h:n<xs.length
 ·rw [if_pos (by omega)];simp
 ·rw [if_neg (by omega)];simp;omega
theorem zfq:atI (x::xs) 0=some x:=zbk (n:=0)
end
section
variable {S S':Sto}{a b:Addr}{o:Ob}{Q:List W→Prop}{ws:List W}
theorem zea{u:Ob}(h:b≠a):put (put S a o) b u=put (put S b u) a o:=by
 funext c;unfold put;by_cases h1:c=b
 ·rw [if_pos h1,if_pos h1,if_neg (by rw [h1];exact h)]
 ·rw [if_neg h1,if_neg h1]
theorem zmT{u o':Ob}(h:b≠a):put (put (put S a o) b u) a o'=put (put S a o') b u:=by rw [zea h,zbt,zea h]
theorem zbD:zbK (put S a (.lst ws)) a Q=Q ws:=zaj zag
theorem zdz (h:put S a o b=none):S b=none∧b≠a:=by
 have hb:b≠a:=by rintro rfl;rw [zag]at h;cases h
 rw [zaX hb]at h;exact⟨h,hb⟩
theorem zpS{u:Ob}(h:S a=some u) (n:S b=none):a≠b:=by rintro rfl;rw [h]at n;cases n
theorem Sub.put (h:Sub S S') (n:S a=none):Sub S (L2.put S' a o):=fun b u e=>by rw [zaX (zpS e n)];exact h b u e
theorem Sub.put2{u:Ob}(h:Sub S S'):Sub (L2.put S a u) (L2.put S' a u):=fun b w e=>by
 by_cases hb:b=a
 ·subst hb;rw [zag]at e⊢;exact e
 ·rw [zaX hb]at e⊢;exact h b w e
end
theorem zrd (S:Sto) (a b:Int):eqF S 60 (.int a) (.int b)=some (a == b):=by have h:eqF S 60 (.int a) (.int b)=some (a == b):=rfl;exact h
theorem zrm (S:Sto) (a b:Str):eqF S 60 (.str a) (.str b)=some (a == b):=by have h:eqF S 60 (.str a) (.str b)=some (a == b):=rfl;exact h
theorem ztb (S:Sto) (a b:Bool):eqF S 60 (.bl a) (.bl b)=some (a == b):=by have h:eqF S 60 (.bl a) (.bl b)=some (a == b):=rfl;exact h
theorem zah{n:Nat}(h:n≤16777216):n≤sizeLine:=by rw [sizeLine_eq];exact h
theorem zcY{n:Nat}(h:n<16777216):n<sizeLine:=by rw [sizeLine_eq];exact h
section
variable {S:Sto}{Q:WK}{QB:Bool→Sto→Prop}{QS:List W→(Sto→Prop)→Prop}{QT:String→Prop}
theorem zgp{a:Addr}{o:Ob}(h:S a=some o):put S a o=S:=by
 funext b;unfold put;split
 ·rename_i e;rw [e,h]
 ·rfl
theorem _root_.pz{a b:Prop}(h:a→b) (g:b→a):a=b:=propext ⟨h,g⟩
theorem znc{b:Bool}:znJ (.bl b) S QB=QB b S:=pz id id
theorem zkQ{i:Int}:znJ (.int i) S QB=QB (i != 0) S:=pz id id
theorem zjv{ws:List W}:znJ (.tup ws) S QB=QB (!ws.isEmpty) S:=pz id id
theorem zjD{a:Addr}:znJ (.ref a) S QB=zbK S a fun ws=>QB (!ws.isEmpty) S:=pz id id
theorem zkR:znJ .non S QB=QB false S:=pz id id
theorem zjT{ws:List W}:zlD (.tup ws) S QS=QS ws fun _=>True:=pz id id
theorem zen{a:Addr}:zlD (.ref a) S QS=zbK S a fun ws=>QS ws fun S'=>S' a=some (.lst ws):=pz id id
theorem zpg{b:Bool}:tyW (.bl b) S QT=QT "bool" :=pz id id
theorem zmZ{i:Int}:tyW (.int i) S QT=QT "int" :=pz id id
theorem zmA{i:Str}:tyW (.str i) S QT=QT "str" :=pz id id
theorem zmc{i:List W}:tyW (.tup i) S QT=QT "tuple" :=pz id id
theorem zlH:tyW .non S QT=QT "NoneType" :=pz id id
theorem zmC{a:Addr}:tyW (.ref a) S QT=zbK S a fun _=>QT "list" :=pz id id
theorem zkF{i j:Int}:zcO (.int i) (.int j) S Q=Q (.int (i+j)) S:=pz id id
theorem zjU{i j:Str}:zcO (.str i) (.str j) S Q=(i.length+j.length≤sizeLine∧Q (.str (i++j)) S):=pz id id
theorem zel{i j:List W}:zcO (.tup i) (.tup j) S Q=(i.length+j.length≤sizeLine∧Q (.tup (i++j)) S):=pz id id
theorem zeK{a b:Addr}:zcO (.ref a) (.ref b) S Q=zbK S a fun xs=>zbK S b fun ys=>xs.length+ys.length≤sizeLine∧ ∀p,S p=none→Q (.ref p) (put S p (.lst (xs++ys))):=pz id id
theorem ztd{C:Int→Int→Prop}{g:Int→Int→W}{i j:Int}:zde C g (.int i) (.int j) S Q=(C i j∧Q (g i j) S):=pz id id
theorem zqh{g:Int→Int→W}{i j:Int}:zdp g (.int i) (.int j) S Q=Q (g i j) S:=pz id id
theorem zmy{i j:Int}:oLe (.int i) (.int j) S Q=Q (.bl (decide (i≤j))) S:=pz id id
theorem zlW{i j:Str}:oLe (.str i) (.str j) S Q=Q (.bl (!decide (j.cps.toList<i.cps.toList))) S:=pz id id
theorem zlb{us:List W}:zec [.tup us] S Q=Q (.int us.length) S:=pz id id
theorem zjG{a:Addr}:zec [.ref a] S Q=zbK S a fun us=>Q (.int us.length) S:=pz id id
theorem zlq{ns:List Int}:zec [.scr ns] S Q=Q (.int ns.length) S:=pz id id
theorem zjx{z:Str}:zec [.str z] S Q=(z.length≤sizeLine∧Q (.int z.length) S):=pz id id
theorem zmd{ws:List W}{i:Int}:oIx (.tup ws) (.int i) S Q=match atI ws i with
 |some w=>Q w S
 |none=>False:=pz id id
theorem zmJ{a:Addr}{i:Int}:oIx (.ref a) (.int i) S Q=zbK S a fun ws=>match atI ws i with
 |some w=>Q w S
 |none=>False:=pz id id
theorem zlY{ns:List Int}{i:Int}:oIx (.scr ns) (.int i) S Q=match atI ns i with
 |some n=>Q (.int n) S
 |none=>False:=pz id id
theorem zmv{x:Str}{i:Int}:oIx (.str x) (.int i) S Q=(x.length≤sizeLine∧match atI x.cps.toList i with
 |some c=>Q (.str ⟨#[c]⟩) S
 |none=>False):=pz id id
theorem zmQ{ws:List W}{lo hi:Option Int}:oSl (.tup ws) lo hi S Q=Q (.tup (zdg ws lo hi)) S:=pz id id
theorem zmR{z:Str}{lo hi:Option Int}:oSl (.str z) lo hi S Q=(z.length≤sizeLine∧Q (.str (Txt.slice z lo hi)) S):=pz id id
theorem zlZ{a:Addr}{lo hi:Option Int}:oSl (.ref a) lo hi S Q=zbK S a fun ws=>∀p,S p=none→Q (.ref p) (put S p (.lst (zdg ws lo hi))):=pz id id
theorem zlR{ns:List Int}{lo hi:Option Int}:oSl (.scr ns) lo hi S Q= ∀p,S p=none→Q (.ref p) (put S p (.lst ((zdg ns lo hi).map W.int))):=pz id id
theorem zhq{us:List W}:zev [.tup us] S Q=Q (.tup us) S:=pz id id
theorem zhe{a:Addr}:zev [.ref a] S Q=zbK S a fun us=>Q (.tup us) S:=pz id id
theorem zmB{a:Addr}{y:W}:zcP (.ref a) [y] S Q=zbK S a fun xs=>xs.length<sizeLine∧Q .non (put S a (.lst (xs++[y]))):=pz id id
theorem ztj{a:Addr}:ztv (.ref a) [] S Q=zbK S a fun xs=>match xs[xs.length - 1]? with
 |some y=>Q y (put S a (.lst xs.dropLast))
 |none=>False:=pz id id
theorem zgX{a:Addr}{ys:List W}:zkw (.ref a) [.tup ys] S Q=zbK S a fun xs=>xs.length+ys.length≤sizeLine∧Q .non (put S a (.lst (xs++ys))):=pz id id
theorem zgi{a b:Addr}:zkw (.ref a) [.ref b] S Q=zbK S a fun xs=>zbK S b fun ys=>xs.length+ys.length≤sizeLine∧Q .non (put S a (.lst (xs++ys))):=pz id id
theorem zkN{a:Addr}{ws:List W}:zlT (.ref a) ws S Q=zbK S a fun xs=>xs.length+ws.length≤sizeLine∧Q .non (put S a (.lst (xs++ws))):=pz id id
theorem zsK{a:Addr}:rvL (.ref a) S=zbK S a fun _=>True:=pz id id
theorem zsr{x:Str}:rvS (.str x) S=True:=pz id id
theorem zmt{b:Bool}:zqk [.bl b] S Q=Q (.int (if b then 1 else 0)) S:=pz id id
theorem zky{i:Int}:zqk [.int i] S Q=Q (.int i) S:=pz id id
theorem zrQ{i j:Int}:zsG [.int i, .int j] S Q=Q (.int (if j > i then j else i)) S:=pz id id
theorem zqc{i j:Int}:zgm [.int i, .int j] S Q=Q (.int (if j<i then j else i)) S:=pz id id
theorem zpW{z:Str}{ws:List W}:zgM (.str z) ws S Q=match zdU ws with
 |some ys=>(ys.map (·.length)).sum+ys.length*z.length≤16777216∧Q (.str (Str.join z ys)) S
 |none=>False:=pz id id
theorem zod{z y:Str}:zqo (.str z) [.str y] S Q=match Builtin.Str.occurrences z y 0 z.length 1 with
 |i::_=>Q (.int i) S
 | []=>False:=pz id id
theorem zmM{neg:Bool}:oIs neg .non .non S Q=Q (.bl (!neg)) S:=pz id id
theorem zoy{neg a b:Bool}:oIs neg (.bl a) (.bl b) S Q=Q (.bl (if neg then a != b else a == b)) S:=pz id id
theorem znN{neg a:Bool}:oIs neg (.bl a) .non S Q=Q (.bl neg) S:=pz id id
theorem zow{neg:Bool}{ws:List W}:oIs neg (.tup ws) .non S Q=Q (.bl neg) S:=pz id id
theorem znO{neg:Bool}{a:Addr}:oIs neg (.ref a) .non S Q=Q (.bl neg) S:=pz id id
theorem zoJ{neg:Bool}{a:Int}:oIs neg (.int a) .non S Q=Q (.bl neg) S:=pz id id
theorem zna{neg:Bool}{x:W}{ws:List W}:oIn neg x (.tup ws) S Q=match inF S x ws with
 |some b=>Q (.bl (if neg then !b else b)) S
 |none=>False:=pz id id
theorem zmb{neg:Bool}{x:W}{a:Addr}:oIn neg x (.ref a) S Q=zbK S a fun ws=>match inF S x ws with
 |some b=>Q (.bl (if neg then !b else b)) S
 |none=>False:=pz id id
theorem zmX{neg:Bool}{i j:Str}:oIn neg (.str i) (.str j) S Q=Q (.bl (if neg then !(!(Builtin.Str.occurrences j i 0 j.length 1).isEmpty) else !(Builtin.Str.occurrences j i 0 j.length 1).isEmpty)) S:=pz id id
end
theorem zhC{g:WG}{b:WS}{E:WX}{D:WEnds}{G:Sto→Prop}(I:List W→WSt→Sto→Prop)
  (step:∀w ws σ S (N:WSt→Sto→Prop),I (w::ws) σ S→(∀σ' S' S'',Sub S'' S'→G S''→I ws σ' S''→N σ' S')→g w σ S fun σ1 S1=>b E { D with nx:=N,ct:=N,bk:=D.nx } σ1 S1)
  (done:∀σ S,I [] σ S→D.nx σ S):∀(ws:List W) (σ:WSt) (S:Sto),I ws σ S→forL g b E D G ws σ S
 | [],σ,S,h=>done σ S h
 |w::ws,σ,S,h=>step w ws σ S _ h fun σ' S' S'' sb hG hI=>⟨S'',sb,hG,zhC I step done ws σ' S'' hI⟩
section
variable {E:WX}{σ:WSt}{S:Sto}{Q:WK}{QB:Bool→Sto→Prop}{QA:List W→Sto→Prop}{QI:List W→(Sto→Prop)→Sto→Prop}{QO:Option Int→Sto→Prop}{P:WSt→Sto→Prop}{D:WEnds}{w x y:W}{ws:List W}{EX:Str→Sto→Prop}
theorem zrx{i:Nat}:(zaf i E σ S Q)=(match σ[i]? with
 |some (some w)=>Q w S
 |_=>False):=pz id id
theorem ztx{w:W}:(wC w E σ S Q)=(Q w S):=pz id id
theorem zsE{r:W2}{a b:WE}:(wOp r a b E σ S Q)=(a E σ S fun x S1=>b E σ S1 fun y S2=>r x y S2 Q):=pz id id
theorem zri{t:WE}:(zft t E σ S QB)=(t E σ S fun w S'=>znJ w S' QB):=pz id id
theorem zti{t:WE}:(wTb t E σ S QB)=(t E σ S fun w S'=>match w with
 | .bl b=>QB b S'
 |_=>False):=pz id id
theorem zqZ{t u:WT}:(zrj t u E σ S QB)=(t E σ S fun c S1=>if c=true then u E σ S1 QB else QB false S1):=pz id id
theorem zse{t u:WT}:(wOr t u E σ S QB)=(t E σ S fun c S1=>if c=true then QB true S1 else u E σ S1 QB):=pz id id
theorem zrL{t:WT}:(zpD t E σ S QB)=(t E σ S fun c S1=>QB (!c) S1):=pz id id
theorem zpZ{c:WT}{t u:WS}:(zcx c t u E D σ S)=(c E σ S fun b S1=>if b=true then t E D σ S1 else u E D σ S1):=pz id id
theorem zoD:(zaQ  E D σ S)=(D.nx σ S):=pz id id
theorem zqa{t u:WS}:(zaC t u E D σ S)=(t E { D with nx:=u E D } σ S):=pz id id
theorem zrp{e:WE}:(zbx e E D σ S)=(e E σ S D.rt):=pz id id
theorem zpu{e:WE}:(zeG e E D σ S)=(e E σ S fun _ S1=>D.nx σ S1):=pz id id
theorem zsf{i:Nat}:(wGN i w σ S P)=(P (σ.set i (some w)) S):=pz id id
theorem zpM{e:WE}{g:WG}:(wAsg e g E D σ S)=(e E σ S fun w S1=>g w σ S1 D.nx):=pz id id
theorem zpc:(zcI  ws σ S P)=(match ws with
 | []=>P σ S
 |_=>False):=pz id id
theorem zmk{g:WG}{u:WGs}:(zaG g u ws σ S P)=(match ws with
 | []=>False
 |w::r=>g w σ S fun σ' S'=>u r σ' S' P):=pz id id
theorem zsV{u:WGs}:(wGT u w σ S P)=(match w with
 | .tup ws=>u ws σ S P
 |_=>False):=pz id id
theorem zon:(waNil  E σ S QA)=(QA [] S):=pz id id
theorem zmf{t:WE}{u:WA}:(zab t u E σ S QA)=(t E σ S fun w S1=>u E σ S1 fun ws S2=>QA (w::ws) S2):=pz id id
theorem zrc{t:WA}:(zaP t E σ S Q)=(t E σ S fun ws S1=>ws.length≤sizeLine∧Q (.tup ws) S1):=pz id id
theorem zqC{t:WA}:(zci t E σ S QA)=(t E σ S fun ws S1=>ws.length≤sizeLine∧QA ws S1):=pz id id
theorem zpI{t:WL}:(zbQ t E σ S Q)=(t E σ S fun ws S1=>∀a,S1 a=none→Q (.ref a) (put S1 a (.lst ws))):=pz id id
theorem zpf{c:WSp}{t:WA}:(zaz c t E σ S Q)=(t E σ S fun ws S1=>c ws S1 Q fun cl S2=>E cl σ S2):=pz id id
theorem zln{n k:Nat}{body:WS}:(zdo n k body ws S Q EX)=(ws.length=k∧body (fun c _ S'=>EX c S') { nx:=fun _ S'=>∃S'',Sub S'' S'∧Q .non S'',rt:=fun w S'=>∃S'',Sub S'' S'∧Q w S'' } (ws.map some++List.replicate (n - k) none) S):=pz id id
theorem zra{t:WE}:(zlE t E σ S Q)=(t E σ S fun w S1=>match w with
 | .int i=>Q (.int (-i)) S1
 |_=>False):=pz id id
theorem zso{t u:WE}:(zsF t u E σ S QA)=(t E σ S fun x S1=>u E σ S1 fun y S2=>match x,y with
 | .ref a, .ref b=>zbK S2 a fun xs=>zbK S2 b fun ys=>xs.length+ys.length≤sizeLine∧QA (xs++ys) S2
 |_,_=>False):=pz id id
theorem zsM{neg:Bool}:(oEq neg x y S Q)=(match eqF S 60 x y with
 |some b=>Q (.bl (if neg then !b else b)) S
 |none=>False):=pz id id
theorem zsL:(woN  E σ S QO)=(QO none S):=pz id id
theorem zsk{t:WE}:(woS t E σ S QO)=(t E σ S fun w S1=>match w with
 | .int i=>QO (some i) S1
 |_=>False):=pz id id
theorem zsb{t:WE}{l h:WO}:(wSl t l h E σ S Q)=(t E σ S fun x S1=>l E σ S1 fun lo S2=>h E σ S2 fun hi S3=>oSl x lo hi S3 Q):=pz id id
theorem ztX{f:WF}{t:WA}:(wB f t E σ S Q)=(t E σ S fun ws S1=>f ws S1 Q):=pz id id
theorem zsW{f:WF}{t:WL}:(wBL f t E σ S Q)=(t E σ S fun ws S1=>f ws S1 Q):=pz id id
theorem zkz:(zfz  ws S Q)=(Q (.tup ws) S):=pz id id
theorem zoF:(zlr  ws S Q)=(match zgA ws with
 |some bs=>Q (.bl (bs.all _root_.id)) S
 |none=>False):=pz id id
theorem zrg{T:String}{t:WE}:(zjo T t E σ S Q)=(t E σ S fun w S1=>tyW w S1 fun A=>Q (.bl (zbp A T)) S1):=pz id id
theorem zuf{rv:W→Sto→Prop}{f:WMf}{to:WE}{t:WA}:(wM rv f to t E σ S Q)=(to E σ S fun w S1=>rv w S1∧t E σ S1 fun ws S2=>f w ws S2 Q):=pz id id
theorem ztk{rv:W→Sto→Prop}{f:WMf}{to:WE}{t:WL}:(wML rv f to t E σ S Q)=(to E σ S fun w S1=>rv w S1∧t E σ S1 fun ws S2=>f w ws S2 Q):=pz id id
theorem zqD{q:WI}{g:WG}{b:WS}:(zfr q g b E D σ S)=(q E σ S fun ws G S1=>forL g b E D G ws σ S1):=pz id id
theorem zsJ{t:WE}:(wIv t E σ S QI)=(t E σ S fun w S1=>match w with
 | .tup ws=>QI ws (fun _=>True) S1
 | .ref a=>zbK S1 a fun ws=>QI ws (fun S'=>S' a=some (.lst ws)) S1
 | .scr ns=>QI (ns.map W.int) (fun _=>True) S1
 | .str z=>QI (zhr z) (fun _=>True) S1
 |_=>False):=pz id id
theorem zpP{t:WA}:(zne t E σ S QI)=(t E σ S fun ws S1=>match ws with
 | [.int j]=>(-(2 ^ 62)≤j∧j<2 ^ 62)∧QI (zjc 0 j.toNat) (fun _=>True) S1
 |_=>False):=pz id id
theorem zqi:(ziX  E σ S QB)=(QB true S):=pz id id
theorem zoh{k:Nat}{fr:List Nat}{q:WI}{g:WG}{c:WT}{e:WE}:(zdf k fr q g c e E σ S QA)=(q noE σ S fun ws G S1=>zdO g c e noE G QA ws [] (List.replicate k none++fr.map fun j=>(σ[j]?).join) S1):=pz id id
theorem zob{t:WE}:(zjp t E σ S QI)=(t E σ S fun w S1=>zlD w S1 fun ws G=>QI (zfa 0 ws) G S1):=pz id id
theorem zqP{t u:WE}:(zpA t u E σ S QI)=(t E σ S fun x S1=>u E σ S1 fun y S2=>zlD x S2 fun xs G=>zlD y S2 fun ys G'=>QI (zbq xs ys) (fun S'=>G S'∧G' S') S2):=pz id id
theorem zps{t:WE}{l h:WO}:(zpC t l h E σ S QA)=(t E σ S fun x S1=>l E σ S1 fun lo S2=>h E σ S2 fun hi S3=>match x with
 | .ref a=>zbK S3 a fun ws=>QA (zdg ws lo hi) S3
 | .scr ns=>QA ((zdg ns lo hi).map W.int) S3
 |_=>False):=pz id id
theorem zrC{t:WL}{u:WE}:(zoM t u E σ S Q)=(t E σ S fun ws S1=>u E σ S1 fun y S2=>match y with
 | .int i=>match atI ws i with
  |some w=>Q w S2
  |none=>False
 |_=>False):=pz id id
theorem zom{t:WE}{u:WL}:(zeR t u E σ S QA)=(t E σ S fun x S1=>u E σ S1 fun ys S2=>match x with
 | .ref a=>zbK S2 a fun xs=>xs.length+ys.length≤sizeLine∧QA (xs++ys) S2
 |_=>False):=pz id id
theorem zoW{t u:WL}:(zjb t u E σ S QA)=(t E σ S fun xs S1=>u E σ S1 fun ys S2=>xs.length+ys.length≤sizeLine∧QA (xs++ys) S2):=pz id id
theorem zok{t:WL}{u:WE}:(zlU t u E σ S QA)=(t E σ S fun xs S1=>u E σ S1 fun y S2=>match y with
 | .ref a=>zbK S2 a fun ys=>xs.length+ys.length≤sizeLine∧QA (xs++ys) S2
 |_=>False):=pz id id
theorem zoq{t:WL}{u:WE}:(zms t u E σ S QA)=(t E σ S fun xs S1=>u E σ S1 fun y S2=>match y with
 | .int k=>(-(2 ^ 63)≤k∧k<2 ^ 63∧xs.length*k.toNat≤sizeLine)∧QA (List.replicate k.toNat xs).flatten S2
 |_=>False):=pz id id
end
section
variable {S:Sto}{Q:WK}
theorem zqF{xs:List W}{k:Int}:zsm (.tup xs) (.int k) S Q=((xs≠ []∧ -(2 ^ 63)≤k∧k<2 ^ 63∧xs.length*k.toNat≤sizeLine)∧Q (.tup (List.replicate k.toNat xs).flatten) S):=pz id id
theorem znM{ws:List W}:(zkk ws S Q)=(match zcT ws with
 |some ns=>Q (.int ns.sum) S
 |none=>False):=pz id id
theorem zoO{z:Str}:zim (.str z) [] S Q=(z.length≤5592405∧Q (.str (Txt.upper z)) S):=pz id id
theorem zeY:∀p:List Int,zcT (p.map W.int)=some p
 | []=>rfl
 |i::p=>by rw [List.map_cons,zcT,zeY p];rfl
end
end L2
end
section
def L2.wZ (d:String):Lean.MacroM (Lean.TSyntax `tactic):=do
  let a:Array Lean.Term:=(("L2.zrx L2.ztx L2.zsE L2.zri L2.zti L2.zqZ L2.zse L2.zrL L2.zpZ L2.zoD L2.zqa L2.zrp L2.zpu L2.zsf L2.zpM L2.zpc L2.zmk L2.zsV L2.zon L2.zmf L2.zrc L2.zqC L2.zpI L2.zpf L2.zln L2.zra L2.zsM L2.zsL L2.zsk L2.zsb L2.ztX L2.zsW L2.zkz L2.zoF L2.zrg L2.zuf L2.ztk L2.zqD L2.zsJ L2.zpP L2.zqi L2.zoh L2.zob L2.zqP L2.zps L2.zrC L2.zom L2.zoW L2.zok L2.zoq L2.zqF L2.znM L2.zoO L2.zbD L2.zbt L2.zrd L2.zrm L2.ztb L2.zoj L2.zfq L2.zhn L2.zgD L2.zhl L2.zfP L2.zgn L2.zgx L2.zfA L2.zgs L2.zeP L2.zfG L2.zhg L2.zgg L2.zhk L2.zfE L2.zfY L2.zfI L2.zeQ L2.zfF L2.zeJ L2.zeO L2.zgb L2.zfK L2.zhc L2.zeN L2.zfN L2.znc L2.zkQ L2.zjv L2.zjD L2.zkR L2.zjT L2.zen L2.zpg L2.zmZ L2.zmA L2.zmc L2.zlH L2.zmC L2.zkF L2.zjU L2.zel L2.zeK L2.ztd L2.zqh L2.zmy L2.zlW L2.zlb L2.zjG L2.zlq L2.zjx L2.zmd L2.zmJ L2.zlY L2.zmv L2.zmQ L2.zmR L2.zlZ L2.zlR L2.zhq L2.zhe L2.zmB L2.ztj L2.zgX L2.zgi L2.zkN L2.zsK L2.zsr L2.zmt L2.zky L2.zrQ L2.zqc L2.zpW L2.zod L2.zmM L2.zoy L2.znN L2.zow L2.znO L2.zoJ L2.zna L2.zmb L2.zmX List.map_cons List.map_nil List.length_cons List.length_nil List.cons_append List.nil_append List.append_nil List.replicate List.getElem?_cons_zero List.getElem?_cons_succ List.getElem?_nil List.set_cons_zero List.set_cons_succ Nat.reduceAdd Nat.reduceSub true_and and_true if_true if_false Bool.false_eq_true reduceIte Bool.not_true Bool.not_false Option.join_some Option.join_none decide_eq_true_eq and_self".splitOn " ").filter (· != d)).toArray.map fun s=>Lean.mkIdent s.toName
  `(tactic| simp only [$[$a:term],*])
local macro_rules | `(tactic| walk_at "wp") => L2.wZ ""
section
namespace L2
open PySem PySem.Spec PyProof.Rows
noncomputable def zbP:Nat→WSp
 |0=>zbw
 |r+1=>zdo 1 1 (zaC (zcx (zft (zjo "int" (zaf 0))) (zbx (zaP waNil)) zaQ)
  (zbx (wSl (zaf 0) (woS (wC (.int 1))) woN)))
noncomputable def zbz (r:Nat) (self:WSp):WS:=(zeG (zaz self (zab (zaf 4) (zab (wOp zcO (zaf 1) (zaP (zab (zaf 3) waNil))) (zab (zaf 2) waNil)))))
noncomputable def zaE:Nat→WSp
 |0=>zbw
 |r+1=>zdo 5 3 (zaC (zeG (wM rvL zcP (zaf 2) (zab (zaf 1) waNil)))
  (zfr (zjp (zaz (zbP r) (zab (zaf 0) waNil))) (wGT (zaG (wGN 3) (zaG (wGN 4) zcI))) (zbz r (zaE r))))
noncomputable def zdB:Nat→WSp
 |0=>zbw
 |r+1=>zdo 2 1 (zaC (wAsg (zbQ (zci waNil)) (wGN 1))
  (zaC (zeG (zaz (zaE r) (zab (zaf 0) (zab (zaP waNil) (zab (zaf 1) waNil)))))
  (zbx (zaf 1))))
noncomputable def zbb:Nat→WSp
 |0=>zbw
 |r+1=>zdo 3 2 (zaC (wAsg (zaz (zbP r) (zab (zaf 0) waNil)) (wGN 2))
  (zaC (zcx (wOr (wTb (wOp oLt (zaf 1) (wC (.int 0)))) (wTb (wOp oGe (zaf 1) (wB zec (zab (zaf 2) waNil))))) (znf "NoPlace" (zab (wC (.str "there is no such place")) waNil)) zaQ)
  (zbx (wOp oIx (zaf 2) (zaf 1)))))
noncomputable def zfC (r:Nat) (self:WSp):WS:=(wAsg (zaz (zbb r) (zab (zaf 2) (zab (zaf 3) waNil))) (wGN 2))
noncomputable def zfZ:Nat→WSp
 |0=>zbw
 |r+1=>zdo 4 2 (zaC (wAsg (zaf 0) (wGN 2))
  (zaC (zfr (wIv (zaf 1)) (wGN 3) (zfC r zbw))
  (zbx (zaf 2))))
noncomputable def zdV (r:Nat) (self:WSp):WE:=(zaf 0)
noncomputable def zbi:Nat→WSp
 |0=>zbw
 |r+1=>zdo 1 1 (zbx (zbQ (zdf 1 [0] (wIv (zaz (zdB r) (zab (zaf 0) waNil))) (wGN 0) (zft (zjo "int" (zaz (zfZ r) (zab (zaf 1) (zab (zaf 0) waNil))))) (zdV r zbw))))
noncomputable def zdk (r:Nat) (self:WSp):WS:=(zcx (wTb (wOp (oEq false) (wOp oIx (zaf 2) (wC (.int 0))) (zaf 1))) (zbx (zaf 2)) zaQ)
noncomputable def zbo:Nat→WSp
 |0=>zbw
 |r+1=>zdo 3 2 (zaC (zfr (wIv (zaf 0)) (wGN 2) (zdk r zbw))
  (zbx (wC .non)))
noncomputable def zcK (r:Nat) (self:WSp):WE:=(zaP (zab (zaf 0) waNil))
noncomputable def zbd:Nat→WSp
 |0=>zbw
 |r+1=>zdo 3 2 (zaC (wAsg (zaz (zbo r) (zab (zaf 0) (zab (wOp oIx (zaf 1) (wC (.int 0))) waNil))) (wGN 2))
  (zaC (zcx (wTb (wOp (oIs false) (zaf 2) (wC .non))) (zbx (zbQ (zdf 1 [] (zne (zab (wOp (zdp fun i j=> .int (i - j)) (wB zec (zab (zaf 1) waNil)) (wC (.int 1))) waNil)) (wGN 0) ziX (zcK r zbw)))) zaQ)
  (zbx (zaz (zbi r) (zab (wOp oIx (zaf 2) (wC (.int 1))) waNil)))))
noncomputable def zaW (r:Nat) (self:WSp):WS:=(zeG (zaz self (zab (zaf 0) (zab (zaf 5) (zab (wOp zcO (zaf 2) (zaf 4)) (zab (zaf 3) waNil))))))
noncomputable def zau:Nat→WSp
 |0=>zbw
 |r+1=>zdo 6 4 (zaC (zfr (zpA (zaz (zbd r) (zab (zaf 0) (zab (zaf 1) waNil))) (wSl (zaf 1) (woS (wC (.int 1))) woN)) (wGT (zaG (wGN 4) (zaG (wGN 5) zcI))) (zaW r (zau r)))
  (zcx (wTb (wOp (oIs true) (zaz (zbo r) (zab (zaf 0) (zab (wOp oIx (zaf 1) (wC (.int 0))) waNil))) (wC .non))) (zeG (wM rvL zcP (zaf 3) (zab (zaf 2) waNil))) zaQ))
noncomputable def zcu:Nat→WSp
 |0=>zbw
 |r+1=>zdo 3 2 (zaC (wAsg (zbQ (zci waNil)) (wGN 2))
  (zaC (zeG (zaz (zau r) (zab (zaf 0) (zab (zaf 1) (zab (zaP waNil) (zab (zaf 2) waNil))))))
  (zbx (zaf 2))))
noncomputable def zaL:Nat→WSp
 |0=>zbw
 |r+1=>zdo 2 2 (zaC (zcx (wTb (wOp oLt (zaf 1) (wB zec (zab (zaf 0) waNil)))) (zbx (wOp oIx (zaf 0) (zaf 1))) zaQ)
  (zbx (wC (.int 0))))
noncomputable def zdh (r:Nat) (self:WSp):WE:=(wOp oIx (zaf 1) (wOp (zde (fun _ j=>0<j) fun i j=> .int (i % j)) (wOp zcO (wOp oIx (zaf 2) (zaf 0)) (wOp (zde CMul fun i j=> .int (i*j)) (zaf 3) (wB zqk (zab (wOp (oEq false) (zaf 0) (zaf 4)) waNil)))) (wC (.int 26))))
noncomputable def zdm (r:Nat) (self:WSp):WS:=(zaC (wAsg (wML rvS zgM (wC (.str "")) (zdf 1 [3,5,6,7] (zne (zab (wB zec (zab (zaf 5) waNil)) waNil)) (wGN 0) ziX (zdh r zbw))) (wGN 9))
  (zaC (zcx (zft (zaf 2)) (wAsg (wOp zcO (wM rvS zim (wOp oIx (zaf 9) (wC (.int 0))) waNil) (wSl (zaf 9) (woS (wC (.int 1))) woN)) (wGN 9)) zaQ)
  (zeG (wM rvL zcP (zaf 8) (zab (zaf 9) waNil)))))
noncomputable def zcq (r:Nat) (self:WSp):WS:=(zaC (zeG (wM rvL zcP (zaf 5) (zab (wOp (zde (fun _ j=>0<j) fun i j=> .int (i % j)) (zaf 4) (wC (.int 26))) waNil)))
  (wAsg (wOp (zde zkY fun i j=> .int (i / j)) (zaf 4) (wC (.int 26))) (wGN 4)))
noncomputable def zbn:Nat→WSp
 |0=>zbw
 |r+1=>zdo 10 3 (zaC (wAsg (wC (.str "abcdefghijklmnopqrstuvwxyz")) (wGN 3))
  (zaC (wAsg (wOp (zde (fun _ j=>0<j) fun i j=> .int (i % j)) (zaf 1) (wOp (zde zsR fun i j=> .int (i ^ j.toNat)) (wC (.int 26)) (wC (.int 8)))) (wGN 4))
  (zaC (wAsg (zbQ (zci waNil)) (wGN 5))
  (zaC (zfr (zne (zab (wOp zcO (wC (.int 1)) (wOp (zde (fun _ j=>0<j) fun i j=> .int (i % j)) (zaf 0) (wC (.int 8)))) waNil)) (wGN 6) (zcq r zbw))
  (zaC (wAsg (wOp (zde (fun _ j=>0<j) fun i j=> .int (i % j)) (wOp (zde zkY fun i j=> .int (i / j)) (zaf 0) (wC (.int 8))) (wB zec (zab (zaf 5) waNil))) (wGN 7))
  (zaC (wAsg (zbQ (zci waNil)) (wGN 8))
  (zaC (zfr (zne (zab (wC (.int 6)) waNil)) (wGN 6) (zdm r zbw))
  (zaC (zcx (zrj (wTb (wOp (oEq false) (wOp (zde (fun _ j=>0<j) fun i j=> .int (i % j)) (wOp (zde zkY fun i j=> .int (i / j)) (zaf 0) (wC (.int 64))) (wC (.int 2))) (wC (.int 1)))) (zpD (zft (zaf 2)))) (wAsg (zbQ (zjb (zpC (zaf 8) woN (woS (wC (.int 3)))) (zci (zab (wOp oIx (zaf 8) (wC (.int 2))) (zab (wOp oIx (zaf 8) (wC (.int 2))) (zab (wOp oIx (zaf 8) (wC (.int 5))) waNil)))))) (wGN 8)) zaQ)
  (zbx (zaf 8))))))))))
noncomputable def zcn (r:Nat) (self:WSp):WE:=(zaz self (zab (zaf 0) waNil))
noncomputable def zav:Nat→WSp
 |0=>zbw
 |r+1=>zdo 1 1 (zaC (zcx (zft (zjo "int" (zaf 0))) (zbx (wC (.int 1))) zaQ)
  (zbx (wBL zkk (zdf 1 [] (wIv (wSl (zaf 0) (woS (wC (.int 1))) woN)) (wGN 0) ziX (zcn r (zav r))))))
noncomputable def zcQ (r:Nat) (self:WSp):WE:=(zaz self (zab (zaf 0) (zab (zaf 1) waNil)))
noncomputable def zaI:Nat→WSp
 |0=>zbw
 |r+1=>zdo 2 2 (zaC (zcx (zft (zjo "int" (zaf 0))) (zbx (wOp oIx (zaf 1) (zaf 0))) zaQ)
  (zbx (wOp zcO (wSl (zaf 0) woN (woS (wC (.int 1)))) (wBL zfz (zdf 1 [1] (wIv (wSl (zaf 0) (woS (wC (.int 1))) woN)) (wGN 0) ziX (zcQ r (zaI r)))))))
noncomputable def zbF:Nat→WSp
 |0=>zbw
 |r+1=>zdo 4 4 (zaC (zcx (wTb (wOp (oEq false) (zaf 0) (wC (.int 0)))) (zbx (zbQ (zci (zab (zaP (zab (zaf 1) (zab (wC (.int 0)) waNil))) waNil)))) zaQ)
  (zaC (zcx (wTb (wOp (oEq false) (zaf 0) (wC (.int 1)))) (zbx (zbQ (zci (zab (zaP (zab (zaf 1) (zab (wC (.int 0)) (zab (wC (.int 1)) waNil)))) waNil)))) zaQ)
  (zaC (zcx (wTb (wOp (oEq false) (zaf 0) (wC (.int 2)))) (zbx (zbQ (zci (zab (zaP (zab (zaf 1) (zab (zaP (zab (zaf 2) waNil)) waNil))) (zab (zaP (zab (zaf 1) (zab (zaP (zab (zaf 3) (zab (wC (.int 0)) waNil))) waNil))) waNil))))) zaQ)
  (zaC (zcx (wTb (wOp (oEq false) (zaf 0) (wC (.int 3)))) (zbx (zbQ (zci (zab (zaP (zab (zaf 1) (zab (zaP (zab (zaf 2) waNil)) (zab (wC (.int 0)) waNil)))) (zab (zaP (zab (zaf 1) (zab (zaP (zab (zaf 3) (zab (wC (.int 0)) waNil))) (zab (wC (.int 1)) waNil)))) waNil))))) zaQ)
  (zaC (zcx (wTb (wOp (oEq false) (zaf 0) (wC (.int 4)))) (zbx (zbQ (zci (zab (zaP (zab (zaf 1) (zab (zaP (zab (zaf 3) (zab (zaP (zab (zaf 3) (zab (wC (.int 0)) waNil))) waNil))) (zab (wC (.int 1)) (zab (wC (.int 2)) waNil))))) (zab (zaP (zab (zaf 1) (zab (zaP (zab (zaf 3) (zab (zaP (zab (zaf 2) waNil)) waNil))) (zab (wC (.int 0)) (zab (wC (.int 1)) waNil))))) waNil))))) zaQ)
  (zbx (zbQ (zci (zab (zaP (zab (zaf 1) waNil)) waNil)))))))))
noncomputable def zbu:Nat→WSp
 |0=>zbw
 |r+1=>zdo 4 3 (zaC (zcx (wTb (wOp (oEq false) (zaf 0) (wC (.int 0)))) (zbx (zbQ (zci (zab (zaP (zab (wOp oIx (zaf 1) (wC (.int 2))) waNil)) (zab (zaP (zab (wOp oIx (zaf 1) (wC (.int 5))) waNil)) (zab (zaP (zab (wOp oIx (zaf 1) (wC (.int 3))) (zab (zaP (zab (wOp oIx (zaf 1) (wC (.int 5))) waNil)) waNil))) waNil)))))) zaQ)
  (zaC (zcx (wTb (wOp (oEq false) (zaf 0) (wC (.int 1)))) (zaC (wAsg (zbQ (zci (zab (wC (.int 0)) (zab (zaP (zab (wOp oIx (zaf 1) (wC (.int 3))) (zab (wC (.int 0)) waNil))) (zab (zaP (zab (wOp oIx (zaf 1) (wC (.int 4))) (zab (wC (.int 0)) (zab (wC (.int 0)) waNil)))) (zab (zaP (zab (wOp oIx (zaf 1) (wC (.int 4))) (zab (zaP (zab (wOp oIx (zaf 1) (wC (.int 3))) (zab (wC (.int 0)) waNil))) (zab (zaP (zab (wOp oIx (zaf 1) (wC (.int 2))) waNil)) waNil)))) waNil)))))) (wGN 3))
  (zaC (zcx (zft (zaf 2)) (zbx (zbQ (zeR (zaf 3) (zci (zab (zaP (zab (wOp oIx (zaf 1) (wC (.int 0))) (zab (wC (.int 0)) waNil))) (zab (zaP (zab (wOp oIx (zaf 1) (wC (.int 1))) (zab (zaP (zab (wOp oIx (zaf 1) (wC (.int 3))) (zab (wC (.int 0)) waNil))) (zab (wC (.int 0)) waNil)))) (zab (zaP (zab (wOp oIx (zaf 1) (wC (.int 3))) (zab (zaP (zab (wOp oIx (zaf 1) (wC (.int 0))) (zab (wC (.int 0)) waNil))) waNil))) waNil))))))) zaQ)
  (zbx (zbQ (zeR (zaf 3) (zci (zab (zaP (zab (wOp oIx (zaf 1) (wC (.int 2))) waNil)) (zab (zaP (zab (wOp oIx (zaf 1) (wC (.int 3))) (zab (zaP (zab (wOp oIx (zaf 1) (wC (.int 5))) waNil)) waNil))) waNil)))))))) zaQ)
  (zaC (zcx (wTb (wOp (oEq false) (zaf 0) (wC (.int 3)))) (zaC (wAsg (zbQ (zci (zab (zaP (zab (wOp oIx (zaf 1) (wC (.int 4))) (zab (zaP (zab (wOp oIx (zaf 1) (wC (.int 4))) (zab (wC (.int 0)) (zab (wC (.int 1)) waNil)))) (zab (wC (.int 2)) waNil)))) (zab (zaP (zab (wOp oIx (zaf 1) (wC (.int 4))) (zab (wC (.int 2)) (zab (zaP (zab (wOp oIx (zaf 1) (wC (.int 4))) (zab (wC (.int 1)) (zab (wC (.int 0)) waNil)))) waNil)))) (zab (zaP (zab (wOp oIx (zaf 1) (wC (.int 4))) (zab (zaP (zab (wOp oIx (zaf 1) (wC (.int 4))) (zab (wC (.int 0)) (zab (wC (.int 0)) waNil)))) (zab (zaP (zab (wOp oIx (zaf 1) (wC (.int 4))) (zab (wC (.int 1)) (zab (wC (.int 2)) waNil)))) waNil)))) waNil))))) (wGN 3))
  (zaC (zcx (zft (zaf 2)) (zbx (zbQ (zeR (zaf 3) (zci (zab (zaP (zab (wOp oIx (zaf 1) (wC (.int 0))) (zab (zaP (zab (wOp oIx (zaf 1) (wC (.int 4))) (zab (zaP (zab (wOp oIx (zaf 1) (wC (.int 4))) (zab (wC (.int 2)) (zab (wC (.int 0)) waNil)))) (zab (wC (.int 1)) waNil)))) waNil))) (zab (zaP (zab (wOp oIx (zaf 1) (wC (.int 1))) (zab (wC (.int 1)) (zab (zaP (zab (wOp oIx (zaf 1) (wC (.int 4))) (zab (wC (.int 0)) (zab (wC (.int 2)) waNil)))) waNil)))) waNil)))))) zaQ)
  (zbx (zbQ (zeR (zaf 3) (zci (zab (wC (.int 0)) (zab (wC (.int 2)) (zab (zaP (zab (wOp oIx (zaf 1) (wC (.int 4))) (zab (wC (.int 1)) (zab (wC (.int 1)) waNil)))) (zab (zaP (zab (wOp oIx (zaf 1) (wC (.int 5))) waNil)) waNil)))))))))) zaQ)
  (zaC (wAsg (zbQ (zci (zab (zaP (zab (wOp oIx (zaf 1) (wC (.int 4))) (zab (wC (.int 0)) (zab (wC (.int 1)) waNil)))) (zab (zaP (zab (wOp oIx (zaf 1) (wC (.int 4))) (zab (wC (.int 1)) (zab (wC (.int 0)) waNil)))) (zab (zaP (zab (wOp oIx (zaf 1) (wC (.int 4))) (zab (zaP (zab (wOp oIx (zaf 1) (wC (.int 3))) (zab (wC (.int 0)) waNil))) (zab (wC (.int 1)) waNil)))) (zab (zaP (zab (wOp oIx (zaf 1) (wC (.int 4))) (zab (zaP (zab (wOp oIx (zaf 1) (wC (.int 4))) (zab (wC (.int 0)) (zab (wC (.int 0)) waNil)))) (zab (wC (.int 1)) waNil)))) waNil)))))) (wGN 3))
  (zaC (zcx (zft (zaf 2)) (zbx (zbQ (zeR (zaf 3) (zci (zab (zaP (zab (wOp oIx (zaf 1) (wC (.int 1))) (zab (wC (.int 1)) (zab (wC (.int 0)) waNil)))) (zab (zaP (zab (wOp oIx (zaf 1) (wC (.int 0))) (zab (zaP (zab (wOp oIx (zaf 1) (wC (.int 4))) (zab (wC (.int 0)) (zab (wC (.int 1)) waNil)))) waNil))) waNil)))))) zaQ)
  (zbx (zbQ (zeR (zaf 3) (zci (zab (wC (.int 0)) (zab (wC (.int 1)) (zab (zaP (zab (wOp oIx (zaf 1) (wC (.int 3))) (zab (wC (.int 1)) waNil))) (zab (zaP (zab (wOp oIx (zaf 1) (wC (.int 5))) waNil)) waNil)))))))))))))
noncomputable def zbB (r:Nat) (self:WSp):WS:=(zaC (wAsg (zaz (zbu r) (zab (zaz (zav r) (zab (zaf 9) waNil)) (zab (zaf 2) (zab (zaf 4) waNil)))) (wGN 10))
  (zaC (wAsg (zaz (zaL r) (zab (zaf 0) (zab (wOp zcO (wOp zcO (wOp zcO (zaf 1) (wC (.int 2))) (wOp (zde CMul fun i j=> .int (i*j)) (wC (.int 2)) (zaf 6))) (zaf 8)) waNil))) (wGN 11))
  (zeG (wM rvL zcP (zaf 5) (zab (zaP (zab (wOp oIx (zaf 3) (wB zec (zab (zaf 5) waNil))) (zab (zaf 9) (zab (wOp oIx (zaf 10) (wOp (zde (fun _ j=>0<j) fun i j=> .int (i % j)) (zaf 11) (wB zec (zab (zaf 10) waNil)))) waNil)))) waNil)))))
noncomputable def zcr (r:Nat) (self:WSp):WS:=(zaC (wAsg (zaz (zbF r) (zab (wOp (zde (fun _ j=>0<j) fun i j=> .int (i % j)) (zaz (zaL r) (zab (zaf 0) (zab (wOp zcO (zaf 1) (zaf 6)) waNil))) (wC (.int 6))) (zab (wOp oIx (zaf 2) (zaf 6)) (zab (wOp oIx (zaf 2) (wC (.int 2))) (zab (wOp oIx (zaf 2) (wC (.int 3))) waNil))))) (wGN 7))
  (zfr (zjp (zaf 7)) (wGT (zaG (wGN 8) (zaG (wGN 9) zcI))) (zbB r zbw)))
noncomputable def zbc:Nat→WSp
 |0=>zbw
 |r+1=>zdo 12 5 (zaC (wAsg (zbQ (zci waNil)) (wGN 5))
  (zaC (zfr (zne (zab (wC (.int 2)) waNil)) (wGN 6) (zcr r zbw))
  (zbx (zaf 5))))
noncomputable def zdu (r:Nat) (self:WSp):WS:=(wAsg (zbQ (zjb (zpC (zaf 4) woN (woS (zlE (wC (.int 2))))) (zci (zab (zaP (zab (zlE (wC (.int 1))) (zab (wC (.int 0)) (zab (wOp oIx (zaf 2) (wC (.int 4))) (zab (wSl (zaf 4) (woS (zlE (wC (.int 2)))) woN) waNil))))) waNil)))) (wGN 4))
noncomputable def zdC (r:Nat) (self:WSp):WS:=(zaC (wAsg (wOp (zde (fun _ j=>0<j) fun i j=> .int (i % j)) (zaf 6) (wC (.int 8))) (wGN 7))
  (zaC (wAsg (zoM (zci (zab (wC (.int 0)) (zab (wC (.int 0)) (zab (wC (.int 1)) (zab (wC (.int 2)) waNil))))) (wB zgm (zab (zaf 7) (zab (wC (.int 3)) waNil)))) (wGN 8))
  (zaC (wAsg (zaP (zab (zlE (wC (.int 1))) (zab (wC (.int 0)) (zab (wOp oIx (zaf 2) (zoM (zci (zab (wC (.int 2)) (zab (wC (.int 5)) (zab (wC (.int 3)) (zab (wC (.int 4)) waNil))))) (wB zgm (zab (zaf 7) (zab (wC (.int 3)) waNil))))) waNil)))) (wGN 9))
  (zaC (zcx (wTb (wOp oGt (zaf 7) (wC (.int 3)))) (zaC (wAsg (wOp (zde (fun _ j=>0<j) fun i j=> .int (i % j)) (wOp (zde zkY fun i j=> .int (i / j)) (zaf 6) (wC (.int 8))) (wB zec (zab (zaf 1) waNil))) (wGN 10))
  (zaC (wAsg (zaz (zav r) (zab (wOp oIx (wOp oIx (zaf 1) (zaf 10)) (wC (.int 1))) waNil)) (wGN 8))
  (zaC (wAsg (zaP (zab (zaf 10) (zab (wOp (zde (fun _ j=>0<j) fun i j=> .int (i % j)) (wOp (zde zkY fun i j=> .int (i / j)) (zaf 6) (wC (.int 64))) (wC (.int 8))) (zab (wC (.str "")) waNil)))) (wGN 9))
  (wAsg (wOp zcO (zaf 5) (wC (.int 1))) (wGN 5))))) zaQ)
  (zcx (zrj (wTb (wOp oGt (zaf 3) (wC (.int 0)))) (wTb (wOp oLt (zaf 5) (wC (.int 5))))) (zaC (wAsg (wOp (zdp fun i j=> .int (i - j)) (zaf 3) (wC (.int 1))) (wGN 3))
  (zaC (wAsg (zbQ (zlU (zms (zci (zab (zaP (zab (zlE (wC (.int 1))) (zab (wC (.int 0)) (zab (wOp oIx (zaf 2) (wC (.int 2))) (zab (zbQ (zci waNil)) waNil))))) waNil)) (wOp (zdp fun i j=> .int (i - j)) (zaf 8) (wB zec (zab (zaf 4) waNil)))) (zaf 4))) (wGN 4))
  (zaC (wAsg (wOp (zdp fun i j=> .int (i - j)) (wB zec (zab (zaf 4) waNil)) (zaf 8)) (wGN 11))
  (wAsg (zbQ (zjb (zpC (zaf 4) woN (woS (zaf 11))) (zci (zab (wOp zcO (zaf 9) (zaP (zab (wSl (zaf 4) (woS (zaf 11)) woN) waNil))) waNil)))) (wGN 4))))) zaQ)))))
noncomputable def zbA:Nat→WSp
 |0=>zbw
 |r+1=>zdo 12 4 (zaC (wAsg (zbQ (zci waNil)) (wGN 4))
  (zaC (wAsg (wC (.int 0)) (wGN 5))
  (zaC (zfr (wIv (zaf 0)) (wGN 6) (zdC r zbw))
  (zaC (znk (wTb (wOp oGt (wB zec (zab (zaf 4) waNil)) (wC (.int 1)))) (zdu r zbw))
  (zbx (zoM (zeR (zaf 4) (zci (zab (zaP (zab (zlE (wC (.int 1))) (zab (wC (.int 0)) (zab (wOp oIx (zaf 2) (wC (.int 5))) (zab (zbQ (zci waNil)) waNil))))) waNil))) (wC (.int 0))))))))
noncomputable def zdP (r:Nat) (self:WSp):WE:=(zaz self (zab (zaf 0) (zab (zaf 1) (zab (zaf 2) waNil))))
noncomputable def zbR:Nat→WSp
 |0=>zbw
 |r+1=>zdo 8 3 (zaC (wAsg (zaf 0) (wGT (zaG (wGN 3) (zaG (wGN 4) (zaG (wGN 5) (zaG (wGN 6) zcI))))))
  (zaC (wAsg (zbQ (zdf 1 [1,2] (wIv (zaf 6)) (wGN 0) ziX (zdP r (zbR r)))) (wGN 7))
  (zaC (zcx (wTb (wOp oLt (zaf 3) (wC (.int 0)))) (zbx (wOp zcO (zaP (zab (zaf 5) waNil)) (wB zev (zab (zaf 7) waNil)))) zaQ)
  (zaC (zcx (wTb (wOp (oEq false) (wOp (zde (fun _ j=>0<j) fun i j=> .int (i % j)) (wOp (zde zkY fun i j=> .int (i / j)) (zaf 4) (zaf 2)) (wC (.int 2))) (wC (.int 1)))) (zbx (wOp zcO (zaP (zab (wOp oIx (wOp oIx (zaf 1) (zaf 3)) (wC (.int 0))) waNil)) (wB zev (zab (zaf 7) waNil)))) zaQ)
  (zbx (zaz (zaI r) (zab (wOp oIx (wOp oIx (zaf 1) (zaf 3)) (wC (.int 1))) (zab (zaf 7) waNil))))))))
noncomputable def zdx (r:Nat) (self:WSp):WS:=(zcx (wTb (wOp (oEq false) (wOp oIx (zaf 4) (wC (.int 0))) (wOp oIx (zaf 1) (wC (.int 0))))) (zbx (zaz (zaI r) (zab (wOp oIx (zaf 4) (zaf 2)) (zab (zaf 3) waNil)))) zaQ)
noncomputable def zdI (r:Nat) (self:WSp):WE:=(zaz self (zab (zaf 1) (zab (zaf 0) (zab (zaf 2) waNil))))
noncomputable def zaT:Nat→WSp
 |0=>zbw
 |r+1=>zdo 5 3 (zaC (wAsg (zbQ (zdf 1 [0,2] (wIv (wSl (zaf 1) (woS (wC (.int 1))) woN)) (wGN 0) ziX (zdI r (zaT r)))) (wGN 3))
  (zaC (zfr (wIv (zaf 0)) (wGN 4) (zdx r zbw))
  (zbx (wOp zcO (wSl (zaf 1) woN (woS (wC (.int 1)))) (wB zev (zab (zaf 3) waNil))))))
noncomputable def zbW (r:Nat) (self:WSp):WE:=(wOp zcO (zaP (zab (zaf 1) waNil)) (zaf 0))
noncomputable def zbm (r:Nat) (self:WSp):WS:=(wAsg (zbQ (zeR (zaf 1) (zdf 1 [2] (wIv (zaz self (zab (zaf 3) waNil))) (wGN 0) ziX (zbW r zbw)))) (wGN 1))
noncomputable def zat:Nat→WSp
 |0=>zbw
 |r+1=>zdo 4 1 (zaC (wAsg (zbQ (zci (zab (zaP waNil) waNil))) (wGN 1))
  (zaC (zcx (zpD (zft (zjo "int" (zaf 0)))) (zfr (zjp (wSl (zaf 0) (woS (wC (.int 1))) woN)) (wGT (zaG (wGN 2) (zaG (wGN 3) zcI))) (zbm r (zat r))) zaQ)
  (zbx (zaf 1))))
noncomputable def zce (r:Nat) (self:WSp):WS:=(wAsg (wOp oIx (zaf 0) (wOp zcO (zaf 2) (wC (.int 1)))) (wGN 0))
noncomputable def zaS:Nat→WSp
 |0=>zbw
 |r+1=>zdo 3 2 (zaC (zfr (wIv (zaf 1)) (wGN 2) (zce r zbw))
  (zbx (zaf 0)))
noncomputable def zbY (r:Nat) (self:WSp):WE:=(zaz self (zab (zaf 0) (zab (zaf 1) waNil)))
noncomputable def zaw:Nat→WSp
 |0=>zbw
 |r+1=>zdo 2 2 (zaC (zcx (zft (zjo "int" (zaf 0))) (zbx (wC (.bl true))) zaQ)
  (zaC (zcx (wOr (wTb (wOp (oEq true) (wOp oIx (zaf 0) (wC (.int 0))) (wOp oIx (zaf 1) (wC (.int 0))))) (wTb (wOp (oEq true) (wB zec (zab (zaf 0) waNil)) (wB zec (zab (zaf 1) waNil))))) (zbx (wC (.bl false))) zaQ)
  (zbx (wBL zlr (zdf 2 [] (zpA (wSl (zaf 0) (woS (wC (.int 1))) woN) (wSl (zaf 1) (woS (wC (.int 1))) woN)) (wGT (zaG (wGN 0) (zaG (wGN 1) zcI))) ziX (zbY r (zaw r)))))))
noncomputable def zcb (r:Nat) (self:WSp):WS:=(wAsg (wOp zcO (zaf 2) (zaz self (zab (zaf 3) (zab (zaf 4) waNil)))) (wGN 2))
noncomputable def zaK:Nat→WSp
 |0=>zbw
 |r+1=>zdo 5 2 (zaC (zcx (zft (zjo "int" (zaf 0))) (zbx (zbQ (zci (zab (zaf 1) waNil)))) zaQ)
  (zaC (wAsg (zbQ (zci waNil)) (wGN 2))
  (zaC (zfr (zpA (wSl (zaf 0) (woS (wC (.int 1))) woN) (wSl (zaf 1) (woS (wC (.int 1))) woN)) (wGT (zaG (wGN 3) (zaG (wGN 4) zcI))) (zcb r (zaK r)))
  (zbx (zaf 2)))))
noncomputable def zby:Nat→WSp
 |0=>zbw
 |r+1=>zdo 4 3 (zaC (zcx (wTb (wOp (oEq false) (zaf 1) (zaP waNil))) (zbx (zaf 2)) zaQ)
  (zaC (wAsg (wOp zcO (wOp oIx (zaf 1) (wC (.int 0))) (wC (.int 1))) (wGN 3))
  (zbx (wOp zcO (wOp zcO (wSl (zaf 0) woN (woS (zaf 3))) (zaP (zab (zaz (zby r) (zab (wOp oIx (zaf 0) (zaf 3)) (zab (wSl (zaf 1) (woS (wC (.int 1))) woN) (zab (zaf 2) waNil)))) waNil))) (wSl (zaf 0) (woS (wOp zcO (zaf 3) (wC (.int 1)))) woN)))))
noncomputable def zcV (r:Nat) (self:WSp):WS:=(zcx (zft (zaz (zaw r) (zab (wOp oIx (zaf 4) (wC (.int 1))) (zab (zaf 3) waNil)))) (zbx (zaz (zby r) (zab (zaf 1) (zab (zaf 2) (zab (zaz (zaI r) (zab (wOp oIx (zaf 4) (wC (.int 2))) (zab (zaz (zaK r) (zab (wOp oIx (zaf 4) (wC (.int 1))) (zab (zaf 3) waNil))) waNil))) waNil))))) zaQ)
noncomputable def zbv:Nat→WSp
 |0=>zbw
 |r+1=>zdo 5 3 (zaC (wAsg (zaz (zaS r) (zab (zaf 1) (zab (zaf 2) waNil))) (wGN 3))
  (zaC (zfr (wIv (zaf 0)) (wGN 4) (zcV r zbw))
  (zbx (zaf 1))))
noncomputable def zdj (r:Nat) (self:WSp):WE:=(zaf 0)
noncomputable def zbE:Nat→WSp
 |0=>zbw
 |r+1=>zdo 1 1 (zbx (zbQ (zdf 1 [0] (wIv (zaz (zat r) (zab (zaf 0) waNil))) (wGN 0) (zft (zjo "int" (zaz (zaS r) (zab (zaf 1) (zab (zaf 0) waNil))))) (zdj r zbw))))
noncomputable def zcB (r:Nat) (self:WSp):WS:=(wAsg (wOp zcO (zaf 6) (zaz self (zab (zaf 0) (zab (zaf 7) (zab (wOp zcO (zaf 2) (zaf 8)) waNil))))) (wGN 6))
noncomputable def zcF (r:Nat) (self:WSp):WS:=(zcx (wTb (wOp (oEq false) (wOp oIx (zaf 5) (wC (.int 0))) (wOp oIx (zaf 1) (wC (.int 0))))) (zaC (wAsg (zaz (zbE r) (zab (wOp oIx (zaf 5) (wC (.int 1))) waNil)) (wGN 3))
  (wAsg (zbQ (zci (zab (zaf 2) waNil))) (wGN 4))) zaQ)
noncomputable def zdA (r:Nat) (self:WSp):WE:=(zaP (zab (zaf 0) waNil))
noncomputable def zba:Nat→WSp
 |0=>zbw
 |r+1=>zdo 9 3 (zaC (wAsg (zbQ (zdf 1 [] (zne (zab (wOp (zdp fun i j=> .int (i - j)) (wB zec (zab (zaf 1) waNil)) (wC (.int 1))) waNil)) (wGN 0) ziX (zdA r zbw))) (wGN 3))
  (zaC (wAsg (zbQ (zci waNil)) (wGN 4))
  (zaC (zfr (wIv (zaf 0)) (wGN 5) (zcF r zbw))
  (zaC (wAsg (zbQ (zci waNil)) (wGN 6))
  (zaC (zfr (zpA (wSl (zaf 1) (woS (wC (.int 1))) woN) (zaf 3)) (wGT (zaG (wGN 7) (zaG (wGN 8) zcI))) (zcB r (zba r)))
  (zbx (wOp zcO (zaf 6) (zaf 4))))))))
noncomputable def zbG (r:Nat):WS:=(zbx (wOp (oEq false) (zaf 7) (zaz (zaT r) (zab (zaf 3) (zab (zaf 5) (zab (wC (.int 2)) waNil))))))
noncomputable def zeH (r:Nat) (self:WSp):WE:=(zaf 0)
noncomputable def zcl (r:Nat):WS:=(wAsg (zaz (zbv r) (zab (zaf 3) (zab (zaf 7) (zab (zaf 8) waNil)))) (wGN 7))
noncomputable def zco (r:Nat) (T:WS):WS:=(zaC (zcx (wTb (wOp (oEq true) (wB zec (zab (zbQ (zdf 1 [9] (wIv (zaf 3)) (wGN 0) (zft (zaz (zaw r) (zab (wOp oIx (zaf 0) (wC (.int 1))) (zab (zaf 1) waNil)))) (zeH r zbw))) waNil)) (wC (.int 1)))) (zbx (wC (.bl false))) zaQ) T)
noncomputable def zcj (r:Nat) (T:WS):WS:=(zaC (wAsg (zaz (zaS r) (zab (zaf 7) (zab (zaf 8) waNil))) (wGN 9)) T)
noncomputable def zck (r:Nat) (T:WS):WS:=(zaC (zcx (zpD (zft (zjo "tuple" (zaf 8)))) (zbx (wC (.bl false))) zaQ) T)
noncomputable def zcz (r:Nat) (self:WSp):WS:=(zck r (zcj r (zco r (zcl r))))
noncomputable def zbU (r:Nat) (T:WS):WS:=(zaC (zfr (wIv (zaf 6)) (wGN 8) (zcz r zbw)) T)
noncomputable def zcg (r:Nat) (T:WS):WS:=(zaC (wAsg (zaz (zaT r) (zab (zaf 3) (zab (zaf 5) (zab (wC (.int 1)) waNil)))) (wGN 7)) T)
noncomputable def zbX (r:Nat) (T:WS):WS:=(zaC (zcx (wOr (zpD (zft (zjo "list" (zaf 6)))) (wTb (wOp (oEq true) (zaf 6) (zaz (zba r) (zab (zaf 3) (zab (zaf 5) (zab (zaP waNil) waNil))))))) (zbx (wC (.bl false))) zaQ) T)
noncomputable def zbT (r:Nat) (T:WS):WS:=(zaC (wAsg (zaz (zcu r) (zab (zaf 3) (zab (zaf 5) waNil))) (wGN 6)) T)
noncomputable def zbZ (r:Nat) (T:WS):WS:=(zaC (wAsg (zaz (zbR r) (zab (zaf 4) (zab (zaf 3) (zab (wC (.int 1)) waNil)))) (wGN 5)) T)
noncomputable def zbV (r:Nat) (T:WS):WS:=(zaC (wAsg (zaz (zbA r) (zab (wSl (zaf 0) (woS (wC (.int 11))) woN) (zab (zaf 3) (zab (zaf 1) (zab (wC (.int 9)) waNil))))) (wGN 4)) T)
noncomputable def zca (r:Nat) (T:WS):WS:=(zaC (wAsg (zaz (zbc r) (zab (zaf 0) (zab (wC (.int 4)) (zab (zaf 1) (zab (zaf 2) (zab (wOp (oEq false) (wOp (zde (fun _ j=>0<j) fun i j=> .int (i % j)) (zaz (zaL r) (zab (zaf 0) (zab (wC (.int 10)) waNil))) (wC (.int 2))) (wC (.int 1))) waNil)))))) (wGN 3)) T)
noncomputable def zbS (r:Nat) (T:WS):WS:=(zaC (wAsg (zaz (zbn r) (zab (zaz (zaL r) (zab (zaf 0) (zab (wC (.int 2)) waNil))) (zab (zaz (zaL r) (zab (zaf 0) (zab (wC (.int 3)) waNil))) (zab (wC (.bl true)) waNil)))) (wGN 2)) T)
noncomputable def zcf (r:Nat) (T:WS):WS:=(zaC (wAsg (zaz (zbn r) (zab (zaz (zaL r) (zab (zaf 0) (zab (wC (.int 0)) waNil))) (zab (zaz (zaL r) (zab (zaf 0) (zab (wC (.int 1)) waNil))) (zab (wC (.bl false)) waNil)))) (wGN 1)) T)
noncomputable def zct:Nat→WSp
 |0=>zbw
 |r+1=>zdo 10 1 (zcf r (zbS r (zca r (zbV r (zbZ r (zbT r (zbX r (zcg r (zbU r (zbG r))))))))))
theorem zfD{r:Nat}{t:Tr}{S:Sto}{Q:WK}{E:Str→Sto→Prop}(h:Q (.tup (zaJ t.kids)) S):zbP (r+1) [enc t] S Q E:=by
 rw [zbP];cases t with
 |bl n=>
  simp only[enc];walk_at "wp";exact⟨Nat.zero_le _,S, .refl,h⟩
 |nd s ts=>
  simp only[enc];walk_at "wp";exact⟨S, .refl,h⟩
mutual
noncomputable def Tr.pl (p:List Int):Tr→List (List Int)
 | .bl _=>[p]
 | .nd _ ts=>p::pls p 0 ts
noncomputable def pls (p:List Int) (i:Nat):List Tr→List (List Int)
 | []=>[]
 |t::ts=>t.pl (p++[(i:Int)])++pls p (i+1) ts
end
mutual
theorem znC:∀(t:Tr) (p:List Int),(t.pl p).length=t.weight
 | .bl _,p=>by simp [Tr.pl,Tr.weight]
 | .nd _ ts,p=>by simp [Tr.pl,Tr.weight,zkW ts p 0];omega
theorem zkW:∀(ts:List Tr) (p:List Int) (i:Nat),(pls p i ts).length=wts ts
 | [],p,i=>by simp [pls,wts]
 |t::ts,p,i=>by simp [pls,wts,znC t,zkW ts p (i+1)]
end
theorem zmO{p:List Int}{i:Int}{S:Sto}{Q:WK}:zcO (zaH p) (.tup [.int i]) S Q=(p.length+1≤sizeLine∧Q (zaH (p++[i])) S):=by
 unfold zaH;rw [zel];simp
mutual
theorem zgH:∀(t:Tr) {r:Nat}{p:List Int}{a:Addr}{xs:List W}{S:Sto}{Q:WK}{E:Str→Sto→Prop},t.depth≤r→S a=some (.lst xs)→xs.length+t.weight≤1000000→p.length+t.depth≤1000000→
  Q .non (put S a (.lst (xs++(t.pl p).map zaH)))→zaE (r+1) [enc t,zaH p, .ref a] S Q E
 | .bl n,r,p,a,xs,S,Q,E,hr,ha,hx,hp,h=>by
  obtain⟨r,rfl⟩:∃r',r=r'+1:=⟨r - 1,by simp [Tr.depth]at hr;omega⟩
  rw [zaE];walk_at "wp";simp only[zaj ha,true_and];simp [Tr.weight]at hx;refine⟨zcY (by omega),?_⟩;refine zfD ?_;simp only[Tr.kids,zaJ,zfa,forL];simp only[Tr.pl,List.map_cons,List.map_nil]at h;exact⟨_, .refl,h⟩
 | .nd s ts,r,p,a,xs,S,Q,E,hr,ha,hx,hp,h=>by
  simp only[Tr.depth]at hr hp;simp only[Tr.weight]at hx;obtain⟨r,rfl⟩:∃r',r=r'+1:=⟨r - 1,by omega⟩
  rw [zaE];walk_at "wp";simp only[zaj ha,true_and];refine⟨zcY (by omega),?_⟩;refine zfD ?_;dsimp only[Tr.kids];refine zeU ts (xs:=xs++[zaH p]) (by omega) zag (by simp;omega) (by omega) fun x y=>?_;rw [zbt];refine⟨_, .refl,?_⟩;simpa [Tr.pl,List.append_assoc]using h
theorem zeU:∀(ts:List Tr) {r:Nat}{p:List Int}{i:Nat}{a:Addr}{xs:List W}{S:Sto}{E:WX}{D:WEnds}{t0 x y:Option W},dts ts≤r→S a=some (.lst xs)→xs.length+wts ts≤1000000→p.length+1+dts ts≤1000000→
  (∀x y,D.nx [t0,some (zaH p),some (.ref a),x,y] (put S a (.lst (xs++(pls p i ts).map zaH))))→
  forL (wGT (zaG (wGN 3) (zaG (wGN 4) zcI))) (zbz (r+1) (zaE (r+1))) E D (fun _=>True) (zfa i (zaJ ts)) [t0,some (zaH p),some (.ref a),x,y] S
 | [],r,p,i,a,xs,S,E,D,t0,x,y,hr,ha,hx,hp,h=>by
  simp only[zaJ,zfa,forL];have:=h x y;simp only[pls,List.map_nil,List.append_nil,zgp ha]at this;exact this
 |t::ts,r,p,i,a,xs,S,E,D,t0,x,y,hr,ha,hx,hp,h=>by
  simp only[dts]at hr hp;simp only[wts]at hx;simp only[zaJ,zfa,forL,zbz];walk_at "wp";rw [zmO];refine⟨zah (by omega),zah (by omega),zgH t (p:=p++[(i:Int)]) (by omega) ha (by omega) (by simp;omega) ?_⟩;refine⟨_, .refl,zeU ts (by omega) zag (by simp [znC];omega) (by omega) fun x y=>?_⟩;rw [zbt];simpa [pls,List.append_assoc]using h x y
end
theorem zjM{t:Tr}{r:Nat}{S:Sto}{Q:WK}{E:Str→Sto→Prop}(hr:t.depth+1≤r) (hw:t.weight≤100000) (hd:t.depth≤100000) (h:∀a,S a=none→Q (.ref a) (put S a (.lst ((t.pl []).map zaH)))):zdB (r+1) [enc t] S Q E:=by
 obtain⟨r,rfl⟩:∃r',r=r'+1:=⟨r - 1,by omega⟩
 rw [zdB];walk_at "wp";refine⟨Nat.zero_le _,fun a ha=>⟨Nat.zero_le _,zgH t (p:=[]) (xs:=[]) (by omega) zag (by simp;omega) (by simp;omega) ?_⟩⟩;rw [zbt,List.nil_append];exact⟨_, .refl,h a ha⟩
noncomputable def Tr.at:Tr→List Int→Option Tr
 |t,[]=>some t
 | .bl _,_::_=>none
 | .nd _ ts,i::p=>if i<0 then none else match ts[i.toNat]? with
  |some u=>u.at p
  |none=>none
theorem zhJ{t u:Tr}{i:Int}{r:Nat}{S:Sto}{Q:WK}{E:Str→Sto→Prop}(hi:0≤i) (hu:t.kids[i.toNat]? =some u) (h:Q (enc u) S):zbb (r+2) [enc t, .int i] S Q E:=by
 rw [zbb];walk_at "wp";refine zfD ?_;have hl:i.toNat<t.kids.length:=(List.getElem?_eq_some_iff.mp hu).1;walk_at "wp";rw [zbe];rw [if_neg (by omega),if_neg (by omega)];have e:atI (zaJ t.kids) i=some (enc u):=by
  have q:=zbk (xs:=zaJ t.kids) (n:=i.toNat);rw [Int.toNat_of_nonneg hi]at q;rw [q,zaA,List.getElem?_map,hu];rfl
 rw [e];exact⟨S, .refl,h⟩
theorem zhF{p:List Int}:∀{t u:Tr}{r:Nat}{S:Sto}{E:WX}{D:WEnds}{x y z:Option W},t.at p=some u→(∀z,D.nx [x,y,some (enc u),z] S)→
  forL (wGN 3) (zfC (r+2) zbw) E D (fun _=>True) (p.map W.int) [x,y,some (enc t),z] S:=by
 induction p with
 |nil=>
  intro t u r S E D x y z e h;unfold Tr.at at e;cases e;exact h z
 |cons i p ih=>
  intro t u r S E D x y z e h;cases t with
  |bl n=>cases e
  |nd s ts=>
   unfold Tr.at at e;split at e
   ·cases e
   ·rename_i hi;split at e
    ·rename_i v ev;simp only[List.map_cons,forL,zfC];walk_at "wp";refine zhJ (t:= .nd s ts) (u:=v) (by omega) ev ⟨S, .refl,?_⟩;exact ih e h
    ·cases e
theorem zoK{t u:Tr}{p:List Int}{r:Nat}{S:Sto}{Q:WK}{E:Str→Sto→Prop}(e:t.at p=some u) (h:Q (enc u) S):zfZ (r+3) [enc t,zaH p] S Q E:=by
 rw [zfZ];walk_at "wp";unfold zaH;dsimp only;exact zhF e fun z=>⟨S, .refl,h⟩
noncomputable def Low (c:Nat):Prop:=97≤c∧c≤122
noncomputable def zdt (x:Str):Prop:=1≤x.cps.toList.length∧x.cps.toList.length≤8∧ ∀c∈x.cps.toList,Low c
noncomputable def zdv (x:Str):Prop:=∃c r,x.cps.toList=c::r∧65≤c∧c≤90∧r.length≤7∧ ∀d∈r,Low d
theorem zoe:(Str.ofString "abcdefghijklmnopqrstuvwxyz").cps.toList=List.range' 97 26:=by decide +kernel
theorem zpR:(Str.ofString "abcdefghijklmnopqrstuvwxyz").length=26:=by decide +kernel
theorem zgu:∀cs:List Nat,(Str.join (Str.ofString "") (cs.map fun c=>(⟨#[c]⟩:Str))).cps.toList=cs
 | []=>rfl
 | [c]=>rfl
 |c::d::r=>by
  have ih:=zgu (d::r);show((⟨#[c]⟩:Str)++Str.ofString "" ++Str.join (Str.ofString "") ((d::r).map fun c=>(⟨#[c]⟩:Str))).cps.toList=_;show(#[c]++(Str.ofString "").cps++(Str.join (Str.ofString "") ((d::r).map fun c=>(⟨#[c]⟩:Str))).cps).toList=_;rw [Array.toList_append,Array.toList_append,ih];rfl
theorem zmr (cs:List Nat):((cs.map fun c=>(⟨#[c]⟩:Str)).map (·.length)).sum=cs.length:=by
 induction cs with
 |nil=>rfl
 |cons c r ih=>
  rw [List.map_cons,List.map_cons,List.sum_cons,ih,List.length_cons];show 1+r.length=r.length+1;omega
theorem zeo:∀cs:List Nat,zdU (cs.map fun c=>W.str ⟨#[c]⟩)=some (cs.map fun c=>(⟨#[c]⟩:Str))
 | []=>rfl
 |c::cs=>by rw [List.map_cons,zdU,zeo cs];rfl
theorem zjI (cs:List Nat) (h:cs.length≤1000):(List.map (fun x=>x.length) (cs.map fun c=>(⟨#[c]⟩:Str))).sum+(cs.map fun c=>(⟨#[c]⟩:Str)).length*(Str.ofString "").length≤16777216:=by
 have e:=zmr cs;have z:(Str.ofString "").length=0:=by decide +kernel
 rw [e,z];omega
theorem zix{lo:Int}{n:Nat}:(zjc lo n).length=n:=by simp [zjc]
theorem zru{α:Type}{xs:List α}(n:Int) (h:xs≠ []):∃(i:Nat) (x:α),xs[i]? =some x∧atI xs (n % (xs.length:Int))=some x:=by
 have hp:0<xs.length:=List.length_pos_iff.mpr h;have h0:0≤n % (xs.length:Int):=Int.emod_nonneg _ (by omega);have h1:n % (xs.length:Int)<(xs.length:Int):=Int.emod_lt_of_pos _ (by omega);have hlt:(n % (xs.length:Int)).toNat<xs.length:=by omega
 refine⟨(n % (xs.length:Int)).toNat,xs[(n % (xs.length:Int)).toNat],List.getElem?_eq_getElem hlt,?_⟩;have e:=zoX (xs:=xs) (j:=(n % (xs.length:Int)).toNat) (v:=xs[(n % (xs.length:Int)).toNat]) (List.getElem?_eq_getElem hlt);rw [Int.toNat_of_nonneg h0]at e;exact e
theorem zeA (ts us:List Tr):zaJ (ts++us)=zaJ ts++zaJ us:=by rw [zaA,zaA,zaA,List.map_append]
theorem zkg (ts:List Tr) (n:Nat):(zaJ ts).take n=zaJ (ts.take n):=by rw [zaA,zaA,List.map_take]
theorem zkM (ts:List Tr) (n:Nat):(zaJ ts).drop n=zaJ (ts.drop n):=by rw [zaA,zaA,List.map_drop]
mutual
noncomputable def Tr.plt (p:List Int):Tr→List (List Int×Tr)
 | .bl n=>[(p, .bl n)]
 | .nd s ts=>(p, .nd s ts)::zeL p 0 ts
noncomputable def zeL (p:List Int) (i:Nat):List Tr→List (List Int×Tr)
 | []=>[]
 |t::ts=>t.plt (p++[(i:Int)])++zeL p (i+1) ts
end
mutual
theorem zcL:∀(t:Tr) (p:List Int),(t.plt p).map (·.1)=t.pl p
 | .bl _,p=>by simp [Tr.plt,Tr.pl]
 | .nd _ ts,p=>by simp [Tr.plt,Tr.pl,ziy ts p 0]
theorem ziy:∀(ts:List Tr) (p:List Int) (i:Nat),(zeL p i ts).map (·.1)=pls p i ts
 | [],p,i=>by simp [zeL,pls]
 |t::ts,p,i=>by simp [zeL,pls,zcL t,ziy ts p (i+1)]
end
mutual
theorem zek:∀(t:Tr) (p:List Int),(t.plt p).length=t.weight
 | .bl _,p=>by simp [Tr.plt,Tr.weight]
 | .nd _ ts,p=>by simp [Tr.plt,Tr.weight,zid ts p 0];omega
theorem zid:∀(ts:List Tr) (p:List Int) (i:Nat),(zeL p i ts).length=wts ts
 | [],p,i=>by simp [zeL,wts]
 |t::ts,p,i=>by simp [zeL,wts,zek t,zid ts p (i+1)]
end
theorem zhE{s:Str}{ts:List Tr}{i:Nat}{q:List Int}{u:Tr}(h:ts[i]? =some u):(Tr.nd s ts).at ((i:Int)::q)=u.at q:=by
 rw [Tr.at,if_neg (by omega)];simp [h]
mutual
theorem zgj:∀(t:Tr) (p q:List Int) (u:Tr),(q,u)∈t.plt p→ ∃r,q=p++r∧t.at r=some u∧r.length<t.depth
 | .bl n,p,q,u,h=>by
  simp only[Tr.plt,List.mem_singleton,Prod.mk.injEq]at h;obtain⟨rfl,rfl⟩:=h;exact⟨[],by simp,by simp [Tr.at],by simp [Tr.depth]⟩
 | .nd s ts,p,q,u,h=>by
  simp only[Tr.plt,List.mem_cons,Prod.mk.injEq]at h;rcases h with⟨rfl,rfl⟩ |h
  ·exact⟨[],by simp,by simp [Tr.at],by simp [Tr.depth];omega⟩
  ·obtain⟨j,v,r,h1,h2,h3,h4⟩:=zjK ts p 0 q u h;refine⟨(j:Int)::r,by rw [h2];simp,by rw [zhE h1];exact h3,by simp [Tr.depth];omega⟩
theorem zjK:∀(ts:List Tr) (p:List Int) (i:Nat) (q:List Int) (u:Tr),(q,u)∈zeL p i ts→ ∃(j:Nat) (v:Tr) (r:List Int),ts[j]? =some v∧q=p++[((i+j:Nat):Int)]++r∧v.at r=some u∧r.length<dts ts
 | [],p,i,q,u,h=>by simp [zeL]at h
 |t::ts,p,i,q,u,h=>by
  simp only[zeL,List.mem_append]at h;rcases h with h |h
  ·obtain⟨r,h1,h2,h3⟩:=zgj t _ q u h;exact⟨0,t,r,rfl,by simpa using h1,h2,by simp [dts];omega⟩
  ·obtain⟨j,v,r,h1,h2,h3,h4⟩:=zjK ts p (i+1) q u h;refine⟨j+1,v,r,by simpa using h1,?_,h3,by simp [dts];omega⟩
   rw [h2,show i+1+j=i+(j+1) by omega]
end
theorem keep{S:Sto}{a p:Addr}{o x:Ob}(f:S a=some o) (h:S p=none):put S p x a=some o:=by rw [zaX (zpS f h)];exact f
theorem zcH{u:Tr}:∀{ts:List Tr},u∈ts→u.depth≤dts ts
 |t::ts,h=>by
  rcases List.mem_cons.mp h with rfl |h
  ·simp [dts];omega
  ·have:=zcH h;simp [dts];omega
theorem zbh{α:Type}{g:WG}{e:WE}{E:WX}{G:Sto→Prop}{Q:List W→Sto→Prop}{S:Sto}(I:WSt→Prop) (k f:α→W) (hG:G S):∀(xs:List α) (acc:List W) (σ:WSt),I σ→acc.length+xs.length≤1000000→
  (∀x∈xs,∀σ (R:WSt→W→Sto→Prop),I σ→(∀σ1 S3,I σ1→Sub S S3→R σ1 (f x) S3)→g (k x) σ S fun σ1 S1=>e E σ1 S1 fun y S3=>R σ1 y S3)→
  Q (acc++xs.map f) S→zdO g ziX e E G Q (xs.map k) acc σ S
 | [],acc,σ,hI,hl,step,hQ=>by simpa [zdO]using hQ
 |x::xs,acc,σ,hI,hl,step,hQ=>by
  simp only[List.map_cons,zdO,ziX,if_true];simp only[List.length_cons]at hl;refine step x List.mem_cons_self σ _ hI fun σ1 S3 hI1 sb=>⟨zcY (by omega),S,sb,hG,zbh I k f hG xs (acc++[f x]) σ1 hI1 (by simp;omega) (fun y hy=>step y (List.mem_cons_of_mem _ hy)) ?_⟩;simpa using hQ
theorem zcU{α:Type}{g:WG}{c:WT}{e:WE}{E:WX}{G:Sto→Prop}{Q:List W→Sto→Prop}{S:Sto}(I:WSt→Prop) (k f:α→W) (P:α→Bool) (hG:G S):∀(xs:List α) (acc:List W) (σ:WSt),I σ→acc.length+xs.length≤1000000→
  (∀x∈xs,∀σ (R1:WSt→W→Sto→Prop) (R0:WSt→Sto→Prop),I σ→(P x=true→ ∀σ1 S3,I σ1→Sub S S3→R1 σ1 (f x) S3)→(P x=false→ ∀σ1 S3,I σ1→Sub S S3→R0 σ1 S3)→
   g (k x) σ S fun σ1 S1=>c E σ1 S1 fun b S2=>if b=true then e E σ1 S2 fun y S3=>R1 σ1 y S3 else R0 σ1 S2)→
  Q (acc++(xs.filter P).map f) S→zdO g c e E G Q (xs.map k) acc σ S
 | [],acc,σ,hI,hl,step,hQ=>by simpa [zdO]using hQ
 |x::xs,acc,σ,hI,hl,step,hQ=>by
  simp only[List.map_cons,zdO];simp only[List.length_cons]at hl;refine step x List.mem_cons_self σ _ _ hI (fun hp σ1 S3 hI1 sb=>⟨zcY (by omega),S,sb,hG,zcU I k f P hG xs (acc++[f x]) σ1 hI1 (by simp;omega) (fun y hy=>step y (List.mem_cons_of_mem _ hy)) ?_⟩)
   fun hp σ1 S3 hI1 sb=>⟨S,sb,hG,zcU I k f P hG xs acc σ1 hI1 (by omega) (fun y hy=>step y (List.mem_cons_of_mem _ hy)) ?_⟩
  ·rw [List.filter_cons_of_pos hp]at hQ;simpa using hQ
  ·rw [List.filter_cons_of_neg (by rw [hp];simp)]at hQ;exact hQ
noncomputable def Tr.isBl:Tr→Bool
 | .bl _=>true
 | .nd _ _=>false
noncomputable def Tr.num:Tr→Int
 | .bl n=>n
 | .nd _ _=>0
noncomputable def Tr.bls (t:Tr):List (List Int×Tr):=(t.plt []).filter fun x=>x.2.isBl
theorem zpl{t:Tr}{x:List Int×Tr}(h:x∈t.bls):t.at x.1=some x.2∧x.2= .bl x.2.num∧x.1.length<t.depth:=by
 obtain⟨h1,h2⟩:=List.mem_filter.mp h;obtain⟨r,h3,h4,h5⟩:=zgj t [] x.1 x.2 h1;simp at h3;subst h3;refine⟨h4,?_,h5⟩;obtain⟨p,u⟩:=x;cases u with
 |bl n=>rfl
 |nd s ts=>simp [Tr.isBl]at h2
theorem zjd{t:Tr}{r:Nat}{S:Sto}{Q:WK}{E:Str→Sto→Prop}(hr:t.depth+4≤r) (hw:t.weight≤90000) (h:∀a,S a=none→Q (.ref a) (put S a (.lst (t.bls.map fun x=>zaH x.1)))):zbi (r+1) [enc t] S Q E:=by
 have hd:=zcW t;obtain⟨r,rfl⟩:∃r',r=r'+3:=⟨r - 3,by omega⟩
 rw [zbi];walk_at "wp";refine zjM (by omega) (by omega) (by omega) fun a ha=>?_;walk_at "wp";rw [←zcL,List.map_map];refine zcU (fun σ=>∃x,σ=[x,some (enc t)]) (fun x=>zaH x.1) (fun x=>zaH x.1) (fun x=>x.2.isBl) ?_ (t.plt []) [] _ ⟨none,rfl⟩ (by simp [zek];omega) (fun x hx σ R1 R0 hI h1 h0=>?_) ?_
 ·exact zag
 ·obtain⟨y,rfl⟩:=hI;obtain⟨q,h3,h4,h5⟩:=zgj t [] x.1 x.2 hx;simp at h3;subst h3;walk_at "wp";refine zoK h4 ?_;obtain⟨p,u⟩:=x;cases u with
  |bl n=>
   simp only[enc];walk_at "wp";exact h1 rfl _ _ ⟨_,rfl⟩ .refl
  |nd s ts=>
   simp only[enc];walk_at "wp";exact h0 rfl _ _ ⟨_,rfl⟩ .refl
 ·rw [List.nil_append];intro b hb;obtain⟨hb1,hb2⟩:=zdz hb;exact⟨_, .put2 (.put .refl ha),h b hb1⟩
mutual
noncomputable def Tr.fill (us:List Tr):Tr→Tr
 | .bl n=>us.getD n.toNat (.bl n)
 | .nd s ts=> .nd s (fills us ts)
noncomputable def fills (us:List Tr):List Tr→List Tr
 | []=>[]
 |t::ts=>t.fill us::fills us ts
end
mutual
noncomputable def Tr.fits (m:Nat):Tr→Prop
 | .bl n=>0≤n∧n<m
 | .nd _ ts=>fitss m ts
noncomputable def fitss (m:Nat):List Tr→Prop
 | []=>True
 |t::ts=>t.fits m∧fitss m ts
end
theorem zgd (us:List Tr):∀ts:List Tr,fills us ts=ts.map (Tr.fill us)
 | []=>by simp [fills]
 |t::ts=>by simp [fills,zgd us ts]
theorem zex{m:Nat}{t:Tr}:∀{ts:List Tr},fitss m ts→t∈ts→t.fits m
 |u::ts,h,hm=>by
  simp only[fitss]at h;rcases List.mem_cons.mp hm with rfl |hm
  ·exact h.1
  ·exact zex h.2 hm
noncomputable def Tr.put:Tr→List Int→Tr→Tr
 |_,[],u=>u
 | .bl n,_::_,_=> .bl n
 | .nd s ts,i::p,u=>match ts[i.toNat]? with
  |some v=> .nd s (ts.set i.toNat (v.put p u))
  |none=> .nd s ts
theorem zgL (t:Tr):t.at []=some t:=by cases t<;>rfl
theorem zcp (t u:Tr):t.put [] u=u:=by cases t<;>rfl
theorem zgr{s:Str}{ts:List Tr}{i:Int}{p:List Int}{u:Tr}(h:(Tr.nd s ts).at (i::p)=some u):∃v,0≤i∧ts[i.toNat]? =some v∧v.at p=some u:=by
 unfold Tr.at at h;split at h
 ·cases h
 ·split at h
  ·exact⟨_,by omega, ‹_›,h⟩
  ·cases h
theorem znD:∀(q:List Int) {D t:Tr}(r:List Int),D.at q=some t→D.at (q++r)=t.at r
 | [],D,t,r,h=>by rw [zgL]at h;cases h;rfl
 |i::q, .bl n,t,r,h=>by cases h
 |i::q, .nd s ts,t,r,h=>by
  obtain⟨v,h0,h1,h2⟩:=zgr h;rw [List.cons_append];have e:(i:Int)=((i.toNat:Nat):Int):=(Int.toNat_of_nonneg h0).symm;rw [e,zhE h1];exact znD q r h2
theorem zcJ{s:Str}{ts:List Tr}{i:Int}{p:List Int}{u v:Tr}(h:ts[i.toNat]? =some v):(Tr.nd s ts).put (i::p) u= .nd s (ts.set i.toNat (v.put p u)):=by
 rw [Tr.put,h]
theorem zjt:∀(q:List Int) {D t:Tr}(r:List Int) (u:Tr),D.at q=some t→D.put (q++r) u=D.put q (t.put r u)
 | [],D,t,r,u,h=>by rw [zgL]at h;cases h;rw [zcp];rfl
 |i::q, .bl n,t,r,u,h=>by cases h
 |i::q, .nd s ts,t,r,u,h=>by
  obtain⟨v,h0,h1,h2⟩:=zgr h;rw [List.cons_append,zcJ h1,zcJ h1,zjt q r u h2]
theorem zkt:∀(q:List Int) {D t:Tr}(u:Tr),D.at q=some t→(D.put q u).at q=some u
 | [],D,t,u,h=>by rw [zcp,zgL]
 |i::q, .bl n,t,u,h=>by cases h
 |i::q, .nd s ts,t,u,h=>by
  obtain⟨v,h0,h1,h2⟩:=zgr h;have hl:=(List.getElem?_eq_some_iff.mp h1).1;rw [zcJ h1];have e:(i:Int)=((i.toNat:Nat):Int):=(Int.toNat_of_nonneg h0).symm
  conv=>lhs;rw [e]
  rw [zhE (u:=v.put q u) (by rw [Int.toNat_natCast,List.getElem?_set_self hl])];exact zkt q u h2
theorem zeD:∀(q:List Int) {D t:Tr}(u w:Tr),D.at q=some t→(D.put q u).put q w=D.put q w
 | [],D,t,u,w,h=>by rw [zcp,zcp]
 |i::q, .bl n,t,u,w,h=>by cases h
 |i::q, .nd s ts,t,u,w,h=>by
  obtain⟨v,h0,h1,h2⟩:=zgr h;have hl:=(List.getElem?_eq_some_iff.mp h1).1;rw [zcJ h1,zcJ (v:=v.put q u) (by rw [List.getElem?_set_self hl]),zcJ h1,List.set_set,zeD q u w h2]
theorem zig:∀(q:List Int) {D t:Tr},D.at q=some t→D.put q t=D
 | [],D,t,h=>by rw [zgL]at h;cases h;rw [zcp]
 |i::q, .bl n,t,h=>by cases h
 |i::q, .nd s ts,t,h=>by
  obtain⟨v,h0,h1,h2⟩:=zgr h;have hl:=(List.getElem?_eq_some_iff.mp h1).1;rw [zcJ h1,zig q h2];have:ts[i.toNat]=v:=(List.getElem?_eq_some_iff.mp h1).2;rw [←this,List.set_getElem_self]
theorem zif{S:Sto}{p:List Int}:eqF S 60 (zaH p) (.tup [])=some p.isEmpty:=by
 cases p<;>rfl
theorem zkZ{u:Tr}:∀(p:List Int) {t v:Tr}{r:Nat}{S:Sto}{Q:WK}{E:Str→Sto→Prop},t.at p=some v→p.length≤r→t.weight≤90000→p.length≤90000→Q (enc (t.put p u)) S→zby (r+1) [enc t,zaH p,enc u] S Q E
 | [],t,v,r,S,Q,E,h,hr,hw,hp,q=>by
  rw [zcp]at q;rw [zby];walk_at "wp";rw [zif];exact⟨Nat.zero_le _,S, .refl,q⟩
 |i::p, .bl n,v,r,S,Q,E,h,hr,hw,hp,q=>by cases h
 |i::p, .nd s ts,v,r,S,Q,E,h,hr,hw,hp,q=>by
  obtain⟨w,h0,h1,h2⟩:=zgr h;obtain⟨j,rfl⟩:∃j:Nat,i=j:=⟨i.toNat,(Int.toNat_of_nonneg h0).symm⟩;rw [Int.toNat_natCast]at h1;rw [zcJ (by rw [Int.toNat_natCast];exact h1),Int.toNat_natCast]at q;simp only[List.length_cons]at hr hp;simp only[Tr.weight]at hw;have hk:=zcX ts;have hl:=(List.getElem?_eq_some_iff.mp h1).1;have hm:=zcc (List.mem_of_getElem? h1);obtain⟨r,rfl⟩:∃r',r=r'+1:=⟨r - 1,by omega⟩
  rw [zby];walk_at "wp";rw [zif];simp only[List.isEmpty_cons,Bool.false_eq_true,if_false];have ep:zaH ((j:Int)::p)= .tup (.int j::p.map W.int):=rfl;simp only[ep,enc];walk_at "wp";rw [show((j:Int)+1)=((j+1:Nat):Int) by omega,zbk,List.getElem?_cons_succ,zaA,List.getElem?_map,h1]
  dsimp only[Option.map];rw [show((j+1:Nat):Int)+1=((j+2:Nat):Int) by omega,zfl,zfu]
  refine⟨Nat.zero_le _,zkZ p (r:=r) h2 (by omega) (by omega) (by omega) ?_⟩;simp only[List.take_succ_cons,List.drop_succ_cons,←zaA,zkg,zkM];walk_at "wp";simp only[zbe,List.length_take,List.length_drop];refine⟨zah (by decide),zah (by omega),zah (by simp only[List.length_append,zbe,List.length_take,List.length_cons,List.length_nil,List.length_drop];omega),S, .refl,?_⟩;have e:enc (.nd s (ts.set j (w.put p u)))= .tup (.str s::(zaJ (ts.take j)++[enc (w.put p u)]++zaJ (ts.drop (j+1)))):=by
   simp only[enc];rw [List.set_eq_take_append_cons_drop,if_pos hl,zeA];simp [zaJ]
  rw [e]at q;simpa using q
mutual
noncomputable def Tr.same:Tr→Tr→Bool
 | .bl n, .bl m=>n == m
 | .nd s ts, .nd z us=>s == z&&zdW ts us
 |_,_=>false
noncomputable def zdW:List Tr→List Tr→Bool
 | [],[]=>true
 |t::ts,u::us=>t.same u&&zdW ts us
 |_,_=>false
end
mutual
theorem ziK:∀(t u:Tr),t.same u=true↔t=u
 | .bl n, .bl m=>by simp [Tr.same]
 | .nd s ts, .nd z us=>by simp [Tr.same,zgk ts us]
 | .bl n, .nd z us=>by simp [Tr.same]
 | .nd s ts, .bl m=>by simp [Tr.same]
theorem zgk:∀(ts us:List Tr),zdW ts us=true↔ts=us
 | [],[]=>by simp [zdW]
 |t::ts,u::us=>by simp [zdW,ziK t u,zgk ts us]
 | [],u::us=>by simp [zdW]
 |t::ts,[]=>by simp [zdW]
end
theorem zkd (t:Tr):t.same t=true:=(ziK t t).mpr rfl
theorem znu{S:Sto}{n:Nat}{xs ys:List W}:eqF S (n+1) (.tup xs) (.tup ys)=zdK (eqF S n) xs ys:=Eq.trans (b:=zdK (eqF S n) xs ys) rfl rfl
theorem zqR{S:Sto}{n:Nat}{x y:Str}:eqF S (n+1) (.str x) (.str y)=some (x == y):=Eq.trans (b:=some (x == y)) rfl rfl
theorem znF{S:Sto}{n:Nat}{x y:Int}:eqF S (n+1) (.int x) (.int y)=some (x == y):=Eq.trans (b:=some (x == y)) rfl rfl
theorem zrT{S:Sto}{n:Nat}{x:Int}{ys:List W}:eqF S (n+1) (.int x) (.tup ys)=some false:=Eq.trans (b:=some false) rfl rfl
theorem zrh{S:Sto}{n:Nat}{x:Int}{ys:List W}:eqF S (n+1) (.tup ys) (.int x)=some false:=Eq.trans (b:=some false) rfl rfl
mutual
theorem zre{S:Sto}:∀(n:Nat) (t u:Tr),t.depth<n→eqF S n (enc t) (enc u)=some (t.same u)
 |0,t,u,h=>by omega
 |n+1, .bl k, .bl m,h=>by simp only[enc,znF,Tr.same]
 |n+1, .nd s ts, .nd z us,h=>by
  simp only[Tr.depth]at h;obtain⟨n,rfl⟩:∃m,n=m+1:=⟨n - 1,by omega⟩
  simp only[enc,znu,zdK,zqR,Tr.same];rw [zng (n+1) ts us (by omega)]
 |n+1, .bl k, .nd z us,h=>by simp only[enc,zrT,Tr.same]
 |n+1, .nd s ts, .bl m,h=>by simp only[enc,zrh,Tr.same]
theorem zng{S:Sto}:∀(n:Nat) (ts us:List Tr),dts ts<n→zdK (eqF S n) (zaJ ts) (zaJ us)=some (zdW ts us)
 |n,[],[],h=>by simp only[zaJ,zdK,zdW]
 |n,[],u::us,h=>by simp only[zaJ,zdK,zdW]
 |n,t::ts,[],h=>by simp only[zaJ,zdK,zdW]
 |n,t::ts,u::us,h=>by
  simp only[dts]at h;simp only[zaJ,zdK,zdW,zre n t u (by omega),zng n ts us (by omega)]
end
theorem zgq (j:Int) (m:Nat):zjc j (m+1)= .int j::zjc (j+1) m:=by
 unfold zjc;rw [List.range_succ_eq_map,List.map_cons,List.map_map];congr 1
 ·simp
 ·apply List.map_congr_left;intro i _;simp only[Function.comp,W.int.injEq];omega
theorem zgU{α:Type}{xs:List α}{i:Int}(h0:0≤i) (h1:i<xs.length):∃x,atI xs i=some x∧x∈xs:=by
 have q:=zbk (xs:=xs) (n:=i.toNat);rw [Int.toNat_of_nonneg h0,List.getElem?_eq_getElem (by omega)]at q;exact⟨_,q,List.getElem_mem ..⟩
theorem zot{ss:List Str}{i:Int}(h0:0≤i) (h1:i<ss.length):∃x,atI (ss.map W.str) i=some (.str x)∧x∈ss:=by
 obtain⟨w,h,m⟩:=zgU (xs:=ss.map W.str) h0 (by simpa using h1);obtain⟨x,hx,rfl⟩:=List.mem_map.mp m;exact⟨x,h,hx⟩
theorem zlv{g:WG}{b:WS}{E:WX}{D:WEnds}(I:Nat→WSt→Sto→Prop) (n:Nat)
  (step:∀i,i<n→ ∀σ S (N:WSt→Sto→Prop),I i σ S→(∀σ' S' S'',Sub S'' S'→I (i+1) σ' S''→N σ' S')→g (.int i) σ S fun σ1 S1=>b E { D with nx:=N,ct:=N,bk:=D.nx } σ1 S1)
  (done:∀σ S,I n σ S→D.nx σ S) {σ:WSt}{S:Sto}(h:I 0 σ S):forL g b E D (fun _=>True) (zjc 0 n) σ S:=by
 refine zhC (fun ws σ S=>∃i,i≤n∧ws=zjc (i:Int) (n - i)∧I i σ S) ?_ ?_ _ _ _ ⟨0,Nat.zero_le _,rfl,h⟩
 ·rintro w ws σ S N ⟨i,hi,e,hI⟩ hN;obtain⟨m,hm⟩:∃m,n - i=m+1:=by
   rcases Nat.eq_zero_or_pos (n - i) with z |z
   ·rw [z]at e;cases e
   ·exact⟨n - i - 1,by omega⟩
  rw [hm,zgq]at e;cases e;exact step i (by omega) σ S N hI fun σ' S' S'' sb h'=>hN σ' S' S'' sb trivial ⟨i+1,by omega,by rw [show n - (i+1)=m by omega];push_cast;rfl,h'⟩
 ·rintro σ S ⟨i,hi,e,hI⟩;have:n - i=0:=by
   rcases Nat.eq_zero_or_pos (n - i) with z |z
   ·exact z
   ·obtain⟨m,hm⟩:∃m,n - i=m+1:=⟨n - i - 1,by omega⟩
    rw [hm,zgq]at e;cases e
  rw [show i=n by omega]at hI
  exact done σ S hI
theorem zjR:∀{ts:List Tr}{i:Nat}{v u:Tr},ts[i]? =some v→wts (ts.set i u)+v.weight=wts ts+u.weight
 | [],i,v,u,h=>by simp at h
 |t::ts,0,v,u,h=>by
  simp at h;subst h;rw [List.set_cons_zero,zbN,zbN];omega
 |t::ts,i+1,v,u,h=>by
  have:=zjR (ts:=ts) (i:=i) (v:=v) (u:=u) (by simpa using h);rw [List.set_cons_succ,zbN,zbN];omega
theorem zeZ:∀(p:List Int) {D u v:Tr},D.at p=some v→(D.put p u).weight+v.weight=D.weight+u.weight
 | [],D,u,v,h=>by rw [zgL]at h;cases h;rw [zcp];omega
 |i::p, .bl n,u,v,h=>by cases h
 |i::p, .nd s ts,u,v,h=>by
  obtain⟨w,h0,e1,e2⟩:=zgr h;rw [zcJ e1];have h1:=zeZ p (u:=u) e2;have h2:=zjR (u:=w.put p u) e1;simp only[Tr.weight];omega
mutual
theorem zeh{us:List Tr}{k:Nat}(hk:1≤k) (hu:∀u∈us,u.weight≤k):∀t:Tr,(t.fill us).weight≤t.weight*k
 | .bl n=>by
  simp only[Tr.fill,Tr.weight,Nat.one_mul];rw [List.getD_eq_getElem?_getD];cases e:us[n.toNat]? with
  |none=>simpa [Tr.weight]using hk
  |some u=>exact hu u (List.mem_of_getElem? e)
 | .nd s ts=>by
  have:=zdQ hk hu ts;simp only[Tr.fill,Tr.weight];rw [Nat.add_mul];omega
theorem zdQ{us:List Tr}{k:Nat}(hk:1≤k) (hu:∀u∈us,u.weight≤k):∀ts:List Tr,wts (fills us ts)≤wts ts*k
 | []=>by simp [fills,wts]
 |t::ts=>by
  have:=zeh hk hu t;have:=zdQ hk hu ts;simp only[fills,wts];rw [Nat.add_mul];omega
end
mutual
theorem zfd{us:List Tr}{k:Nat}(hk:1≤k) (hu:∀u∈us,u.depth≤k):∀t:Tr,(t.fill us).depth≤t.depth+k
 | .bl n=>by
  simp only[Tr.fill,Tr.depth];rw [List.getD_eq_getElem?_getD];cases e:us[n.toNat]? with
  |none=>simp [Tr.depth]
  |some u=>
   have:=hu u (List.mem_of_getElem? e);simp only[Option.getD_some];omega
 | .nd s ts=>by
  have:=zeE hk hu ts;simp only[Tr.fill,Tr.depth];omega
theorem zeE{us:List Tr}{k:Nat}(hk:1≤k) (hu:∀u∈us,u.depth≤k):∀ts:List Tr,dts (fills us ts)≤dts ts+k
 | []=>by simp [fills,dts]
 |t::ts=>by
  have:=zfd hk hu t;have:=zeE hk hu ts;simp only[fills,dts];omega
end
theorem zjs{k:Nat}:∀{ts:List Tr},(∀t∈ts,t.depth≤k)→dts ts≤k
 | [],_=>by simp [dts]
 |t::ts,h=>by
  have:=h t List.mem_cons_self;have:=zjs (ts:=ts) fun u hu=>h u (List.mem_cons_of_mem _ hu);simp only[dts];omega
theorem zbM{g:WG}{b:WS}{E:WX}{D:WEnds}{G:Sto→Prop}{w:W}{ws:List W}{σ:WSt}{S:Sto}(h:∀N:WSt→Sto→Prop,(∀σ S S',Sub S' S→G S'→forL g b E D G ws σ S'→N σ S)→g w σ S fun σ1 S1=>b E { D with nx:=N,ct:=N,bk:=D.nx } σ1 S1):forL g b E D G (w::ws) σ S:=h _ fun σ S S' a c d=>⟨S',a,c,d⟩
mutual
noncomputable def Tr.mt:Tr→Tr→Option (List Tr)
 | .bl _,t=>some [t]
 | .nd s ls, .nd z us=>if s == z&&ls.length == us.length then mts ls us else none
 | .nd _ _, .bl _=>none
noncomputable def mts:List Tr→List Tr→Option (List Tr)
 | [],_=>some []
 |_::_,[]=>some []
 |l::ls,u::us=>match l.mt u with
  |none=>none
  |some xs=>match mts ls us with
   |none=>none
   |some ys=>some (xs++ys)
end
mutual
theorem zno:∀(l t:Tr) (ys:List Tr),l.mt t=some ys→ys.length≤l.weight
 | .bl _,t,ys,h=>by simp only[Tr.mt,Option.some.injEq]at h;subst h;simp [Tr.weight]
 | .nd s ls, .nd z us,ys,h=>by
  simp only[Tr.mt]at h;split at h
  ·have:=zla ls us ys h;simp only[Tr.weight];omega
  ·cases h
 | .nd _ _, .bl _,ys,h=>by simp [Tr.mt]at h
theorem zla:∀(ls us ys:List Tr),mts ls us=some ys→ys.length≤wts ls
 | [],us,ys,h=>by simp only[mts,Option.some.injEq]at h;subst h;simp
 |l::ls,[],ys,h=>by simp only[mts,Option.some.injEq]at h;subst h;simp
 |l::ls,u::us,ys,h=>by
  simp only[mts]at h;split at h
  ·cases h
  ·rename_i xs e1;split at h
   ·cases h
   ·rename_i zs e2;cases h;have:=zno l u xs e1;have:=zla ls us zs e2;simp only[List.length_append,wts];omega
end
noncomputable def znH (c:Nat):Bool:=decide (97≤c)&&decide (c≤122)
noncomputable def zpb (xs:List Nat):Bool:=xs.all znH
theorem ziJ (x:Str):(Txt.slice x (some 1) none).cps.toList=x.cps.toList.drop 1:=by
 rw [zlB];unfold zrX;rw [HT.sIx_none];have ez:HT.sIx x.cps.toList.length 0 (some 1)=min 1 x.cps.toList.length:=HT.sIx_nat x.cps.toList.length 0 1;rw [ez];by_cases h:1≤x.cps.toList.length
 ·rw [Nat.min_eq_left h,List.take_of_length_le (by rw [List.length_drop];exact Nat.le_refl _)]
 ·have:x.cps.toList=[]:=List.eq_nil_of_length_eq_zero (by omega);rw [this];rfl
theorem zhB (x:Str):x.length=x.cps.toList.length:=by simp [Str.length]
theorem zlf{t:Tr}{x:List Int×Tr}(h:x∈t.plt []):t.at x.1=some x.2∧x.1.length<t.depth:=by
 obtain⟨q,h3,h4,h5⟩:=zgj t [] x.1 x.2 h;simp at h3;subst h3;exact⟨h4,h5⟩
theorem zdZ{α:Type}{g:WG}{b:WS}{E:WX}{D:WEnds}{G:Sto→Prop}{S:Sto}(hG:G S) (I:WSt→Prop) (key:α→W) (f:α→Option W):∀(xs:List α) (σ:WSt),I σ→
  (∀x∈xs,∀σ (N:WSt→Sto→Prop),I σ→(f x=none→ ∀σ' S',I σ'→Sub S S'→N σ' S')→(∀w,f x=some w→ ∀S',Sub S S'→D.rt w S')→g (key x) σ S fun σ1 S1=>b E { D with nx:=N,ct:=N,bk:=D.nx } σ1 S1)→
  (xs.findSome? f=none→ ∀σ,I σ→D.nx σ S)→(∀w,xs.findSome? f=some w→ ∀S',Sub S S'→D.rt w S')→forL g b E D G (xs.map key) σ S
 | [],σ,hI,step,done,ret=>by
  have:=done rfl σ hI;simpa [forL]using this
 |x::xs,σ,hI,step,done,ret=>by
  rw [List.map_cons];refine zbM fun N hN=>?_;refine step x List.mem_cons_self σ N hI (fun e σ' S' hI' sb=>?_) fun w e S' sb=>ret w (by rw [List.findSome?_cons,e]) S' sb;refine hN _ _ S sb hG (zdZ hG I key f xs σ' hI' (fun y hy=>step y (List.mem_cons_of_mem _ hy)) (fun e2=>done (by rw [List.findSome?_cons,e];exact e2)) fun w e2=>ret w (by rw [List.findSome?_cons,e];exact e2))
noncomputable abbrev Tn:=Str×Tr×Tr
noncomputable def zbj (t:Tn):W:= .tup [.str t.1,enc t.2.1,enc t.2.2]
noncomputable def Tn0:Tn:=("", .bl 0, .bl 0)
noncomputable def lf (ts:List Tn) (j:Nat):Tr:=(ts.getD j Tn0).2.1
theorem zeT (n:Nat):zjc 0 n=(List.range n).map fun(i:Nat)=>W.int i:=by
 unfold zjc;apply List.map_congr_left;intro i _;simp
theorem zdq{ns:List Int}{k:Int}{r:Nat}{S:Sto}{Q:WK}{E:Str→Sto→Prop}(h0:0≤k) (h:∀n:Int,Q (.int n) S):zaL (r+1) [.scr ns, .int k] S Q E:=by
 rw [zaL];walk_at "wp";split
 ·obtain⟨x,e,_⟩:=zgU (xs:=ns) (i:=k) h0 (by omega);rw [e];exact⟨S, .refl,h _⟩
 ·exact⟨S, .refl,h _⟩
noncomputable def lt (rs:List Int) (pos:Int) (k j:Nat):Nat:=97+((rs.getD j 0+(k:Int)*(if(0+(j:Int) == pos)=true then 1 else 0)) % 26).toNat
noncomputable def zdF (rs:List Int) (pos:Int) (k:Nat):List Nat:=(List.range rs.length).map (lt rs pos k)
noncomputable def wd0 (rs:List Int) (pos:Int) (k:Nat):Str:=Str.join (Str.ofString "") ((zdF rs pos k).map fun c=>(⟨#[c]⟩:Str))
noncomputable def wd1 (rs:List Int) (pos:Int) (k:Nat):Str:=Txt.upper ⟨#[lt rs pos k 0]⟩++Txt.slice (wd0 rs pos k) (some 1) none
noncomputable def wd (great:Bool) (rs:List Int) (pos:Int) (k:Nat):Str:=if great then wd1 rs pos k else wd0 rs pos k
theorem zfi (rs:List Int) (pos:Int) (k j:Nat):Low (lt rs pos k j):=by
 have h0:=Int.emod_nonneg (rs.getD j 0+(k:Int)*(if(0+(j:Int) == pos)=true then 1 else 0)) (show(26:Int)≠0 by decide)
 have h1:=Int.emod_lt_of_pos (rs.getD j 0+(k:Int)*(if(0+(j:Int) == pos)=true then 1 else 0)) (show(0:Int)<26 by decide)
 unfold lt Low;omega
theorem zrv{n:Int}(h0:0≤n) (h1:n<26):atI (Str.ofString "abcdefghijklmnopqrstuvwxyz").cps.toList n=some (97+n.toNat):=by
 have e:=zbk (xs:=(Str.ofString "abcdefghijklmnopqrstuvwxyz").cps.toList) (n:=n.toNat);rw [Int.toNat_of_nonneg h0]at e;rw [e,zoe,List.getElem?_range' (by omega)];simp
theorem zdX (rs:List Int) (pos:Int) (k:Nat):(wd0 rs pos k).cps.toList=zdF rs pos k:=zgu _
theorem zew (rs:List Int) (pos:Int) (k:Nat):(zdF rs pos k).length=rs.length:=by simp [zdF]
theorem zgG{rs:List Int}{pos:Int}{k c:Nat}(h:c∈zdF rs pos k):Low c:=by
 obtain⟨j,_,rfl⟩:=List.mem_map.mp h;exact zfi rs pos k j
theorem zja{rs:List Int}(pos:Int) (k:Nat) (h:1≤rs.length):zdF rs pos k=lt rs pos k 0::(zdF rs pos k).drop 1:=by
 unfold zdF;obtain⟨n,hn⟩:∃n,rs.length=n+1:=⟨rs.length - 1,by omega⟩
 rw [hn,List.range_succ_eq_map];simp
theorem zgR{c:Nat}(h:Low c):Txt.upper ⟨#[c]⟩=⟨#[c - 32]⟩:=by
 unfold Low at h;rw [PySem.W.KOpn.upper_one (by omega),if_pos h]
theorem zhT{rs:List Int}(pos:Int) (k:Nat):(wd1 rs pos k).cps.toList=(lt rs pos k 0 - 32)::(zdF rs pos k).drop 1:=by
 unfold wd1;rw [zgR (zfi _ _ _ _)];show((#[lt rs pos k 0 - 32]:Array Nat)++(Txt.slice (wd0 rs pos k) (some 1) none).cps).toList=_;rw [Array.toList_append,ziJ,zdX];rfl
structure Base (rs:List Int) (pos:Int):Prop where
  l1:1≤rs.length
  l8:rs.length≤8
  p0:0≤pos
  p1:pos<rs.length
theorem zib{rs:List Int}{pos:Int}(b:Base rs pos) (k:Nat):zdt (wd0 rs pos k):=by
 unfold zdt;rw [zdX,zew];exact⟨b.l1,b.l8,fun c hc=>zgG hc⟩
theorem zjz{rs:List Int}{pos:Int}(b:Base rs pos) (k:Nat):zdv (wd1 rs pos k):=by
 have:=zfi rs pos k 0;have hl:=b.l8;unfold Low at this;refine⟨_,_,zhT pos k,by omega,by omega,by rw [List.length_drop,zew];omega,fun d hd=>zgG (List.mem_of_mem_drop hd)⟩
theorem zsd{rs:List Int}{pos:Int}(b:Base rs pos) {k m:Nat}(hk:k<26) (hm:m<26) (h:k≠m):lt rs pos k pos.toNat≠lt rs pos m pos.toNat:=by
 have p0:=b.p0;have e:(0+((pos.toNat:Nat):Int) == pos)=true:=by rw [beq_iff_eq];omega
 unfold lt;rw [e,if_pos rfl];omega
theorem zqH{great:Bool}{rs:List Int}{pos:Int}(b:Base rs pos) {k m:Nat}(hk:k<26) (hm:m<26) (h:k≠m):wd great rs pos k≠wd great rs pos m:=by
 have hn:=zsd b hk hm h;have p0:=b.p0;have p1:=b.p1;intro e;have e':=congrArg (fun x:Str=>x.cps.toList) e;cases great with
 |false=>
  simp only[wd,Bool.false_eq_true,if_false,zdX]at e';have e2:=congrArg (fun l=>l[pos.toNat]?) e';simp only[zdF,List.getElem?_map,List.getElem?_range (show pos.toNat<rs.length by omega),Option.map_some,Option.some.injEq]at e2
  exact hn e2
 |true=>
  simp only[wd,if_true,zhT]at e';have e2:=congrArg (fun l=>l[pos.toNat]?) e';cases hp:pos.toNat with
  |zero=>
   rw [hp]at hn;have h1:=zfi rs pos k 0;have h2:=zfi rs pos m 0;unfold Low at h1 h2;simp only[hp,List.getElem?_cons_zero,Option.some.injEq]at e2;omega
  |succ n=>
   rw [hp]at hn;simp only[hp,List.getElem?_cons_succ,List.getElem?_drop,zdF,List.getElem?_map]at e2;rw [show 1+n=n+1 by omega,List.getElem?_range (show n+1<rs.length by omega)]at e2
   simp only[Option.map_some,Option.some.injEq]at e2;exact hn e2
noncomputable def zhy (great:Bool) (ws:List Str):Prop:=∃rs pos,Base rs pos∧(ws=(List.range 6).map (wd great rs pos)∨(great=false∧ws=[wd0 rs pos 0,wd0 rs pos 1,wd0 rs pos 2,wd0 rs pos 2,wd0 rs pos 2,wd0 rs pos 5]))
structure Signs (w0 w1 w2 w3 w4 w5:Str):Prop where
  ok:∀x∈ [w0,w1,w2,w3,w4,w5],zdt x
  n0:∀x∈ [w1,w2,w3,w4,w5],w0≠x
  n1:∀x∈ [w2,w3,w4,w5],w1≠x
  n5:∀x∈ [w2,w3,w4],w5≠x
theorem zhN{ws:List Str}(h:zhy false ws):∃w0 w1 w2 w3 w4 w5,ws=[w0,w1,w2,w3,w4,w5]∧Signs w0 w1 w2 w3 w4 w5:=by
 obtain⟨rs,pos,b,h⟩:=h;have hs:=fun k=>zib b k;have hn:∀k m:Nat,k<26→m<26→k≠m→wd0 rs pos k≠wd0 rs pos m:=fun k m h1 h2 h3=>zqH (great:=false) b h1 h2 h3;rcases h with rfl |⟨_,rfl⟩
 ·refine⟨_,_,_,_,_,_,rfl,⟨?_,?_,?_,?_⟩⟩
  ·simp only[List.mem_cons,List.not_mem_nil,or_false,forall_eq_or_imp,forall_eq];exact⟨hs 0,hs 1,hs 2,hs 3,hs 4,hs 5⟩
  ·simp only[List.mem_cons,List.not_mem_nil,or_false,forall_eq_or_imp,forall_eq];exact⟨hn 0 1 (by decide) (by decide) (by decide),hn 0 2 (by decide) (by decide) (by decide),hn 0 3 (by decide) (by decide) (by decide),hn 0 4 (by decide) (by decide) (by decide),hn 0 5 (by decide) (by decide) (by decide)⟩
  ·simp only[List.mem_cons,List.not_mem_nil,or_false,forall_eq_or_imp,forall_eq];exact⟨hn 1 2 (by decide) (by decide) (by decide),hn 1 3 (by decide) (by decide) (by decide),hn 1 4 (by decide) (by decide) (by decide),hn 1 5 (by decide) (by decide) (by decide)⟩
  ·simp only[List.mem_cons,List.not_mem_nil,or_false,forall_eq_or_imp,forall_eq];exact⟨hn 5 2 (by decide) (by decide) (by decide),hn 5 3 (by decide) (by decide) (by decide),hn 5 4 (by decide) (by decide) (by decide)⟩
 ·refine⟨_,_,_,_,_,_,rfl,⟨?_,?_,?_,?_⟩⟩
  ·simp only[List.mem_cons,List.not_mem_nil,or_false,forall_eq_or_imp,forall_eq];exact⟨hs 0,hs 1,hs 2,hs 2,hs 2,hs 5⟩
  ·simp only[List.mem_cons,List.not_mem_nil,or_false,forall_eq_or_imp,forall_eq];exact⟨hn 0 1 (by decide) (by decide) (by decide),hn 0 2 (by decide) (by decide) (by decide),hn 0 2 (by decide) (by decide) (by decide),hn 0 2 (by decide) (by decide) (by decide),hn 0 5 (by decide) (by decide) (by decide)⟩
  ·simp only[List.mem_cons,List.not_mem_nil,or_false,forall_eq_or_imp,forall_eq];exact⟨hn 1 2 (by decide) (by decide) (by decide),hn 1 2 (by decide) (by decide) (by decide),hn 1 2 (by decide) (by decide) (by decide),hn 1 5 (by decide) (by decide) (by decide)⟩
  ·simp only[List.mem_cons,List.not_mem_nil,or_false,forall_eq_or_imp,forall_eq];exact⟨hn 5 2 (by decide) (by decide) (by decide),hn 5 2 (by decide) (by decide) (by decide),hn 5 2 (by decide) (by decide) (by decide)⟩
structure Titles (ts:List Str):Prop where
  len:ts.length=6
  ok:∀x∈ts,zdv x
  nd:ts.Nodup
theorem zdT{ws:List Str}(h:zhy true ws):Titles ws:=by
 obtain⟨rs,pos,b,h⟩:=h;rcases h with rfl |⟨e,_⟩
 ·refine⟨by simp,fun x hx=>?_,?_⟩
  ·obtain⟨k,_,rfl⟩:=List.mem_map.mp hx;exact zjz b k
  ·rw [List.Nodup,List.pairwise_map];refine List.Pairwise.imp_of_mem (fun {a c} ha hc hne=>?_) (List.nodup_range (n:=6));have ha:=List.mem_range.mp ha;have hc:=List.mem_range.mp hc;exact zqH b (by omega) (by omega) hne
 ·cases e
theorem zfW:∀(ws:List W) {rs:List Int}{sp:Int}{a:Addr}{r:Nat}{S:Sto}{E:WX}{D:WEnds}{x0 x1 x2 x3 x6 x7 x8 x9:Option W},S a=some (.lst (rs.map W.int))→rs.length+ws.length≤1000→
  (∀(rs':List Int) sp' x6',rs'.length=rs.length+ws.length→D.nx [x0,x1,x2,x3,some (.int sp'),some (.ref a),x6',x7,x8,x9] (put S a (.lst (rs'.map W.int))))→
  forL (wGN 6) (zcq r zbw) E D (fun _=>True) ws [x0,x1,x2,x3,some (.int sp),some (.ref a),x6,x7,x8,x9] S
 | [],rs,sp,a,r,S,E,D,x0,x1,x2,x3,x6,x7,x8,x9,ha,hl,h=>by
  simp only[forL];have:=h rs sp x6 (by simp);rw [zgp ha]at this;exact this
 |w::ws,rs,sp,a,r,S,E,D,x0,x1,x2,x3,x6,x7,x8,x9,ha,hl,h=>by
  simp only[forL,zcq];walk_at "wp";simp only[List.length_cons]at hl h;simp only[zaj ha,true_and];refine⟨by decide,zcY (by simp;omega),⟨by decide,by decide⟩,_, .refl,?_⟩
  refine zfW (r:=r) ws (rs:=rs++[sp % 26]) (by rw [zag];simp) (by simp;omega) fun rs' sp' x6' h1=>?_;rw [zbt];exact h rs' sp' x6' (by simp at h1;omega)
theorem zrK{c:Prop} [Decidable c] {a b:Prop}(h1:c→a) (h2:¬c→b):if c then a else b:=by split<;>simp_all
theorem zqO{A T:WS}{E:WX}{D:WEnds}{σ:WSt}{S:Sto}(h:∀T',T'=T→zaC A T' E D σ S):zaC A T E D σ S:=h T rfl
theorem zhZ{one two:Int}{great:Bool}{r:Nat}{S:Sto}{Q:WK}{E:Str→Sto→Prop}(h:∀(a:Addr) (ws:List Str),S a=none→zhy great ws→Q (.ref a) (put S a (.lst (ws.map W.str)))):zbn (r+1) [.int one, .int two, .bl great] S Q E:=by
 rw [zbn];walk_at "wp";have o0:0≤one % 8:=Int.emod_nonneg _ (by decide);have o1:one % 8<8:=Int.emod_lt_of_pos _ (by decide);refine⟨⟨by decide,by decide,by decide⟩,by decide,Nat.zero_le _,fun a ha=>⟨by decide,⟨by omega,by omega⟩,?_⟩⟩
 refine zfW _ (rs:=[]) zag (by simp [zix];omega) fun rs sp x6 hl=>?_;rw [zbt];simp only[List.length_nil,zix,Nat.zero_add]at hl;have hl':(rs.length:Int)=1+one % 8:=by rw [hl];omega
 have p0:0≤one / 8 % (rs.length:Int):=Int.emod_nonneg _ (by omega);have p1:one / 8 % (rs.length:Int)<(rs.length:Int):=Int.emod_lt_of_pos _ (by omega);have B:Base rs (one / 8 % (rs.length:Int)):=⟨by omega,by omega,p0,p1⟩
 walk_at "wp";simp only[List.length_map];refine⟨⟨by decide,by decide⟩,by omega,Nat.zero_le _,fun b hb=>⟨⟨by decide,by decide⟩,?_⟩⟩
 obtain⟨hb1,hb2⟩:=zdz hb;generalize hpos:one / 8 % (rs.length:Int)=pos at B p0 p1⊢;refine zlv (fun i σ S'=>∃x6 x9,S'=put (put S a (.lst (rs.map W.int))) b (.lst (((List.range i).map (wd great rs pos)).map W.str))∧σ=[some (.int one),some (.int two),some (.bl great),some (.str (Str.ofString "abcdefghijklmnopqrstuvwxyz")),some (.int sp),some (.ref a),x6,some (.int pos),some (.ref b),x9]) 6 ?_ ?_ ⟨x6,none,rfl,rfl⟩
 ·rintro k hk σ S' N ⟨x6,x9,rfl,rfl⟩ hN;have ea:put (put S a (Ob.lst (rs.map W.int))) b (Ob.lst (((List.range k).map (wd great rs pos)).map W.str)) a=some (.lst (rs.map W.int)):=by rw [zaX (Ne.symm hb2),zag]
  simp only[zdm];walk_at "wp";rw [zaj ea];simp only[List.length_map];refine⟨⟨by omega,by omega⟩,?_⟩
  rw [Int.toNat_natCast];refine zbh (fun σ=>∃x,σ=[x,some (.str (Str.ofString "abcdefghijklmnopqrstuvwxyz")),some (.ref a),some (.int (k:Int)),some (.int pos)]) (fun i:Nat=>W.int (0+(i:Int))) (fun i=>W.str ⟨#[lt rs pos k i]⟩) trivial (List.range rs.length) [] _ ⟨none,rfl⟩ (by simp;omega) (fun i hi σ R hI hR=>?_) ?_
  ·obtain⟨x,rfl⟩:=hI;have hi:=List.mem_range.mp hi;simp only[zdh];walk_at "wp";have e:=zbk (xs:=rs.map W.int) (n:=i);rw [show(i:Int)=0+(i:Int) by omega,List.getElem?_map,List.getElem?_eq_getElem hi]at e
   rw [zaj ea,e];dsimp only[Option.map];walk_at "wp";have ec:=zrv (n:=(rs[i]+(k:Int)*(if(0+(i:Int) == pos)=true then 1 else 0)) % 26) (Int.emod_nonneg _ (by decide)) (Int.emod_lt_of_pos _ (by decide));rw [ec];have el:lt rs pos k i=97+((rs[i]+(k:Int)*(if(0+(i:Int) == pos)=true then 1 else 0)) % 26).toNat:=by
    unfold lt;rw [List.getD_eq_getElem?_getD,List.getElem?_eq_getElem hi];rfl
   rw [←el];exact⟨.inl ⟨by omega,by omega⟩,by decide,zah (by rw [zpR];decide),hR _ _ ⟨_,rfl⟩ .refl⟩
  ·have es:(List.range rs.length).map (fun i=>W.str ⟨#[lt rs pos k i]⟩)=(zdF rs pos k).map fun c=>W.str ⟨#[c]⟩:=by
    unfold zdF;rw [List.map_map];rfl
   have hw:=zib B k;rw [List.nil_append,es,zeo];refine⟨zjI _ (by rw [zew];omega),?_⟩;show _;have ew:Str.join (Str.ofString "") ((zdF rs pos k).map fun c=>(⟨#[c]⟩:Str))=wd0 rs pos k:=rfl;rw [ew];have hl8:(wd0 rs pos k).length≤8:=by rw [zhB];exact hw.2.1
   have fin:∀z:Str,z=wd great rs pos k→ ∀x9:Option W,N [some (.int one),some (.int two),some (.bl great),some (.str (Str.ofString "abcdefghijklmnopqrstuvwxyz")),some (.int sp),some (.ref a),some (.int (k:Int)),some (.int pos),some (.ref b),x9] (put (put S a (.lst (rs.map W.int))) b (.lst (((List.range k).map (wd great rs pos)).map W.str++[.str z]))):=fun z hz x9=>by
    subst hz;refine hN _ _ _ .refl ⟨_,_,?_,rfl⟩;rw [List.range_succ,List.map_append,List.map_append];rfl
   have hxl:(((List.range k).map (wd great rs pos)).map W.str).length<sizeLine:=zcY (by simp;omega);cases great with
   |false=>
    try walk_at "wp"
    try simp only[zbD,zbt,true_and]
    exact⟨hxl,fin _ rfl _⟩
   |true=>
    walk_at "wp";rw [zdX,zja pos k B.l1,zfq];dsimp only
    try walk_at "wp"
    try simp only[zbD,zbt,true_and]
    refine⟨zah (by omega),?_⟩;have h1:(⟨#[lt rs pos k 0]⟩:Str).length=1:=rfl;have h2:(Txt.upper ⟨#[lt rs pos k 0]⟩).length=1:=by rw [zgR (zfi _ _ _ _)];rfl
    have h3:(Txt.slice (wd0 rs pos k) (some 1) none).length≤8:=by
     rw [zhB,ziJ,List.length_drop,←zhB];omega
    exact⟨by omega,zah (by omega),zah (by omega),hxl,fin _ rfl _⟩
 ·rintro σ S' ⟨x6,x9,rfl,rfl⟩;have eb:put (put S a (Ob.lst (rs.map W.int))) b (Ob.lst (((List.range 6).map (wd great rs pos)).map W.str)) b=some (.lst (((List.range 6).map (wd great rs pos)).map W.str)):=zag;walk_at "wp";cases great with
  |true=>
   walk_at "wp";refine⟨⟨by decide,by decide⟩,by decide,?_⟩
   split
   ·exact⟨_, .put2 (.put .refl ha),h b _ hb1 ⟨rs,pos,B, .inl rfl⟩⟩
   ·exact⟨_, .put2 (.put .refl ha),h b _ hb1 ⟨rs,pos,B, .inl rfl⟩⟩
  |false=>
   walk_at "wp";refine⟨⟨by decide,by decide⟩,by decide,?_⟩
   split
   ·have e6:((List.range 6).map (wd false rs pos)).map W.str=[.str (wd0 rs pos 0), .str (wd0 rs pos 1), .str (wd0 rs pos 2), .str (wd0 rs pos 3), .str (wd0 rs pos 4), .str (wd0 rs pos 5)]:=rfl;simp only[e6]
    try walk_at "wp"
    have c3:zdg [W.str (wd0 rs pos 0), .str (wd0 rs pos 1), .str (wd0 rs pos 2), .str (wd0 rs pos 3), .str (wd0 rs pos 4), .str (wd0 rs pos 5)] none (some 3)=[.str (wd0 rs pos 0), .str (wd0 rs pos 1), .str (wd0 rs pos 2)]:=rfl;have a2:atI [W.str (wd0 rs pos 0), .str (wd0 rs pos 1), .str (wd0 rs pos 2), .str (wd0 rs pos 3), .str (wd0 rs pos 4), .str (wd0 rs pos 5)] 2=some (.str (wd0 rs pos 2)):=rfl;have a5:atI [W.str (wd0 rs pos 0), .str (wd0 rs pos 1), .str (wd0 rs pos 2), .str (wd0 rs pos 3), .str (wd0 rs pos 4), .str (wd0 rs pos 5)] 5=some (.str (wd0 rs pos 5)):=rfl;simp only[c3,a2,a5]
    try walk_at "wp"
    refine⟨zah (by decide),zah (by decide),fun c hc=>?_⟩;obtain⟨hc1,hc2⟩:=zdz hc;obtain⟨hc1,hc3⟩:=zdz hc1;exact⟨_, .put2 (.put (.put .refl ha) hb1),h c _ hc1 ⟨rs,pos,B, .inr ⟨rfl,rfl⟩⟩⟩
   ·exact⟨_, .put2 (.put .refl ha),h b _ hb1 ⟨rs,pos,B, .inl rfl⟩⟩
mutual
noncomputable def Tr.nb:Tr→Nat
 | .bl _=>1
 | .nd _ ts=>nbs ts
noncomputable def nbs:List Tr→Nat
 | []=>0
 |t::ts=>t.nb+nbs ts
end
theorem zju:∀ts:List Tr,(ts.map fun t=>(t.nb:Int)).sum=(nbs ts:Int)
 | []=>by simp [nbs]
 |t::ts=>by
  rw [List.map_cons,List.sum_cons,zju ts,nbs];omega
theorem zol (ts:List Tr):zcT (ts.map fun t=>W.int (t.nb:Int))=some (ts.map fun t=>(t.nb:Int)):=by
 have:=zeY (ts.map fun t=>(t.nb:Int));rw [List.map_map]at this;exact this
theorem zfS:∀(d:Nat) {t:Tr}{r:Nat}{S:Sto}{Q:WK}{E:Str→Sto→Prop},t.depth≤d→d≤r+1→t.weight≤90000→Q (.int t.nb) S→zav (r+1) [enc t] S Q E
 |0,t,r,S,Q,E,hd,hr,hw,h=>by have:=zbr t;omega
 |d+1, .bl n,r,S,Q,E,hd,hr,hw,h=>by
  rw [zav];simp only[enc];walk_at "wp";simp only[Tr.nb]at h;exact⟨S, .refl,h⟩
 |d+1, .nd s ts,r,S,Q,E,hd,hr,hw,h=>by
  simp only[Tr.depth]at hd;simp only[Tr.weight]at hw;have hk:=zcX ts;rw [zav];simp only[enc];walk_at "wp";rw [zaA];refine zbh (fun σ=>∃x,σ=[x]) enc (fun t=> .int (t.nb:Int)) trivial ts [] _ ⟨none,rfl⟩ (by simp;omega) (fun x hx σ R hI hR=>?_) ?_
  ·obtain⟨y,rfl⟩:=hI;have hdx:=zcH hx;have hwx:=zcc hx;have:=zbr x;obtain⟨r,rfl⟩:∃r',r=r'+1:=⟨r - 1,by omega⟩
   simp only[zcn];walk_at "wp";exact zfS d (t:=x) (r:=r) (by omega) (by omega) (by omega) (hR _ _ ⟨_,rfl⟩ .refl)
  ·rw [List.nil_append,zol];dsimp only;rw [zju];simp only[Tr.nb]at h;exact⟨S, .refl,h⟩
theorem zie{w:W}{ws:List W}:zdg (w::ws) none (some 1)=[w]:=by
 rw [show(1:Int)=((1:Nat):Int) from rfl,zfl];rfl
theorem zdb{us:List Tr}{a:Addr}:∀(d:Nat) {t:Tr}{r:Nat}{S:Sto}{Q:WK}{E:Str→Sto→Prop},t.depth≤d→d≤r+1→S a=some (.lst (zaJ us))→t.fits us.length→t.weight≤90000→Q (enc (t.fill us)) S→zaI (r+1) [enc t, .ref a] S Q E
 |0,t,r,S,Q,E,hd,hr,ha,hf,hw,h=>by have:=zbr t;omega
 |d+1, .bl n,r,S,Q,E,hd,hr,ha,hf,hw,h=>by
  simp only[Tr.fits]at hf;simp only[Tr.fill]at h;rw [zaI];simp only[enc];walk_at "wp";have e:atI (zaJ us) n=some (enc (us.getD n.toNat (.bl n))):=by
   have q:=zbk (xs:=zaJ us) (n:=n.toNat);rw [Int.toNat_of_nonneg hf.1]at q;rw [q,zaA,List.getElem?_map,List.getD_eq_getElem?_getD,List.getElem?_eq_getElem (by omega)];rfl
  rw [zaj ha,e];exact⟨S, .refl,h⟩
 |d+1, .nd s ts,r,S,Q,E,hd,hr,ha,hf,hw,h=>by
  simp only[Tr.fits]at hf;simp only[Tr.fill]at h;simp only[Tr.depth]at hd;simp only[Tr.weight]at hw;have hk:=zcX ts;rw [zaI];simp only[enc]at h⊢;walk_at "wp";rw [zie];rw [zaA];refine zbh (fun σ=>∃x,σ=[x,some (.ref a)]) enc (fun t=>enc (t.fill us)) trivial ts [] _ ⟨none,rfl⟩ (by simp;omega) (fun x hx σ R hI hR=>?_) ?_
  ·obtain⟨y,rfl⟩:=hI;have hdx:=zcH hx;have hwx:=zcc hx;have:=zbr x;obtain⟨r,rfl⟩:∃r',r=r'+1:=⟨r - 1,by omega⟩
   simp only[zcQ];walk_at "wp";exact zdb d (t:=x) (r:=r) (by omega) (by omega) ha (zex hf hx) (by omega) (hR _ _ ⟨_,rfl⟩ .refl)
  ·rw [List.nil_append];walk_at "wp";refine⟨zah (by simp;omega),S, .refl,?_⟩;have e:zaJ (fills us ts)=ts.map fun t=>enc (t.fill us):=by rw [zaA,zgd,List.map_map];rfl
   rw [e]at h;exact h
noncomputable def leftsL (n:Nat) (h c d:Str):List Tr:=
 match n with
 |0=>[.nd h [.bl 0]]
 |1=>[.nd h [.bl 0, .bl 1]]
 |2=>[.nd h [.nd c []], .nd h [.nd d [.bl 0]]]
 |3=>[.nd h [.nd c [], .bl 0], .nd h [.nd d [.bl 0], .bl 1]]
 |4=>[.nd h [.nd d [.nd d [.bl 0]], .bl 1, .bl 2], .nd h [.nd d [.nd c []], .bl 0, .bl 1]]
 |_=>[.nd h []]
section
variable {w0 w1 w2 w3 w4 w5:Str}{r:Nat}{S:Sto}{Q:WK}{E:Str→Sto→Prop}
noncomputable abbrev six (w0 w1 w2 w3 w4 w5:Str):List W:=[.str w0, .str w1, .str w2, .str w3, .str w4, .str w5]
theorem zjl:atI (six w0 w1 w2 w3 w4 w5) 0=some (.str w0):=rfl
theorem zjg:atI (six w0 w1 w2 w3 w4 w5) 1=some (.str w1):=rfl
theorem six2:atI (six w0 w1 w2 w3 w4 w5) 2=some (.str w2):=rfl
theorem zij:atI (six w0 w1 w2 w3 w4 w5) 3=some (.str w3):=rfl
theorem six4:atI (six w0 w1 w2 w3 w4 w5) 4=some (.str w4):=rfl
theorem zik:atI (six w0 w1 w2 w3 w4 w5) 5=some (.str w5):=rfl
theorem zme{n:Int}{h c d:Str}(H:∀(p:Addr) (k:Nat),S p=none→Q (.ref p) (put S p (.lst (zaJ (leftsL k h c d))))):zbF (r+1) [.int n, .str h, .str c, .str d] S Q E:=by
 rw [zbF,zln];refine⟨rfl,?_⟩;have l1:1≤sizeLine:=zah (by decide);have l2:2≤sizeLine:=zah (by decide);have l3:3≤sizeLine:=zah (by decide);have l4:4≤sizeLine:=zah (by decide);refine zqO fun T hT=>?_;walk_at "wp";refine zrK (fun _=>⟨l2,l1,fun p hp=>⟨_, .refl,by simpa only[leftsL,enc,zaJ]using H p 0 hp⟩⟩) fun _=>?_
 subst hT;refine zqO fun T hT=>?_;walk_at "wp";refine zrK (fun _=>⟨l3,l1,fun p hp=>⟨_, .refl,by simpa only[leftsL,enc,zaJ]using H p 1 hp⟩⟩) fun _=>?_
 subst hT;refine zqO fun T hT=>?_;walk_at "wp";refine zrK (fun _=>⟨l1,l2,l2,l2,l2,fun p hp=>⟨_, .refl,by simpa only[leftsL,enc,zaJ]using H p 2 hp⟩⟩) fun _=>?_
 subst hT;refine zqO fun T hT=>?_;walk_at "wp";refine zrK (fun _=>⟨l1,l3,l2,l3,l2,fun p hp=>⟨_, .refl,by simpa only[leftsL,enc,zaJ]using H p 3 hp⟩⟩) fun _=>?_
 subst hT;refine zqO fun T hT=>?_;walk_at "wp";refine zrK (fun _=>⟨l2,l2,l4,l1,l2,l4,l2,fun p hp=>⟨_, .refl,by simpa only[leftsL,enc,zaJ]using H p 4 hp⟩⟩) fun _=>?_
 subst hT;walk_at "wp";exact⟨l1,l1,fun p hp=>⟨_, .refl,by simpa only[leftsL,enc,zaJ]using H p 5 hp⟩⟩
end
section
variable {w0 w1:Str}{j:Int}
theorem zdE (n:Nat) (h c d:Str):1≤(leftsL n h c d).length∧(leftsL n h c d).length≤2:=by
 unfold leftsL;split<;>simp
noncomputable def hdOf (w0 w1:Str) (j:Nat):Str:=if j=0 then w0 else w1
end
noncomputable def zoR (x:Str):Bool:=decide (1≤x.cps.toList.length)&&(decide (x.cps.toList.length≤8)&&zpb x.cps.toList)
theorem zkX (xs:List Nat):zpb xs=true↔ ∀c∈xs,Low c:=by
 unfold zpb;rw [List.all_eq_true];simp only[znH,Low,Bool.and_eq_true,decide_eq_true_eq]
theorem zgC (x:Str):zoR x=true↔zdt x:=by
 unfold zoR zdt;rw [Bool.and_eq_true,Bool.and_eq_true,decide_eq_true_eq,decide_eq_true_eq,zkX]
theorem zdM{x y:Str}(h:zdt x) (g:zdv y):x≠y:=by
 rintro rfl;obtain⟨c,r,e,h1,h2,_⟩:=g;have:=h.2.2 c (by rw [e];exact List.mem_cons_self);unfold Low at this;omega
mutual
noncomputable def Tr.hd (P:Str→Prop):Tr→Prop
 | .bl _=>False
 | .nd s ts=>P s∧hds P ts
noncomputable def hds (P:Str→Prop):List Tr→Prop
 | []=>True
 |t::ts=>t.hd P∧hds P ts
end
mutual
noncomputable def Tr.hb (P:Str→Prop):Tr→Prop
 | .bl _=>True
 | .nd s ts=>P s∧hbs P ts
noncomputable def hbs (P:Str→Prop):List Tr→Prop
 | []=>True
 |t::ts=>t.hb P∧hbs P ts
end
theorem hds_iff{P:Str→Prop}:∀{ts:List Tr},hds P ts↔ ∀t∈ts,t.hd P
 | []=>by simp [hds]
 |t::ts=>by simp [hds,hds_iff (ts:=ts)]
mutual
theorem zhu{P P':Str→Prop}(h:∀s,P s→P' s):∀(t:Tr),t.hb P→t.hb P'
 | .bl _,q=>by simp [Tr.hb]
 | .nd s ts,q=>by
  simp only[Tr.hb]at q⊢;exact⟨h s q.1,zhY h ts q.2⟩
theorem zhY{P P':Str→Prop}(h:∀s,P s→P' s):∀(ts:List Tr),hbs P ts→hbs P' ts
 | [],_=>by simp [hbs]
 |t::ts,q=>by
  simp only[hbs]at q⊢;exact⟨zhu h t q.1,zhY h ts q.2⟩
end
mutual
theorem zfJ{P:Str→Prop}{us:List Tr}(hu:∀u∈us,u.hd P):∀(t:Tr),t.hb P→t.fits us.length→(t.fill us).hd P
 | .bl n,h,f=>by
  simp only[Tr.fits]at f;simp only[Tr.fill];rw [List.getD_eq_getElem?_getD,List.getElem?_eq_getElem (show n.toNat<us.length by omega)]
  exact hu _ (List.getElem_mem ..)
 | .nd s ts,h,f=>by
  simp only[Tr.fits]at f;simp only[Tr.hb]at h;simp only[Tr.fill,Tr.hd];exact⟨h.1,ziq hu ts h.2 f⟩
theorem ziq{P:Str→Prop}{us:List Tr}(hu:∀u∈us,u.hd P):∀(ts:List Tr),hbs P ts→fitss us.length ts→hds P (fills us ts)
 | [],h,f=>by simp [fills,hds]
 |t::ts,h,f=>by
  simp only[fitss]at f;simp only[hbs]at h;simp only[fills,hds];exact⟨zfJ hu t h.1 f.1,ziq hu ts h.2 f.2⟩
end
structure RightW (ws:List Str) (m:Nat) (t:Tr):Prop where
  dp:t.depth≤4
  fits:t.fits m
  hb:∀{P:Str→Prop},(∀x∈ws,P x)→t.hb P
  wt:t.weight≤7
structure BookOk (w0 w1 w2 w3 w4 w5:Str) (tt:List Str) (B:List Tn):Prop where
  lf:∃n m:Nat,B.map (fun t=>t.2.1)=leftsL n w0 w2 w3++leftsL m w1 w2 w3
  ti:B.map (fun t=>t.1)=tt.take B.length
  ri:∀t∈B,RightW [w0,w1,w2,w3,w4,w5] t.2.1.nb t.2.2
structure LeftT (P:Str→Prop) (L:Tr):Prop where
  hb:L.hb P
  fits:L.fits L.nb
  wt:L.weight≤L.nb+3
  dp:L.depth≤4
  nb:L.nb≤3
  nd:∃s ts,L= .nd s ts
  fw:∀us:List Tr,us.length=L.nb→(L.fill us).weight≤3+wts us
  fw0:L.nb=0→(L.fill []).weight≤2
theorem ziE{P:Str→Prop}{n:Nat}{h c d:Str}(hh:P h) (hc:P c) (hd:P d):∀L∈leftsL n h c d,LeftT P L:=by
 unfold leftsL;intro L hL;split at hL<;>simp only[List.mem_cons,List.not_mem_nil,or_false]at hL
 all_goals first
  | (subst hL;exact⟨by simp [Tr.hb,hbs,hh,hc,hd],by simp [Tr.fits,fitss,Tr.nb,nbs],by simp [Tr.weight,wts,Tr.nb,nbs],by simp [Tr.depth,dts],by simp [Tr.nb,nbs],⟨_,_,rfl⟩,fun us hu=>by rcases us with _ |⟨u,_ |⟨v,_ |⟨x,_ |⟨y,us⟩⟩⟩⟩<;>simp [Tr.nb,nbs,Tr.fill,fills,Tr.weight,wts]at hu⊢ <;>omega,fun h0=>by simp [Tr.nb,nbs,Tr.fill,fills,Tr.weight,wts]at h0⊢⟩)
  | (rcases hL with rfl |rfl<;>exact⟨by simp [Tr.hb,hbs,hh,hc,hd],by simp [Tr.fits,fitss,Tr.nb,nbs],by simp [Tr.weight,wts,Tr.nb,nbs],by simp [Tr.depth,dts],by simp [Tr.nb,nbs],⟨_,_,rfl⟩,fun us hu=>by rcases us with _ |⟨u,_ |⟨v,_ |⟨x,_ |⟨y,us⟩⟩⟩⟩<;>simp [Tr.nb,nbs,Tr.fill,fills,Tr.weight,wts]at hu⊢ <;>omega,fun h0=>by simp [Tr.nb,nbs,Tr.fill,fills,Tr.weight,wts]at h0⊢⟩)
section
variable {w0 w1 w2 w3 w4 w5:Str}{tt:List Str}{B:List Tn}
theorem BookOk.len (b:BookOk w0 w1 w2 w3 w4 w5 tt B):2≤B.length∧B.length≤4:=by
 obtain⟨n,m,e⟩:=b.lf;have h1:=zdE n w0 w2 w3;have h2:=zdE m w1 w2 w3;have e':=congrArg List.length e;rw [List.length_map,List.length_append]at e';omega
theorem BookOk.left (b:BookOk w0 w1 w2 w3 w4 w5 tt B) {P:Str→Prop}(h0:P w0) (h1:P w1) (h2:P w2) (h3:P w3) {t:Tn}(ht:t∈B):LeftT P t.2.1:=by
 obtain⟨n,m,e⟩:=b.lf;have:t.2.1∈leftsL n w0 w2 w3++leftsL m w1 w2 w3:=by rw [←e];exact List.mem_map.mpr ⟨t,ht,rfl⟩
 rcases List.mem_append.mp this with z |z
 ·exact ziE h0 h2 h3 _ z
 ·exact ziE h1 h2 h3 _ z
theorem BookOk.nodup (b:BookOk w0 w1 w2 w3 w4 w5 tt B) (T:Titles tt):(B.map fun t=>t.1).Nodup:=by
 rw [b.ti];exact List.Nodup.sublist (List.take_sublist ..) T.nd
theorem BookOk.mem (b:BookOk w0 w1 w2 w3 w4 w5 tt B) {t:Tn}(ht:t∈B):t.1∈tt:=by
 have:t.1∈B.map fun t=>t.1:=List.mem_map.mpr ⟨t,ht,rfl⟩;rw [b.ti]at this;exact List.mem_of_mem_take this
end
noncomputable def zaF (B:List Tn) (s:Str):Option Tn:=B.find? fun t=>t.1 == s
theorem zdG:∀{B:List Tn}{t:Tn},(B.map fun t=>t.1).Nodup→t∈B→zaF B t.1=some t
 |u::B,t,hn,ht=>by
  unfold zaF;rw [List.map_cons,List.nodup_cons]at hn;rw [List.find?_cons];rcases List.mem_cons.mp ht with rfl |ht
  ·simp
  ·have hne:u.1≠t.1:=fun z=>hn.1 (by rw [z];exact List.mem_map.mpr ⟨t,ht,rfl⟩);have:(u.1 == t.1)=false:=by simpa using hne
   rw [this];exact zdG hn.2 ht
theorem zeI{B:List Tn}{s:Str}(h:∀t∈B,t.1≠s):zaF B s=none:=by
 unfold zaF;rw [List.find?_eq_none];intro t ht;simpa using h t ht
noncomputable def topB (B:List Tn) (s:Str) (n:Nat):Bool:=match zaF B s with
 |none=>zoR s
 |some t=>n == t.2.1.nb
mutual
noncomputable def Tr.way (B:List Tn):Tr→Bool
 | .bl _=>false
 | .nd s ts=>topB B s ts.length&&zkP B ts
noncomputable def zkP (B:List Tn):List Tr→Bool
 | []=>true
 |t::ts=>t.way B&&zkP B ts
end
theorem zfp (B:List Tn):∀ts:List Tr,zkP B ts=ts.all (Tr.way B)
 | []=>by simp [zkP]
 |t::ts=>by simp [zkP,zfp B ts]
mutual
theorem zfx{B:List Tn}(hB:∀t∈B,zdv t.1) {us:List Tr}(hu:∀u∈us,u.way B=true):∀(t:Tr),t.hb zdt→t.fits us.length→(t.fill us).way B=true
 | .bl n,h,f=>by
  simp only[Tr.fits]at f;simp only[Tr.fill];rw [List.getD_eq_getElem?_getD,List.getElem?_eq_getElem (show n.toNat<us.length by omega)]
  exact hu _ (List.getElem_mem ..)
 | .nd s ts,h,f=>by
  simp only[Tr.fits]at f;simp only[Tr.hb]at h;simp only[Tr.fill,Tr.way];rw [zgT hB hu ts h.2 f,topB,zeI fun t ht=>(zdM h.1 (hB t ht)).symm,(zgC s).mpr h.1];rfl
theorem zgT{B:List Tn}(hB:∀t∈B,zdv t.1) {us:List Tr}(hu:∀u∈us,u.way B=true):∀(ts:List Tr),hbs zdt ts→fitss us.length ts→zkP B (fills us ts)=true
 | [],h,f=>by simp [fills,zkP]
 |t::ts,h,f=>by
  simp only[fitss]at f;simp only[hbs]at h;rw [fills,zkP,zfx hB hu t h.1 f.1,zgT hB hu ts h.2 f.2];rfl
end
inductive Pl where
  |nd (k bits:Int) (head:Str) (ps:List Pl)
mutual
noncomputable def Pl.wt:Pl→Nat
 | .nd _ _ _ ps=>1+pwts ps
noncomputable def pwts:List Pl→Nat
 | []=>0
 |p::ps=>p.wt+pwts ps
end
mutual
noncomputable def Pl.dp:Pl→Nat
 | .nd _ _ _ ps=>1+ziT ps
noncomputable def ziT:List Pl→Nat
 | []=>0
 |p::ps=>max p.dp (ziT ps)
end
mutual
noncomputable def Pl.nt:Pl→Nat
 | .nd k _ _ ps=>(if k<0 then 0 else 1)+pnts ps
noncomputable def pnts:List Pl→Nat
 | []=>0
 |p::ps=>p.nt+pnts ps
end
inductive PlOk (ws:List Str) (B:List Tn):Pl→Prop
 |sign {b:Int}{h:Str}{ps:List Pl}:h∈ws→(∀p∈ps,PlOk ws B p)→PlOk ws B (.nd (-1) b h ps)
 |turn {k:Nat}{b:Int}{h:Str}{ps:List Pl}{t:Tn}:B[k]? =some t→ps.length=t.2.1.nb→0≤b→b<8→(∀p∈ps,PlOk ws B p)→PlOk ws B (.nd k b h ps)
mutual
noncomputable def Pl.ev (B:List Tn) (c:Int→Nat):Pl→Tr
 | .nd k b h ps=>if k<0 then .nd h (evs B c ps) else match c b with
  |0=>(B.getD k.toNat (h, .bl 0, .bl 0)).2.1.fill (evs B c ps)
  |1=> .nd (B.getD k.toNat (h, .bl 0, .bl 0)).1 (evs B c ps)
  |_=>(B.getD k.toNat (h, .bl 0, .bl 0)).2.2.fill (evs B c ps)
noncomputable def evs (B:List Tn) (c:Int→Nat):List Pl→List Tr
 | []=>[]
 |p::ps=>p.ev B c::evs B c ps
end
theorem zhf (B:List Tn) (c:Int→Nat):∀ps:List Pl,evs B c ps=ps.map (Pl.ev B c)
 | []=>by simp [evs]
 |p::ps=>by simp [evs,zhf B c ps]
theorem zbC:∀ps qs:List Pl,pwts (ps++qs)=pwts ps+pwts qs
 | [],qs=>by simp [pwts]
 |p::ps,qs=>by simp [pwts,zbC ps qs];omega
theorem zbl:∀ps qs:List Pl,pnts (ps++qs)=pnts ps+pnts qs
 | [],qs=>by simp [pnts]
 |p::ps,qs=>by simp [pnts,zbl ps qs];omega
theorem zdY{p:Pl}:∀{ps:List Pl},p∈ps→p.dp≤ziT ps
 |q::ps,h=>by
  rcases List.mem_cons.mp h with rfl |h
  ·simp [ziT];omega
  ·have:=zdY h;simp [ziT];omega
mutual
theorem zfR:∀p:Pl,p.dp≤p.wt
 | .nd k b h ps=>by have:=zjL ps;simp [Pl.dp,Pl.wt];omega
theorem zjL:∀ps:List Pl,ziT ps≤pwts ps
 | []=>by simp [ziT]
 |p::ps=>by have:=zfR p;have:=zjL ps;simp [ziT,pwts];omega
end
theorem zka (p:Pl):1≤p.dp:=by cases p;simp [Pl.dp]
theorem zoi (p:Pl):1≤p.wt:=by cases p;simp [Pl.wt]
theorem zcy{B:List Tn}{c:Int→Nat}{b:Int}{h:Str}{ps:List Pl}:(Pl.nd (-1) b h ps).ev B c= .nd h (ps.map (Pl.ev B c)):=by
 rw [Pl.ev,if_pos (by decide),zhf]
noncomputable def evT (t:Tn) (n:Nat) (us:List Tr):Tr:=match n with
 |0=>t.2.1.fill us
 |1=> .nd t.1 us
 |_=>t.2.2.fill us
theorem zcG{B:List Tn}{c:Int→Nat}{b:Int}{h:Str}{ps:List Pl}{k:Nat}{t:Tn}(e:B[k]? =some t):(Pl.nd k b h ps).ev B c=evT t (c b) (ps.map (Pl.ev B c)):=by
 rw [Pl.ev,if_neg (by omega),zhf,Int.toNat_natCast,List.getD_eq_getElem?_getD,e];rfl
structure BkOk (ws hs:List Str) (B:List Tn):Prop where
  ti:∀t∈B,zdv t.1
  nd:(B.map fun t=>t.1).Nodup
  sg:∀x∈ws,zdt x
  sb:∀x∈hs,x∈ws
  lf:∀t∈B,LeftT zdt t.2.1
  ri:∀t∈B,RightW ws t.2.1.nb t.2.2
theorem BookOk.bk{w0 w1 w2 w3 w4 w5:Str}{tt:List Str}{B:List Tn}(b:BookOk w0 w1 w2 w3 w4 w5 tt B) (T:Titles tt) (G:Signs w0 w1 w2 w3 w4 w5):BkOk [w0,w1,w2,w3,w4,w5] [w2,w3,w4,w5] B:=
 ⟨fun t ht=>T.ok _ (b.mem ht),b.nodup T,G.ok,fun x hx=>List.mem_cons_of_mem _ (List.mem_cons_of_mem _ hx),fun t ht=>b.left (G.ok _ (by simp)) (G.ok _ (by simp)) (G.ok _ (by simp)) (G.ok _ (by simp)) ht,b.ri⟩
section
variable {ws hs:List Str}{B:List Tn}{c:Int→Nat}
theorem znr (b:BkOk ws hs B) {p:Pl}(h:PlOk hs B p):(p.ev B c).way B=true:=by
 induction h with
 | @sign b' h ps hh hp ih=>
  rw [zcy,Tr.way,topB,zeI fun t ht=>(zdM (b.sg h (b.sb h hh)) (b.ti t ht)).symm,zfp,(zgC h).mpr (b.sg h (b.sb h hh))];simp only[List.all_map,Bool.true_and,List.all_eq_true];exact fun p hp=>ih p hp
 | @turn k b' h ps t e hl b0 b1 hp ih=>
  have ht:t∈B:=List.mem_of_getElem? e;have hu:∀u∈ps.map (Pl.ev B c),u.way B=true:=fun u hu=>by
   obtain⟨p,hp,rfl⟩:=List.mem_map.mp hu;exact ih p hp
  rw [zcG e];unfold evT;split
  ·exact zfx b.ti hu _ (b.lf t ht).hb (by rw [List.length_map,hl];exact(b.lf t ht).fits)
  ·rw [Tr.way,topB,zdG b.nd ht,zfp];simp only[List.length_map,hl,beq_self_eq_true,Bool.true_and,List.all_eq_true];exact hu
  ·exact zfx b.ti hu _ ((b.ri t ht).hb b.sg) (by rw [List.length_map,hl];exact(b.ri t ht).fits)
theorem ztf (b:BkOk ws hs B) {P:Str→Prop}(hP:∀s,zdt s→P s) (hc:(∃b,0≤b∧b<8∧c b=1)→ ∀t∈B,P t.1) {p:Pl}(h:PlOk hs B p):(p.ev B c).hd P:=by
 induction h with
 | @sign b' h ps hh hp ih=>
  rw [zcy,Tr.hd,hds_iff];refine⟨hP _ (b.sg h (b.sb h hh)),fun t ht=>?_⟩;obtain⟨p,hp,rfl⟩:=List.mem_map.mp ht;exact ih p hp
 | @turn k b' h ps t e hl b0 b1 hp ih=>
  have ht:t∈B:=List.mem_of_getElem? e;have hu:∀u∈ps.map (Pl.ev B c),u.hd P:=fun u hu=>by
   obtain⟨p,hp,rfl⟩:=List.mem_map.mp hu;exact ih p hp
  rw [zcG e];unfold evT;split
  ·exact zfJ hu _ (zhu hP _ (b.lf t ht).hb) (by rw [List.length_map,hl];exact(b.lf t ht).fits)
  ·rename_i ec;rw [Tr.hd,hds_iff];exact⟨hc ⟨b',b0,b1,ec⟩ t ht,hu⟩
  ·exact zfJ hu _ (zhu hP _ ((b.ri t ht).hb b.sg)) (by rw [List.length_map,hl];exact(b.ri t ht).fits)
theorem zfM{p:Pl}:∀{ps:List Pl},p∈ps→p.nt≤pnts ps
 |q::ps,h=>by
  rcases List.mem_cons.mp h with rfl |h
  ·simp [pnts]
  ·have:=zfM h;simp [pnts];omega
theorem zhU{p:Pl}:∀{ps:List Pl},p∈ps→p.wt≤pwts ps
 |q::ps,h=>by
  rcases List.mem_cons.mp h with rfl |h
  ·simp [pwts]
  ·have:=zhU h;simp [pwts];omega
mutual
theorem zeq:∀t:Tr,(t.fill []).depth=t.depth
 | .bl n=>by simp [Tr.fill]
 | .nd s ts=>by simp [Tr.fill,Tr.depth,zdR ts]
theorem zdR:∀ts:List Tr,dts (fills [] ts)=dts ts
 | []=>by simp [fills]
 |t::ts=>by simp [fills,dts,zeq t,zdR ts]
end
theorem zmn (b:BkOk ws hs B) {p:Pl}(h:PlOk hs B p):(p.ev B c).depth≤p.dp+3*p.nt:=by
 induction h with
 | @sign b' h ps hh hp ih=>
  rw [zcy,Tr.depth,Pl.dp,Pl.nt,if_pos (by decide)];have:dts (ps.map (Pl.ev B c))≤ziT ps+3*pnts ps:=zjs fun t ht=>by
   obtain⟨p,hp,rfl⟩:=List.mem_map.mp ht;have:=ih p hp;have:=zdY hp;have:=zfM hp;omega
  omega
 | @turn k b' h ps t e hl b0 b1 hp ih=>
  have ht:t∈B:=List.mem_of_getElem? e;have hk:∀u∈ps.map (Pl.ev B c),u.depth≤ziT ps+3*pnts ps:=fun t ht=>by
   obtain⟨p,hp,rfl⟩:=List.mem_map.mp ht;have:=ih p hp;have:=zdY hp;have:=zfM hp;omega
  have en:(Pl.nd k b' h ps).nt=1+pnts ps:=by rw [Pl.nt,if_neg (by omega)]
  have fd:∀L:Tr,L.depth≤4→(L.fill (ps.map (Pl.ev B c))).depth≤1+ziT ps+3*(1+pnts ps):=fun L hL=>by
   cases ps with
   |nil=>
    have:=zeq L;simp only[List.map_nil]at *;omega
   |cons q qs=>
    have h1:=zka q;have:=zfd (k:=ziT (q::qs)+3*pnts (q::qs)) (by simp [ziT];omega) hk L;omega
  rw [zcG e,Pl.dp,en];unfold evT;split
  ·exact fd _ (b.lf t ht).dp
  ·rw [Tr.depth];have:=zjs hk;omega
  ·exact fd _ (b.ri t ht).dp
end
mutual
noncomputable def Tr.mk (B:List Tn) (g:Tn→Tr):Tr→Tr
 | .bl n=> .bl n
 | .nd s ts=>match zaF B s with
  |none=> .nd s (mks B g ts)
  |some t=>(g t).fill (mks B g ts)
noncomputable def mks (B:List Tn) (g:Tn→Tr):List Tr→List Tr
 | []=>[]
 |t::ts=>t.mk B g::mks B g ts
end
theorem zhj (B:List Tn) (g:Tn→Tr):∀ts:List Tr,mks B g ts=ts.map (Tr.mk B g)
 | []=>by simp [mks]
 |t::ts=>by simp [mks,zhj B g ts]
theorem zli{B:List Tn}{g:Tn→Tr}{s:Str}{ts:List Tr}(h:zaF B s=none):(Tr.nd s ts).mk B g= .nd s (ts.map (Tr.mk B g)):=by
 rw [Tr.mk,h,zhj]
theorem zkO{B:List Tn}{g:Tn→Tr}{s:Str}{ts:List Tr}{t:Tn}(h:zaF B s=some t):(Tr.nd s ts).mk B g=(g t).fill (ts.map (Tr.mk B g)):=by
 rw [Tr.mk,h,zhj]
theorem zdD{B:List Tn}(hB:∀t∈B,zdv t.1) {s:Str}(h:zdt s):zaF B s=none:=zeI fun t ht=>(zdM h (hB t ht)).symm
mutual
theorem zhD{B:List Tn}{g:Tn→Tr}(hB:∀t∈B,zdv t.1) {us:List Tr}:∀t:Tr,t.hb zdt→t.fits us.length→(t.fill us).mk B g=t.fill (us.map (Tr.mk B g))
 | .bl n,h,f=>by
  simp only[Tr.fits]at f;simp only[Tr.fill];rw [List.getD_eq_getElem?_getD,List.getD_eq_getElem?_getD,List.getElem?_map,List.getElem?_eq_getElem (show n.toNat<us.length by omega)]
  rfl
 | .nd s ts,h,f=>by
  simp only[Tr.hb]at h;simp only[Tr.fits]at f;simp only[Tr.fill];rw [Tr.mk,zdD hB h.1];simp only[];rw [zia hB ts h.2 f]
theorem zia{B:List Tn}{g:Tn→Tr}(hB:∀t∈B,zdv t.1) {us:List Tr}:∀ts:List Tr,hbs zdt ts→fitss us.length ts→mks B g (fills us ts)=fills (us.map (Tr.mk B g)) ts
 | [],h,f=>by simp [fills,mks]
 |t::ts,h,f=>by
  simp only[hbs]at h;simp only[fitss]at f;rw [fills,mks,fills,zhD hB t h.1 f.1,zia hB ts h.2 f.2]
end
section
variable {ws hs:List Str}{B:List Tn}{c d:Int→Nat}
theorem zqS (b:BkOk ws hs B) {g:Tn→Tr}(hg:∀t∈B,∀x:Int,0≤x→x<8→c x=1→ ∀us,(g t).fill us=evT t (d x) us) (h0:∀x:Int,0≤x→x<8→c x≠1→d x=c x) {p:Pl}(h:PlOk hs B p):(p.ev B c).mk B g=p.ev B d:=by
 induction h with
 | @sign b' h ps hh hp ih=>
  rw [zcy,zcy,zli (zdD b.ti (b.sg h (b.sb h hh))),List.map_map];congr 1;exact List.map_congr_left fun p hp=>ih p hp
 | @turn k b' h ps t e hl b0 b1 hp ih=>
  have ht:t∈B:=List.mem_of_getElem? e;have em:(ps.map (Pl.ev B c)).map (Tr.mk B g)=ps.map (Pl.ev B d):=by
   rw [List.map_map];exact List.map_congr_left fun p hp=>ih p hp
  rw [zcG e,zcG e];by_cases hc:c b'=1
  ·rw [←hg t ht b' b0 b1 hc,hc];show(Tr.nd t.1 _).mk B g=_;rw [zkO (zdG b.nd ht),em]
  ·rw [h0 b' b0 b1 hc];unfold evT;split
   ·rw [zhD b.ti _ (b.lf t ht).hb (by rw [List.length_map,hl];exact(b.lf t ht).fits),em]
   ·rename_i z;exact absurd z hc
   ·rw [zhD b.ti _ ((b.ri t ht).hb b.sg) (by rw [List.length_map,hl];exact(b.ri t ht).fits),em]
noncomputable def zbO (c:Int→Nat):Int→Nat:=fun x=>if c x=1 then 0 else c x
noncomputable def zaV (c:Int→Nat):Int→Nat:=fun x=>if c x=1 then 2 else c x
theorem zrU (b:BkOk ws hs B) {p:Pl}(h:PlOk hs B p):(p.ev B c).mk B (fun t=>t.2.1)=p.ev B (zbO c):=
 zqS b (fun t ht x _ _ hx us=>by rw [zbO,if_pos hx];rfl) (fun x _ _ hx=>by rw [zbO,if_neg hx]) h
theorem zpp (b:BkOk ws hs B) {p:Pl}(h:PlOk hs B p):(p.ev B c).mk B (fun t=>t.2.2)=p.ev B (zaV c):=
 zqS b (fun t ht x _ _ hx us=>by rw [zaV,if_pos hx];rfl) (fun x _ _ hx=>by rw [zaV,if_neg hx]) h
end
theorem ziH{n:Nat}{h c d:Str}{L:Tr}(hL:L∈leftsL n h c d) {us:List Tr}(hu:us.length=L.nb):L.mt (L.fill us)=some us:=by
 unfold leftsL at hL;split at hL<;>simp only[List.mem_cons,List.not_mem_nil,or_false]at hL
 all_goals first
  | (subst hL;rcases us with _ |⟨u,_ |⟨v,_ |⟨x,_ |⟨y,us⟩⟩⟩⟩<;>simp [Tr.nb,nbs,Tr.fill,fills,Tr.mt,mts]at hu⊢ <;>omega)
  | (rcases hL with rfl |rfl<;>rcases us with _ |⟨u,_ |⟨v,_ |⟨x,_ |⟨y,us⟩⟩⟩⟩<;>simp [Tr.nb,nbs,Tr.fill,fills,Tr.mt,mts]at hu⊢ <;>omega)
noncomputable def ztG (B:List Tn):Prop:=∀t∈B,∀us:List Tr,us.length=t.2.1.nb→t.2.1.mt (t.2.1.fill us)=some us
theorem BookOk.mt{w0 w1 w2 w3 w4 w5:Str}{tt:List Str}{B:List Tn}(b:BookOk w0 w1 w2 w3 w4 w5 tt B):ztG B:=fun t ht us hu=>by
 obtain⟨n,m,e⟩:=b.lf;have:t.2.1∈leftsL n w0 w2 w3++leftsL m w1 w2 w3:=by rw [←e];exact List.mem_map.mpr ⟨t,ht,rfl⟩
 rcases List.mem_append.mp this with z |z
 ·exact ziH z hu
 ·exact ziH z hu
mutual
inductive Mv (B:List Tn):Nat→Tr→Tr→Tr→Prop
 |nn {n:Nat}{s z:Str}{ts us cs:List Tr}:zaF B s=none→zaF B z=none→Mvs B n ts us cs→Mv B (n+1) (.nd s ts) (.nd z us) (.nd s cs)
 |ns {n:Nat}{s z:Str}{ts us cs ms:List Tr}{t:Tn}:zaF B s=none→zaF B z=some t→t.2.1.mt (.nd s ts)=some ms→cs.length=t.2.1.nb→Mvs B n ms us cs→Mv B (n+1) (.nd s ts) (.nd z us) (t.2.2.fill cs)
 |sn {n:Nat}{s z:Str}{ts us cs ms:List Tr}{t:Tn}:zaF B s=some t→zaF B z=none→t.2.1.mt (.nd z us)=some ms→Mvs B n ts ms cs→Mv B (n+1) (.nd s ts) (.nd z us) (.nd s cs)
 |ss {n:Nat}{s z:Str}{ts us cs:List Tr}{t t':Tn}:zaF B s=some t'→zaF B z=some t→cs.length=t.2.1.nb→Mvs B n ts us cs→Mv B (n+1) (.nd s ts) (.nd z us) (t.2.2.fill cs)
inductive Mvs (B:List Tn):Nat→List Tr→List Tr→List Tr→Prop
 |nil {n:Nat}:Mvs B n [] [] []
 |cons {n:Nat}{a b c:Tr}{as bs cs:List Tr}:Mv B n a b c→Mvs B n as bs cs→Mvs B n (a::as) (b::bs) (c::cs)
end
theorem zkl{P:Str→Prop}{u:Tr}(hu:u.hd P):∀{ts:List Tr}(i:Nat),hds P ts→hds P (ts.set i u)
 | [],_,h=>by simpa using h
 |t::ts,0,h=>by
  simp only[hds,List.set_cons_zero]at h⊢;exact⟨hu,h.2⟩
 |t::ts,i+1,h=>by
  simp only[hds,List.set_cons_succ]at h⊢;exact⟨h.1,zkl hu i h.2⟩
theorem zjw{P:Str→Prop}:∀{ts us:List Tr},hds P ts→hds P us→hds P (ts++us)
 | [],us,_,h=>h
 |t::ts,us,h,g=>by
  simp only[hds,List.cons_append]at h⊢;exact⟨h.1,zjw h.2 g⟩
mutual
inductive PlAt (S:Sto):Pl→W→Prop
 |nd {k b:Int}{h:Str}{ps:List Pl}{a:Addr}{vs:List W}:S a=some (.lst vs)→PlsAt S ps vs→PlAt S (.nd k b h ps) (.tup [.int k, .int b, .str h, .ref a])
inductive PlsAt (S:Sto):List Pl→List W→Prop
 |nil:PlsAt S [] []
 |cons {p:Pl}{v:W}{ps:List Pl}{vs:List W}:PlAt S p v→PlsAt S ps vs→PlsAt S (p::ps) (v::vs)
end
mutual
theorem PlAt.sub{S S':Sto}(h:Sub S S'):∀{p:Pl}{v:W},PlAt S p v→PlAt S' p v
 |_,_, .nd e q=> .nd (h _ _ e) (PlsAt.sub h q)
theorem PlsAt.sub{S S':Sto}(h:Sub S S'):∀{ps:List Pl}{vs:List W},PlsAt S ps vs→PlsAt S' ps vs
 |_,_, .nil=> .nil
 |_,_, .cons a b=> .cons (PlAt.sub h a) (PlsAt.sub h b)
end
section
variable {S:Sto}
theorem PlsAt.len:∀{ps:List Pl}{vs:List W},PlsAt S ps vs→ps.length=vs.length
 |_,_, .nil=>rfl
 |_,_, .cons _ h=>congrArg (· +1) (PlsAt.len h)
theorem PlsAt.app:∀{ps qs:List Pl}{vs us:List W},PlsAt S ps vs→PlsAt S qs us→PlsAt S (ps++qs) (vs++us)
 |_,_,_,_, .nil,h=>h
 |_,_,_,_, .cons a b,h=> .cons a (PlsAt.app b h)
theorem PlsAt.take:∀(n:Nat) {ps:List Pl}{vs:List W},PlsAt S ps vs→PlsAt S (ps.take n) (vs.take n)
 |0,_,_,_=> .nil
 |_+1,_,_, .nil=> .nil
 |n+1,_,_, .cons a b=> .cons a (PlsAt.take n b)
theorem PlsAt.drop:∀(n:Nat) {ps:List Pl}{vs:List W},PlsAt S ps vs→PlsAt S (ps.drop n) (vs.drop n)
 |0,_,_,h=>h
 |_+1,_,_, .nil=> .nil
 |n+1,_,_, .cons _ b=>PlsAt.drop n b
theorem PlsAt.rep{p:Pl}{v:W}(h:PlAt S p v):∀n:Nat,PlsAt S (List.replicate n p) (List.replicate n [v]).flatten
 |0=> .nil
 |n+1=>by
  rw [List.replicate_succ,List.replicate_succ,List.flatten_cons];exact .cons h (PlsAt.rep h n)
end
noncomputable def pad (w:Str):Pl:= .nd (-1) 0 w []
noncomputable def zbf (need:Nat) (w:Str) (ps:List Pl):List Pl:=List.replicate (need - ps.length) (pad w)++ps
noncomputable def push (need:Nat) (w:Str) (k b:Int) (h:Str) (ps:List Pl):List Pl:=
 (zbf need w ps).take ((zbf need w ps).length - need)++[.nd k b h ((zbf need w ps).drop ((zbf need w ps).length - need))]
theorem ziF (w:Str):∀n:Nat,pwts (List.replicate n (pad w))=n
 |0=>by simp [pwts]
 |n+1=>by rw [List.replicate_succ,pwts,ziF w n];simp [pad,Pl.wt,pwts];omega
theorem ziv (w:Str):∀n:Nat,pnts (List.replicate n (pad w))=0
 |0=>by simp [pnts]
 |n+1=>by rw [List.replicate_succ,pnts,ziv w n];simp [pad,Pl.nt,pnts]
theorem zeb:∀ps:List Pl,ps.length≤pwts ps
 | []=>by simp
 |p::ps=>by have:=zeb ps;have:=zoi p;simp [pwts];omega
theorem zdd (need:Nat) (w:Str) (ps:List Pl):(zbf need w ps).length=need - ps.length+ps.length:=by simp [zbf]
theorem zkV{need:Nat}{w:Str}{k b:Int}{h:Str}{ps:List Pl}:pwts (push need w k b h ps)=need - ps.length+pwts ps+1∧pnts (push need w k b h ps)=pnts ps+(if k<0 then 0 else 1)∧(push need w k b h ps).length=need - ps.length+ps.length - need+1:=by
 have hl:=zdd need w ps;have h1:pwts (zbf need w ps)=need - ps.length+pwts ps:=by rw [zbf,zbC,ziF]
 have h2:pnts (zbf need w ps)=pnts ps:=by rw [zbf,zbl,ziv];omega
 have h3:=zbC ((zbf need w ps).take ((zbf need w ps).length - need)) ((zbf need w ps).drop ((zbf need w ps).length - need));have h4:=zbl ((zbf need w ps).take ((zbf need w ps).length - need)) ((zbf need w ps).drop ((zbf need w ps).length - need));rw [List.take_append_drop]at h3 h4;unfold push;refine⟨?_,?_,?_⟩
 ·rw [zbC,pwts,pwts,Pl.wt];omega
 ·rw [zbl,pnts,pnts,Pl.nt];omega
 ·rw [List.length_append,List.length_take,List.length_singleton,hl];omega
theorem ziS{need:Nat}{w:Str}(ps:List Pl):((zbf need w ps).drop ((zbf need w ps).length - need)).length=need:=by
 have hl:=zdd need w ps;rw [List.length_drop,hl];omega
theorem zgI{ws:List Str}{B:List Tn}{need:Nat}{w:Str}{ps:List Pl}(hw:w∈ws) (h:∀p∈ps,PlOk ws B p):∀p∈zbf need w ps,PlOk ws B p:=fun p hp=>by
 rcases List.mem_append.mp hp with z |z
 ·rw [(List.mem_replicate.mp z).2];exact .sign hw fun q hq=>by cases hq
 ·exact h p z
theorem zpk{ws:List Str}{B:List Tn}{need:Nat}{w:Str}{k b:Int}{h:Str}{ps:List Pl}(hw:w∈ws) (hp:∀p∈ps,PlOk ws B p) (hn:∀qs:List Pl,qs.length=need→(∀q∈qs,PlOk ws B q)→PlOk ws B (.nd k b h qs)):∀p∈push need w k b h ps,PlOk ws B p:=fun p hq=>by
 rcases List.mem_append.mp hq with z |z
 ·exact zgI hw hp p (List.mem_of_mem_take z)
 ·rw [List.mem_singleton.mp z];exact hn _ (ziS ps) fun q hq=>zgI hw hp q (List.mem_of_mem_drop hq)
noncomputable def zmI:WS:=(zcx (zrj (wTb (wOp oGt (zaf 3) (wC (.int 0)))) (wTb (wOp oLt (zaf 5) (wC (.int 5))))) (zaC (wAsg (wOp (zdp fun i j=> .int (i - j)) (zaf 3) (wC (.int 1))) (wGN 3))
  (zaC (wAsg (zbQ (zlU (zms (zci (zab (zaP (zab (zlE (wC (.int 1))) (zab (wC (.int 0)) (zab (wOp oIx (zaf 2) (wC (.int 2))) (zab (zbQ (zci waNil)) waNil))))) waNil)) (wOp (zdp fun i j=> .int (i - j)) (zaf 8) (wB zec (zab (zaf 4) waNil)))) (zaf 4))) (wGN 4))
  (zaC (wAsg (wOp (zdp fun i j=> .int (i - j)) (wB zec (zab (zaf 4) waNil)) (zaf 8)) (wGN 11))
  (wAsg (zbQ (zjb (zpC (zaf 4) woN (woS (zaf 11))) (zci (zab (wOp zcO (zaf 9) (zaP (zab (wSl (zaf 4) (woS (zaf 11)) woN) waNil))) waNil)))) (wGN 4))))) zaQ)
theorem zjP{r:Nat}:zdC r zbw=(zaC (wAsg (wOp (zde (fun _ j=>0<j) fun i j=> .int (i % j)) (zaf 6) (wC (.int 8))) (wGN 7))
  (zaC (wAsg (zoM (zci (zab (wC (.int 0)) (zab (wC (.int 0)) (zab (wC (.int 1)) (zab (wC (.int 2)) waNil))))) (wB zgm (zab (zaf 7) (zab (wC (.int 3)) waNil)))) (wGN 8))
  (zaC (wAsg (zaP (zab (zlE (wC (.int 1))) (zab (wC (.int 0)) (zab (wOp oIx (zaf 2) (zoM (zci (zab (wC (.int 2)) (zab (wC (.int 5)) (zab (wC (.int 3)) (zab (wC (.int 4)) waNil))))) (wB zgm (zab (zaf 7) (zab (wC (.int 3)) waNil))))) waNil)))) (wGN 9))
  (zaC (zcx (wTb (wOp oGt (zaf 7) (wC (.int 3)))) (zaC (wAsg (wOp (zde (fun _ j=>0<j) fun i j=> .int (i % j)) (wOp (zde zkY fun i j=> .int (i / j)) (zaf 6) (wC (.int 8))) (wB zec (zab (zaf 1) waNil))) (wGN 10))
  (zaC (wAsg (zaz (zav r) (zab (wOp oIx (wOp oIx (zaf 1) (zaf 10)) (wC (.int 1))) waNil)) (wGN 8))
  (zaC (wAsg (zaP (zab (zaf 10) (zab (wOp (zde (fun _ j=>0<j) fun i j=> .int (i % j)) (wOp (zde zkY fun i j=> .int (i / j)) (zaf 6) (wC (.int 64))) (wC (.int 8))) (zab (wC (.str "")) waNil)))) (wGN 9))
  (wAsg (wOp zcO (zaf 5) (wC (.int 1))) (wGN 5))))) zaQ)
  zmI)))):=rfl
section
variable {w0 w1 w2 w3 w4 w5:Str}{r:Nat}{S:Sto}{aw st:Addr}{E:WX}{D:WEnds}
theorem zkT{need:Nat}{k b room spent:Int}{h:Str}{ps:List Pl}{vs:List W}{x0 x1 x6 x7 x10 x11:Option W}(hw:S aw=some (.lst (six w0 w1 w2 w3 w4 w5))) (hst:S st=some (.lst vs)) (hp:PlsAt S ps vs) (hn:need≤3) (hl:ps.length≤100)
  (h1:D.nx [x0,x1,some (.ref aw),some (.int room),some (.ref st),some (.int spent),x6,x7,some (.int need),some (.tup [.int k, .int b, .str h]),x10,x11] S)
  (h2:0<room→spent<5→ ∀(st':Addr) (S':Sto) (vs':List W) (x11:Option W),Sub S S'→S' st'=some (.lst vs')→PlsAt S' (push need w2 k b h ps) vs'→D.nx [x0,x1,some (.ref aw),some (.int (room - 1)),some (.ref st'),some (.int spent),x6,x7,some (.int need),some (.tup [.int k, .int b, .str h]),x10,x11] S') :
  zmI E D [x0,x1,some (.ref aw),some (.int room),some (.ref st),some (.int spent),x6,x7,some (.int need),some (.tup [.int k, .int b, .str h]),x10,x11] S:=by
 unfold zmI;walk_at "wp";split
 ·rename_i c1;split
  ·rename_i c2;simp only[zaj hw,six2];have f1:=fun(a:Addr) (ha:S a=none)=>keep (x:=Ob.lst []) hst ha;refine⟨Nat.zero_le _,fun a ha=>⟨zah (by decide),zah (by decide),?_⟩⟩;rw [zaj (f1 a ha),zaj (f1 a ha)];have hlen:=hp.len;have en:((need:Int) - (vs.length:Int)).toNat=need - ps.length:=by omega
   rw [en];have pa:PlAt (put S a (Ob.lst [])) (pad w2) (.tup [.int (-1), .int 0, .str w2, .ref a]):= .nd zag .nil;have pp:PlsAt (put S a (Ob.lst [])) (zbf need w2 ps) ((List.replicate (need - ps.length) [W.tup [.int (-1), .int 0, .str w2, .ref a]]).flatten++vs):=(PlsAt.rep pa _).app (hp.sub (.put .refl ha));have pl:=pp.len;have sub1:Sub S (put S a (Ob.lst [])):= .put .refl ha;have hfl:((List.replicate (need - ps.length) [W.tup [.int (-1), .int 0, .str w2, .ref a]]).flatten).length≤3:=by
    rw [List.length_append,zdd]at pl;omega
   have e0:(1*(need - ps.length))≤sizeLine:=zah (by omega);refine⟨⟨by omega,by omega,e0⟩,zah (by omega),?_⟩
   generalize (List.replicate (need - ps.length) [W.tup [.int (-1), .int 0, .str w2, .ref a]]).flatten++vs=ys at pp pl⊢;generalize put S a (Ob.lst [])=S1 at pp sub1⊢;intro b2 hb2;have sub2:Sub S1 (put S1 b2 (.lst ys)):= .put .refl hb2;generalize put S1 b2 (Ob.lst ys)=S2 at sub2⊢;have hpl:=zdd need w2 ps;have ea:((ys.length:Nat):Int) - (need:Int)=((ys.length - need:Nat):Int):=by omega
   rw [ea,zfl,zfu];intro p hp3;have sub3:Sub S2 (put S2 p (.lst (ys.drop (ys.length - need)))):= .put .refl hp3;have fp:put S2 p (Ob.lst (ys.drop (ys.length - need))) p=some (.lst (ys.drop (ys.length - need))):=zag;generalize put S2 p (Ob.lst (ys.drop (ys.length - need)))=S3 at sub3 fp⊢;refine⟨zah (by decide),zah (by decide),zah (by decide),zah (by rw [List.length_take];omega),fun q hq=>?_⟩;have sub4:Sub S3 (put S3 q (.lst (ys.take (ys.length - need)++[.tup [.int k, .int b, .str h, .ref p]]))):= .put .refl hq;refine h2 c1 c2 q _ _ _ (((sub1.trans sub2).trans sub3).trans sub4) zag ?_;unfold push;have pp3:=pp.sub ((sub2.trans sub3).trans sub4);rw [←pl]at *;exact(pp3.take _).app (.cons (.nd (sub4 _ _ fp) (pp3.drop _)) .nil)
  ·exact h1
 ·exact h1
theorem znL (n:Int) (h0:0≤n) (h1:n<8):∃m:Nat,m≤2∧atI [W.int 0,W.int 0,W.int 1,W.int 2] (if 3<n then 3 else n)=some (.int (m:Int)):=by
 rcases(show n=0∨n=1∨n=2∨(3≤n) by omega) with rfl |rfl |rfl |h
 ·exact⟨0,by decide,rfl⟩
 ·exact⟨0,by decide,rfl⟩
 ·exact⟨1,by decide,rfl⟩
 ·have:(if 3<n then 3 else n)=3:=by split<;>omega
  rw [this];exact⟨2,by decide,rfl⟩
theorem zov (n:Int) (h0:0≤n) (h1:n<8):∃(i:Int) (x:Str),x∈ [w2,w3,w4,w5]∧atI [W.int 2,W.int 5,W.int 3,W.int 4] (if 3<n then 3 else n)=some (.int i)∧atI (six w0 w1 w2 w3 w4 w5) i=some (.str x):=by
 rcases(show n=0∨n=1∨n=2∨(3≤n) by omega) with rfl |rfl |rfl |h
 ·exact⟨2,w2,by simp,rfl,rfl⟩
 ·exact⟨5,w5,by simp,rfl,rfl⟩
 ·exact⟨3,w3,by simp,rfl,rfl⟩
 ·have:(if 3<n then 3 else n)=3:=by split<;>omega
  rw [this];exact⟨4,w4,by simp,rfl,rfl⟩
inductive PlI (S:Sto) (ac ab aw:Addr) (hs:List Str) (B:List Tn) (m:Nat) (ws:List W) (σ:WSt) (S':Sto):Prop
 |mk (ns:List Int) (ps:List Pl) (vs:List W) (st:Addr) (room spent:Int) (x6 x7 x8 x9 x10 x11:Option W):ws=ns.map W.int→Sub S S'→S' st=some (.lst vs)→PlsAt S' ps vs→(∀p∈ps,PlOk hs B p)→0≤room→room≤m→(pnts ps:Int)≤spent→pnts ps≤4→(pwts ps:Int)+ps.length≤2*(m - room)+pnts ps+2→
  σ=[some (.ref ac),some (.ref ab),some (.ref aw),some (.int room),some (.ref st),some (.int spent),x6,x7,x8,x9,x10,x11]→PlI S ac ab aw hs B m ws σ S'
inductive PlW (S:Sto) (hs:List Str) (B:List Tn) (m:Nat) (f:Addr→WSt) (mm:Nat) (σ:WSt) (S2:Sto):Prop
 |mk (ps:List Pl) (vs:List W) (st:Addr):mm=ps.length→Sub S S2→S2 st=some (.lst vs)→PlsAt S2 ps vs→(∀p∈ps,PlOk hs B p)→pnts ps≤4→pwts ps+ps.length≤2*m+pnts ps+2→σ=f st→PlW S hs B m f mm σ S2
theorem zmu{m:Nat}(hm9:m≤9) {Q:WK}{X:Str→Sto→Prop}{ac ab:Addr}{cells:List Int}{B:List Tn}(hc:S ac=some (.lst (cells.map W.int))) (hb:S ab=some (.lst (B.map zbj))) (hw:S aw=some (.lst (six w0 w1 w2 w3 w4 w5))) (bk:BkOk [w0,w1,w2,w3,w4,w5] [w2,w3,w4,w5] B) (hB:B≠ [])
  (h:∀(p:Pl) (v:W) (S':Sto),Sub S S'→PlAt S' p v→PlOk [w2,w3,w4,w5] B p→p.wt≤2*m+1+p.nt→p.nt≤4→Q v S'):zbA (r+10) [.ref ac, .ref ab, .ref aw, .int m] S Q X:=by
 rw [show r+10=r+9+1 from rfl,zbA];walk_at "wp";refine⟨Nat.zero_le _,fun st0 hst0=>?_⟩;rw [zaj (keep hc hst0)];refine zhC (PlI S ac ab aw [w2,w3,w4,w5] B m) ?_ ?_ _ _ _ ⟨cells,[],[],st0,m,0,none,none,none,none,none,none,rfl, .put .refl hst0,zag, .nil,(fun _ h=>nomatch h),by omega,by omega,by simp [pnts],by simp [pnts],by simp [pnts,pwts],rfl⟩
 ·rintro w ws σ S' N ⟨ns,ps,vs,st,room,spent,x6,x7,x8,x9,x10,x11,ew,sub,hst,hp,ok,r0,r1,p0,p1,p2,rfl⟩ hN;cases ns with
  |nil=>cases ew
  |cons n ns=>
  cases ew;have fw:=sub _ _ hw;have fb:=sub _ _ hb;have fc:=sub _ _ hc;have m0:0≤n % 8:=Int.emod_nonneg _ (by decide);have m1:n % 8<8:=Int.emod_lt_of_pos _ (by decide);have hpl:=zeb ps;obtain⟨need,hneed,en⟩:=znL (n % 8) m0 m1;obtain⟨i,hd,hhd,e1,e2⟩:=zov (w0:=w0) (w1:=w1) (w2:=w2) (w3:=w3) (w4:=w4) (w5:=w5) (n % 8) m0 m1;have go:∀(need:Nat) (k b:Int) (hh:Str) (sp:Int) (x10:Option W),need≤3→(∀qs:List Pl,qs.length=need→(∀q∈qs,PlOk [w2,w3,w4,w5] B q)→PlOk [w2,w3,w4,w5] B (.nd k b hh qs))→(k<0∧need≤2∧sp=spent∨ ¬k<0∧sp=spent+1)→
    ∀(E:WX) (D:WEnds),D.nx=N→zmI E D [some (.ref ac),some (.ref ab),some (.ref aw),some (.int room),some (.ref st),some (.int sp),some (.int n),some (.int (n % 8)),some (.int need),some (.tup [.int k, .int b, .str hh]),x10,x11] S':=fun need k b hh sp x10 hn hok hk E D hD=>by
   subst hD;refine zkT fw hst hp hn (by omega) ?_ fun c1 c2 st' S2 vs' x11 sub2 hst2 hp2=>?_
   ·refine hN _ _ S' .refl fc ⟨ns,ps,vs,st,room,sp,_,_,_,_,_,_,rfl,sub,hst,hp,ok,r0,r1,by omega,p1,p2,rfl⟩
   ·obtain⟨s1,s2,s3⟩:=zkV (need:=need) (w:=w2) (k:=k) (b:=b) (h:=hh) (ps:=ps);have hz:ps.length=0→pwts ps=0∧pnts ps=0:=fun z=>by
     cases ps with
     |nil=>exact⟨rfl,rfl⟩
     |cons _ _=>simp at z
    have fin:(pnts (push need w2 k b hh ps):Int)≤sp→pnts (push need w2 k b hh ps)≤4→(pwts (push need w2 k b hh ps):Int)+(push need w2 k b hh ps).length≤2*(m - (room - 1))+pnts (push need w2 k b hh ps)+2→D.nx [some (.ref ac),some (.ref ab),some (.ref aw),some (.int (room - 1)),some (.ref st'),some (.int sp),some (.int n),some (.int (n % 8)),some (.int need),some (.tup [.int k, .int b, .str hh]),x10,x11] S2:=fun f1 f2 f3=>
     hN _ _ S2 .refl (sub2 _ _ fc) ⟨ns,_,vs',st',room - 1,sp,_,_,_,_,_,_,rfl,sub.trans sub2,hst2,hp2,zpk (by simp) ok hok,by omega,by omega,f1,f2,f3,rfl⟩
    rcases hk with⟨kn,n2,es⟩ |⟨kp,es⟩
    ·rw [if_pos kn]at s2;refine fin (by omega) (by omega) ?_;rcases Nat.eq_zero_or_pos ps.length with z |z
     ·have:=hz z;omega
     ·omega
    ·rw [if_neg kp]at s2;refine fin (by omega) (by omega) ?_;rcases Nat.eq_zero_or_pos ps.length with z |z
     ·have:=hz z;omega
     ·omega
  rw [zjP];walk_at "wp";simp only[en,e1];walk_at "wp";simp only[zaj fw,e2];refine⟨by decide,zah (by decide),zah (by decide),zah (by decide),?_⟩;split
  ·have hbl:(B.map zbj)≠ []:=by simpa using hB
   obtain⟨j,x,ej,ex⟩:=zru (n / 8) hbl;have hlt:0<(B.map zbj).length:=List.length_pos_iff.mpr hbl;have ek:n / 8 % ((B.map zbj).length:Int)=(((n / 8 % ((B.map zbj).length:Int)).toNat:Nat):Int):=by
    have:=Int.emod_nonneg (n / 8) (show((B.map zbj).length:Int)≠0 by omega)
    omega
   have ek2:=zbk (xs:=B.map zbj) (n:=(n / 8 % ((B.map zbj).length:Int)).toNat);rw [←ek,ex,List.getElem?_map]at ek2;cases et:B[(n / 8 % ((B.map zbj).length:Int)).toNat]? with
   |none=>rw [et]at ek2;cases ek2
   |some t=>
    rw [et]at ek2;have ext:x= .tup [.str t.1,enc t.2.1,enc t.2.2]:=by cases ek2;rfl
    have ht:t∈B:=List.mem_of_getElem? et;have LT:=bk.lf t ht;have hLd:=LT.dp;have hLw:=LT.wt;have hLn:=LT.nb;simp only[zaj fb,ex,ext];walk_at "wp";rw [show atI [W.str t.1,enc t.2.1,enc t.2.2] 1=some (enc t.2.1) from rfl];refine⟨⟨by decide,by decide⟩,by omega,?_⟩
    refine zfS 4 hLd (by omega) (by omega) ⟨⟨by decide,by decide⟩,by decide,zah (by decide),?_⟩
    have b0:0≤n / 64 % 8:=Int.emod_nonneg _ (by decide);have b1:n / 64 % 8<8:=Int.emod_lt_of_pos _ (by decide);refine go t.2.1.nb _ _ _ _ _ hLn (fun qs hq hqs=>?_) (.inr ⟨by omega,rfl⟩) _ _ rfl;rw [ek];exact .turn et hq b0 b1 hqs
  ·exact go need (-1) 0 hd spent _ (by omega) (fun qs hq hqs=> .sign hhd hqs) (.inl ⟨by decide,hneed,rfl⟩) _ _ rfl
 ·rintro σ S' ⟨ns,ps,vs,st,room,spent,x6,x7,x8,x9,x10,x11,ew,sub,hst,hp,ok,r0,r1,p0,p1,p2,rfl⟩;have hpl:=zeb ps;refine⟨PlW S [w2,w3,w4,w5] B m (fun st=>[some (.ref ac),some (.ref ab),some (.ref aw),some (.int room),some (.ref st),some (.int spent),x6,x7,x8,x9,x10,x11]),⟨_,ps,vs,st,rfl,sub,hst,hp,ok,p1,by omega,rfl⟩,?_⟩
  rintro mm σ S2 ⟨ps,vs,st,rfl,sub,hst,hp,ok,p1,p2,rfl⟩;have hlen:=hp.len;have fw:=sub _ _ hw;walk_at "wp";rw [zaj hst];split
  ·rename_i hgt;simp only[zdu];walk_at "wp";simp only[zaj hst,zaj fw,six4];have c1:zdg vs none (some (-2))=vs.take (vs.length - 2):=zhp 2 (by decide);have c2:zdg vs (some (-2)) none=vs.drop (vs.length - 2):=zlk 2 (by decide);rw [c1,c2];intro p hp3;have sub3:Sub S2 (put S2 p (.lst (vs.drop (vs.length - 2)))):= .put .refl hp3;have fp:put S2 p (Ob.lst (vs.drop (vs.length - 2))) p=some (.lst (vs.drop (vs.length - 2))):=zag;generalize put S2 p (Ob.lst (vs.drop (vs.length - 2)))=S3 at sub3 fp⊢;refine⟨zah (by decide),zah (by decide),zah (by rw [List.length_take];omega),fun q hq=>?_⟩;have sub4:Sub S3 (put S3 q (.lst (vs.take (vs.length - 2)++[.tup [.int (-1), .int 0, .str w4, .ref p]]))):= .put .refl hq;have hp4:=hp.sub (sub3.trans sub4);have hw3:=zbC (ps.take (vs.length - 2)) (ps.drop (vs.length - 2));have hn3:=zbl (ps.take (vs.length - 2)) (ps.drop (vs.length - 2));rw [List.take_append_drop]at hw3 hn3;refine⟨_,_,?_, .refl,ps.take (vs.length - 2)++[.nd (-1) 0 w4 (ps.drop (vs.length - 2))],_,q,rfl,(sub.trans sub3).trans sub4,zag,(hp4.take _).app (.cons (.nd (sub4 _ _ fp) (hp4.drop _)) .nil),fun x hx=>?_,?_,?_,rfl⟩
   ·rw [List.length_append,List.length_take,List.length_singleton];omega
   ·rcases List.mem_append.mp hx with z |z
    ·exact ok x (List.mem_of_mem_take z)
    ·rw [List.mem_singleton.mp z];exact .sign (by simp) fun y hy=>ok y (List.mem_of_mem_drop hy)
   ·rw [zbl,pnts,pnts,Pl.nt,if_pos (by decide)];omega
   ·rw [zbC,pwts,pwts,Pl.wt,List.length_append,List.length_take,List.length_singleton,zbl,pnts,pnts,Pl.nt,if_pos (by decide)];omega
  ·rename_i hle
   try walk_at "wp"
   simp only[zaj fw,zik];refine⟨Nat.zero_le _,fun a ha=>⟨zah (by decide),zah (by decide),?_⟩⟩;rw [zaj (keep hst ha)];refine⟨zah (by omega),?_⟩;cases hp with
   |nil=>
    exact⟨_, .refl,h (pad w5) _ _ (sub.trans (.put .refl ha)) (.nd zag .nil) (.sign (by simp) fun _ z=>nomatch z) (by simp [pad,Pl.wt,pwts];omega) (by simp [pad,Pl.nt,pnts])⟩
   | @cons p v ps vs h1 h2=>
    rw [List.cons_append,zfq];have e0:ps=[]:=by
     cases ps with
     |nil=>rfl
     |cons q qs=>
      have:=h2.len;simp only[List.length_cons]at this hle;omega
    subst e0;simp only[pwts,pnts,List.length_cons,List.length_nil]at p1 p2;exact⟨_, .refl,h p v _ (sub.trans (.put .refl ha)) (h1.sub (.put .refl ha)) (ok p List.mem_cons_self) (by omega) (by omega)⟩
theorem zpa{Q:WK}{X:Str→Sto→Prop}{ac ab:Addr}{cells:List Int}{B:List Tn}(hc:S ac=some (.lst (cells.map W.int))) (hb:S ab=some (.lst (B.map zbj))) (hw:S aw=some (.lst (six w0 w1 w2 w3 w4 w5))) (bk:BkOk [w0,w1,w2,w3,w4,w5] [w2,w3,w4,w5] B) (hB:B≠ [])
  (h:∀(p:Pl) (v:W) (S':Sto),Sub S S'→PlAt S' p v→PlOk [w2,w3,w4,w5] B p→p.wt≤23→p.nt≤4→Q v S'):zbA (r+10) [.ref ac, .ref ab, .ref aw, .int 9] S Q X:=
 zmu (m:=9) (by decide) hc hb hw bk hB fun p v S' sub pa po pw pn=>h p v S' sub pa po (by omega) pn
end
section
variable {r:Nat}{S:Sto}{Q:WK}{E:Str→Sto→Prop}{a:Addr}{B:List Tn}
noncomputable def zrO:Option Tn→W
 |some t=>zbj t
 |none=> .non
theorem zgB (B:List Tn) (s:Str):B.findSome? (fun t=>if t.1 == s then some (zbj t) else none)=(zaF B s).map zbj:=by
 unfold zaF
 induction B with
 |nil=>rfl
 |cons t B ih=>
  rw [List.findSome?_cons,List.find?_cons];cases e:t.1 == s with
  |true=>rfl
  |false=>simpa using ih
theorem zfV{s:Str}(ha:S a=some (.lst (B.map zbj))) (h:Q (zrO (zaF B s)) S):zbo (r+1) [.ref a, .str s] S Q E:=by
 rw [zbo];walk_at "wp";rw [zaj ha];refine zdZ (S:=S) ?_ (fun σ=>∃x,σ=[some (.ref a),some (.str s),x]) zbj (fun t=>if t.1 == s then some (zbj t) else none) B _ ⟨_,rfl⟩ (fun t ht σ N hI hno hret=>?_) (fun e σ hI=>?_) fun w e S' sb=>?_
 ·exact ha
 ·obtain⟨x,rfl⟩:=hI;simp only[zdk];have ee:zbj t= .tup [.str t.1,enc t.2.1,enc t.2.2]:=rfl;rw [ee];walk_at "wp";cases e:t.1 == s with
  |true=>
   rw [e]at hret;exact hret _ rfl _ .refl
  |false=>
   rw [e]at hno;exact hno rfl _ _ ⟨_,rfl⟩ .refl
 ·obtain⟨x,rfl⟩:=hI;walk_at "wp";rw [zgB]at e;have:zaF B s=none:=by
   cases q:zaF B s with
   |none=>rfl
   |some t=>rw [q]at e;cases e
  rw [this]at h;exact⟨_, .refl,h⟩
 ·rw [zgB]at e;cases q:zaF B s with
  |none=>rw [q]at e;cases e
  |some t=>
   rw [q]at e h;cases e;exact⟨_,sb,h⟩
end
noncomputable def byC (f:Int):Int→Nat:=fun b=>if b / f % 2=1 then 1 else 0
theorem PlsAt.zip{S:Sto}:∀{ps:List Pl}{vs:List W},PlsAt S ps vs→ ∀x∈ps.zip vs,PlAt S x.1 x.2∧x.1∈ps
 |_,_, .nil,x,h=>by simp at h
 |_,_, .cons a b,x,h=>by
  rw [List.zip_cons_cons]at h;rcases List.mem_cons.mp h with rfl |h
  ·exact⟨a,List.mem_cons_self⟩
  ·have:=PlsAt.zip b x h;exact⟨this.1,List.mem_cons_of_mem _ this.2⟩
theorem PlsAt.snd{S:Sto}{ps:List Pl}{vs:List W}(h:PlsAt S ps vs):(ps.zip vs).map Prod.snd=vs:=List.map_snd_zip (by rw [h.len];exact Nat.le_refl _)
theorem PlsAt.fst{S:Sto}{ps:List Pl}{vs:List W}(h:PlsAt S ps vs) {α:Type}(f:Pl→α):(ps.zip vs).map (fun x=>f x.1)=ps.map f:=by
 have:(ps.zip vs).map Prod.fst=ps:=List.map_fst_zip (by rw [h.len];exact Nat.le_refl _)
 conv=>rhs;rw [←this,List.map_map]
 rfl
section
variable {S:Sto}{a:Addr}{ws hs:List Str}{B:List Tn}
theorem znn{f:Int}(hf:f=1∨f=2∨f=4∨f=8) (ha:S a=some (.lst (B.map zbj))) (b:BkOk ws hs B):∀(d:Nat) {p:Pl}{v:W}{r:Nat}{Q:WK}{E:Str→Sto→Prop},p.dp≤d→d+8≤r→PlAt S p v→PlOk hs B p→p.wt≤1000→Q (enc (p.ev B (byC f))) S→zbR (r+1) [v, .ref a, .int f] S Q E
 |0,p,v,r,Q,E,hd,hr,hp,ok,hw,h=>by have:=zka p;omega
 |d+1, .nd k b' hh ps,v,r,Q,E,hd,hr,hp,ok,hw,h=>by
  cases hp with
  | @nd _ _ _ _ c vs hc hps=>
  simp only[Pl.dp]at hd;simp only[Pl.wt]at hw;have hlen:=zeb ps;obtain⟨r,rfl⟩:∃r',r=r'+1:=⟨r - 1,by omega⟩
  rw [zbR];walk_at "wp";rw [zaj hc];rw [←hps.snd];have okp:∀x∈ps,PlOk hs B x:=by
   cases ok with
   |sign _ h=>exact h
   |turn _ _ _ _ h=>exact h
  refine zbh (fun σ=>∃x,σ=[x,some (.ref a),some (.int f)]) Prod.snd (fun x=>enc (x.1.ev B (byC f))) ?_ (ps.zip vs) [] _ ⟨none,rfl⟩ (by simp;omega) (fun x hx σ R hI hR=>?_) ?_
  ·rw [hps.snd];exact hc
  ·obtain⟨y,rfl⟩:=hI;obtain⟨h1,h2⟩:=hps.zip x hx;have:=zdY h2;have:=zhU h2;simp only[zdP];walk_at "wp";exact znn hf ha b d (by omega) (by omega) h1 (okp _ h2) (by omega) (hR _ _ ⟨_,rfl⟩ .refl)
  ·rw [List.nil_append,hps.fst fun p=>enc (p.ev B (byC f))];intro q hq;have eu:(ps.map fun p=>enc (p.ev B (byC f)))=zaJ (ps.map (Pl.ev B (byC f))):=by rw [zaA,List.map_map];rfl
   rw [eu];have fq:put S q (Ob.lst (zaJ (ps.map (Pl.ev B (byC f))))) q=some (.lst (zaJ (ps.map (Pl.ev B (byC f))))):=zag;have fa:=keep (x:=Ob.lst (zaJ (ps.map (Pl.ev B (byC f))))) ha hq;have sub:Sub S (put S q (Ob.lst (zaJ (ps.map (Pl.ev B (byC f)))))):= .put .refl hq;generalize put S q (Ob.lst (zaJ (ps.map (Pl.ev B (byC f)))))=S1 at fq fa sub⊢
   try walk_at "wp"
   cases ok with
   |sign hs' _=>
    rw [if_pos (by decide)]
    try rw [zaj fq]
    rw [zcy]at h;rw [zbe,List.length_map];simp only[enc]at h;exact⟨zah (by decide),zah (by omega),_,sub,h⟩
   | @turn k _ _ _ t e hl b0 b1 _=>
    have ek:atI (B.map zbj) (k:Int)=some (.tup [.str t.1,enc t.2.1,enc t.2.2]):=by
     rw [zbk,List.getElem?_map,e];rfl
    have hdiv:zkY b' f:=by rcases hf with rfl |rfl |rfl |rfl<;>exact⟨by decide,by decide⟩
    have ht:t∈B:=List.mem_of_getElem? e;rw [zcG e]at h;rw [if_neg (by omega)];refine⟨hdiv,by decide,?_⟩
    simp only[zaj fa,ek];by_cases e1:b' / f % 2=1
    ·rw [e1];have:byC f b'=1:=by unfold byC;rw [if_pos e1]
     rw [this]at h;simp only[evT,enc]at h
     try walk_at "wp"
     try rw [zaj fq]
     rw [zbe,List.length_map];exact⟨zah (by decide),zah (by omega),_,sub,h⟩
    ·have e2:(b' / f % 2 == 1)=false:=by simpa using e1
     rw [e2];have:byC f b'=0:=by unfold byC;rw [if_neg e1]
     rw [this]at h;simp only[evT]at h;walk_at "wp";rw [show atI [W.str t.1,enc t.2.1,enc t.2.2] 1=some (enc t.2.1) from rfl];dsimp only;have hLd:=(b.lf t ht).dp;have hLw:=(b.lf t ht).wt;have hLn:=(b.lf t ht).nb;exact zdb 4 hLd (by omega) fq (by rw [List.length_map,hl];exact(b.lf t ht).fits) (by omega) ⟨_,sub,h⟩
end
theorem Pl.nat_bounds{p:Pl}(h1:p.wt≤23) (h2:p.nt≤4):p.dp+3*p.nt≤35∧2 ^ p.nt*p.wt≤368:=by
 have:=zfR p;have h3:2 ^ p.nt≤2 ^ 4:=Nat.pow_le_pow_right (by decide) h2;have:=Nat.mul_le_mul h3 h1;exact⟨by omega,by omega⟩
noncomputable def zbH (n:Int) (t:Tn):Tr:=if n=1 then t.2.1 else t.2.2
structure Sides (g:Tn→Tr) (B:List Tn):Prop where
  fits:∀t∈B,(g t).fits t.2.1.nb
  dp:∀t∈B,(g t).depth≤4
  wt:∀t∈B,(g t).weight≤10
mutual
noncomputable def Tr.ar (B:List Tn):Tr→Prop
 | .bl _=>False
 | .nd s ts=>(∀t,zaF B s=some t→ts.length=t.2.1.nb)∧ars B ts
noncomputable def ars (B:List Tn):List Tr→Prop
 | []=>True
 |t::ts=>t.ar B∧ars B ts
end
theorem ars_iff{B:List Tn}:∀{ts:List Tr},ars B ts↔ ∀t∈ts,t.ar B
 | []=>by simp [ars]
 |t::ts=>by simp [ars,ars_iff (ts:=ts)]
mutual
theorem znP{B:List Tn}:∀t:Tr,t.way B=true→t.ar B
 | .bl n,h=>by simp [Tr.way]at h
 | .nd s ts,h=>by
  simp only[Tr.way,Bool.and_eq_true]at h;simp only[Tr.ar];refine⟨fun t ht=>?_,znl ts h.2⟩;have:=h.1;rw [topB,ht]at this;simpa using this
theorem znl{B:List Tn}:∀ts:List Tr,zkP B ts=true→ars B ts
 | [],h=>by simp [ars]
 |t::ts,h=>by
  simp only[zkP,Bool.and_eq_true]at h;simp only[ars];exact⟨znP t h.1,znl ts h.2⟩
end
section
variable {n:Int}
theorem zoP (t:Tn) (h:n=1∨n=2):atI [W.str t.1,enc t.2.1,enc t.2.2] n=some (enc (zbH n t)):=by
 rcases h with rfl |rfl<;>rfl
end
mutual
theorem zqx{P:Str→Prop}:∀(l t:Tr) (ys:List Tr),l.mt t=some ys→t.hd P→hds P ys∧wts ys≤t.weight
 | .bl _,t,ys,h,q=>by
  simp only[Tr.mt,Option.some.injEq]at h;subst h;simp only[hds,wts];exact⟨⟨q,trivial⟩,by omega⟩
 | .nd s ls, .nd z us,ys,h,q=>by
  simp only[Tr.mt]at h;simp only[Tr.hd]at q;split at h
  ·have:=zns ls us ys h q.2;simp only[Tr.weight];exact⟨this.1,by omega⟩
  ·cases h
 | .nd _ _, .bl _,ys,h,q=>by simp [Tr.mt]at h
theorem zns{P:Str→Prop}:∀(ls us ys:List Tr),mts ls us=some ys→hds P us→hds P ys∧wts ys≤wts us
 | [],us,ys,h,q=>by simp only[mts,Option.some.injEq]at h;subst h;simp [hds,wts]
 |l::ls,[],ys,h,q=>by simp only[mts,Option.some.injEq]at h;subst h;simp [hds,wts]
 |l::ls,u::us,ys,h,q=>by
  simp only[mts]at h;simp only[hds]at q;split at h
  ·cases h
  ·rename_i xs ex;split at h
   ·cases h
   ·rename_i zs ez;simp only[Option.some.injEq]at h;subst h;have h1:=zqx l u xs ex q.1;have h2:=zns ls us zs ez q.2;rw [zfg,wts];exact⟨zjw h1.1 h2.1,by omega⟩
end
mutual
theorem zjO{P:Str→Prop}{m:Nat}:∀t:Tr,t.hd P→t.fits m
 | .bl n,h=>by simp [Tr.hd]at h
 | .nd s ts,h=>by
  simp only[Tr.hd]at h;simp only[Tr.fits];exact zit ts h.2
theorem zit{P:Str→Prop}{m:Nat}:∀ts:List Tr,hds P ts→fitss m ts
 | [],h=>by simp [fitss]
 |t::ts,h=>by
  simp only[hds]at h;simp only[fitss];exact⟨zjO t h.1,zit ts h.2⟩
end
section
variable {B:List Tn}
theorem Mv.nd{n:Nat}{x y z:Tr}:Mv B n x y z→ ∃s ts z' us,x= .nd s ts∧y= .nd z' us
 | .nn _ _ _=>⟨_,_,_,_,rfl,rfl⟩
 | .ns _ _ _ _ _=>⟨_,_,_,_,rfl,rfl⟩
 | .sn _ _ _ _=>⟨_,_,_,_,rfl,rfl⟩
 | .ss _ _ _ _=>⟨_,_,_,_,rfl,rfl⟩
end
theorem zqv:zbH 1=fun t=>t.2.1:=by funext t;exact if_pos rfl
theorem zqp:zbH 2=fun t=>t.2.2:=by funext t;exact if_neg (by decide)
section
variable {ws hs:List Str}{B:List Tn}
theorem BkOk.s1 (b:BkOk ws hs B):Sides (zbH 1) B:=by
 rw [zqv];refine⟨fun t ht=>(b.lf t ht).fits,fun t ht=>(b.lf t ht).dp,fun t ht=>?_⟩;have h1:=(b.lf t ht).wt;have h2:=(b.lf t ht).nb;show t.2.1.weight≤10;omega
theorem BkOk.s2 (b:BkOk ws hs B):Sides (zbH 2) B:=by
 rw [zqp];refine⟨fun t ht=>(b.ri t ht).fits,fun t ht=>?_,fun t ht=>?_⟩
 ·have:=(b.ri t ht).dp;show t.2.2.depth≤4;omega
 ·have:=(b.ri t ht).wt;show t.2.2.weight≤10;omega
end
theorem zlM (f x:Int):byC f x≤1:=by unfold byC;split<;>omega
section
variable {S:Sto}{a:Addr}{B:List Tn}{n:Int}
theorem zfX (B:List Tn) (s:Str) (g:Tn→W):B.findSome? (fun t=>if t.1 == s then some (g t) else none)=(zaF B s).map g:=by
 unfold zaF
 induction B with
 |nil=>rfl
 |cons t B ih=>
  rw [List.findSome?_cons,List.find?_cons];cases e:t.1 == s with
  |true=>rfl
  |false=>simpa using ih
theorem zhO (hnd:(B.map fun t=>t.1).Nodup) (ha:S a=some (.lst (B.map zbj))) (hn:n=1∨n=2) (hg:Sides (zbH n) B):∀(d:Nat) {t:Tr}{r:Nat}{Q:WK}{E:Str→Sto→Prop},t.depth≤d→d+10≤r→t.ar B→t.weight≤1000→Q (enc (t.mk B (zbH n))) S→zaT (r+1) [.ref a,enc t, .int n] S Q E
 |0,t,r,Q,E,hd,hr,hh,hw,h=>by have:=zbr t;omega
 |d+1, .bl k,r,Q,E,hd,hr,hh,hw,h=>by simp [Tr.ar]at hh
 |d+1, .nd s ts,r,Q,E,hd,hr,hh,hw,h=>by
  simp only[Tr.depth]at hd;simp only[Tr.weight]at hw;simp only[Tr.ar]at hh;have hk:=zcX ts;obtain⟨r,rfl⟩:∃r',r=r'+1:=⟨r - 1,by omega⟩
  rw [zaT];simp only[enc];walk_at "wp";rw [zaA];refine zbh (fun σ=>∃x,σ=[x,some (.ref a),some (.int n)]) enc (fun t=>enc (t.mk B (zbH n))) trivial ts [] _ ⟨none,rfl⟩ (by simp;omega) (fun x hx σ R hI hR=>?_) ?_
  ·obtain⟨y,rfl⟩:=hI;have hdx:=zcH hx;have hwx:=zcc hx;simp only[zdI];walk_at "wp";exact zhO hnd ha hn hg d (by omega) (by omega) (ars_iff.mp hh.2 x hx) (by omega) (hR _ _ ⟨_,rfl⟩ .refl)
  ·rw [List.nil_append];intro q hq;have eu:(ts.map fun t=>enc (t.mk B (zbH n)))=zaJ (ts.map (Tr.mk B (zbH n))):=by rw [zaA,List.map_map];rfl
   rw [eu,←zaA];have fq:put S q (Ob.lst (zaJ (ts.map (Tr.mk B (zbH n))))) q=some (.lst (zaJ (ts.map (Tr.mk B (zbH n))))):=zag;have fa:=keep (x:=Ob.lst (zaJ (ts.map (Tr.mk B (zbH n))))) ha hq;have sub:Sub S (put S q (Ob.lst (zaJ (ts.map (Tr.mk B (zbH n)))))):= .put .refl hq;generalize put S q (Ob.lst (zaJ (ts.map (Tr.mk B (zbH n)))))=S1 at fq fa sub⊢
   try walk_at "wp"
   rw [zaj fa];refine zdZ (S:=S1) ?_ (fun σ=>∃x,σ=[some (.ref a),some (.tup (.str s::zaJ ts)),some (.int n),some (.ref q),x]) zbj (fun t=>if t.1 == s then some (enc ((zbH n t).fill (ts.map (Tr.mk B (zbH n))))) else none) B _ ⟨_,rfl⟩ (fun t ht σ N hI hno hret=>?_) (fun e σ hI=>?_) fun w e S' sb=>?_
   ·exact fa
   ·obtain⟨x,rfl⟩:=hI;simp only[zdx];have ee:zbj t= .tup [.str t.1,enc t.2.1,enc t.2.2]:=rfl;rw [ee];walk_at "wp";cases e:t.1 == s with
    |true=>
     rw [e]at hret
     try walk_at "wp"
     rw [zoP t hn];dsimp only;have et:t.1=s:=by simpa using e
     have hgw:=hg.wt t ht;refine zdb 4 (hg.dp t ht) (by omega) fq ?_ (by omega) (hret _ rfl _ .refl);rw [List.length_map,hh.1 t (by rw [←et];exact zdG hnd ht)];exact hg.fits t ht
    |false=>
     rw [e]at hno;exact hno rfl _ _ ⟨_,rfl⟩ .refl
   ·obtain⟨x,rfl⟩:=hI;rw [zfX]at e;have e0:zaF B s=none:=by
     cases z:zaF B s with
     |none=>rfl
     |some t=>rw [z]at e;cases e
    rw [zli e0]at h
    try walk_at "wp"
    rw [zie]
    try rw [zaj fq]
    try walk_at "wp"
    simp only[enc]at h;refine⟨zah ?_,_,sub,h⟩;rw [zbe,List.length_map];omega
   ·rw [zfX]at e;cases z:zaF B s with
    |none=>rw [z]at e;cases e
    |some t=>
     rw [z]at e;rw [zkO z]at h;cases e;exact⟨_,sub.trans sb,h⟩
end
noncomputable def pps (B:List Tn) (s:Str) (n:Nat):List (List Int):=match zaF B s with
 |none=>(List.range n).map fun(i:Nat)=>[(i:Int)]
 |some t=>t.2.1.bls.map fun x=>x.1
mutual
noncomputable def Tr.us (B:List Tn) (p:List Int):Tr→List (List Int×Str)
 | .bl _=>[]
 | .nd s ts=>(match zaF B s with
  |none=>[]
  |some _=>[(p,s)])++usz B p (pps B s ts.length) ts
noncomputable def usz (B:List Tn) (p:List Int):List (List Int)→List Tr→List (List Int×Str)
 |q::qs,t::ts=>t.us B (p++q)++usz B p qs ts
 |_,_=>[]
end
noncomputable def ppl (B:List Tn) (k:Int) (n:Nat):List (List Int):=if k<0 then(List.range n).map fun(i:Nat)=>[(i:Int)] else(B.getD k.toNat (⟨#[]⟩, .bl 0, .bl 0)).2.1.bls.map fun x=>x.1
mutual
noncomputable def Pl.ns (B:List Tn) (p:List Int):Pl→List (List Int×Int×Str)
 | .nd k b h ps=>(if k<0 then [] else [(p,b,(B.getD k.toNat (⟨#[]⟩, .bl 0, .bl 0)).1)])++nsz B p (ppl B k ps.length) ps
noncomputable def nsz (B:List Tn) (p:List Int):List (List Int)→List Pl→List (List Int×Int×Str)
 |q::qs,t::ts=>t.ns B (p++q)++nsz B p qs ts
 |_,_=>[]
end
noncomputable def ztt (c:Int→Nat) (xs:List (List Int×Int×Str)):List (List Int×Str):=(xs.filter fun x=>c x.2.1 == 1).map fun x=>(x.1,x.2.2)
noncomputable def zmw (B:List Tn) (t:Tr):Option Tn:=B.find? fun u=>(u.2.1.mt t).isSome
mutual
noncomputable def Tr.op (B:List Tn) (p:List Int):Tr→List (List Int×Str)
 | .bl _=>[]
 | .nd s ts=>(match zmw B (.nd s ts) with
  |none=>[]
  |some t=>[(p,t.1)])++ops B p 0 ts
noncomputable def ops (B:List Tn) (p:List Int) (i:Nat):List Tr→List (List Int×Str)
 | []=>[]
 |t::ts=>t.op B (p++[(i:Int)])++ops B p (i+1) ts
end
theorem zcv{n:Nat}{h c d:Str}{L:Tr}(hL:L∈leftsL n h c d):∃ts,L= .nd h ts:=by
 unfold leftsL at hL;split at hL<;>simp only[List.mem_cons,List.not_mem_nil,or_false]at hL
 all_goals first
  | (subst hL;exact⟨_,rfl⟩)
  | (rcases hL with rfl |rfl<;>exact⟨_,rfl⟩)
theorem zkD{s z:Str}{ls us:List Tr}(h:((Tr.nd s ls).mt (.nd z us)).isSome=true):s=z:=by
 simp only[Tr.mt]at h;split at h
 ·rename_i q;simp only[Bool.and_eq_true,beq_iff_eq]at q;exact q.1
 ·cases h
theorem zgh{n:Nat}{h c d:Str}{L M x:Tr}(hL:L∈leftsL n h c d) (hM:M∈leftsL n h c d) (h1:(L.mt x).isSome=true) (h2:(M.mt x).isSome=true):L=M:=by
  cases x with
  |bl k=>
    obtain⟨ts,rfl⟩:=zcv hL;simp [Tr.mt]at h1
  |nd s ts=>
    unfold leftsL at hL hM;split at hL<;>simp only[List.mem_cons,List.not_mem_nil,or_false]at hL hM
    all_goals first
      | (rw [hL,hM])
      | (rcases hL with rfl |rfl<;>rcases hM with rfl |rfl<;>first
          |rfl
          | (exfalso
             rcases ts with _ |⟨u,us⟩
             · simp [Tr.mt]at h1
             · cases u with
               |bl k=>simp [Tr.mt,mts]at h1 h2
               |nd z vs=>
                 rcases vs with _ |⟨v,vs⟩
                 · simp [Tr.mt,mts]at h1 h2
                 · rcases vs with _ |⟨v',vs⟩
                   · cases v with
                     |bl k=>simp [Tr.mt,mts]at h1 h2
                     |nd z' xs=>
                       rcases xs with _ |⟨x',xs⟩
                       · simp [Tr.mt,mts]at h1 h2
                       · simp [Tr.mt,mts]at h1 h2
                   · simp [Tr.mt,mts]at h1 h2))
section
variable {w0 w1 w2 w3 w4 w5:Str}{tt:List Str}{B:List Tn}
theorem BookOk.one (b:BookOk w0 w1 w2 w3 w4 w5 tt B) (G:Signs w0 w1 w2 w3 w4 w5) {u v:Tn}(hu:u∈B) (hv:v∈B) {x:Tr}(h1:(u.2.1.mt x).isSome=true) (h2:(v.2.1.mt x).isSome=true):u.2.1=v.2.1:=by
 obtain⟨n,m,e⟩:=b.lf;have mu:u.2.1∈leftsL n w0 w2 w3++leftsL m w1 w2 w3:=by rw [←e];exact List.mem_map.mpr ⟨u,hu,rfl⟩
 have mv:v.2.1∈leftsL n w0 w2 w3++leftsL m w1 w2 w3:=by rw [←e];exact List.mem_map.mpr ⟨v,hv,rfl⟩
 have key:∀{L M:Tr},L∈leftsL n w0 w2 w3→M∈leftsL m w1 w2 w3→(L.mt x).isSome=true→(M.mt x).isSome=true→False:=fun {L M} hL hM k1 k2=>by
  obtain⟨ts,rfl⟩:=zcv hL;obtain⟨us,rfl⟩:=zcv hM;cases x with
  |bl k=>simp [Tr.mt]at k1
  |nd s vs=>exact G.n0 w1 (by simp) ((zkD k1).trans (zkD k2).symm)
 rcases List.mem_append.mp mu with z |z<;>rcases List.mem_append.mp mv with y |y
 ·exact zgh z y h1 h2
 ·exact(key z y h1 h2).elim
 ·exact(key y z h2 h1).elim
 ·exact zgh z y h1 h2
theorem zey (n:Nat) (h c d:Str):(leftsL n h c d).Nodup:=by
 unfold leftsL;split<;>simp
theorem BookOk.inj (b:BookOk w0 w1 w2 w3 w4 w5 tt B) (G:Signs w0 w1 w2 w3 w4 w5):(B.map fun t=>t.2.1).Nodup:=by
 obtain⟨n,m,e⟩:=b.lf;rw [e,List.nodup_append];refine⟨zey ..,zey ..,fun x hx y hy=>?_⟩;obtain⟨ts,rfl⟩:=zcv hx;obtain⟨us,rfl⟩:=zcv hy;intro z;cases z;exact G.n0 _ (by simp) rfl
theorem zhS{α β:Type}{f:α→β}:∀{xs:List α}{x y:α},(xs.map f).Nodup→x∈xs→y∈xs→f x=f y→x=y
 |z::xs,x,y,h,hx,hy,e=>by
  rw [List.map_cons,List.nodup_cons]at h;rcases List.mem_cons.mp hx with h1 |h1
  ·rcases List.mem_cons.mp hy with h2 |h2
   ·rw [h1,h2]
   ·exact(h.1 (List.mem_map.mpr ⟨y,h2,by rw [←e,h1]⟩)).elim
  ·rcases List.mem_cons.mp hy with h2 |h2
   ·exact(h.1 (List.mem_map.mpr ⟨x,h1,by rw [e,h2]⟩)).elim
   ·exact zhS h.2 h1 h2 e
theorem BookOk.open_some (b:BookOk w0 w1 w2 w3 w4 w5 tt B) (G:Signs w0 w1 w2 w3 w4 w5) {t:Tn}(ht:t∈B) {us:List Tr}(hu:us.length=t.2.1.nb):zmw B (t.2.1.fill us)=some t:=by
 have hm:=b.mt t ht us hu;unfold zmw;cases e:B.find? fun u=>(u.2.1.mt (t.2.1.fill us)).isSome with
 |none=>
  rw [List.find?_eq_none]at e;have:=e t ht;rw [hm]at this;simp at this
 |some u=>
  have hu':=List.find?_some e;have mu:=List.mem_of_find?_eq_some e;have:=b.one G mu ht hu' (by rw [hm];rfl);rw [zhS (b.inj G) mu ht this]
end
theorem zqT{h:Str}:(Tr.nd h [.bl 0]).bls.map (fun x=>x.1)=[[0]]:=by simp [Tr.bls,Tr.plt,zeL,Tr.isBl]
theorem zry{h:Str}:(Tr.nd h [.bl 0, .bl 1]).bls.map (fun x=>x.1)=[[0],[1]]:=by simp [Tr.bls,Tr.plt,zeL,Tr.isBl]
theorem zpY{h c:Str}:(Tr.nd h [.nd c []]).bls.map (fun x=>x.1)=[]:=by simp [Tr.bls,Tr.plt,zeL,Tr.isBl]
theorem zqV{h d:Str}:(Tr.nd h [.nd d [.bl 0]]).bls.map (fun x=>x.1)=[[0,0]]:=by simp [Tr.bls,Tr.plt,zeL,Tr.isBl]
theorem zqQ{h c:Str}:(Tr.nd h [.nd c [], .bl 0]).bls.map (fun x=>x.1)=[[1]]:=by simp [Tr.bls,Tr.plt,zeL,Tr.isBl]
theorem zro{h d:Str}:(Tr.nd h [.nd d [.bl 0], .bl 1]).bls.map (fun x=>x.1)=[[0,0],[1]]:=by simp [Tr.bls,Tr.plt,zeL,Tr.isBl]
theorem zrf{h d:Str}:(Tr.nd h [.nd d [.nd d [.bl 0]], .bl 1, .bl 2]).bls.map (fun x=>x.1)=[[0,0,0],[1],[2]]:=by simp [Tr.bls,Tr.plt,zeL,Tr.isBl]
theorem zrJ{h c d:Str}:(Tr.nd h [.nd d [.nd c []], .bl 0, .bl 1]).bls.map (fun x=>x.1)=[[1],[2]]:=by simp [Tr.bls,Tr.plt,zeL,Tr.isBl]
theorem zrn{h:Str}:(Tr.nd h []).bls.map (fun x=>x.1)=[]:=by simp [Tr.bls,Tr.plt,zeL,Tr.isBl]
section
variable {a:Addr}{B:List Tn}
structure Lft (B:List Tn):Prop where
  d:∀t∈B,t.2.1.depth≤4
  w:∀t∈B,t.2.1.weight≤10
theorem zjj{S:Sto}{r:Nat}{Q:WK}{E:Str→Sto→Prop}{s:Str}{ts:List Tr}(L:Lft B) (ha:S a=some (.lst (B.map zbj))) (hl:ts.length≤1000) (hr:20≤r) (h:∀q,S q=none→Q (.ref q) (put S q (.lst ((pps B s ts.length).map zaH)))):zbd (r+1) [.ref a,enc (.nd s ts)] S Q E:=by
 obtain⟨r,rfl⟩:∃r',r=r'+1:=⟨r - 1,by omega⟩
 rw [zbd];simp only[enc];walk_at "wp";refine zfV ha ?_;unfold pps at h;cases e:zaF B s with
 |none=>
  rw [e]at h;simp only[zrO]
  try walk_at "wp"
  rw [zbe];have e1:(((ts.length+1:Nat):Int) - 1).toNat=ts.length:=by omega
  rw [e1];refine⟨⟨by omega,by omega⟩,?_⟩
  rw [zeT];refine zbh (fun σ=>∃x,σ=[x]) (fun i:Nat=>W.int i) (fun i=>zaH [(i:Int)]) trivial (List.range ts.length) [] _ ⟨none,rfl⟩ (by simp;omega) (fun x hx σ R hI hR=>?_) ?_
  ·obtain⟨y,rfl⟩:=hI;simp only[zcK];walk_at "wp";exact⟨zah (by decide),hR _ _ ⟨_,rfl⟩ .refl⟩
  ·rw [List.nil_append];intro q hq;have:=h q hq;simp only[List.map_map]at this;exact⟨_, .refl,this⟩
 |some t=>
  rw [e]at h;have ht:t∈B:=List.mem_of_find?_eq_some e;have ee:zrO (some t)= .tup [.str t.1,enc t.2.1,enc t.2.2]:=rfl;rw [ee]
  try walk_at "wp"
  rw [show atI [W.str t.1,enc t.2.1,enc t.2.2] 1=some (enc t.2.1) from rfl];dsimp only;have h1:=L.d t ht;have h2:=L.w t ht;refine zjd (by omega) (by omega) fun q hq=>?_;have:=h q hq;simp only[List.map_map]at this;exact⟨_, .refl,this⟩
end
section
variable {B:List Tn}
theorem zkC{p q:List Int}{S:Sto}{Q:WK}:zcO (zaH p) (zaH q) S Q=(p.length+q.length≤sizeLine∧Q (zaH (p++q)) S):=by
 unfold zaH;rw [zel,List.length_map,List.length_map,List.map_append]
noncomputable def PB (B:List Tn):Prop:=∀t∈B,∀x∈t.2.1.bls,x.1.length≤4
theorem zgo{s:Str}{n:Nat}(h:PB B):∀q∈pps B s n,q.length≤4:=fun q hq=>by
 unfold pps at hq;cases e:zaF B s with
 |none=>
  rw [e]at hq;obtain⟨i,_,rfl⟩:=List.mem_map.mp hq;simp
 |some t=>
  rw [e]at hq;obtain⟨x,hx,rfl⟩:=List.mem_map.mp hq;exact h t (List.mem_of_find?_eq_some e) x hx
end
theorem zgl{S:Sto}{n:Nat}:∀(p q:List Int),zdK (eqF S (n+1)) (p.map W.int) (q.map W.int)=some (decide (p=q))
 | [],[]=>by simp [zdK]
 | [],j::q=>by simp [zdK]
 |i::p,[]=>by simp [zdK]
 |i::p,j::q=>by
  rw [List.map_cons,List.map_cons,zdK,znF,zgl p q];simp only[Option.some.injEq];rw [Bool.eq_iff_iff];simp
theorem zsO{S:Sto}{n:Nat}(p q:List Int):eqF S (n+2) (zaH p) (zaH q)=some (decide (p=q)):=by
 unfold zaH;rw [znu,zgl]
theorem zld:∀(ls us:List Tr),(mts ls us).isSome=(ls.zip us).all fun x=>(x.1.mt x.2).isSome
 | [],us=>by simp [mts]
 |l::ls,[]=>by simp [mts]
 |l::ls,u::us=>by
  rw [mts,List.zip_cons_cons,List.all_cons,←zld ls us];cases l.mt u with
  |none=>rfl
  |some xs=>cases mts ls us<;>rfl
theorem zeX:∀(ls us:List Tr),zbq (zaJ ls) (zaJ us)=(ls.zip us).map fun x=>W.tup [enc x.1,enc x.2]
 | [],us=>by simp [zaJ,zbq]
 |l::ls,[]=>by simp [zaJ,zbq]
 |l::ls,u::us=>by
  simp [zaJ,zbq,zeX ls us]
theorem zlc{α:Type}(g:α→Bool):∀xs:List α,zgA (xs.map fun x=>W.bl (g x))=some (xs.map g)
 | []=>rfl
 |x::xs=>by rw [List.map_cons,zgA,zlc g xs];rfl
theorem zjF{S:Sto}:∀(d:Nat) {l t:Tr}{r:Nat}{Q:WK}{E:Str→Sto→Prop},l.depth≤d→d≤r→t.fits 0→l.weight≤1000→Q (.bl (l.mt t).isSome) S→zaw (r+1) [enc l,enc t] S Q E
 |0,l,t,r,Q,E,hd,hr,hf,hw,h=>by have:=zbr l;omega
 |d+1, .bl n,t,r,Q,E,hd,hr,hf,hw,h=>by
  rw [zaw];simp only[enc];walk_at "wp";simp only[Tr.mt,Option.isSome_some]at h;exact⟨_, .refl,h⟩
 |d+1, .nd s ls, .bl n,r,Q,E,hd,hr,hf,hw,h=>by
  simp only[Tr.fits]at hf;omega
 |d+1, .nd s ls, .nd z us,r,Q,E,hd,hr,hf,hw,h=>by
  simp only[Tr.fits]at hf;simp only[Tr.depth]at hd;simp only[Tr.weight]at hw;obtain⟨r,rfl⟩:∃r',r=r'+1:=⟨r - 1,by omega⟩
  have en:∀s ts,enc (.nd s ts)= .tup (.str s::zaJ ts):=fun s ts=>by simp [enc]
  rw [zaw];rw [en,en];walk_at "wp";rw [zbe,zbe];have en2:(((ls.length+1:Nat):Int) == ((us.length+1:Nat):Int))=(ls.length == us.length):=by
   rw [Bool.eq_iff_iff,beq_iff_eq,beq_iff_eq];omega
  rw [en2];simp only[Tr.mt]at h;cases e1:(s == z) with
  |false=>
   rw [e1]at h;exact⟨_, .refl,h⟩
  |true=>
   rw [e1]at h;rw [if_neg (by decide)];cases e2:(ls.length == us.length) with
   |false=>
    rw [e2]at h;exact⟨_, .refl,h⟩
   |true=>
    rw [e2]at h;rw [if_neg (by decide)];simp only[Bool.and_self,if_true]at h;have hk:=zcX ls;rw [zeX];refine zbh (fun σ=>∃x y,σ=[x,y]) (fun x:Tr×Tr=> .tup [enc x.1,enc x.2]) (fun x=> .bl (x.1.mt x.2).isSome) trivial (ls.zip us) [] _ ⟨none,none,rfl⟩ (by simp;omega) (fun x hx σ R hI hR=>?_) ?_
    ·obtain⟨x1,x2,rfl⟩:=hI;simp only[zbY];walk_at "wp";have m1:=(List.of_mem_zip hx).1;have m2:=(List.of_mem_zip hx).2;have hdd:=zcH m1;have hww:=zcc m1;exact zjF d (by omega) (by omega) (zex hf m2) (by omega) (hR _ _ ⟨_,_,rfl⟩ .refl)
    ·rw [List.nil_append,zlc];refine⟨_, .refl,?_⟩;rw [zld]at h;rw [List.all_map];exact h
theorem zlo{S:Sto}{E:WX}{D:WEnds}{x1:Option W}{r:Nat}:∀(q:List Int) {t u:Tr}{x2:Option W},t.at q=some u→(∀x2,D.nx [some (enc u),x1,x2] S)→forL (wGN 2) (zce r zbw) E D (fun _=>True) (q.map W.int) [some (enc t),x1,x2] S
 | [],t,u,x2,h,hD=>by
  cases t<;>simp only[Tr.at,Option.some.injEq]at h<;>subst h<;>simpa [forL]using hD x2
 |i::q, .bl n,u,x2,h,hD=>by simp [Tr.at]at h
 |i::q, .nd s ts,u,x2,h,hD=>by
  obtain⟨a,h2,e1,e2⟩:=zgr h;rw [List.map_cons];refine zbM fun N hN=>?_;simp only[zce,enc];walk_at "wp";have ei:(i:Int)+1=((i.toNat+1:Nat):Int):=by omega
  rw [ei,zbk,List.getElem?_cons_succ,zaA,List.getElem?_map,e1];exact hN _ _ _ .refl trivial (zlo q e2 hD)
theorem zjZ{S:Sto}{q:List Int}{t u:Tr}{r:Nat}{Q:WK}{E:Str→Sto→Prop}(ha:t.at q=some u) (h:Q (enc u) S):zaS (r+1) [enc t,zaH q] S Q E:=by
 rw [zaS];simp only[zaH];walk_at "wp";refine zlo q ha fun x2=>?_;walk_at "wp";exact⟨_, .refl,h⟩
theorem zpO{x:List Int}{t:Tr}{p:List Int}(h:x∈t.pl p):x.length<p.length+t.depth:=by
 rw [←zcL,List.mem_map]at h;obtain⟨⟨q,u⟩,hm,rfl⟩:=h;obtain⟨r,rfl,_,hr⟩:=zgj t p q u hm;simp;omega
mutual
theorem znq (p:List Int):∀(t:Tr) (q:List Int),t.pl (p++q)=(t.pl q).map (p++ ·)
 | .bl _,q=>by simp [Tr.pl]
 | .nd _ ts,q=>by simp [Tr.pl,zlp p ts q 0]
theorem zlp (p:List Int):∀(ts:List Tr) (q:List Int) (i:Nat),pls (p++q) i ts=(pls q i ts).map (p++ ·)
 | [],q,i=>by simp [pls]
 |t::ts,q,i=>by rw [pls,pls,List.map_append,←znq p t,zlp p ts q (i+1),List.append_assoc]
end
theorem zio{E:WX}{D:WEnds}{x0:Option W}{r:Nat}:∀(ts:List Tr) (one:∀u∈ts,∀{S:Sto}{Q:WK}{E:Str→Sto→Prop},(∀S' b,Sub S S'→S' b=some (.lst ((u.pl []).map zaH))→Q (.ref b) S')→zat r [enc u] S Q E) (i:Nat) {acc:List (List Int)}{f:Addr}{S:Sto}{x2 x3:Option W},S f=some (.lst (acc.map zaH))→acc.length+wts ts≤100000→dts ts≤1000→
  (∀S' g x2 x3,Sub S S'→S' g=some (.lst ((acc++pls [] i ts).map zaH))→D.nx [x0,some (.ref g),x2,x3] S')→forL (wGT (zaG (wGN 2) (zaG (wGN 3) zcI))) (zbm r (zat r)) E D (fun _=>True) (zfa i (zaJ ts)) [x0,some (.ref f),x2,x3] S
 | [],one,i,acc,f,S,x2,x3,hf,hl,hd,h=>by
  have:=h S f x2 x3 .refl (by simpa [pls]using hf);simpa [forL,zfa,zaJ]using this
 |t::ts,one,i,acc,f,S,x2,x3,hf,hl,hd,h=>by
  simp only[dts]at hd;simp only[wts]at hl;simp only[zaJ,zfa];refine zbM fun N hN=>?_;simp only[zbm];walk_at "wp";refine one t List.mem_cons_self fun S1 b sb hb=>?_;dsimp only;rw [zaj hb];have hpl:(t.pl []).length=t.weight:=by rw [←zcL,List.length_map,zek]
  refine zbh (fun σ=>∃x,σ=[x,some (.int i)]) zaH (fun q=>zaH ((i:Int)::q)) hb (t.pl []) [] _ ⟨none,rfl⟩ (by simp;omega) (fun q hq σ R hI hR=>?_) ?_
  ·obtain⟨x,rfl⟩:=hI;have hq2:=zpO hq;simp only[zbW];walk_at "wp";have e1:W.tup [.int (i:Int)]=zaH [(i:Int)]:=rfl;rw [e1,zkC];refine⟨zah (by decide),zah (by simp at hq2⊢;omega),hR _ _ ⟨_,rfl⟩ .refl⟩
  ·rw [List.nil_append,zaj (sb _ _ hf)];refine⟨zah (by simp;omega),fun a ha=>?_⟩;have e:acc.map zaH++(t.pl []).map (fun q=>zaH ((i:Int)::q))=(acc++t.pl [(i:Int)]).map zaH:=by
    have:=znq [(i:Int)] t [];rw [List.append_nil]at this;rw [List.map_append,this,List.map_map];rfl
   rw [e];have hpl2:(t.pl [(i:Int)]).length=t.weight:=by rw [←zcL,List.length_map,zek]
   refine hN _ _ _ .refl trivial (zio ts (fun u hu=>one u (List.mem_cons_of_mem _ hu)) (i+1) zag (by simp;omega) (by omega) fun S' g x2 x3 sb' hg=>?_);exact h S' g x2 x3 ((sb.trans (.new ha)).trans sb') (by rw [pls,←List.append_assoc];exact hg)
theorem znd:∀(d:Nat) {t:Tr}{r:Nat}{S:Sto}{Q:WK}{E:Str→Sto→Prop},t.depth≤d→d≤r→t.weight≤1000→t.depth≤1000→(∀S' b,Sub S S'→S' b=some (.lst ((t.pl []).map zaH))→Q (.ref b) S')→zat (r+1) [enc t] S Q E
 |0,t,r,S,Q,E,hd,hr,hw,hz,h=>by have:=zbr t;omega
 |d+1, .bl n,r,S,Q,E,hd,hr,hw,hz,h=>by
  rw [zat];simp only[enc];walk_at "wp";refine⟨zah (by decide),zah (by decide),fun a ha=>⟨_, .refl,h _ a (.new ha) zag⟩⟩
 |d+1, .nd s ts,r,S,Q,E,hd,hr,hw,hz,h=>by
  simp only[Tr.depth]at hd hz;simp only[Tr.weight]at hw;obtain⟨r,rfl⟩:∃r',r=r'+1:=⟨r - 1,by omega⟩
  rw [zat];simp only[enc];walk_at "wp";refine⟨zah (by decide),zah (by decide),fun a ha=>?_⟩;have en:W.tup (.str s::zaJ ts)=enc (.nd s ts):=by simp [enc]
  try walk_at "wp"
  refine zio ts (fun u hu {S Q E} q=>znd d (by have:=zcH hu;omega) (by omega) (by have:=zcc hu;omega) (by have:=zcH hu;omega) q) 0 (acc:=[[]]) zag (by simp;omega) (by omega) fun S' g x2 x3 sb hg=>?_;walk_at "wp";exact⟨_, .refl,h _ g ((Sub.new ha).trans sb) (by rw [Tr.pl];exact hg)⟩
theorem zej{α:Type}(P:α→Bool):∀(bs:List α),bs.Nodup→(∀u∈bs,∀v∈bs,P u=true→P v=true→u=v)→bs.filter P=(bs.find? P).toList
 | [],_,_=>rfl
 |b::bs,hn,hu=>by
  rw [List.nodup_cons]at hn;rw [List.filter_cons,List.find?_cons];cases e:P b with
  |false=>simpa using zej P bs hn.2 fun u h1 v h2=>hu u (List.mem_cons_of_mem _ h1) v (List.mem_cons_of_mem _ h2)
  |true=>
   simp only[if_true,Option.toList_some,List.cons.injEq,true_and];rw [List.filter_eq_nil_iff];intro v hv pv;have:=hu b List.mem_cons_self v (List.mem_cons_of_mem _ hv) e pv;subst this;exact hn.1 hv
theorem zoB{S:Sto}{n:Nat}{a b:Addr}{xs:List W}(ha:S a=some (.lst xs)) (hb:S b=some (.lst xs)) (h:zdK (eqF S n) xs xs=some true):eqF S (n+1) (.ref a) (.ref b)=some true:=by
 show(match S a with
  |some (.lst xs)=>match S b with
   |some (.lst ys)=>zdK (eqF S n) xs ys
   |_=>none
  |_=>none)=some true
 rw [ha,hb];exact h
noncomputable def u1 (B:List Tn) (p:Pl):List (List Int×Str):=ztt (byC 1) (p.ns B [])
mutual
noncomputable def Tr.lo (B:List Tn) (p:List Int):Tr→List (List Int)
 | .bl _=>[]
 | .nd s ts=>loz B p (pps B s ts.length) ts++(match zaF B s with
  |none=>[]
  |some _=>[p])
noncomputable def loz (B:List Tn) (p:List Int):List (List Int)→List Tr→List (List Int)
 |q::qs,t::ts=>t.lo B (p++q)++loz B p qs ts
 |_,_=>[]
end
mutual
theorem zii (B:List Tn):∀(t:Tr) (p:List Int),(t.lo B p).length≤t.weight
 | .bl _,p=>by simp [Tr.lo]
 | .nd s ts,p=>by
  have:=zhx B ts (pps B s ts.length) p;rw [Tr.lo,List.length_append,Tr.weight];split<;>simp<;>omega
theorem zhx (B:List Tn):∀(ts:List Tr) (qs:List (List Int)) (p:List Int),(loz B p qs ts).length≤wts ts
 | [],qs,p=>by cases qs<;>simp [loz]
 |t::ts,[],p=>by simp [loz]
 |t::ts,q::qs,p=>by
  have h1:=zii B t (p++q);have h2:=zhx B ts qs p;rw [loz,List.length_append,wts];omega
end
section
variable {a f:Addr}{B:List Tn}
mutual
theorem znB (L:Lft B) (hP:PB B) (haf:f≠a):∀(t:Tr) {r:Nat}{p:List Int}{xs:List W}{S:Sto}{Q:WK}{E:Str→Sto→Prop},t.depth+25≤r→S a=some (.lst (B.map zbj))→S f=some (.lst xs)→xs.length+t.weight≤100000→p.length+4*t.depth≤1000→t.weight≤1000→t.hd (fun _=>True)→
  Q .non (put S f (.lst (xs++(t.lo B p).map zaH)))→zau (r+1) [.ref a,enc t,zaH p, .ref f] S Q E
 | .bl n,r,p,xs,S,Q,E,hr,ha,hf,hx,hp,hw,hh,h=>by simp [Tr.hd]at hh
 | .nd s ts,r,p,xs,S,Q,E,hr,ha,hf,hx,hp,hw,hh,h=>by
  simp only[Tr.depth]at hr hp;simp only[Tr.weight]at hx hw;simp only[Tr.hd]at hh;have hk:=zcX ts;obtain⟨r,rfl⟩:∃r',r=r'+1:=⟨r - 1,by omega⟩
  rw [zau];have ee:enc (.nd s ts)= .tup (.str s::zaJ ts):=by simp only[enc]
  have pp:∀{Q:WK}{E:Str→Sto→Prop},(∀q,S q=none→Q (.ref q) (put S q (.lst ((pps B s ts.length).map zaH))))→zbd (r+1) [.ref a, .tup (.str s::zaJ ts)] S Q E:=fun h=>by
   rw [←ee];exact zjj (s:=s) (ts:=ts) L ha (by omega) (r:=r) (by omega) h
  rw [ee];walk_at "wp";refine pp fun q hq=>?_;rw [zen,zbD];have hqf:q≠f:=fun z=>by rw [z,hf]at hq;cases hq
  have ll:=zhx B ts (pps B s ts.length) p;refine zkv L hP haf ts (pps B s ts.length) (xs:=xs) (zgo hP) (by omega) (keep ha hq) (keep hf hq) (by omega) (by omega) (by omega) hh.2 (fun o=>?_) fun x4 x5=>?_
  ·show put (put S q (Ob.lst (List.map zaH (pps B s ts.length)))) f o q=_;rw [zaX hqf];exact zag
  ·have ga:=keep (x:=Ob.lst (List.map zaH (pps B s ts.length))) ha hq;have ss:Sub (put S f (.lst (xs++(loz B p (pps B s ts.length) ts).map zaH))) (put (put S q (Ob.lst (List.map zaH (pps B s ts.length)))) f (Ob.lst (xs++List.map zaH (loz B p (pps B s ts.length) ts)))):=by
    rw [zea (Ne.symm hqf)];exact .put .refl (by rw [zaX hqf];exact hq)
   replace ga:put (put S q (Ob.lst (List.map zaH (pps B s ts.length)))) f (Ob.lst (xs++List.map zaH (loz B p (pps B s ts.length) ts))) a=some (.lst (B.map zbj)):=by rw [zaX (Ne.symm haf)];exact ga
   have gf:put (put S q (Ob.lst (List.map zaH (pps B s ts.length)))) f (Ob.lst (xs++List.map zaH (loz B p (pps B s ts.length) ts))) f=some (Ob.lst (xs++List.map zaH (loz B p (pps B s ts.length) ts))):=zag;rw [Tr.lo]at h;walk_at "wp";refine zfV ga ?_;cases e:zaF B s with
   |none=>
    rw [e]at h;rw [List.append_nil]at h;simp only[zrO]
    try walk_at "wp"
    exact⟨_,ss,h⟩
   |some t=>
    rw [e]at h;have et:zrO (some t)= .tup [.str t.1,enc t.2.1,enc t.2.2]:=rfl;rw [et]
    try walk_at "wp"
    refine⟨zcY (by simp;omega),?_⟩;refine⟨_,?_,h⟩;rw [zea (Ne.symm hqf),List.map_append,←List.append_assoc];exact .put .refl (by rw [zaX hqf];exact hq)
theorem zkv (L:Lft B) (hP:PB B) (haf:f≠a):∀(ts:List Tr) (qs:List (List Int)) {r:Nat}{p:List Int}{xs:List W}{S:Sto}{G:Sto→Prop}{E:WX}{D:WEnds}{t0 x4 x5:Option W},(∀q∈qs,q.length≤4)→dts ts+25≤r→S a=some (.lst (B.map zbj))→S f=some (.lst xs)→xs.length+wts ts≤100000→p.length+4+4*dts ts≤1000→wts ts≤1000→hds (fun _=>True) ts→(∀o,G (put S f o))→
  (∀x4 x5,D.nx [some (.ref a),t0,some (zaH p),some (.ref f),x4,x5] (put S f (.lst (xs++(loz B p qs ts).map zaH))))→
  forL (wGT (zaG (wGN 4) (zaG (wGN 5) zcI))) (zaW (r+1) (zau (r+1))) E D G (zbq (qs.map zaH) (zaJ ts)) [some (.ref a),t0,some (zaH p),some (.ref f),x4,x5] S
 | [],qs,r,p,xs,S,G,E,D,t0,x4,x5,hq,hr,ha,hf,hx,hp,hw,hh,hG,h=>by
  have e:zbq (qs.map zaH) (zaJ [])=[]:=by cases qs<;>simp [zaJ,zbq]
  rw [e];simp only[forL];have:=h x4 x5;have e2:loz B p qs []=[]:=by cases qs<;>simp [loz]
  rw [e2,List.map_nil,List.append_nil,zgp hf]at this;exact this
 |t::ts,[],r,p,xs,S,G,E,D,t0,x4,x5,hq,hr,ha,hf,hx,hp,hw,hh,hG,h=>by
  simp only[List.map_nil,zbq,forL];have:=h x4 x5;have e2:loz B p [] (t::ts)=[]:=by simp [loz]
  rw [e2,List.map_nil,List.append_nil,zgp hf]at this;exact this
 |t::ts,q::qs,r,p,xs,S,G,E,D,t0,x4,x5,hq,hr,ha,hf,hx,hp,hw,hh,hG,h=>by
  simp only[dts]at hr hp;simp only[wts]at hx hw;simp only[hds]at hh;have hq4:=hq q List.mem_cons_self;simp only[List.map_cons,zaJ,zbq];refine zbM fun N hN=>?_;simp only[zaW];walk_at "wp";rw [zkC];refine⟨zah (by omega),?_⟩;have ol:=zii B t (p++q);refine znB L hP haf t (by omega) ha hf (by omega) (by simp;omega) (by omega) hh.1 ?_;refine hN _ _ _ .refl (hG _) (zkv L hP haf ts qs (xs:=xs++(t.lo B (p++q)).map zaH) (fun q' hq'=>hq q' (List.mem_cons_of_mem _ hq')) (by omega) (by rw [zaX (Ne.symm haf)];exact ha) zag (by simp;omega) (by omega) (by omega) hh.2 (fun o=>by rw [zbt];exact hG o) fun x4 x5=>?_)
  rw [zbt];have:=h x4 x5;rw [loz,List.map_append]at this;simpa using this
end
theorem ziW{S:Sto}{r:Nat}{Q:WK}{E:Str→Sto→Prop}{t:Tr}(L:Lft B) (hP:PB B) (ha:S a=some (.lst (B.map zbj))) (hd:t.depth≤60) (hr:t.depth+30≤r) (hw:t.weight≤1000) (hh:t.hd (fun _=>True)) (h:∀q,S q=none→Q (.ref q) (put S q (.lst ((t.lo B []).map zaH)))):zcu (r+1) [.ref a,enc t] S Q E:=by
 obtain⟨r,rfl⟩:∃r',r=r'+1:=⟨r - 1,by omega⟩
 rw [zcu];walk_at "wp";refine⟨Nat.zero_le _,fun q hq=>⟨Nat.zero_le _,?_⟩⟩;have hqa:q≠a:=fun z=>by rw [z,ha]at hq;cases hq
 refine znB L hP hqa t (p:=[]) (xs:=[]) (by omega) (keep ha hq) zag (by simp;omega) (by simp;omega) hw hh ?_;rw [zbt,List.nil_append];exact⟨_, .refl,h q hq⟩
end
theorem zhi{B:List Tn}{p:List Int}{s:Str}{ts:List Tr}(h:zaF B s=none):(Tr.nd s ts).lo B p=loz B p ((List.range ts.length).map fun(i:Nat)=>[(i:Int)]) ts:=by
 rw [Tr.lo,pps,h,List.append_nil]
theorem zpr{B:List Tn}{p:List Int}{s:Str}{ts:List Tr}{t:Tn}(h:zaF B s=some t):(Tr.nd s ts).lo B p=loz B p (t.2.1.bls.map fun x=>x.1) ts++[p]:=by
 rw [Tr.lo,pps,h]
theorem ziI{B:List Tn}{n:Nat}{h c d:Str}{L:Tr}(hL:L∈leftsL n h c d) (h1:zaF B h=none) (h2:zaF B c=none) (h3:zaF B d=none) {us:List Tr}(hu:us.length=L.nb) (p:List Int):(L.fill us).lo B p=loz B p (L.bls.map fun x=>x.1) us:=by
 have r1:List.range 1=[0]:=rfl;have r2:List.range 2=[0,1]:=rfl;have r3:List.range 3=[0,1,2]:=rfl;unfold leftsL at hL;split at hL<;>simp only[List.mem_cons,List.not_mem_nil,or_false]at hL
 all_goals first
  | (subst hL;rcases us with _ |⟨u,_ |⟨v,_ |⟨x,_ |⟨y,us⟩⟩⟩⟩<;>simp [Tr.nb,nbs,Tr.fill,fills,zhi,h1,h2,h3,r1,r2,r3,loz,Tr.bls,Tr.plt,zeL,Tr.isBl,List.filter_cons]at hu⊢ <;>omega)
  | (rcases hL with rfl |rfl<;>rcases us with _ |⟨u,_ |⟨v,_ |⟨x,_ |⟨y,us⟩⟩⟩⟩<;>simp [Tr.nb,nbs,Tr.fill,fills,zhi,h1,h2,h3,r1,r2,r3,loz,Tr.bls,Tr.plt,zeL,Tr.isBl,List.filter_cons]at hu⊢ <;>omega)
noncomputable def ztW (B:List Tn):Prop:=∀t∈B,∀us:List Tr,us.length=t.2.1.nb→ ∀p,(t.2.1.fill us).lo B p=loz B p (t.2.1.bls.map fun x=>x.1) us
mutual
noncomputable def Pl.lo (B:List Tn) (c:Int→Nat) (p:List Int):Pl→List (List Int)
 | .nd k b h ps=>ziu B c p (ppl B k ps.length) ps++(if k<0 then [] else if c b=1 then [p] else [])
noncomputable def ziu (B:List Tn) (c:Int→Nat) (p:List Int):List (List Int)→List Pl→List (List Int)
 |q::qs,t::ts=>t.lo B c (p++q)++ziu B c p qs ts
 |_,_=>[]
end
theorem ziL{B:List Tn}{c:Int→Nat}{p:List Int}{b:Int}{h:Str}{ps:List Pl}:(Pl.nd (-1) b h ps).lo B c p=ziu B c p ((List.range ps.length).map fun(i:Nat)=>[(i:Int)]) ps:=by
 rw [Pl.lo,ppl,if_pos (by decide),if_pos (by decide),List.append_nil]
theorem ziA{B:List Tn}{c:Int→Nat}{p:List Int}{b:Int}{h:Str}{ps:List Pl}{k:Nat}{t:Tn}(e:B[k]? =some t):(Pl.nd k b h ps).lo B c p=ziu B c p (t.2.1.bls.map fun x=>x.1) ps++(if c b=1 then [p] else []):=by
 rw [Pl.lo,ppl,if_neg (by omega),if_neg (by omega),Int.toNat_natCast,List.getD_eq_getElem?_getD,e];rfl
theorem zjJ{B:List Tn}{c:Int→Nat}{p:List Int}:∀(qs:List (List Int)) (ps:List Pl),(∀x∈ps,∀q,(x.ev B c).lo B q=x.lo B c q)→loz B p qs (ps.map (Pl.ev B c))=ziu B c p qs ps
 | [],ps,h=>by cases ps<;>rfl
 |q::qs,[],h=>rfl
 |q::qs,x::ps,h=>by
  rw [List.map_cons,loz,ziu,h x List.mem_cons_self,zjJ qs ps fun y hy=>h y (List.mem_cons_of_mem _ hy)]
theorem zsz{ws hs:List Str}{B:List Tn}{c:Int→Nat}(b:BkOk ws hs B) (hU:ztW B) (hc:∀x:Int,0≤x→x<8→c x≤1) {p:Pl}(h:PlOk hs B p):∀q,(p.ev B c).lo B q=p.lo B c q:=by
 induction h with
 | @sign b' h ps hh hp ih=>
  intro q;rw [zcy,zhi (zdD b.ti (b.sg h (b.sb h hh))),ziL,List.length_map];exact zjJ _ _ ih
 | @turn k b' h ps t e hl b0 b1 hp ih=>
  intro q;have ht:t∈B:=List.mem_of_getElem? e;have:=zjJ (p:=q) (t.2.1.bls.map fun x=>x.1) ps ih;have hcx:=hc b' b0 b1;rw [zcG e,ziA e];by_cases c1:c b'=1
  ·rw [c1,if_pos rfl];show(Tr.nd t.1 _).lo B q=_;rw [zpr (zdG b.nd ht),this]
  ·rw [if_neg c1,show c b'=0 by omega]
   show(t.2.1.fill _).lo B q=_;rw [hU t ht _ (by rw [List.length_map,hl]),this,List.append_nil]
mutual
theorem zlw (B:List Tn) (c:Int→Nat):∀(p:Pl) (q:List Int),(p.lo B c q).length≤p.nt
 | .nd k b h ps,q=>by
  have:=zic B c ps (ppl B k ps.length) q;rw [Pl.lo,List.length_append,Pl.nt];split
  ·simp;omega
  ·split<;>simp<;>omega
theorem zic (B:List Tn) (c:Int→Nat):∀(ps:List Pl) (qs:List (List Int)) (q:List Int),(ziu B c q qs ps).length≤pnts ps
 | [],qs,q=>by cases qs<;>simp [ziu]
 |p::ps,[],q=>by simp [ziu]
 |p::ps,r::qs,q=>by
  have h1:=zlw B c p (q++r);have h2:=zic B c ps qs q;rw [ziu,List.length_append,pnts];omega
end
inductive Run (B:List Tn):Tr→List (List Int)→Tr→Prop
 |nil (X:Tr):Run B X [] X
 |cons {X Y:Tr}{q:List Int}{ps:List (List Int)}{t:Tn}{us:List Tr}:t∈B→us.length=t.2.1.nb→X.at q=some (t.2.1.fill us)→q.length≤100→Run B (X.put q (t.2.2.fill us)) ps Y→Run B X (q::ps) Y
theorem Run.app{B:List Tn}{X Y Z:Tr}{ps qs:List (List Int)}(h:Run B X ps Y) (g:Run B Y qs Z):Run B X (ps++qs) Z:=by
 induction h with
 |nil X=>exact g
 |cons h1 h2 h3 h4 _ ih=>exact .cons h1 h2 h3 h4 (ih g)
structure Fram (G:List Tr→Tr) (n:Nat) (rs:List (List Int)):Prop where
  len:rs.length=n
  sh:∀r∈rs,r.length≤3
  at':∀(us:List Tr) (i:Nat) (r:List Int),us.length=n→rs[i]? =some r→(G us).at r=us[i]?
  put':∀(us:List Tr) (i:Nat) (r:List Int) (v:Tr),us.length=n→rs[i]? =some r→(G us).put r v=G (us.set i v)
theorem zkn (h:Str) (n:Nat):Fram (Tr.nd h) n ((List.range n).map fun(i:Nat)=>[(i:Int)]):=by
 refine⟨by simp,fun r hr=>?_,fun us i r hu hr=>?_,fun us i r v hu hr=>?_⟩
 ·obtain⟨i,_,rfl⟩:=List.mem_map.mp hr;simp
 all_goals
  have hi:i<n:=by
   have:=(List.getElem?_eq_some_iff.mp hr).1;simpa using this
  rw [List.getElem?_map,List.getElem?_range hi]at hr;cases hr
 ·have e:us[i]? =some us[i]:=List.getElem?_eq_getElem (by omega);rw [e];simp [Tr.at,e]
 ·have e:us[i]? =some us[i]:=List.getElem?_eq_getElem (by omega);show(Tr.nd h us).put ((i:Int)::[]) v=_;rw [zcJ (v:=us[i]) (by simpa using e),zcp];simp
theorem zga{n:Nat}{h c d:Str}{L:Tr}(hL:L∈leftsL n h c d):Fram L.fill L.nb (L.bls.map fun x=>x.1):=by
 have key:∀{M:Tr}{rs:List (List Int)},M.bls.map (fun x=>x.1)=rs→rs.length=M.nb→(∀r∈rs,r.length≤3)→(∀(us:List Tr) (i:Nat) (r:List Int),us.length=M.nb→rs[i]? =some r→(M.fill us).at r=us[i]? ∧ ∀v,(M.fill us).put r v=M.fill (us.set i v))→Fram M.fill M.nb (M.bls.map fun x=>x.1):=fun e h1 h2 h3=>by
  rw [e];exact⟨h1,h2,fun us i r hu hr=>(h3 us i r hu hr).1,fun us i r v hu hr=>(h3 us i r hu hr).2 v⟩
 unfold leftsL at hL;split at hL<;>simp only[List.mem_cons,List.not_mem_nil,or_false]at hL
 ·subst hL;refine key zqT (by simp [Tr.nb,nbs]) (by simp) fun us i r hu hr=>?_
  (rcases us with _ |⟨u,_ |⟨v,_ |⟨x,_ |⟨y,us⟩⟩⟩⟩<;>simp [Tr.nb,nbs]at hu<;>rcases i with _ |_ |_ |i<;>simp at hr<;>(subst hr;exact⟨by simp [Tr.fill,fills,Tr.at],fun w=>by simp [Tr.fill,fills,Tr.put]⟩))
 ·subst hL;refine key zry (by simp [Tr.nb,nbs]) (by simp) fun us i r hu hr=>?_
  (rcases us with _ |⟨u,_ |⟨v,_ |⟨x,_ |⟨y,us⟩⟩⟩⟩<;>simp [Tr.nb,nbs]at hu<;>rcases i with _ |_ |_ |i<;>simp at hr<;>(subst hr;exact⟨by simp [Tr.fill,fills,Tr.at],fun w=>by simp [Tr.fill,fills,Tr.put]⟩))
 ·rcases hL with rfl |rfl
  ·refine key zpY (by simp [Tr.nb,nbs]) (by simp) fun us i r hu hr=>?_;simp at hr
  ·refine key zqV (by simp [Tr.nb,nbs]) (by simp) fun us i r hu hr=>?_
   (rcases us with _ |⟨u,_ |⟨v,_ |⟨x,_ |⟨y,us⟩⟩⟩⟩<;>simp [Tr.nb,nbs]at hu<;>rcases i with _ |_ |_ |i<;>simp at hr<;>(subst hr;exact⟨by simp [Tr.fill,fills,Tr.at],fun w=>by simp [Tr.fill,fills,Tr.put]⟩))
 ·rcases hL with rfl |rfl
  ·refine key zqQ (by simp [Tr.nb,nbs]) (by simp) fun us i r hu hr=>?_
   (rcases us with _ |⟨u,_ |⟨v,_ |⟨x,_ |⟨y,us⟩⟩⟩⟩<;>simp [Tr.nb,nbs]at hu<;>rcases i with _ |_ |_ |i<;>simp at hr<;>(subst hr;exact⟨by simp [Tr.fill,fills,Tr.at],fun w=>by simp [Tr.fill,fills,Tr.put]⟩))
  ·refine key zro (by simp [Tr.nb,nbs]) (by simp) fun us i r hu hr=>?_
   (rcases us with _ |⟨u,_ |⟨v,_ |⟨x,_ |⟨y,us⟩⟩⟩⟩<;>simp [Tr.nb,nbs]at hu<;>rcases i with _ |_ |_ |i<;>simp at hr<;>(subst hr;exact⟨by simp [Tr.fill,fills,Tr.at],fun w=>by simp [Tr.fill,fills,Tr.put]⟩))
 ·rcases hL with rfl |rfl
  ·refine key zrf (by simp [Tr.nb,nbs]) (by simp) fun us i r hu hr=>?_
   (rcases us with _ |⟨u,_ |⟨v,_ |⟨x,_ |⟨y,us⟩⟩⟩⟩<;>simp [Tr.nb,nbs]at hu<;>rcases i with _ |_ |_ |i<;>simp at hr<;>(subst hr;exact⟨by simp [Tr.fill,fills,Tr.at],fun w=>by simp [Tr.fill,fills,Tr.put]⟩))
  ·refine key zrJ (by simp [Tr.nb,nbs]) (by simp) fun us i r hu hr=>?_
   (rcases us with _ |⟨u,_ |⟨v,_ |⟨x,_ |⟨y,us⟩⟩⟩⟩<;>simp [Tr.nb,nbs]at hu<;>rcases i with _ |_ |_ |i<;>simp at hr<;>(subst hr;exact⟨by simp [Tr.fill,fills,Tr.at],fun w=>by simp [Tr.fill,fills,Tr.put]⟩))
 ·subst hL;refine key zrn (by simp [Tr.nb,nbs]) (by simp) fun us i r hu hr=>?_;simp at hr
section
variable {hs:List Str}{B:List Tn}{c:Int→Nat}
theorem zeB{G:List Tr→Tr}{n:Nat}{rs:List (List Int)}(F:Fram G n rs) {q:List Int}:∀(ps:List Pl) (qs:List (List Int)) (done:List Tr) (X:Tr),(∀p∈ps,∀q X,X.at q=some (p.ev B (zbO c))→q.length+3*p.wt≤100→Run B X (p.lo B c q) (X.put q (p.ev B (zaV c))))→
  done.length+ps.length=n→rs.drop done.length=qs→X.at q=some (G (done++ps.map (Pl.ev B (zbO c))))→q.length+3+3*pwts ps≤100→Run B X (ziu B c q qs ps) (X.put q (G (done++ps.map (Pl.ev B (zaV c)))))
 | [],qs,done,X,ih,hn,hq,hX,hl=>by
  have e:ziu B c q qs []=[]:=by cases qs<;>simp [ziu]
  rw [e];rw [List.map_nil,List.append_nil]at hX;rw [List.map_nil,List.append_nil,zig q hX];exact .nil _
 |p::ps,qs,done,X,ih,hn,hq,hX,hl=>by
  have hlen:=F.len;simp only[List.length_cons]at hn;have hd:done.length<rs.length:=by omega
  rw [List.drop_eq_getElem_cons hd]at hq;subst hq;have hr:rs[done.length]? =some rs[done.length]:=List.getElem?_eq_getElem hd;have hsh:=F.sh _ (List.getElem_mem hd);rw [ziu];simp only[pwts]at hl;have hu:(done++(p::ps).map (Pl.ev B (zbO c))).length=n:=by simp;omega
  have a1:=F.at' _ _ _ hu hr;have a2:=F.put' _ _ _ (p.ev B (zaV c)) hu hr;have a3:X.at (q++rs[done.length])=some (p.ev B (zbO c)):=by
   rw [znD q _ hX,a1];simp
  have r1:=ih p List.mem_cons_self (q++rs[done.length]) X a3 (by rw [List.length_append];omega);rw [zjt q _ _ hX,a2]at r1;have e:(done++(p::ps).map (Pl.ev B (zbO c))).set done.length (p.ev B (zaV c))=(done++[p.ev B (zaV c)])++ps.map (Pl.ev B (zbO c)):=by simp
  rw [e]at r1;refine r1.app ?_;have r2:=zeB F ps (rs.drop (done++[p.ev B (zaV c)]).length) (done++[p.ev B (zaV c)]) (X.put q (G ((done++[p.ev B (zaV c)])++ps.map (Pl.ev B (zbO c))))) (fun p' hp'=>ih p' (List.mem_cons_of_mem _ hp')) (by simp;omega) rfl (zkt q _ hX) (by omega);rw [zeD q _ _ hX]at r2;have e2:(done++[p.ev B (zaV c)])++ps.map (Pl.ev B (zaV c))=done++(p::ps).map (Pl.ev B (zaV c)):=by simp
  rw [e2]at r2;simpa using r2
theorem zrq (hF:∀t∈B,Fram t.2.1.fill t.2.1.nb (t.2.1.bls.map fun x=>x.1)) (hc:∀x:Int,0≤x→x<8→c x≤1) {p:Pl}(h:PlOk hs B p):∀q X,X.at q=some (p.ev B (zbO c))→q.length+3*p.wt≤100→Run B X (p.lo B c q) (X.put q (p.ev B (zaV c))):=by
 induction h with
 | @sign b' h ps hh hp ih=>
  intro q X hX hl;simp only[Pl.wt]at hl;rw [zcy]at hX⊢;rw [ziL];exact zeB (zkn h ps.length) ps _ [] X ih (by simp) (by simp) (by simpa using hX) (by omega)
 | @turn k b' h ps t e hl b0 b1 hp ih=>
  intro q X hX hw;simp only[Pl.wt]at hw;have ht:t∈B:=List.mem_of_getElem? e;have hcx:=hc b' b0 b1;rw [zcG e]at hX⊢;have z0:zbO c b'=0:=by unfold zbO;split<;>omega
  rw [z0]at hX;replace hX:X.at q=some (t.2.1.fill (ps.map (Pl.ev B (zbO c)))):=hX;have r1:=zeB (c:=c) (hF t ht) ps _ [] X ih (by simp [hl]) rfl (by simpa using hX) (by omega);rw [ziA e];simp only[List.length_nil,List.drop_zero,List.nil_append]at r1;by_cases c1:c b'=1
  ·have z2:zaV c b'=2:=by unfold zaV;rw [if_pos c1]
   rw [z2,if_pos c1];refine r1.app (.cons ht (us:=ps.map (Pl.ev B (zaV c))) (by rw [List.length_map,hl]) (zkt q _ hX) (by omega) ?_);rw [zeD q _ _ hX];exact .nil _
  ·have z2:zaV c b'=0:=by unfold zaV;rw [if_neg c1];omega
   rw [z2,if_neg c1,List.append_nil];exact r1
end
theorem zet{E:WX}{D:WEnds}{x0 x1:Option W}{r:Nat}:∀(ls us:List Tr) (one:∀l∈ls,∀{u:Tr}{ms:List Tr}{S:Sto}{Q:WK}{E:Str→Sto→Prop},l.mt u=some ms→(∀S' b,Sub S S'→S' b=some (.lst (zaJ ms))→Q (.ref b) S')→zaK r [enc l,enc u] S Q E) {ms acc:List Tr}{f:Addr}{S:Sto}{x3 x4:Option W},mts ls us=some ms→S f=some (.lst (zaJ acc))→acc.length+wts ls≤100000→
  (∀S' g x3 x4,Sub S S'→S' g=some (.lst (zaJ (acc++ms)))→D.nx [x0,x1,some (.ref g),x3,x4] S')→forL (wGT (zaG (wGN 3) (zaG (wGN 4) zcI))) (zcb r (zaK r)) E D (fun _=>True) (zbq (zaJ ls) (zaJ us)) [x0,x1,some (.ref f),x3,x4] S
 | [],us,one,ms,acc,f,S,x3,x4,hm,hf,hl,h=>by
  simp only[mts,Option.some.injEq]at hm;subst hm;have:=h S f x3 x4 .refl (by simpa using hf);simpa [forL,zbq,zaJ]using this
 |l::ls,[],one,ms,acc,f,S,x3,x4,hm,hf,hl,h=>by
  simp only[mts,Option.some.injEq]at hm;subst hm;have:=h S f x3 x4 .refl (by simpa using hf);simpa [forL,zbq,zaJ]using this
 |l::ls,u::us,one,ms,acc,f,S,x3,x4,hm,hf,hl,h=>by
  simp only[mts]at hm;cases e1:l.mt u with
  |none=>rw [e1]at hm;cases hm
  |some xs=>
   cases e2:mts ls us with
   |none=>rw [e1,e2]at hm;cases hm
   |some ys=>
    rw [e1,e2]at hm;cases hm;have l1:=zno l u xs e1;simp only[wts]at hl;simp only[zaJ,zbq];refine zbM fun N hN=>?_;simp only[zcb];walk_at "wp";refine one l List.mem_cons_self e1 fun S1 b sb hb=>?_
    try rw [zeK]
    rw [zaj (sb _ _ hf),zaj hb,zbe,zbe,←zeA];refine⟨zah (by omega),fun a ha=>?_⟩;refine hN _ _ _ .refl trivial (zet ls us (fun u hu=>one u (List.mem_cons_of_mem _ hu)) e2 zag (by simp;omega) fun S' g x3 x4 sb' hg=>?_);exact h S' g x3 x4 ((sb.trans (.new ha)).trans sb') (by rw [←List.append_assoc];exact hg)
theorem zha:∀(d:Nat) {l t:Tr}{ms:List Tr}{r:Nat}{S:Sto}{Q:WK}{E:Str→Sto→Prop},l.depth≤d→d≤r→l.weight≤1000→l.mt t=some ms→(∀S' b,Sub S S'→S' b=some (.lst (zaJ ms))→Q (.ref b) S')→zaK (r+1) [enc l,enc t] S Q E
 |0,l,t,ms,r,S,Q,E,hd,hr,hw,hm,h=>by have:=zbr l;omega
 |d+1, .bl n,t,ms,r,S,Q,E,hd,hr,hw,hm,h=>by
  simp only[Tr.mt,Option.some.injEq]at hm;subst hm;rw [zaK];have e0:enc (.bl n)= .int n:=by simp only[enc]
  rw [e0];walk_at "wp";refine⟨zah (by decide),fun a ha=>⟨_, .refl,h _ a (.new ha) (by simpa [zaJ]using zag)⟩⟩
 |d+1, .nd s ls, .bl n,ms,r,S,Q,E,hd,hr,hw,hm,h=>by simp [Tr.mt]at hm
 |d+1, .nd s ls, .nd z us,ms,r,S,Q,E,hd,hr,hw,hm,h=>by
  simp only[Tr.depth]at hd;simp only[Tr.weight]at hw;simp only[Tr.mt]at hm;split at hm
  ·obtain⟨r,rfl⟩:∃r',r=r'+1:=⟨r - 1,by omega⟩
   have en:∀s ts,enc (.nd s ts)= .tup (.str s::zaJ ts):=fun s ts=>by simp [enc]
   rw [zaK,en,en];walk_at "wp";refine⟨zah (by decide),fun a ha=>?_⟩
   try walk_at "wp"
   refine zet ls us (fun u hu {t ms S Q E} e q=>zha d (by have:=zcH hu;omega) (by omega) (by have:=zcc hu;omega) e q) hm (acc:=[]) zag (by simp;omega) fun S' g x3 x4 sb hg=>?_;walk_at "wp";exact⟨_, .refl,h _ g ((Sub.new ha).trans sb) hg⟩
  ·cases hm
section
variable {S:Sto}{a:Addr}{B:List Tn}{w0 w1 w2 w3 w4 w5:Str}{tt:List Str}{r:Nat}{Q:WK}{E:Str→Sto→Prop}
theorem zlt (b:BookOk w0 w1 w2 w3 w4 w5 tt B) (G:Signs w0 w1 w2 w3 w4 w5) (L:Lft B) (ha:S a=some (.lst (B.map zbj))) {X:Tr}{q:List Int}{t:Tn}{us:List Tr}(ht:t∈B) (hu:us.length=t.2.1.nb) (hX:X.at q=some (t.2.1.fill us)) (hq:q.length≤100) (hw:X.weight≤90000) (hf:(t.2.1.fill us).fits 0) (hr:120≤r)
  (h:∀S',Sub S S'→Q (enc (X.put q (t.2.2.fill us))) S'):zbv (r+1) [.ref a,enc X,zaH q] S Q E:=by
 obtain⟨r,rfl⟩:∃r',r=r'+1:=⟨r - 1,by omega⟩
 have ho:=b.open_some G ht hu;have hm:=b.mt t ht us hu;rw [zbv];walk_at "wp";refine zjZ hX ?_
 try walk_at "wp"
 rw [zaj ha];refine zdZ ha (fun σ=>∃y,σ=[some (.ref a),some (enc X),some (zaH q),some (enc (t.2.1.fill us)),y]) zbj (fun u:Tn=>if(u.2.1.mt (t.2.1.fill us)).isSome then some (enc (X.put q (t.2.2.fill us))) else none) B _ ⟨none,rfl⟩ (fun u hu' σ N hI h0 h1=>?_) ?_ ?_
 ·obtain⟨y,rfl⟩:=hI;simp only[zcV,zbj];walk_at "wp";rw [show atI [W.str u.1,enc u.2.1,enc u.2.2] 1=some (enc u.2.1) from rfl];dsimp only;refine zjF 4 (L.d u hu') (by omega) hf (by have:=L.w u hu';omega) ?_;cases e:(u.2.1.mt (t.2.1.fill us)).isSome with
  |false=>
   walk_at "wp";exact h0 (by rw [e];rfl) _ _ ⟨_,rfl⟩ .refl
  |true=>
   walk_at "wp";have eu:u=t:=by
    have:=b.one G hu' ht e (by rw [hm];rfl);exact zhS (b.inj G) hu' ht this
   subst eu;rw [show atI [W.str u.1,enc u.2.1,enc u.2.2] 2=some (enc u.2.2) from rfl];dsimp only;refine zha 4 (L.d u hu') (by omega) (by have:=L.w u hu';omega) hm fun S1 g sb hg=>?_;have hri:=b.ri u hu';refine zdb 4 hri.dp (by omega) hg (by rw [hu];exact hri.fits) (by have:=hri.wt;omega) ?_;refine zkZ q hX (by omega) hw (by omega) ?_;exact h1 _ (by rw [e];rfl) _ sb
 ·intro hn σ hI;exfalso;rw [List.findSome?_eq_none_iff]at hn;have:=hn t ht;rw [hm]at this;simp at this
 ·intro w e S' sb;obtain⟨u,_,hw'⟩:=List.exists_of_findSome?_eq_some e;split at hw'
  ·cases hw';exact⟨_, .refl,h S' sb⟩
  ·cases hw'
end
noncomputable def zpB (t:Tr) (q:List Int):Bool:=match t.at q with
 |some u=>u.isBl
 |none=>false
theorem znb (t:Tr):(t.pl []).filter (zpB t)=t.bls.map fun x=>x.1:=by
 unfold Tr.bls;rw [←zcL,List.filter_map];congr 1;refine List.filter_congr fun x hx=>?_;show zpB t x.1=x.2.isBl;unfold zpB;rw [(zlf hx).1]
theorem zmq{t:Tr}{r:Nat}{S:Sto}{Q:WK}{E:Str→Sto→Prop}(hd:t.depth≤10) (hr:15≤r) (hw:t.weight≤1000) (h:∀S' b,Sub S S'→S' b=some (.lst ((t.bls.map fun x=>x.1).map zaH))→Q (.ref b) S'):zbE (r+1) [enc t] S Q E:=by
 obtain⟨r,rfl⟩:∃r',r=r'+1:=⟨r - 1,by omega⟩
 rw [zbE];walk_at "wp";refine znd 10 hd (by omega) hw (by omega) fun S1 b sb hb=>?_;have hpl:(t.pl []).length=t.weight:=by rw [←zcL,List.length_map,zek]
 dsimp only
 try rw [zen]
 rw [zaj hb];refine zcU (fun σ=>∃x,σ=[x,some (enc t)]) zaH zaH (zpB t) ?_ (t.pl []) [] _ ⟨none,rfl⟩ (by simp;omega) (fun q hq σ R1 R0 hI h1 h0=>?_) ?_
 ·exact hb
 ·obtain⟨y,rfl⟩:=hI;rw [←zcL,List.mem_map]at hq;obtain⟨x,hx,rfl⟩:=hq;have ha:=(zlf hx).1;unfold zdj;walk_at "wp";refine zjZ ha ?_;have eb:zpB t x.1=x.2.isBl:=by unfold zpB;rw [ha]
  rw [eb]at h1 h0;cases hu:x.2 with
  |bl n=>
   rw [hu]at h1;simp only[enc]
   try walk_at "wp"
   exact h1 rfl _ _ ⟨_,rfl⟩ .refl
  |nd s ts=>
   rw [hu]at h0;simp only[enc]
   try walk_at "wp"
   exact h0 rfl _ _ ⟨_,rfl⟩ .refl
 ·rw [List.nil_append,znb];intro q hq;exact⟨_, .refl,h _ q (sb.trans (.put .refl hq)) zag⟩
noncomputable def innerT (p:List Int) (ri rt:List (List Int)):Option Tn→List (List Int)×List (List Int)
 |none=>(ri,rt)
 |some t=>(t.2.1.bls.map fun x=>x.1,[p])
theorem zef{r:Nat}{a:Addr}{B:List Tn}{s:Str}{ts:List Tr}{p:List Int}{E:WX}{D:WEnds}{x0 x6 x7 x8:Option W}(L:Lft B) (hr:20≤r):∀(C:List Tn) {ri rt:List (List Int)}{i tp:Addr}{S:Sto}{x5:Option W},(∀t∈C,t∈B)→(C.map fun t=>t.1).Nodup→S a=some (.lst (B.map zbj))→S i=some (.lst (ri.map zaH))→S tp=some (.lst (rt.map zaH))→
  (∀S' i' tp' x5,Sub S S'→S' i'=some (.lst ((innerT p ri rt (zaF C s)).1.map zaH))→S' tp'=some (.lst ((innerT p ri rt (zaF C s)).2.map zaH))→D.nx [x0,some (.tup (.str s::zaJ ts)),some (zaH p),some (.ref i'),some (.ref tp'),x5,x6,x7,x8] S')→
  forL (wGN 5) (zcF r zbw) E D (fun S'=>S' a=some (.lst (B.map zbj))) (C.map zbj) [x0,some (.tup (.str s::zaJ ts)),some (zaH p),some (.ref i),some (.ref tp),x5,x6,x7,x8] S
 | [],ri,rt,i,tp,S,x5,hC,hn,ha,hi,ht,h=>by
  have:=h S i tp x5 .refl hi ht;simpa [forL]using this
 |t::C,ri,rt,i,tp,S,x5,hC,hn,ha,hi,ht,h=>by
  obtain⟨r,rfl⟩:∃r',r=r'+1:=⟨r - 1,by omega⟩
  rw [List.map_cons,List.nodup_cons]at hn;have hb:=hC t List.mem_cons_self;have eT:zaF (t::C) s=if t.1 == s then some t else zaF C s:=by
   unfold zaF;rw [List.find?_cons];split<;>simp_all
  rw [eT]at h;rw [List.map_cons];refine zbM fun N hN=>?_;simp only[zcF,zbj];walk_at "wp";cases e:(t.1 == s) with
  |false=>
   rw [e]at h;rw [if_neg (by decide)];rw [if_neg (by decide)]at h;exact hN _ _ _ .refl ha (zef L (by omega) C (fun u hu=>hC u (List.mem_cons_of_mem _ hu)) hn.2 ha hi ht h)
  |true=>
   rw [e]at h;rw [if_pos rfl];rw [if_pos rfl]at h;rw [show atI [W.str t.1,enc t.2.1,enc t.2.2] 1=some (enc t.2.1) from rfl];dsimp only;refine zmq (by have:=L.d t hb;omega) (by omega) (by have:=L.w t hb;omega) fun S1 b sb hb1=>?_;refine⟨zah (by decide),fun q hq=>?_⟩;have es:t.1=s:=by simpa using e
   have n0:zaF C s=none:=by
    unfold zaF;rw [List.find?_eq_none];intro u hu hh;have:u.1=s:=by simpa using hh
    exact hn.1 (List.mem_map.mpr ⟨u,hu,by rw [this,es]⟩)
   have sub:=sb.trans (Sub.put (o:= .lst [zaH p]) .refl hq);refine hN _ _ _ .refl (sub _ _ ha) (zef (ri:=t.2.1.bls.map fun x=>x.1) (rt:=[p]) L (by omega) C (fun u hu=>hC u (List.mem_cons_of_mem _ hu)) hn.2 (sub _ _ ha) (keep hb1 hq) zag fun S' i' tp' x5 s' h1 h2=>?_);rw [n0]at h1 h2;exact h S' i' tp' x5 (sub.trans s') h1 h2
theorem zff{a i:Addr}{B:List Tn}{p:List Int}{E:WX}{D:WEnds}{x1 x3 x4 x5:Option W}{r:Nat}{gs:List W}:∀(ts:List Tr) (qs:List (List Int)) (one:∀u∈ts,∀{p:List Int}{S:Sto}{Q:WK}{E:Str→Sto→Prop},S a=some (.lst (B.map zbj))→p.length+4*u.depth≤1000→(∀S' b,Sub S S'→S' b=some (.lst ((u.lo B p).map zaH))→Q (.ref b) S')→zba r [.ref a,enc u,zaH p] S Q E) {acc:List (List Int)}{f:Addr}{S:Sto}{x7 x8:Option W},(∀q∈qs,q.length≤4)→S a=some (.lst (B.map zbj))→S i=some (.lst gs)→S f=some (.lst (acc.map zaH))→acc.length+wts ts≤100000→p.length+4+4*dts ts≤1000→
  (∀S' g x7 x8,Sub S S'→S' g=some (.lst ((acc++loz B p qs ts).map zaH))→D.nx [some (.ref a),x1,some (zaH p),x3,x4,x5,some (.ref g),x7,x8] S')→forL (wGT (zaG (wGN 7) (zaG (wGN 8) zcI))) (zcB r (zba r)) E D (fun S'=>S' i=some (.lst gs)) (zbq (zaJ ts) (qs.map zaH)) [some (.ref a),x1,some (zaH p),x3,x4,x5,some (.ref f),x7,x8] S
 | [],qs,one,acc,f,S,x7,x8,hq,ha,hi,hf,hl,hd,h=>by
  have e2:loz B p qs []=[]:=by cases qs<;>simp [loz]
  have:=h S f x7 x8 .refl (by rw [e2,List.append_nil];exact hf);simpa [forL,zbq,zaJ]using this
 |t::ts,[],one,acc,f,S,x7,x8,hq,ha,hi,hf,hl,hd,h=>by
  have e2:loz B p [] (t::ts)=[]:=by simp [loz]
  have:=h S f x7 x8 .refl (by rw [e2,List.append_nil];exact hf);simpa [forL,zbq,zaJ]using this
 |t::ts,q::qs,one,acc,f,S,x7,x8,hq,ha,hi,hf,hl,hd,h=>by
  have hq4:=hq q List.mem_cons_self;simp only[dts]at hd;simp only[wts]at hl;simp only[List.map_cons,zaJ,zbq];refine zbM fun N hN=>?_;simp only[zcB];walk_at "wp";rw [zkC];refine⟨zah (by omega),?_⟩;refine one t List.mem_cons_self ha (by simp;omega) fun S1 b sb hb=>?_
  try rw [zeK]
  have hlo:=zii B t (p++q);rw [zaj (sb _ _ hf),zaj hb,List.length_map,List.length_map,←List.map_append];refine⟨zah (by omega),fun g hg=>?_⟩;have sub:=sb.trans (Sub.put (o:= .lst ((acc++t.lo B (p++q)).map zaH)) .refl hg);refine hN _ _ _ .refl (sub _ _ hi) (zff ts qs (fun u hu=>one u (List.mem_cons_of_mem _ hu)) (fun q' hq'=>hq q' (List.mem_cons_of_mem _ hq')) (sub _ _ ha) (sub _ _ hi) zag (by simp;omega) (by omega) fun S' g' x7 x8 sb' hg'=>?_);exact h S' g' x7 x8 (sub.trans sb') (by rw [loz,←List.append_assoc];exact hg')
theorem zkm{a:Addr}{B:List Tn}(L:Lft B) (hP:PB B) (hn:(B.map fun t=>t.1).Nodup):∀(d:Nat) {t:Tr}{p:List Int}{r:Nat}{S:Sto}{Q:WK}{E:Str→Sto→Prop},t.depth≤d→d+25≤r→t.weight≤1000→t.hd (fun _=>True)→S a=some (.lst (B.map zbj))→p.length+4*t.depth≤1000→(∀S' b,Sub S S'→S' b=some (.lst ((t.lo B p).map zaH))→Q (.ref b) S')→zba (r+1) [.ref a,enc t,zaH p] S Q E
 |0,t,p,r,S,Q,E,hd,hr,hw,hh,ha,hp,h=>by have:=zbr t;omega
 |d+1, .bl n,p,r,S,Q,E,hd,hr,hw,hh,ha,hp,h=>by simp [Tr.hd]at hh
 |d+1, .nd s ts,p,r,S,Q,E,hd,hr,hw,hh,ha,hp,h=>by
  simp only[Tr.depth]at hd hp;simp only[Tr.weight]at hw;simp only[Tr.hd]at hh;have hk:=zcX ts;obtain⟨r,rfl⟩:∃r',r=r'+1:=⟨r - 1,by omega⟩
  have en:enc (.nd s ts)= .tup (.str s::zaJ ts):=by simp [enc]
  rw [zba,en];walk_at "wp";rw [zbe];have e1:(((ts.length+1:Nat):Int) - 1).toNat=ts.length:=by omega
  rw [e1];refine⟨⟨by omega,by omega⟩,?_⟩
  rw [zeT];refine zbh (fun σ=>∃x,σ=[x]) (fun i:Nat=>W.int i) (fun i=>zaH [(i:Int)]) trivial (List.range ts.length) [] _ ⟨none,rfl⟩ (by simp;omega) (fun x hx σ R hI hR=>?_) ?_
  ·obtain⟨y,rfl⟩:=hI;simp only[zdA];walk_at "wp";exact⟨zah (by decide),hR _ _ ⟨_,rfl⟩ .refl⟩
  ·rw [List.nil_append];intro i hi;refine⟨Nat.zero_le _,fun tp htp=>?_⟩;have eR:(List.range ts.length).map (fun i=>zaH [((i:Nat):Int)])=((List.range ts.length).map fun(i:Nat)=>[(i:Int)]).map zaH:=by rw [List.map_map];rfl
   have s1:Sub S (put (put S i (Ob.lst (List.map (fun(i:Nat)=>zaH [(i:Int)]) (List.range ts.length)))) tp (Ob.lst [])):=(Sub.put .refl hi).trans (.put .refl htp);have fi:=keep (x:=Ob.lst []) (zag (S:=S) (a:=i) (o:=Ob.lst (List.map (fun(i:Nat)=>zaH [(i:Int)]) (List.range ts.length)))) htp;have ft:put (put S i (Ob.lst (List.map (fun(i:Nat)=>zaH [(i:Int)]) (List.range ts.length)))) tp (Ob.lst []) tp=some (Ob.lst (([]:List (List Int)).map zaH)):=zag;generalize put (put S i (Ob.lst (List.map (fun(i:Nat)=>zaH [(i:Int)]) (List.range ts.length)))) tp (Ob.lst [])=S1 at s1 fi ft⊢;rw [eR]at fi;rw [zaj (s1 _ _ ha)];refine zef L (by omega) B (fun t ht=>ht) hn (s1 _ _ ha) fi ft fun S2 i' tp' x5 s2 h1 h2=>?_;replace s1:=s1.trans s2;have ei:(innerT p ((List.range ts.length).map fun(i:Nat)=>[(i:Int)]) [] (zaF B s)).1=pps B s ts.length:=by
    unfold pps;cases zaF B s<;>rfl
   rw [ei]at h1;walk_at "wp";refine⟨Nat.zero_le _,fun f hf=>?_⟩;replace s1:=s1.trans (Sub.put (o:=Ob.lst []) .refl hf);replace h1:=keep (x:=Ob.lst []) h1 hf;replace h2:=keep (x:=Ob.lst []) h2 hf;have ff:put S2 f (Ob.lst []) f=some (Ob.lst (([]:List (List Int)).map zaH)):=zag;generalize put S2 f (Ob.lst [])=S3 at s1 h1 h2 ff⊢;rw [zaj h1];refine zff ts (pps B s ts.length) (fun u hu {p S Q E} ha hp q=>zkm L hP hn d (by have:=zcH hu;omega) (by omega) (by have:=zcc hu;omega) (hds_iff.mp hh.2 u hu) ha hp q) (zgo hP) (s1 _ _ ha) h1 ff (by simp;omega) (by omega) fun S4 g x7 x8 s4 hg=>?_;walk_at "wp";have e2:=zii B (.nd s ts) p;rw [zaj hg,zaj (s4 _ _ h2),←List.map_append];have e3: []++loz B p (pps B s ts.length) ts++(innerT p ((List.range ts.length).map fun(i:Nat)=>[(i:Int)]) [] (zaF B s)).2=(Tr.nd s ts).lo B p:=by
    rw [Tr.lo,List.nil_append];cases zaF B s<;>rfl
   rw [e3];refine⟨zah ?_,fun q hq=>⟨_, .refl,h _ q ((s1.trans s4).trans (.put .refl hq)) zag⟩⟩;have:=congrArg List.length e3;rw [List.length_append]at this;simp only[Tr.weight]at e2;rw [List.length_map,List.length_map];omega
section
variable {w0 w1 w2 w3 w4 w5:Str}{a:Addr}{r:Nat}{S:Sto}{Q:WK}{E:Str→Sto→Prop}
theorem zsB{m:Nat}{ws:List Str}{t:Tr}(h1:t.depth≤4) (h2:t.fits m) (h3:∀{P:Str→Prop},(∀x∈ws,P x)→t.hb P) (h4:t.weight≤7):RightW ws m t:=⟨h1,h2,h3,h4⟩
noncomputable def rts (w0 w1 w2 w3 w4 w5:Str):Nat→Bool→List Tr
 |0,_=>[.nd w2 [], .nd w5 [], .nd w3 [.nd w5 []]]
 |1,g=>[.bl 0, .nd w3 [.bl 0], .nd w4 [.bl 0, .bl 0], .nd w4 [.nd w3 [.bl 0], .nd w2 []]]++(if g then [.nd w0 [.bl 0], .nd w1 [.nd w3 [.bl 0], .bl 0], .nd w3 [.nd w0 [.bl 0]]] else [.nd w2 [], .nd w3 [.nd w5 []]])
 |3,g=>[.nd w4 [.nd w4 [.bl 0, .bl 1], .bl 2], .nd w4 [.bl 2, .nd w4 [.bl 1, .bl 0]], .nd w4 [.nd w4 [.bl 0, .bl 0], .nd w4 [.bl 1, .bl 2]]]++(if g then [.nd w0 [.nd w4 [.nd w4 [.bl 2, .bl 0], .bl 1]], .nd w1 [.bl 1, .nd w4 [.bl 0, .bl 2]]] else [.bl 0, .bl 2, .nd w4 [.bl 1, .bl 1], .nd w5 []])
 |_,g=>[.nd w4 [.bl 0, .bl 1], .nd w4 [.bl 1, .bl 0], .nd w4 [.nd w3 [.bl 0], .bl 1], .nd w4 [.nd w4 [.bl 0, .bl 0], .bl 1]]++(if g then [.nd w1 [.bl 1, .bl 0], .nd w0 [.nd w4 [.bl 0, .bl 1]]] else [.bl 0, .bl 1, .nd w3 [.bl 1], .nd w5 []])
theorem zrk{m:Nat}(hm:m≤3) (g:Bool):∀t∈rts w0 w1 w2 w3 w4 w5 m g,RightW [w0,w1,w2,w3,w4,w5] m t:=by
 intro t ht;rcases m with _ |_ |_ |_ |m
 all_goals first
  |omega
  | (cases g<;>simp only[rts,List.cons_append,List.nil_append,if_true,if_false,Bool.false_eq_true,List.mem_cons,List.not_mem_nil,or_false]at ht<;>(try rcases ht with rfl |rfl |rfl |rfl |rfl |rfl |rfl |rfl)<;>(try rcases ht with rfl |rfl |rfl |rfl |rfl |rfl |rfl)<;>(try rcases ht with rfl |rfl |rfl |rfl |rfl |rfl)<;>(try rcases ht with rfl |rfl |rfl |rfl |rfl)<;>(try rcases ht with rfl |rfl |rfl)<;>exact zsB (by simp [Tr.depth,dts]) (by simp [Tr.fits,fitss]) (fun {P} h=>by simp [Tr.hb,hbs]<;>simp [h]) (by simp [Tr.weight,wts]))
theorem zpv{m:Nat}(g:Bool):1≤(rts w0 w1 w2 w3 w4 w5 m g).length∧(rts w0 w1 w2 w3 w4 w5 m g).length≤8:=by
 rcases m with _ |_ |_ |_ |m<;>cases g<;>simp [rts]
theorem zlh{m:Nat}(hm:m≤3) (g:Bool) (ha:S a=some (.lst (six w0 w1 w2 w3 w4 w5))) (h:∀S' b,Sub S S'→S' b=some (.lst (zaJ (rts w0 w1 w2 w3 w4 w5 m g)))→Q (.ref b) S'):zbu (r+1) [.int m, .ref a, .bl g] S Q E:=by
 have l1:1≤sizeLine:=zah (by decide);have l2:2≤sizeLine:=zah (by decide);have l3:3≤sizeLine:=zah (by decide);have l4:4≤sizeLine:=zah (by decide);have l5:5≤sizeLine:=zah (by decide);have l6:6≤sizeLine:=zah (by decide);have l7:7≤sizeLine:=zah (by decide);have l8:8≤sizeLine:=zah (by decide);rw [zbu];rcases m with _ |_ |_ |_ |m
 ·walk_at "wp";rw [if_pos (by decide)];simp only[zaj ha,zjl,zjg,six2,zij,six4,zik,l1,l2,l3,l4,l5,l6,l7,l8,true_and];exact fun q hq=>⟨_, .refl,h _ q (.put .refl hq) (by rw [zag];simp [rts,zaJ,enc])⟩
 ·cases g
  ·walk_at "wp";rw [if_neg (by decide),if_pos (by decide)];simp only[zaj ha,zjl,zjg,six2,zij,six4,zik,l1,l2,l3,l4,l5,l6,l7,l8,true_and];intro q hq;have fa:∀o,put S q o a=some (.lst (six w0 w1 w2 w3 w4 w5)):=fun o=>keep (x:=o) ha hq
   try walk_at "wp"
   simp only[zaj (fa _),zbD,zjl,zjg,six2,zij,six4,zik,l1,l2,l3,l4,l5,l6,l7,l8,true_and];exact fun q2 hq2=>⟨_, .refl,h _ q2 ((Sub.put .refl hq).trans (.put .refl hq2)) (by rw [zag];simp [rts,zaJ,enc])⟩
  ·walk_at "wp";rw [if_neg (by decide),if_pos (by decide)];simp only[zaj ha,zjl,zjg,six2,zij,six4,zik,l1,l2,l3,l4,l5,l6,l7,l8,true_and];intro q hq;have fa:∀o,put S q o a=some (.lst (six w0 w1 w2 w3 w4 w5)):=fun o=>keep (x:=o) ha hq
   try walk_at "wp"
   simp only[zaj (fa _),zbD,zjl,zjg,six2,zij,six4,zik,l1,l2,l3,l4,l5,l6,l7,l8,true_and];exact fun q2 hq2=>⟨_, .refl,h _ q2 ((Sub.put .refl hq).trans (.put .refl hq2)) (by rw [zag];simp [rts,zaJ,enc])⟩
 ·cases g
  ·walk_at "wp";rw [if_neg (by decide),if_neg (by decide),if_neg (by decide)];simp only[zaj ha,zjl,zjg,six2,zij,six4,zik,l1,l2,l3,l4,l5,l6,l7,l8,true_and];intro q hq;have fa:∀o,put S q o a=some (.lst (six w0 w1 w2 w3 w4 w5)):=fun o=>keep (x:=o) ha hq
   try walk_at "wp"
   simp only[zaj (fa _),zbD,zjl,zjg,six2,zij,six4,zik,l1,l2,l3,l4,l5,l6,l7,l8,true_and];exact fun q2 hq2=>⟨_, .refl,h _ q2 ((Sub.put .refl hq).trans (.put .refl hq2)) (by rw [zag];simp [rts,zaJ,enc])⟩
  ·walk_at "wp";rw [if_neg (by decide),if_neg (by decide),if_neg (by decide)];simp only[zaj ha,zjl,zjg,six2,zij,six4,zik,l1,l2,l3,l4,l5,l6,l7,l8,true_and];intro q hq;have fa:∀o,put S q o a=some (.lst (six w0 w1 w2 w3 w4 w5)):=fun o=>keep (x:=o) ha hq
   try walk_at "wp"
   simp only[zaj (fa _),zbD,zjl,zjg,six2,zij,six4,zik,l1,l2,l3,l4,l5,l6,l7,l8,true_and];exact fun q2 hq2=>⟨_, .refl,h _ q2 ((Sub.put .refl hq).trans (.put .refl hq2)) (by rw [zag];simp [rts,zaJ,enc])⟩
 ·cases g
  ·walk_at "wp";rw [if_neg (by decide),if_neg (by decide),if_pos (by decide)];simp only[zaj ha,zjl,zjg,six2,zij,six4,zik,l1,l2,l3,l4,l5,l6,l7,l8,true_and];intro q hq;have fa:∀o,put S q o a=some (.lst (six w0 w1 w2 w3 w4 w5)):=fun o=>keep (x:=o) ha hq
   try walk_at "wp"
   simp only[zaj (fa _),zbD,zjl,zjg,six2,zij,six4,zik,l1,l2,l3,l4,l5,l6,l7,l8,true_and];exact fun q2 hq2=>⟨_, .refl,h _ q2 ((Sub.put .refl hq).trans (.put .refl hq2)) (by rw [zag];simp [rts,zaJ,enc])⟩
  ·walk_at "wp";rw [if_neg (by decide),if_neg (by decide),if_pos (by decide)];simp only[zaj ha,zjl,zjg,six2,zij,six4,zik,l1,l2,l3,l4,l5,l6,l7,l8,true_and];intro q hq;have fa:∀o,put S q o a=some (.lst (six w0 w1 w2 w3 w4 w5)):=fun o=>keep (x:=o) ha hq
   try walk_at "wp"
   simp only[zaj (fa _),zbD,zjl,zjg,six2,zij,six4,zik,l1,l2,l3,l4,l5,l6,l7,l8,true_and];exact fun q2 hq2=>⟨_, .refl,h _ q2 ((Sub.put .refl hq).trans (.put .refl hq2)) (by rw [zag];simp [rts,zaJ,enc])⟩
 ·omega
end
theorem zkU{Rs:List Tr}{d:Int}(h:0<Rs.length):∃R∈Rs,atI (zaJ Rs) (d % (Rs.length:Int))=some (enc R):=by
 have h0:(0:Int)<Rs.length:=by omega
 have h1:=Int.emod_nonneg d (Int.ne_of_gt h0);have h2:=Int.emod_lt_of_pos d h0;obtain⟨n,hn⟩:=Int.eq_ofNat_of_zero_le h1;rw [hn]at h2⊢;have hl:n<Rs.length:=by omega
 refine⟨Rs[n],List.getElem_mem hl,?_⟩;rw [zbk,zaA,List.getElem?_map,List.getElem?_eq_getElem hl];rfl
theorem zmS{S S':Sto}{a:Addr}{o:Ob}(h:Sub S S'):Sub (put S a o) (put S' a o):=fun b x e=>by
 by_cases z:b=a
 ·subst z;rw [zag]at e⊢;exact e
 ·rw [zaX z]at e⊢;exact h b x e
section
variable {w0 w1 w2 w3 w4 w5:Str}{tt:List Str}{ns:List Int}{aw at' ab al:Addr}{r:Nat}{E:WX}{D:WEnds}{k j:Int}{g:Bool}
theorem zgV (h6:tt.length=6) (k0:0≤k) (j0:0≤j):∀(ls:List Tr) {i:Nat}{C:List Tn}{S:Sto}{G:Sto→Prop}{x7 x8 x9 x10:Option W},(∀L∈ls,L.depth≤4∧L.weight≤7∧L.nb≤3)→C.length+ls.length≤6→S ab=some (.lst (C.map zbj))→S aw=some (.lst (six w0 w1 w2 w3 w4 w5))→S at'=some (.lst (tt.map W.str))→ab≠aw→ab≠at'→
  (∀o,G (put S ab o))→
  (∀(C':List Tn) (x7 x8 x9 x10:Option W),C'.map (fun t=>t.2.1)=ls→(C.map (fun t=>t.1)=tt.take C.length→(C++C').map (fun t=>t.1)=tt.take (C++C').length)→(∀t∈C',RightW [w0,w1,w2,w3,w4,w5] t.2.1.nb t.2.2)→D.nx [some (.scr ns),some (.int k),some (.ref aw),some (.ref at'),some (.bl g),some (.ref ab),some (.int j),some (.ref al),x7,x8,x9,x10] (put S ab (.lst ((C++C').map zbj))))→
  forL (wGT (zaG (wGN 8) (zaG (wGN 9) zcI))) (zbB (r+6) zbw) E D G (zfa i (zaJ ls)) [some (.scr ns),some (.int k),some (.ref aw),some (.ref at'),some (.bl g),some (.ref ab),some (.int j),some (.ref al),x7,x8,x9,x10] S
 | [],i,C,S,G,x7,x8,x9,x10,hL,hl,hb,hw,ht,n1,n2,hG,h=>by
  simp only[zaJ,zfa,forL];have:=h [] x7 x8 x9 x10 rfl (fun z=>by simpa using z) (fun _ h=>nomatch h)
  rw [List.append_nil,zgp hb]at this;exact this
 |L::ls,i,C,S,G,x7,x8,x9,x10,hL,hl,hb,hw,ht,n1,n2,hG,h=>by
  have hLd:=hL L List.mem_cons_self;simp only[List.length_cons]at hl;simp only[zaJ,zfa];refine zbM fun N hN=>?_;simp only[zbB];walk_at "wp";refine zfS (r:=r+5) 4 hLd.1 (by omega) (by omega) ?_
  try dsimp only
  refine zlh (r:=r+5) hLd.2.2 g hw fun S1 rr sb hrr=>?_
  try walk_at "wp"
  refine⟨.inl ⟨by decide,by decide⟩,zdq (r:=r+5) (by omega) fun draw=>?_⟩
  try walk_at "wp"
  obtain⟨ti,eti,_⟩:=zot (ss:=tt) (i:=(C.length:Int)) (by omega) (by omega);simp only[zaj (sb _ _ hb),zaj (sb _ _ ht),List.length_map,eti,true_and,zaj hrr,zbe];have rl:=zpv (w0:=w0) (w1:=w1) (w2:=w2) (w3:=w3) (w4:=w4) (w5:=w5) (m:=L.nb) g;obtain⟨R,hRm,hRe⟩:=zkU (Rs:=rts w0 w1 w2 w3 w4 w5 L.nb g) (d:=draw) (by omega);have hR:=zrk hLd.2.2 g R hRm
  try walk_at "wp"
  refine⟨by omega,?_⟩
  try simp only[zaj hrr,hRe]
  try walk_at "wp"
  try simp only[zaj (sb _ _ hb),List.length_map]
  refine⟨zah (by decide),zcY (by omega),?_⟩;refine hN _ _ (put S ab (.lst ((C++[(ti,L,R)]).map zbj))) (by rw [List.map_append];exact zmS sb) (hG _) ?_;refine zgV h6 k0 j0 ls (C:=C++[(ti,L,R)]) (fun M hM=>hL M (List.mem_cons_of_mem _ hM)) (by simp;omega) zag (by rw [zaX (Ne.symm n1)];exact hw) (by rw [zaX (Ne.symm n2)];exact ht) n1 n2 (fun o=>by rw [zbt];exact hG o) fun C' x7 x8 x9 x10 e1 e2 e3=>?_
  rw [zbt];have:=h ((ti,L,R)::C') x7 x8 x9 x10 (by rw [List.map_cons,e1]) (fun z=>?_) (fun t ht'=>?_)
  ·simpa using this
  ·have e:C++[(ti,L,R)]++C'=C++(ti,L,R)::C':=by simp
   rw [e]at e2;refine e2 ?_;rw [List.map_append,z,List.length_append,List.length_singleton,List.take_succ];congr 1;have e4:(tt.map W.str)[C.length]? =some (.str ti):=by rw [←zbk];exact eti
   rw [List.getElem?_map]at e4;cases q:tt[C.length]? with
   |none=>rw [q]at e4;cases e4
   |some y=>rw [q]at e4;cases e4;rfl
  ·rcases List.mem_cons.mp ht' with rfl |z
   ·exact hR
   ·exact e3 t z
theorem zgP (n:Nat) (h c d:Str):∀L∈leftsL n h c d,L.depth≤4∧L.weight≤7∧L.nb≤3:=by
 intro L hL;unfold leftsL at hL;split at hL<;>simp only[List.mem_cons,List.not_mem_nil,or_false]at hL
 all_goals first
  | (subst hL;simp [Tr.depth,dts,Tr.weight,wts,Tr.nb,nbs])
  | (rcases hL with rfl |rfl<;>simp [Tr.depth,dts,Tr.weight,wts,Tr.nb,nbs])
theorem zlI{S:Sto}{Q:WK}{E:Str→Sto→Prop}(h6:tt.length=6) (k0:0≤k) (hw:S aw=some (.lst (six w0 w1 w2 w3 w4 w5))) (ht:S at'=some (.lst (tt.map W.str)))
  (h:∀(p:Addr) (B:List Tn) (n m:Nat),S p=none→B.map (fun t=>t.2.1)=leftsL n w0 w2 w3++leftsL m w1 w2 w3→B.map (fun t=>t.1)=tt.take B.length→(∀t∈B,RightW [w0,w1,w2,w3,w4,w5] t.2.1.nb t.2.2)→Q (.ref p) (put S p (.lst (B.map zbj)))):zbc (r+7) [.scr ns, .int k, .ref aw, .ref at', .bl g] S Q E:=by
 rw [show r+7=r+6+1 from rfl,zbc];walk_at "wp";refine⟨Nat.zero_le _,fun ab hb=>⟨⟨by decide,by decide⟩,?_⟩⟩
 refine zlv (fun i σ S'=>∃(B:List Tn) (f:Nat→Nat) (x5 x6 x7 x8 x9 x10:Option W),B.map (fun t=>t.2.1)=(List.range i).flatMap (fun j=>leftsL (f j) (hdOf w0 w1 j) w2 w3)∧B.map (fun t=>t.1)=tt.take B.length∧(∀t∈B,RightW [w0,w1,w2,w3,w4,w5] t.2.1.nb t.2.2)∧S'=put S ab (.lst (B.map zbj))∧
  σ=[some (.scr ns),some (.int k),some (.ref aw),some (.ref at'),some (.bl g),some (.ref ab),x5,x6,x7,x8,x9,x10]) 2 ?_ ?_ ⟨[],fun _=>0,none,none,none,none,none,none,rfl,rfl,(fun _ h=>nomatch h),rfl,rfl⟩
 ·rintro j hj σ S' N ⟨B,f,x5,x6,x7,x8,x9,x10,e1,e2,e3,rfl,rfl⟩ hN;have fw:put S ab (Ob.lst (B.map zbj)) aw=some (.lst (six w0 w1 w2 w3 w4 w5)):=keep hw hb;have ft:put S ab (Ob.lst (B.map zbj)) at'=some (.lst (tt.map W.str)):=keep ht hb;have fb:put S ab (Ob.lst (B.map zbj)) ab=some (.lst (B.map zbj)):=zag;have n1:ab≠aw:=fun z=>by rw [z,hw]at hb;cases hb
  have n2:ab≠at':=fun z=>by rw [z,ht]at hb;cases hb
  have eh:atI (six w0 w1 w2 w3 w4 w5) (j:Int)=some (.str (hdOf w0 w1 j)):=by
   rcases(show j=0∨j=1 by omega) with rfl |rfl<;>rfl
  simp only[zcr];walk_at "wp";refine zdq (by omega) fun draw=>?_;walk_at "wp";simp only[zaj fw,eh,six2,zij];refine⟨by decide,zme fun al n hal=>?_⟩;have hl:=zdE n (hdOf w0 w1 j) w2 w3;have hB:B.length≤4:=by
   have:=congrArg List.length e1;rw [List.length_map]at this;rcases(show j=0∨j=1 by omega) with rfl |rfl
   ·simp at this;rw [this];simp
   ·simp at this;have:=zdE (f 0) (hdOf w0 w1 0) w2 w3;omega
  have nal:al≠ab:=fun z=>by rw [z,fb]at hal;cases hal
  try walk_at "wp"
  refine zgV (g:=g) h6 k0 (by omega) (leftsL n (hdOf w0 w1 j) w2 w3) (zgP _ _ _ _) (by omega) (keep fb hal) (keep fw hal) (keep ft hal) n1 n2 (fun o=>?_) fun C' x7 x8 x9 x10 g1 g2 g3=>?_
  ·rw [zaX nal,zag]
  ·refine hN _ _ (put S ab (.lst ((B++C').map zbj))) ?_ ⟨B++C',fun i=>if i=j then n else f i,_,_,_,_,_,_,?_,g2 e2,fun t ht'=>?_,rfl,rfl⟩
   ·rw [zmT nal];exact .put .refl (by rw [zaX nal];exact(zdz hal).1)
   ·rw [List.map_append,e1,g1,List.range_succ,List.flatMap_append];congr 1
    ·rw [List.flatMap_def,List.flatMap_def];congr 1;refine List.map_congr_left fun i hi=>?_;have:=List.mem_range.mp hi;dsimp only;rw [if_neg (by omega)]
    ·simp
   ·rcases List.mem_append.mp ht' with z |z
    ·exact e3 t z
    ·exact g3 t z
 ·rintro σ S' ⟨B,f,x5,x6,x7,x8,x9,x10,e1,e2,e3,rfl,rfl⟩;walk_at "wp";refine⟨_, .refl,h ab B (f 0) (f 1) hb ?_ e2 e3⟩;rw [e1];simp [List.range_succ,hdOf]
end
theorem zrr{s:Str}{ts:List Tr}{i:Int}{p:List Int}{v:Tr}(h:(Tr.nd s ts).at (i::p)=some v):∃w,ts[i.toNat]? =some w∧w.at p=some v:=by
 simp only[Tr.at]at h;cases e:ts[i.toNat]? with
 |none=>rw [e]at h;simp at h
 |some w=>
  rw [e]at h;have h':0≤i∧w.at p=some v:=by simpa using h
  exact⟨w,rfl,h'.2⟩
theorem zpU{P:Str→Prop}:∀(q:List Int) {X v:Tr},X.hd P→X.at q=some v→v.hd P∧v.weight≤X.weight
 | [],X,v,hX,h=>by
  cases X<;>(simp only[Tr.at,Option.some.injEq]at h;subst h;exact⟨hX,Nat.le_refl _⟩)
 |i::p, .bl n,v,hX,h=>by simp [Tr.at]at h
 |i::p, .nd s ts,v,hX,h=>by
  obtain⟨w,hw,hv⟩:=zrr h;have hm:w∈ts:=List.mem_of_getElem? hw;simp only[Tr.hd]at hX;have:=zpU p (hds_iff.mp hX.2 w hm) hv;have hwt:=zcc hm;exact⟨this.1,by rw [Tr.weight];omega⟩
theorem zny{P:Str→Prop}{u:Tr}(hu:u.hd P):∀(q:List Int) {X v:Tr},X.hd P→X.at q=some v→(X.put q u).hd P
 | [],X,v,hX,h=>by rw [zcp];exact hu
 |i::p, .bl n,v,hX,h=>by simp [Tr.at]at h
 |i::p, .nd s ts,v,hX,h=>by
  obtain⟨w,hw,hv⟩:=zrr h;have hm:w∈ts:=List.mem_of_getElem? hw;rw [zcJ hw];simp only[Tr.hd]at hX⊢;exact⟨hX.1,zkl (zny hu p (hds_iff.mp hX.2 w hm) hv) _ hX.2⟩
theorem zgO{α β:Type}{f:α→β}{xs:List α}(h:(xs.map f).Nodup):xs.Nodup:=by
 unfold List.Nodup at h⊢;rw [List.pairwise_map]at h;exact h.imp fun {a b} n e=>n (by rw [e])
structure Pre0 (S:Sto) (aw at' ab:Addr) (w0 w1 w2 w3 w4 w5:Str) (tt:List Str) (B:List Tn):Prop where
  G:Signs w0 w1 w2 w3 w4 w5
  T:Titles tt
  b:BookOk w0 w1 w2 w3 w4 w5 tt B
  fw:S aw=some (.lst (six w0 w1 w2 w3 w4 w5))
  ft:S at'=some (.lst (tt.map W.str))
  fb:S ab=some (.lst (B.map zbj))
theorem Pre0.ne{S:Sto}{aw at' ab:Addr}{w0 w1 w2 w3 w4 w5:Str}{tt:List Str}{B:List Tn}(P:Pre0 S aw at' ab w0 w1 w2 w3 w4 w5 tt B):B≠ []:=by
 have h:=P.b.len;rintro rfl;simp at h
structure Pw (w0 w1 w2 w3 w4 w5:Str) (tt:List Str) (B:List Tn) (p:Pl):Prop where
  b:BookOk w0 w1 w2 w3 w4 w5 tt B
  T:Titles tt
  G:Signs w0 w1 w2 w3 w4 w5
  o:PlOk [w2,w3,w4,w5] B p
  w:p.wt≤23
  n:p.nt≤4
section
variable {w0 w1 w2 w3 w4 w5:Str}{tt:List Str}{B:List Tn}{p:Pl}{c:Int→Nat}{S:Sto}{ab:Addr}{Q:WK}{E:Str→Sto→Prop}
theorem Pw.k (u:Pw w0 w1 w2 w3 w4 w5 tt B p):BkOk [w0,w1,w2,w3,w4,w5] [w2,w3,w4,w5] B:=u.b.bk u.T u.G
theorem Pw.nd (u:Pw w0 w1 w2 w3 w4 w5 tt B p):(B.map fun t=>t.1).Nodup:=u.k.nd
theorem Pw.lf (u:Pw w0 w1 w2 w3 w4 w5 tt B p):Lft B:=⟨fun t ht=>(u.k.lf t ht).dp,fun t ht=>by
 have h1:=(u.k.lf t ht).wt;have h2:=(u.k.lf t ht).nb;omega⟩
theorem Pw.pb (u:Pw w0 w1 w2 w3 w4 w5 tt B p):PB B:=fun t ht x hx=>by
 have h1:=(zpl hx).2.2;have h2:=(u.k.lf t ht).dp;omega
theorem Pw.dp (u:Pw w0 w1 w2 w3 w4 w5 tt B p):(p.ev B c).depth≤40:=Nat.le_trans (zmn u.k u.o) (Nat.le_trans (p.nat_bounds u.w u.n).1 (by decide))
theorem Pw.hd (u:Pw w0 w1 w2 w3 w4 w5 tt B p):(p.ev B c).hd fun _=>True:=ztf u.k (fun _ _=>trivial) (fun _ _ _=>trivial) u.o
theorem zis{ws hs:List Str}{c:Int→Nat}(b:BkOk ws hs B) (hc:∀x:Int,0≤x→x<8→c x≤1) {p:Pl}(h:PlOk hs B p):(p.ev B c).weight≤p.wt+2*p.nt:=by
 have sum:∀ps:List Pl,(∀p∈ps,(p.ev B c).weight≤p.wt+2*p.nt)→wts (ps.map (Pl.ev B c))≤pwts ps+2*pnts ps:=by
  intro ps
  induction ps with
  |nil=>intro _;simp [wts]
  |cons p ps ih=>
   intro h;have h1:=h p List.mem_cons_self;have h2:=ih fun q hq=>h q (List.mem_cons_of_mem _ hq);rw [List.map_cons,wts,pwts,pnts];omega
 induction h with
 | @sign b' h ps hh hp ih=>
  have:=sum ps ih;rw [zcy,Tr.weight,Pl.wt,Pl.nt];omega
 | @turn k b' h ps t e hl b0 b1 hp ih=>
  have ht:t∈B:=List.mem_of_getElem? e;have:=sum ps ih;have hcx:=hc b' b0 b1;rw [zcG e,Pl.wt,Pl.nt,if_neg (by omega)];by_cases c1:c b'=1
  ·rw [c1];show(Tr.nd t.1 _).weight≤_;rw [Tr.weight];omega
  ·rw [show c b'=0 by omega]
   have:=(b.lf t ht).fw (ps.map (Pl.ev B c)) (by rw [List.length_map,hl]);show(t.2.1.fill _).weight≤_;omega
theorem Pw.wt1 (u:Pw w0 w1 w2 w3 w4 w5 tt B p):(p.ev B (byC 1)).weight≤1000:=by
 have:=zis (c:=byC 1) u.k (fun x _ _=>zlM 1 x) u.o;have:=u.w;have:=u.n;omega
theorem zrA{c:Int→Nat}(hc:∀x:Int,0≤x→x<8→c x≤1):∀x:Int,0≤x→x<8→zbO c x≤1:=fun x h0 h1=>by
 have:=hc x h0 h1;unfold zbO;split<;>omega
theorem Pw.w7 (u:Pw w0 w1 w2 w3 w4 w5 tt B p):(p.ev B (zbO (byC 1))).weight*7 ^ (p.lo B (byC 1) []).length≤90000:=by
 have h1:=zis (c:=zbO (byC 1)) u.k (zrA fun x _ _=>zlM 1 x) u.o;have h2:=u.w;have h3:=u.n;have h4:=zlw B (byC 1) p [];have h5:7 ^ (p.lo B (byC 1) []).length≤7 ^ 4:=Nat.pow_le_pow_right (by decide) (by omega);exact Nat.le_trans (Nat.mul_le_mul (show _≤31 by omega) h5) (by decide)
theorem Pw.lo (u:Pw w0 w1 w2 w3 w4 w5 tt B p):(p.ev B (byC 1)).lo B []=p.lo B (byC 1) []:=by
 refine zsz u.k (fun t ht us hu q=>?_) (fun x _ _=>zlM 1 x) u.o [];obtain⟨n,m,el⟩:=u.b.lf;have mu:t.2.1∈leftsL n w0 w2 w3++leftsL m w1 w2 w3:=by rw [←el];exact List.mem_map.mpr ⟨t,ht,rfl⟩
 have s:∀x∈ [w0,w1,w2,w3,w4,w5],zaF B x=none:=fun x hx=>zdD u.k.ti (u.k.sg x hx);rcases List.mem_append.mp mu with z |z
 ·exact ziI z (s _ (by simp)) (s _ (by simp)) (s _ (by simp)) hu q
 ·exact ziI z (s _ (by simp)) (s _ (by simp)) (s _ (by simp)) hu q
theorem Pw.run (u:Pw w0 w1 w2 w3 w4 w5 tt B p):Run B (p.ev B (zbO (byC 1))) (p.lo B (byC 1) []) (p.ev B (zaV (byC 1))):=by
 have h:=zrq (c:=byC 1) (hs:=[w2,w3,w4,w5]) (B:=B) (fun t ht=>?_) (fun x _ _=>zlM 1 x) u.o [] (p.ev B (zbO (byC 1))) (by cases p.ev B (zbO (byC 1))<;>rfl) (by have:=u.w;simp;omega)
 ·rw [zcp]at h;exact h
 ·obtain⟨n,m,e⟩:=u.b.lf;have:t.2.1∈leftsL n w0 w2 w3++leftsL m w1 w2 w3:=by rw [←e];exact List.mem_map.mpr ⟨t,ht,rfl⟩
  rcases List.mem_append.mp this with z |z
  ·exact zga z
  ·exact zga z
theorem Pw.ok_made1 (u:Pw w0 w1 w2 w3 w4 w5 tt B p) (ha:S ab=some (.lst (B.map zbj))) (h:Q (enc (p.ev B (zbO (byC 1)))) S):zaT 199 [.ref ab,enc (p.ev B (byC 1)), .int 1] S Q E:=
 zhO (r:=198) u.k.nd ha (.inl rfl) u.k.s1 40 u.dp (by omega) (znP _ (znr u.k u.o)) u.wt1 (by rw [zqv,zrU u.k u.o];exact h)
theorem Pw.ok_made2 (u:Pw w0 w1 w2 w3 w4 w5 tt B p) (ha:S ab=some (.lst (B.map zbj))) (h:Q (enc (p.ev B (zaV (byC 1)))) S):zaT 199 [.ref ab,enc (p.ev B (byC 1)), .int 2] S Q E:=
 zhO (r:=198) u.k.nd ha (.inr rfl) u.k.s2 40 u.dp (by omega) (znP _ (znr u.k u.o)) u.wt1 (by rw [zqp,zpp u.k u.o];exact h)
end
theorem zjq{f:W→W→Option Bool}(h:∀x:List Int,f (zaH x) (zaH x)=some true):∀xs:List (List Int),zdK f (xs.map zaH) (xs.map zaH)=some true
 | []=>rfl
 |x::xs=>by rw [List.map_cons,zdK,h,zjq h xs];rfl
theorem zsS{S:Sto}{a b:Addr}{xs:List (List Int)}(ha:S a=some (.lst (xs.map zaH))) (hb:S b=some (.lst (xs.map zaH))):eqF S 60 (.ref a) (.ref b)=some true:=zoB (n:=59) ha hb (zjq (fun x=>by rw [zsO (n:=57)];simp) xs)
section
variable {S:Sto}{aw at' ab q6:Addr}{p:Pl}{v:W}{w0 w1 w2 w3 w4 w5:Str}{tt:List Str}{B:List Tn}{E:WX}{D:WEnds}{T:WS}{ns:List Int}{a0 a1 a2 a4 a5 a6 a7 a8 a9:Option W}
theorem zoV (b:BookOk w0 w1 w2 w3 w4 w5 tt B) {X:Tr}{q:List Int}{t:Tn}{us:List Tr}(ht:t∈B) (hu:us.length=t.2.1.nb) (hX:X.at q=some (t.2.1.fill us)) (hh:X.hd fun _=>True):(X.put q (t.2.2.fill us)).hd (fun _=>True)∧(X.put q (t.2.2.fill us)).weight≤7*X.weight∧(t.2.1.fill us).fits 0:=by
 have h1:=zpU q hh hX;have h2:=zqx _ _ _ (b.mt t ht us hu) h1.1;have ri:=b.ri t ht;have hr:(t.2.2.fill us).hd fun _=>True:=zfJ (hds_iff.mp h2.1) t.2.2 (ri.hb fun _ _=>trivial) (by rw [hu];exact ri.fits);have hv:1≤(t.2.1.fill us).weight:=zfb _;have fw:=zeh hv (fun u hu'=>Nat.le_trans (zcc hu') h2.2) t.2.2;have pw:=zeZ q (u:=t.2.2.fill us) hX;have rw7:t.2.2.weight*(t.2.1.fill us).weight≤7*(t.2.1.fill us).weight:=Nat.mul_le_mul_right _ ri.wt;refine⟨zny hr q hh hX,?_,zjO _ h1.1⟩;omega
theorem zmN (b:BookOk w0 w1 w2 w3 w4 w5 tt B) (G:Signs w0 w1 w2 w3 w4 w5) (L:Lft B) {F:List W}{X Y:Tr}{ps:List (List Int)}(R:Run B X ps Y):∀{S:Sto}{x8 x9:Option W},X.hd (fun _=>True)→X.weight*7 ^ ps.length≤90000→S ab=some (.lst (B.map zbj))→S q6=some (.lst F)→
  (∀S' x8 x9,Sub S S'→D.nx [a0,a1,a2,some (.ref ab),a4,a5,some (.ref q6),some (enc Y),x8,x9] S')→
  forL (wGN 8) (zcz 199 zbw) E D (fun S'=>S' q6=some (.lst F)) (ps.map zaH) [a0,a1,a2,some (.ref ab),a4,a5,some (.ref q6),some (enc X),x8,x9] S:=by
 induction R with
 |nil X=>
  intro S x8 x9 hh hw fb f6 h;have:=h S x8 x9 .refl;simpa [forL]using this
 | @cons X Y q ps t us ht hu hX hq _ ih=>
  intro S x8 x9 hh hw fb f6 h;obtain⟨s1,s2,s3⟩:=zoV b ht hu hX hh;have w7:X.weight≤90000:=Nat.le_trans (Nat.le_mul_of_pos_right _ (Nat.pow_pos (by decide))) hw;have w8:(X.put q (t.2.2.fill us)).weight*7 ^ ps.length≤90000:=by
   rw [List.length_cons,Nat.pow_succ]at hw;refine Nat.le_trans (Nat.mul_le_mul_right _ s2) ?_;rw [Nat.mul_comm 7,Nat.mul_assoc,Nat.mul_comm 7];exact hw
  have hbl:=b.len;rw [List.map_cons];refine zbM fun N hN=>?_;unfold zcz zck zcj zco zcl;walk_at "wp";have e0:∀f,tyW (zaH q) S f=tyW (.tup (q.map W.int)) S f:=fun _=>rfl;rw [e0];walk_at "wp";refine zjZ hX ?_;rw [zaj fb];have hm:=b.mt t ht us hu;have ho:=b.open_some G ht hu;refine zcU (fun σ=>∃y,σ=[y,some (enc (t.2.1.fill us))]) zbj zbj (fun u:Tn=>(u.2.1.mt (t.2.1.fill us)).isSome) fb B [] _ ⟨none,rfl⟩ (by simp;omega) (fun u hu' σ R1 R0 hI h1 h0=>?_) ?_
  ·obtain⟨y,rfl⟩:=hI;unfold zeH;simp only[zbj]at h1⊢;walk_at "wp";rw [show atI [W.str u.1,enc u.2.1,enc u.2.2] 1=some (enc u.2.1) from rfl];dsimp only;refine zjF 4 (L.d u hu') (by omega) s3 (by have:=L.w u hu';omega) ?_;cases e:(u.2.1.mt (t.2.1.fill us)).isSome with
   |false=>
    walk_at "wp";exact h0 e _ _ ⟨_,rfl⟩ .refl
   |true=>
    walk_at "wp";exact h1 e _ _ ⟨_,rfl⟩ .refl
  ·rw [List.nil_append];have e1:B.filter (fun u:Tn=>(u.2.1.mt (t.2.1.fill us)).isSome)=[t]:=by
    rw [zej _ B (zgO (b.inj G)) fun u hu v hv h1 h2=>zhS (b.inj G) hu hv (b.one G hu hv h1 h2)];unfold zmw at ho;rw [ho];rfl
   rw [e1];intro c hc;rw [if_neg (by simp)];have sub:Sub S (put S c (Ob.lst ([t].map zbj))):= .put .refl hc;refine zlt (r:=198) b G L (sub _ _ fb) ht hu hX hq w7 s3 (by omega) fun S' sb=>?_;replace sub:=sub.trans sb;exact hN _ _ _ .refl (sub _ _ f6) (ih s1 w8 (sub _ _ fb) (sub _ _ f6) fun S'' x8 x9 s''=>h S'' x8 x9 (sub.trans s''))
theorem zsn (P:Pre0 S aw at' ab w0 w1 w2 w3 w4 w5 tt B) (h:∀S' p v,Pw w0 w1 w2 w3 w4 w5 tt B p→S' ab=some (.lst (B.map zbj))→PlAt S' p v→T E D [some (.scr ns),some (.ref aw),some (.ref at'),some (.ref ab),some v,a5,a6,a7,a8,a9] S') :
  zbV 199 T E D [some (.scr ns),some (.ref aw),some (.ref at'),some (.ref ab),a4,a5,a6,a7,a8,a9] S:=by
 rw [zbV];walk_at "wp";intro ac hc;refine L2.zpa (r:=189) zag (keep P.fb hc) (keep P.fw hc) (P.b.bk P.T P.G) P.ne fun p v S' sub pa po pw pn=>?_;exact h S' p v ⟨P.b,P.T,P.G,po,pw,pn⟩ (sub _ _ (keep P.fb hc)) pa
theorem zsC (u:Pw w0 w1 w2 w3 w4 w5 tt B p) (fb:S ab=some (.lst (B.map zbj))) (pa:PlAt S p v) (h:T E D [a0,a1,a2,some (.ref ab),some v,some (enc (p.ev B (byC 1))),a6,a7,a8,a9] S) :
  zbZ 199 T E D [a0,a1,a2,some (.ref ab),some v,a5,a6,a7,a8,a9] S:=by
 have hdp:=zfR p;have pw:=u.w;rw [zbZ];walk_at "wp";exact L2.znn (r:=198) (by decide) fb (u.b.bk u.T u.G) 23 (by omega) (by omega) pa u.o (by omega) h
theorem zst (u:Pw w0 w1 w2 w3 w4 w5 tt B p) (fb:S ab=some (.lst (B.map zbj))) (h:∀q,S q=none→T E D [a0,a1,a2,some (.ref ab),a4,some (enc (p.ev B (byC 1))),some (.ref q),a7,a8,a9] (put S q (.lst ((p.lo B (byC 1) []).map zaH)))) :
  zbT 199 T E D [a0,a1,a2,some (.ref ab),a4,some (enc (p.ev B (byC 1))),a6,a7,a8,a9] S:=by
 rw [zbT];walk_at "wp";refine ziW (r:=198) u.lf u.pb fb (by have:=u.dp (c:=byC 1);omega) (by have:=u.dp (c:=byC 1);omega) u.wt1 u.hd fun q hq=>?_;rw [u.lo];exact h q hq
theorem zsu (u:Pw w0 w1 w2 w3 w4 w5 tt B p) (fb:S ab=some (.lst (B.map zbj))) (f6:S q6=some (.lst ((p.lo B (byC 1) []).map zaH))) (h:∀S',Sub S S'→T E D [a0,a1,a2,some (.ref ab),a4,some (enc (p.ev B (byC 1))),some (.ref q6),a7,a8,a9] S') :
  zbX 199 T E D [a0,a1,a2,some (.ref ab),a4,some (enc (p.ev B (byC 1))),some (.ref q6),a7,a8,a9] S:=by
 rw [zbX];walk_at "wp"
 try rw [zaj f6]
 try walk_at "wp"
 have e0:W.tup []=zaH []:=rfl;rw [e0];refine⟨Nat.zero_le _,?_⟩;refine zkm (p:=[]) (r:=198) u.lf u.pb u.nd 60 (by have:=u.dp (c:=byC 1);omega) (by omega) u.wt1 u.hd fb (by have:=u.dp (c:=byC 1);simp;omega) fun S' q sb hq=>?_;rw [u.lo]at hq;rw [zsS (sb _ _ f6) hq]
 try walk_at "wp"
 exact h _ sb
theorem zsy (u:Pw w0 w1 w2 w3 w4 w5 tt B p) (fb:S ab=some (.lst (B.map zbj))) (h:T E D [a0,a1,a2,some (.ref ab),a4,some (enc (p.ev B (byC 1))),a6,some (enc (p.ev B (zbO (byC 1)))),a8,a9] S) :
  zcg 199 T E D [a0,a1,a2,some (.ref ab),a4,some (enc (p.ev B (byC 1))),a6,a7,a8,a9] S:=by
 rw [zcg];walk_at "wp";exact u.ok_made1 fb h
theorem zsA (u:Pw w0 w1 w2 w3 w4 w5 tt B p) (fb:S ab=some (.lst (B.map zbj))) (f6:S q6=some (.lst ((p.lo B (byC 1) []).map zaH))) (h:∀S' x8 x9,Sub S S'→T E D [a0,a1,a2,some (.ref ab),a4,a5,some (.ref q6),some (enc (p.ev B (zaV (byC 1)))),x8,x9] S') :
  zbU 199 T E D [a0,a1,a2,some (.ref ab),a4,a5,some (.ref q6),some (enc (p.ev B (zbO (byC 1)))),a8,a9] S:=by
 rw [zbU];walk_at "wp";rw [zaj f6];exact zmN u.b u.G u.lf u.run u.hd u.w7 fb f6 h
theorem zqu (u:Pw w0 w1 w2 w3 w4 w5 tt B p) (fb:S ab=some (.lst (B.map zbj))) (h:D.rt (.bl true) S) :
  zbG 199 E D [a0,a1,a2,some (.ref ab),a4,some (enc (p.ev B (byC 1))),a6,some (enc (p.ev B (zaV (byC 1)))),a8,a9] S:=by
 rw [zbG];walk_at "wp";refine u.ok_made2 fb ?_;have h2:=u.dp (c:=zaV (byC 1));rw [zre 60 _ _ (by omega),zkd];exact h
end
theorem zmF{T:WS}{E:WX}{D:WEnds}{ns:List Int}{x1 x2 x3:Option W}{τ:WSt}{S:Sto}(h:∀(S':Sto) (aw at' ab:Addr) (w0 w1 w2 w3 w4 w5:Str) (tt:List Str) (B:List Tn),Pre0 S' aw at' ab w0 w1 w2 w3 w4 w5 tt B→T E D (some (.scr ns)::some (.ref aw)::some (.ref at')::some (.ref ab)::τ) S') :
  zcf 199 (zbS 199 (zca 199 T)) E D (some (.scr ns)::x1::x2::x3::τ) S:=by
 unfold zcf zbS zca;walk_at "wp";refine zdq (by decide) fun c0=>zdq (by decide) fun c1=>zhZ fun aw ws hw0 hws=>?_;obtain⟨w0,w1,w2,w3,w4,w5,rfl,G⟩:=zhN hws;have fw:put S aw (Ob.lst ([w0,w1,w2,w3,w4,w5].map W.str)) aw=some (.lst (six w0 w1 w2 w3 w4 w5)):=zag;generalize put S aw (Ob.lst ([w0,w1,w2,w3,w4,w5].map W.str))=S1 at fw⊢;refine zdq (by decide) fun c2=>zdq (by decide) fun c3=>zhZ fun at' tt ht0 htt=>?_;have ft:put S1 at' (Ob.lst (tt.map W.str)) at'=some (.lst (tt.map W.str)):=zag;replace fw:=keep (x:=Ob.lst (tt.map W.str)) fw ht0;generalize put S1 at' (Ob.lst (tt.map W.str))=S2 at fw ft⊢;refine zdq (by decide) fun c4=>?_
 try walk_at "wp"
 refine⟨by decide,?_⟩;refine zlI (r:=192) (zdT htt).len (by decide) fw ft fun ab B n m hb0 e1 e2 e3=>?_;exact h _ aw at' ab w0 w1 w2 w3 w4 w5 tt B ⟨G,zdT htt,⟨⟨n,m,e1⟩,e2,e3⟩,keep (x:=Ob.lst (B.map zbj)) fw hb0,keep (x:=Ob.lst (B.map zbj)) ft hb0,zag⟩
theorem zqJ (ns:List Int) (hl:ns.length≤63):zct 200 [.scr ns] (fun _=>none) (fun w _=>w= .bl true) (fun _ _=>False):=by
 rw [show(200:Nat)=199+1 from rfl,zct,zln];refine⟨rfl,?_⟩;refine zmF fun S' aw at' ab w0 w1 w2 w3 w4 w5 tt B P=>zsn P fun S1 p v u fb pa=>zsC u fb pa (zst u fb fun q6 h6=>?_);replace fb:=keep (x:= .lst ((p.lo B (byC 1) []).map zaH)) fb h6;refine zsu u fb zag fun S2 s2=>zsy u (s2 _ _ fb) (zsA u (s2 _ _ fb) (s2 _ _ zag) fun S3 x8 x9 s3=>?_);exact zqu u (s3 _ _ (s2 _ _ fb)) ⟨_, .refl,rfl⟩
end L2
end
end
section
namespace K36
open PySem L2 PyProof.Rows
noncomputable def top (i:Nat):Stmt:=PySem.Challenge.pw_turnweave_k36_laid_out.main.body.getD i (.Pass ⟨0,0,0,0⟩)
structure Cal (P:Program) (w:World) (K:PySem.W.Frag) (mg:Str→Option Value) (base:Heap) (nm:Str) (ps:List Str) (c:Nat→WSp) where
  zf:Addr
  zd:FuncData
  zg:∀r,FnOk P w K mg base (CX1 P w) r zf zd ps (zch K (c r))
  zb:Binds K zd ps []
  zk:PySem.W.keepIn K (.ref zf)=true
  zm:mg nm=some (.ref zf)
noncomputable def mkC {P:Program}{w:World}{K:PySem.W.Frag}{h:Heap}{mg:Str→Option Value}{base:Heap}{nm:Str}{st:Stmt}{ps:List Str}{c:Nat→WSp}{f:Addr}{d:FuncData}(X:K.In h) (G:h.Ns mainGlobals mg) (F:Fun K nm nm st f d) (a:PySem.W.nsIn K mainGlobals nm=some (some (.ref f))) (g:∀r,FnOk P w K mg base (CX1 P w) r f d ps (zch K (c r))) (b:Binds K d ps []):Cal P w K mg base nm ps c:=⟨f,d,g,b,F.kp,PySem.W.mg_of X G a⟩
noncomputable def Dfn (K:PySem.W.Frag) (nm:Str) (st:Stmt):Prop:=∃f d,PySem.W.nsIn K mainGlobals nm=some (some (.ref f))∧Fun K nm nm st f d
theorem dfn{K:PySem.W.Frag}{x:Str}{st:Stmt}{f:Addr}{oc:Value}{od an:Option Addr}{osl:Array (Option Value)}{kV doc pm cdv ct:Value}(a:PySem.W.nsIn K mainGlobals x=some (some (.ref f))) (l:K.lookup f=some ⟨oc,od, .func (PySem.W.fnOf x x (zeg st) (zdN st) (zam st) .none kV doc pm an cdv ct),osl⟩) (c:PySem.W.codeIn K cdv x=true) (k:PySem.W.keepIn K (.ref f)=true):Dfn K x st:=⟨f,_,a,zpQ l c k⟩
theorem nC{p:List Value→Prop}{k:Nat}(h:∀a us,us.length=k→p (a::us)):∀us,us.length=k+1→p us:=fun us e=>by
 cases us with
 |nil=>cases e
 |cons a us=>exact h a us (Nat.succ.inj e)
theorem n0{p:List Value→Prop}(h:p []):∀us,us.length=0→p us:=fun us e=>by
 cases us with
 |nil=>exact h
 |cons a us=>cases e
theorem n1{p:List Value→Prop}(h:∀a,p [a]):∀us,us.length=1→p us:=nC fun a=>n0 (p:=fun us=>p (a::us)) (h a)
theorem n2{p:List Value→Prop}(h:∀a b,p [a,b]):∀us,us.length=2→p us:=nC fun a=>n1 (p:=fun us=>p (a::us)) (h a)
theorem n3{p:List Value→Prop}(h:∀a b c,p [a,b,c]):∀us,us.length=3→p us:=nC fun a=>n2 (p:=fun us=>p (a::us)) (h a)
theorem n4{p:List Value→Prop}(h:∀a b c d,p [a,b,c,d]):∀us,us.length=4→p us:=nC fun a=>n3 (p:=fun us=>p (a::us)) (h a)
theorem n5{p:List Value→Prop}(h:∀a b c d e,p [a,b,c,d,e]):∀us,us.length=5→p us:=nC fun a=>n4 (p:=fun us=>p (a::us)) (h a)
theorem n6{p:List Value→Prop}(h:∀a b c d e f,p [a,b,c,d,e,f]):∀us,us.length=6→p us:=nC fun a=>n5 (p:=fun us=>p (a::us)) (h a)
local macro_rules | `(tactic| walk_at "sc") => `(tactic| (refine ⟨rfl, rfl, rfl, ?_, rfl, ?_, ?_⟩ <;> decide +kernel))
noncomputable abbrev Ok (P:Program) (w:World) (K:PySem.W.Frag) (mg:Str→Option Value) (base:Heap) (f:Addr) (d:FuncData) (ps:List Str) (c:Nat→WSp):Prop:=∀r,FnOk P w K mg base (CX1 P w) r f d ps (zch K (c r))
theorem zdw{P:Program}{w:World}{K:PySem.W.Frag}{mg:Str→Option Value}{base:Heap}{f:Addr}{d:FuncData}{ps:List Str}{c:Nat→WSp}(h0:c 0=zbw) (h:∀r,FnOk P w K mg base (CX1 P w) r f d ps (zch K (c r))→FnOk P w K mg base (CX1 P w) (r+1) f d ps (zch K (c (r+1)))):Ok P w K mg base f d ps c:=fun r=>by
 induction r with
 |zero=>rw [h0];exact zqX
 |succ r ih=>exact h r ih
structure Ncl (mg:Str→Option Value) (x:Str) where
  xC:Addr
  xm:mg x=some (.ref xC)
theorem zkf:bootBuiltins "ValueError" =some (.type "ValueError"):=by first |rfl |decide +kernel | (unfold bootBuiltins;decide +kernel)
noncomputable abbrev s0:Stmt:=top 4
theorem sc0:FnScope ["t"] ["t"] (zam s0):=by walk_at "sc"
noncomputable abbrev s1:Stmt:=top 6
theorem sc1:FnScope ["t", "place", "found", "number", "inner"] ["t", "place", "found"] (zam s1):=by walk_at "sc"
noncomputable abbrev s2:Stmt:=top 5
theorem sc2:FnScope ["t", "found"] ["t"] (zam s2):=by walk_at "sc"
noncomputable abbrev s3:Stmt:=top 8
theorem sc3:FnScope ["t", "number", "parts"] ["t", "number"] (zam s3):=by walk_at "sc"
noncomputable abbrev s4:Stmt:=top 7
theorem sc4:FnScope ["t", "place", "thing", "number"] ["t", "place"] (zam s4):=by walk_at "sc"
noncomputable abbrev s5:Stmt:=top 10
theorem sc5:FnScope ["side"] ["side"] (zam s5):=by walk_at "sc"
noncomputable abbrev s6:Stmt:=top 13
theorem sc6:FnScope ["book", "title", "turning"] ["book", "title"] (zam s6):=by walk_at "sc"
noncomputable abbrev s7:Stmt:=top 15
theorem sc7:FnScope ["book", "way", "turning"] ["book", "way"] (zam s7):=by walk_at "sc"
noncomputable abbrev s8:Stmt:=top 18
theorem sc8:FnScope ["book", "way", "place", "found", "spot", "inner"] ["book", "way", "place", "found"] (zam s8):=by walk_at "sc"
noncomputable abbrev s9:Stmt:=top 17
theorem sc9:FnScope ["book", "way", "found"] ["book", "way"] (zam s9):=by walk_at "sc"
noncomputable abbrev s10:Stmt:=top 20
theorem ztz:FnScope ["script", "k"] ["script", "k"] (zam s10):=by walk_at "sc"
noncomputable abbrev s11:Stmt:=top 21
theorem sc11:FnScope ["one", "two", "great", "signs", "rest", "base", "k", "at", "words", "word"] ["one", "two", "great"] (zam s11):=by walk_at "sc"
noncomputable abbrev s12:Stmt:=top 22
theorem zua:FnScope ["side"] ["side"] (zam s12):=by walk_at "sc"
noncomputable abbrev s13:Stmt:=top 23
theorem ztB:FnScope ["side", "things"] ["side", "things"] (zam s13):=by walk_at "sc"
noncomputable abbrev s14:Stmt:=top 24
theorem ztF:FnScope ["way", "head", "c", "d"] ["way", "head", "c", "d"] (zam s14):=by walk_at "sc"
noncomputable abbrev s15:Stmt:=top 25
theorem sc15:FnScope ["many", "w", "grows", "some"] ["many", "w", "grows"] (zam s15):=by walk_at "sc"
noncomputable abbrev s16:Stmt:=top 26
theorem sc16:FnScope ["script", "k", "w", "titles", "grows", "book", "j", "lefts", "n", "left", "some", "draw"] ["script", "k", "w", "titles", "grows"] (zam s16):=by walk_at "sc"
noncomputable abbrev s17:Stmt:=top 27
theorem sc17:FnScope ["cells", "book", "w", "room", "stack", "spent", "cell", "way", "need", "node", "k", "at"] ["cells", "book", "w", "room"] (zam s17):=by walk_at "sc"
noncomputable abbrev s18:Stmt:=top 28
theorem sc18:FnScope ["plan", "book", "by", "k", "bits", "head", "parts", "ways"] ["plan", "book", "by"] (zam s18):=by walk_at "sc"
noncomputable abbrev s19:Stmt:=top 29
theorem sc19:FnScope ["book", "way", "which", "parts", "turning"] ["book", "way", "which"] (zam s19):=by walk_at "sc"
noncomputable abbrev s20:Stmt:=top 30
theorem sc20:FnScope ["t", "found", "i", "one"] ["t"] (zam s20):=by walk_at "sc"
noncomputable abbrev s21:Stmt:=top 31
theorem sc21:FnScope ["t", "place", "i"] ["t", "place"] (zam s21):=by walk_at "sc"
noncomputable abbrev s22:Stmt:=top 32
theorem ztC:FnScope ["left", "shape"] ["left", "shape"] (zam s22):=by walk_at "sc"
noncomputable abbrev s23:Stmt:=top 33
theorem sc23:FnScope ["left", "t", "found", "one", "other"] ["left", "t"] (zam s23):=by walk_at "sc"
noncomputable abbrev s24:Stmt:=top 34
theorem sc24:FnScope ["t", "place", "other", "k"] ["t", "place", "other"] (zam s24):=by walk_at "sc"
noncomputable abbrev s25:Stmt:=top 35
theorem sc25:FnScope ["book", "shape", "place", "here", "turning"] ["book", "shape", "place"] (zam s25):=by walk_at "sc"
noncomputable abbrev s26:Stmt:=top 36
theorem ztA:FnScope ["left"] ["left"] (zam s26):=by walk_at "sc"
noncomputable abbrev s27:Stmt:=top 37
theorem sc27:FnScope ["book", "way", "at", "inner", "top", "turning", "found", "one", "place"] ["book", "way", "at"] (zam s27):=by walk_at "sc"
noncomputable abbrev s28:Stmt:=top 38
theorem sc28:FnScope ["script", "w", "titles", "book", "plan", "way", "found", "shape", "place", "here"] ["script"] (zam s28):=by walk_at "sc"
section
variable (P:Program) (w:World) (K:PySem.W.Frag) (mg:Str→Option Value) (base:Heap)
noncomputable abbrev C0:=Cal P w K mg base "parts_of" ["t"] zbP
noncomputable abbrev C1:=Cal P w K mg base "gather_places" ["t", "place", "found"] zaE
noncomputable abbrev C2:=Cal P w K mg base "places" ["t"] zdB
noncomputable abbrev C3:=Cal P w K mg base "numbered_part" ["t", "number"] zbb
noncomputable abbrev C4:=Cal P w K mg base "part" ["t", "place"] zfZ
noncomputable abbrev C5:=Cal P w K mg base "blank_places" ["side"] zbi
noncomputable abbrev C6:=Cal P w K mg base "turning_of" ["book", "title"] zbo
noncomputable abbrev C7:=Cal P w K mg base "part_places" ["book", "way"] zbd
noncomputable abbrev C8:=Cal P w K mg base "gather_inner_first" ["book", "way", "place", "found"] zau
noncomputable abbrev C9:=Cal P w K mg base "laid_out" ["book", "way"] zcu
noncomputable abbrev C10:=Cal P w K mg base "_law_cell" ["script", "k"] zaL
noncomputable abbrev C11:=Cal P w K mg base "_law_words" ["one", "two", "great"] zbn
noncomputable abbrev C12:=Cal P w K mg base "_law_count" ["side"] zav
noncomputable abbrev C13:=Cal P w K mg base "_law_filled" ["side", "things"] zaI
noncomputable abbrev C14:=Cal P w K mg base "_law_lefts" ["way", "head", "c", "d"] zbF
noncomputable abbrev C15:=Cal P w K mg base "_law_rights" ["many", "w", "grows"] zbu
noncomputable abbrev C16:=Cal P w K mg base "_law_book" ["script", "k", "w", "titles", "grows"] zbc
noncomputable abbrev C17:=Cal P w K mg base "_law_plan" ["cells", "book", "w", "room"] zbA
noncomputable abbrev C18:=Cal P w K mg base "_law_way" ["plan", "book", "by"] zbR
noncomputable abbrev C19:=Cal P w K mg base "_law_made" ["book", "way", "which"] zaT
noncomputable abbrev C20:=Cal P w K mg base "_law_places" ["t"] zat
noncomputable abbrev C21:=Cal P w K mg base "_law_at" ["t", "place"] zaS
noncomputable abbrev C22:=Cal P w K mg base "_law_stands" ["left", "shape"] zaw
noncomputable abbrev C23:=Cal P w K mg base "_law_things" ["left", "t"] zaK
noncomputable abbrev C24:=Cal P w K mg base "_law_put" ["t", "place", "other"] zby
noncomputable abbrev C25:=Cal P w K mg base "_law_turned" ["book", "shape", "place"] zbv
noncomputable abbrev C26:=Cal P w K mg base "_law_spots" ["left"] zbE
noncomputable abbrev C27:=Cal P w K mg base "_law_laid" ["book", "way", "at"] zba
end
section
variable {P:Program}{w:World}{K:PySem.W.Frag}{mg:Str→Option Value}{base:Heap}
theorem o0{f:Addr}{d:FuncData}(F:Fun K "parts_of" "parts_of" s0 f d) (n_i:mg "isinstance" =none) (n_n:mg "int" =none):Ok P w K mg base f d ["t"] zbP:=zdw rfl fun r ih=>zbs F sc0 rfl rfl fun _ _ _ _ _ _ hr=>(zae (zaZ (zbJ (zdl rfl n_i rfl n_n PyProof.Rows.boot_int (jv 0) (by decide) (by decide) (zlF _ (by simp)))) (zai (zaq (zak zad))) zaD)
  (zai (zaq (zcs (jv 0) (zaM zac) zaN))))
theorem o1{f:Addr}{d:FuncData}(F:Fun K "gather_places" "gather_places" s1 f d) (x0:C0 P w K mg base) (b:Binds K d ["t", "place", "found"] []) (m:mg "gather_places" =some (.ref f)) (n_e:mg "enumerate" =none):Ok P w K mg base f d ["t", "place", "found"] zaE:=zdw rfl fun r ih=>zbs F sc1 rfl rfl fun _ _ _ _ _ _ hr=>(zae (zcA (zcZ (jv 2) (zaa (jv 1) zad)))
  (zai (zbI (zhz rfl n_e (zal (x0.zg r) hr rfl x0.zm x0.zk x0.zb (zaa (jv 0) zad))) (zdS (zaO (zar (i:=3) sc1.nd rfl (Or.inl rfl)) (zaO (zar (i:=4) sc1.nd rfl (Or.inl rfl)) zcM)) (glS (glS gl0))) (zai (zcA (zal ih hr rfl m F.kp b (zaa (jv 4) (zaa (zaU (jv 1) (zak (zaa (jv 3) zad))) (zaa (jv 2) zad)))))))))
theorem o2{f:Addr}{d:FuncData}(F:Fun K "places" "places" s2 f d) (x1:C1 P w K mg base):Ok P w K mg base f d ["t"] zdB:=zdw rfl fun r ih=>zbs F sc2 rfl rfl fun _ _ _ _ _ _ hr=>(zae (zao (i:=1) sc2.nd rfl (Or.inl rfl) (zax (zaB zad)))
  (zae (zcA (zal (x1.zg r) hr rfl x1.zm x1.zk x1.zb (zaa (jv 0) (zaa (zak zad) (zaa (jv 1) zad)))))
  (zai (zaq (jv 1)))))
theorem o3{f:Addr}{d:FuncData}(F:Fun K "numbered_part" "numbered_part" s3 f d) (x0:C0 P w K mg base) (n_l:mg "len" =none) (y_NoPlace:Ncl mg "NoPlace") (v_NoPlace:XcIn K "NoPlace" y_NoPlace.xC):Ok P w K mg base f d ["t", "number"] zbb:=zdw rfl fun r ih=>zbs F sc3 rfl rfl fun _ _ _ _ _ _ hr=>(zae (zao (i:=2) sc3.nd rfl (Or.inl rfl) (zal (x0.zg r) hr rfl x0.zm x0.zk x0.zb (zaa (jv 0) zad)))
  (zae (zaZ (JW.jt (zoY (zmz (jv 1) zac) (zlx (zte (jv 1) (zcd rfl n_l (zaa (jv 2) zad)))))) (zai (zmp v_NoPlace rfl y_NoPlace.xm (zaa ziG zad))) zaD)
  (zai (zaq (zap (jv 2) (jv 1))))))
theorem o4{f:Addr}{d:FuncData}(F:Fun K "part" "part" s4 f d) (x3:C3 P w K mg base):Ok P w K mg base f d ["t", "place"] zfZ:=zdw rfl fun r ih=>zbs F sc4 rfl rfl fun _ _ _ _ _ _ hr=>(zae (zao (i:=2) sc4.nd rfl (Or.inl rfl) (jv 0))
  (zae (zbI (zbL (jv 1)) (zar (i:=3) sc4.nd rfl (Or.inl rfl)) (zai (zao (i:=2) sc4.nd rfl (Or.inl rfl) (zal (x3.zg r) hr rfl x3.zm x3.zk x3.zb (zaa (jv 2) (zaa (jv 3) zad))))))
  (zai (zaq (jv 2)))))
theorem o5{f:Addr}{d:FuncData}(F:Fun K "blank_places" "blank_places" s5 f d) (x2:C2 P w K mg base) (x4:C4 P w K mg base) (n_i:mg "isinstance" =none) (n_n:mg "int" =none):Ok P w K mg base f d ["side"] zbi:=zdw rfl fun r ih=>zbs F sc5 rfl rfl fun _ _ _ _ _ _ hr=>(zai (zaq (zax (zcC (N:=["place", "side"]) (k:=1) (fr:=[0]) ⟨rfl,by decide +kernel,rfl,rfl,rfl,rfl,rfl,rfl,rfl⟩ (zbL (zal (x2.zg r) hr rfl x2.zm x2.zk x2.zb (zaa (jv 0) zad))) (fun _ _ _ _=>(zar (i:=0) (show List.Nodup [("place" :Str),("side" :Str)] from by decide +kernel) rfl (Or.inl rfl))) (fun _ _ _ _=>(zht (zbJ (zdl rfl n_i rfl n_n PyProof.Rows.boot_int (zal (x4.zg r) hr rfl x4.zm x4.zk x4.zb (zaa (jv 1) (zaa (jv 0) zad))) (by decide) (by decide) (zlF _ (by simp)))))) (fun _ _ _ _=>(jv 0))))))
theorem o6{f:Addr}{d:FuncData}(F:Fun K "turning_of" "turning_of" s6 f d):Ok P w K mg base f d ["book", "title"] zbo:=zdw rfl fun r ih=>zbs F sc6 rfl rfl fun _ _ _ _ _ _ hr=>(zae (zbI (zbL (jv 0)) (zar (i:=2) sc6.nd rfl (Or.inl rfl)) (zai (zaZ (zdy hr (zap (jv 2) zac) (jv 1)) (zai (zaq (jv 2))) zaD)))
  (zai (zaq zkA)))
theorem o7{f:Addr}{d:FuncData}(F:Fun K "part_places" "part_places" s7 f d) (x6:C6 P w K mg base) (x5:C5 P w K mg base) (n_r:mg "range" =none) (n_l:mg "len" =none) {t_LEFT:Tok}(g_LEFT:mg "LEFT" =some (.int 1 t_LEFT)):Ok P w K mg base f d ["book", "way"] zbd:=zdw rfl fun r ih=>zbs F sc7 rfl rfl fun _ _ _ _ _ _ hr=>(zae (zao (i:=2) sc7.nd rfl (Or.inl rfl) (zal (x6.zg r) hr rfl x6.zm x6.zk x6.zb (zaa (jv 0) (zaa (zap (jv 1) zac) zad))))
  (zae (zaZ (zsT (jv 2) zkA) (zai (zaq (zax (zcC (N:=["number"]) (k:=1) (fr:=[]) ⟨rfl,by decide +kernel,rfl,rfl,rfl,rfl,rfl,rfl,rfl⟩ (zda rfl n_r (zaa (zhd (zcd rfl n_l (zaa (jv 1) zad)) zac) zad)) (fun _ _ _ _=>(zar (i:=0) (show List.Nodup [("number" :Str)] from by decide +kernel) rfl (Or.inl rfl))) (fun _ _ _ _=>zcD) (fun _ _ _ _=>(zak (zaa (jv 0) zad))))))) zaD)
  (zai (zaq (zal (x5.zg r) hr rfl x5.zm x5.zk x5.zb (zaa (zap (jv 2) (zpt rfl g_LEFT)) zad))))))
theorem o8{f:Addr}{d:FuncData}(F:Fun K "gather_inner_first" "gather_inner_first" s8 f d) (x7:C7 P w K mg base) (b:Binds K d ["book", "way", "place", "found"] []) (m:mg "gather_inner_first" =some (.ref f)) (x6:C6 P w K mg base) (n_z:mg "zip" =none):Ok P w K mg base f d ["book", "way", "place", "found"] zau:=zdw rfl fun r ih=>zbs F sc8 rfl rfl fun _ _ _ _ _ _ hr=>(zae (zbI (ziD rfl n_z (zal (x7.zg r) hr rfl x7.zm x7.zk x7.zb (zaa (jv 0) (zaa (jv 1) zad))) (zcs (jv 1) (zaM zac) zaN)) (zdS (zaO (zar (i:=4) sc8.nd rfl (Or.inl rfl)) (zaO (zar (i:=5) sc8.nd rfl (Or.inl rfl)) zcM)) (glS (glS gl0))) (zai (zcA (zal ih hr rfl m F.kp b (zaa (jv 0) (zaa (jv 5) (zaa (zaU (jv 2) (jv 4)) (zaa (jv 3) zad))))))))
  (zai (zaZ (zmE (zal (x6.zg r) hr rfl x6.zm x6.zk x6.zb (zaa (jv 0) (zaa (zap (jv 1) zac) zad))) zkA) (zai (zcA (zcZ (jv 3) (zaa (jv 2) zad)))) zaD)))
theorem o9{f:Addr}{d:FuncData}(F:Fun K "laid_out" "laid_out" s9 f d) (x8:C8 P w K mg base):Ok P w K mg base f d ["book", "way"] zcu:=zdw rfl fun r ih=>zbs F sc9 rfl rfl fun _ _ _ _ _ _ hr=>(zae (zao (i:=2) sc9.nd rfl (Or.inl rfl) (zax (zaB zad)))
  (zae (zcA (zal (x8.zg r) hr rfl x8.zm x8.zk x8.zb (zaa (jv 0) (zaa (jv 1) (zaa (zak zad) (zaa (jv 2) zad))))))
  (zai (zaq (jv 2)))))
theorem o10{f:Addr}{d:FuncData}(F:Fun K "_law_cell" "_law_cell" s10 f d) (n_l:mg "len" =none):Ok P w K mg base f d ["script", "k"] zaL:=zdw rfl fun r ih=>zbs F ztz rfl rfl fun _ _ _ _ _ _ hr=>(zae (zaZ (zmz (jv 1) (zcd rfl n_l (zaa (jv 0) zad))) (zai (zaq (zap (jv 0) (jv 1)))) zaD)
  (zai (zaq zac)))
theorem o11{f:Addr}{d:FuncData}(F:Fun K "_law_words" "_law_words" s11 f d) (n_r:mg "range" =none) (n_l:mg "len" =none) (n_n:mg "int" =none):Ok P w K mg base f d ["one", "two", "great"] zbn:=zdw rfl fun r ih=>zbs F sc11 rfl rfl fun _ _ _ _ _ _ hr=>(zae (zao (i:=3) sc11.nd rfl (Or.inr rfl) ziG)
  (zae (zao (i:=4) sc11.nd rfl (Or.inl rfl) (zcw (jv 1) (zqA zac zac)))
  (zae (zao (i:=5) sc11.nd rfl (Or.inr rfl) (zax (zaB zad)))
  (zae (zbI (zda rfl n_r (zaa (zaU zac (zcw (jv 0) zac)) zad)) (zar (i:=6) sc11.nd rfl (Or.inr rfl)) (zae (zcA (zcZ (jv 5) (zaa (zcw (jv 4) zac) zad)))
  (zai (zao (i:=4) sc11.nd rfl (Or.inl rfl) (zdJ (jv 4) zac)))))
  (zae (zao (i:=7) sc11.nd rfl (Or.inr rfl) (zcw (zdJ (jv 0) zac) (zcd rfl n_l (zaa (jv 5) zad))))
  (zae (zao (i:=8) sc11.nd rfl (Or.inl rfl) (zax (zaB zad)))
  (zae (zbI (zda rfl n_r (zaa zac zad)) (zar (i:=6) sc11.nd rfl (Or.inr rfl)) (zae (zao (i:=9) sc11.nd rfl (Or.inl rfl) (zmh ziG (zcC (N:=["j", "signs", "base", "k", "at"]) (k:=1) (fr:=[3,5,6,7]) ⟨rfl,by decide +kernel,rfl,rfl,rfl,rfl,rfl,rfl,rfl⟩ (zda rfl n_r (zaa (zcd rfl n_l (zaa (jv 5) zad)) zad)) (fun _ _ _ _=>(zar (i:=0) (show List.Nodup [("j" :Str),("signs" :Str),("base" :Str),("k" :Str),("at" :Str)] from by decide +kernel) rfl (Or.inl rfl))) (fun _ _ _ _=>zcD) (fun _ _ _ _=>(zap (jv 1) (zcw (zaU (zap (jv 2) (jv 0)) (znw (jv 3) (zoQ rfl n_n (zaa (znY hr (jv 0) (jv 4)) zad)))) zac))))))
  (zae (zaZ (zbJ (jv 2)) (zai (zao (i:=9) sc11.nd rfl (Or.inl rfl) (zaU (zmH (zap (jv 9) zac)) (zcs (jv 9) (zaM zac) zaN)))) zaD)
  (zai (zcA (zcZ (jv 8) (zaa (jv 9) zad)))))))
  (zae (zaZ (JW.jt (znv (zdy hr (zcw (zdJ (jv 0) zac) zac) zac) (zll (ziM (zbJ (jv 2)))))) (zai (zao (i:=8) sc11.nd rfl (Or.inl rfl) (zax (zhA (zoL (jv 8) zaN (zaM zac)) (zaB (zaa (zap (jv 8) zac) (zaa (zap (jv 8) zac) (zaa (zap (jv 8) zac) zad)))))))) zaD)
  (zai (zaq (jv 8)))))))))))
theorem o12{f:Addr}{d:FuncData}(F:Fun K "_law_count" "_law_count" s12 f d) (b:Binds K d ["side"] []) (m:mg "_law_count" =some (.ref f)) (n_i:mg "isinstance" =none) (n_n:mg "int" =none) (n_u:mg "sum" =none):Ok P w K mg base f d ["side"] zav:=zdw rfl fun r ih=>zbs F zua rfl rfl fun _ _ _ _ _ _ hr=>(zae (zaZ (zbJ (zdl rfl n_i rfl n_n PyProof.Rows.boot_int (jv 0) (by decide) (by decide) (zlF _ (by simp)))) (zai (zaq zac)) zaD)
  (zai (zaq (zpd rfl n_u (zcC (N:=["one"]) (k:=1) (fr:=[]) ⟨rfl,by decide +kernel,rfl,rfl,rfl,rfl,rfl,rfl,rfl⟩ (zbL (zcs (jv 0) (zaM zac) zaN)) (fun _ _ _ _=>(zar (i:=0) (show List.Nodup [("one" :Str)] from by decide +kernel) rfl (Or.inl rfl))) (fun _ _ _ _=>zcD) (fun _ _ _ _=>(zal ih hr rfl m F.kp b (zaa (jv 0) zad))))))))
theorem o13{f:Addr}{d:FuncData}(F:Fun K "_law_filled" "_law_filled" s13 f d) (b:Binds K d ["side", "things"] []) (m:mg "_law_filled" =some (.ref f)) (n_i:mg "isinstance" =none) (n_n:mg "int" =none) (n_t:mg "tuple" =none):Ok P w K mg base f d ["side", "things"] zaI:=zdw rfl fun r ih=>zbs F ztB rfl rfl fun _ _ _ _ _ _ hr=>(zae (zaZ (zbJ (zdl rfl n_i rfl n_n PyProof.Rows.boot_int (jv 0) (by decide) (by decide) (zlF _ (by simp)))) (zai (zaq (zap (jv 1) (jv 0)))) zaD)
  (zai (zaq (zaU (zcs (jv 0) zaN (zaM zac)) (zkJ rfl n_t (zcC (N:=["one", "things"]) (k:=1) (fr:=[1]) ⟨rfl,by decide +kernel,rfl,rfl,rfl,rfl,rfl,rfl,rfl⟩ (zbL (zcs (jv 0) (zaM zac) zaN)) (fun _ _ _ _=>(zar (i:=0) (show List.Nodup [("one" :Str),("things" :Str)] from by decide +kernel) rfl (Or.inl rfl))) (fun _ _ _ _=>zcD) (fun _ _ _ _=>(zal ih hr rfl m F.kp b (zaa (jv 0) (zaa (jv 1) zad))))))))))
theorem o14{f:Addr}{d:FuncData}(F:Fun K "_law_lefts" "_law_lefts" s14 f d):Ok P w K mg base f d ["way", "head", "c", "d"] zbF:=zdw rfl fun r ih=>zbs F ztF rfl rfl fun _ _ _ _ _ _ hr=>(zae (zaZ (zdy hr (jv 0) zac) (zai (zaq (zax (zaB (zaa (zak (zaa (jv 1) (zaa zac zad))) zad))))) zaD)
  (zae (zaZ (zdy hr (jv 0) zac) (zai (zaq (zax (zaB (zaa (zak (zaa (jv 1) (zaa zac (zaa zac zad)))) zad))))) zaD)
  (zae (zaZ (zdy hr (jv 0) zac) (zai (zaq (zax (zaB (zaa (zak (zaa (jv 1) (zaa (zak (zaa (jv 2) zad)) zad))) (zaa (zak (zaa (jv 1) (zaa (zak (zaa (jv 3) (zaa zac zad))) zad))) zad)))))) zaD)
  (zae (zaZ (zdy hr (jv 0) zac) (zai (zaq (zax (zaB (zaa (zak (zaa (jv 1) (zaa (zak (zaa (jv 2) zad)) (zaa zac zad)))) (zaa (zak (zaa (jv 1) (zaa (zak (zaa (jv 3) (zaa zac zad))) (zaa zac zad)))) zad)))))) zaD)
  (zae (zaZ (zdy hr (jv 0) zac) (zai (zaq (zax (zaB (zaa (zak (zaa (jv 1) (zaa (zak (zaa (jv 3) (zaa (zak (zaa (jv 3) (zaa zac zad))) zad))) (zaa zac (zaa zac zad))))) (zaa (zak (zaa (jv 1) (zaa (zak (zaa (jv 3) (zaa (zak (zaa (jv 2) zad)) zad))) (zaa zac (zaa zac zad))))) zad)))))) zaD)
  (zai (zaq (zax (zaB (zaa (zak (zaa (jv 1) zad)) zad))))))))))
theorem o15{f:Addr}{d:FuncData}(F:Fun K "_law_rights" "_law_rights" s15 f d):Ok P w K mg base f d ["many", "w", "grows"] zbu:=zdw rfl fun r ih=>zbs F sc15 rfl rfl fun _ _ _ _ _ _ hr=>(zae (zaZ (zdy hr (jv 0) zac) (zai (zaq (zax (zaB (zaa (zak (zaa (zap (jv 1) zac) zad)) (zaa (zak (zaa (zap (jv 1) zac) zad)) (zaa (zak (zaa (zap (jv 1) zac) (zaa (zak (zaa (zap (jv 1) zac) zad)) zad))) zad))))))) zaD)
  (zae (zaZ (zdy hr (jv 0) zac) (zae (zao (i:=3) sc15.nd rfl (Or.inl rfl) (zax (zaB (zaa zac (zaa (zak (zaa (zap (jv 1) zac) (zaa zac zad))) (zaa (zak (zaa (zap (jv 1) zac) (zaa zac (zaa zac zad)))) (zaa (zak (zaa (zap (jv 1) zac) (zaa (zak (zaa (zap (jv 1) zac) (zaa zac zad))) (zaa (zak (zaa (zap (jv 1) zac) zad)) zad)))) zad)))))))
  (zae (zaZ (zbJ (jv 2)) (zai (zaq (zax (zcS (jv 3) (zaB (zaa (zak (zaa (zap (jv 1) zac) (zaa zac zad))) (zaa (zak (zaa (zap (jv 1) zac) (zaa (zak (zaa (zap (jv 1) zac) (zaa zac zad))) (zaa zac zad)))) (zaa (zak (zaa (zap (jv 1) zac) (zaa (zak (zaa (zap (jv 1) zac) (zaa zac zad))) zad))) zad)))))))) zaD)
  (zai (zaq (zax (zcS (jv 3) (zaB (zaa (zak (zaa (zap (jv 1) zac) zad)) (zaa (zak (zaa (zap (jv 1) zac) (zaa (zak (zaa (zap (jv 1) zac) zad)) zad))) zad))))))))) zaD)
  (zae (zaZ (zdy hr (jv 0) zac) (zae (zao (i:=3) sc15.nd rfl (Or.inl rfl) (zax (zaB (zaa (zak (zaa (zap (jv 1) zac) (zaa (zak (zaa (zap (jv 1) zac) (zaa zac (zaa zac zad)))) (zaa zac zad)))) (zaa (zak (zaa (zap (jv 1) zac) (zaa zac (zaa (zak (zaa (zap (jv 1) zac) (zaa zac (zaa zac zad)))) zad)))) (zaa (zak (zaa (zap (jv 1) zac) (zaa (zak (zaa (zap (jv 1) zac) (zaa zac (zaa zac zad)))) (zaa (zak (zaa (zap (jv 1) zac) (zaa zac (zaa zac zad)))) zad)))) zad))))))
  (zae (zaZ (zbJ (jv 2)) (zai (zaq (zax (zcS (jv 3) (zaB (zaa (zak (zaa (zap (jv 1) zac) (zaa (zak (zaa (zap (jv 1) zac) (zaa (zak (zaa (zap (jv 1) zac) (zaa zac (zaa zac zad)))) (zaa zac zad)))) zad))) (zaa (zak (zaa (zap (jv 1) zac) (zaa zac (zaa (zak (zaa (zap (jv 1) zac) (zaa zac (zaa zac zad)))) zad)))) zad))))))) zaD)
  (zai (zaq (zax (zcS (jv 3) (zaB (zaa zac (zaa zac (zaa (zak (zaa (zap (jv 1) zac) (zaa zac (zaa zac zad)))) (zaa (zak (zaa (zap (jv 1) zac) zad)) zad))))))))))) zaD)
  (zae (zao (i:=3) sc15.nd rfl (Or.inl rfl) (zax (zaB (zaa (zak (zaa (zap (jv 1) zac) (zaa zac (zaa zac zad)))) (zaa (zak (zaa (zap (jv 1) zac) (zaa zac (zaa zac zad)))) (zaa (zak (zaa (zap (jv 1) zac) (zaa (zak (zaa (zap (jv 1) zac) (zaa zac zad))) (zaa zac zad)))) (zaa (zak (zaa (zap (jv 1) zac) (zaa (zak (zaa (zap (jv 1) zac) (zaa zac (zaa zac zad)))) (zaa zac zad)))) zad)))))))
  (zae (zaZ (zbJ (jv 2)) (zai (zaq (zax (zcS (jv 3) (zaB (zaa (zak (zaa (zap (jv 1) zac) (zaa zac (zaa zac zad)))) (zaa (zak (zaa (zap (jv 1) zac) (zaa (zak (zaa (zap (jv 1) zac) (zaa zac (zaa zac zad)))) zad))) zad))))))) zaD)
  (zai (zaq (zax (zcS (jv 3) (zaB (zaa zac (zaa zac (zaa (zak (zaa (zap (jv 1) zac) (zaa zac zad))) (zaa (zak (zaa (zap (jv 1) zac) zad)) zad))))))))))))))
theorem o16{f:Addr}{d:FuncData}(F:Fun K "_law_book" "_law_book" s16 f d) (x14:C14 P w K mg base) (x15:C15 P w K mg base) (x10:C10 P w K mg base) (x12:C12 P w K mg base) (n_r:mg "range" =none) (n_e:mg "enumerate" =none) (n_l:mg "len" =none):Ok P w K mg base f d ["script", "k", "w", "titles", "grows"] zbc:=zdw rfl fun r ih=>zbs F sc16 rfl rfl fun _ _ _ _ _ _ hr=>(zae (zao (i:=5) sc16.nd rfl (Or.inl rfl) (zax (zaB zad)))
  (zae (zbI (zda rfl n_r (zaa zac zad)) (zar (i:=6) sc16.nd rfl (Or.inl rfl)) (zae (zao (i:=7) sc16.nd rfl (Or.inl rfl) (zal (x14.zg r) hr rfl x14.zm x14.zk x14.zb (zaa (zcw (zal (x10.zg r) hr rfl x10.zm x10.zk x10.zb (zaa (jv 0) (zaa (zaU (jv 1) (jv 6)) zad))) zac) (zaa (zap (jv 2) (jv 6)) (zaa (zap (jv 2) zac) (zaa (zap (jv 2) zac) zad))))))
  (zai (zbI (zhz rfl n_e (jv 7)) (zdS (zaO (zar (i:=8) sc16.nd rfl (Or.inl rfl)) (zaO (zar (i:=9) sc16.nd rfl (Or.inl rfl)) zcM)) (glS (glS gl0))) (zae (zao (i:=10) sc16.nd rfl (Or.inl rfl) (zal (x15.zg r) hr rfl x15.zm x15.zk x15.zb (zaa (zal (x12.zg r) hr rfl x12.zm x12.zk x12.zb (zaa (jv 9) zad)) (zaa (jv 2) (zaa (jv 4) zad)))))
  (zae (zao (i:=11) sc16.nd rfl (Or.inl rfl) (zal (x10.zg r) hr rfl x10.zm x10.zk x10.zb (zaa (jv 0) (zaa (zaU (zaU (zaU (jv 1) zac) (znw zac (jv 6))) (jv 8)) zad))))
  (zai (zcA (zcZ (jv 5) (zaa (zak (zaa (zap (jv 3) (zcd rfl n_l (zaa (jv 5) zad))) (zaa (jv 9) (zaa (zap (jv 10) (zcw (jv 11) (zcd rfl n_l (zaa (jv 10) zad)))) zad)))) zad))))))))))
  (zai (zaq (jv 5)))))
theorem o17{f:Addr}{d:FuncData}(F:Fun K "_law_plan" "_law_plan" s17 f d) (x12:C12 P w K mg base) (n_l:mg "len" =none) (n_m:mg "min" =none):Ok P w K mg base f d ["cells", "book", "w", "room"] zbA:=zdw rfl fun r ih=>zbs F sc17 rfl rfl fun _ _ _ _ _ _ hr=>(zae (zao (i:=4) sc17.nd rfl (Or.inl rfl) (zax (zaB zad)))
  (zae (zao (i:=5) sc17.nd rfl (Or.inl rfl) zac)
  (zae (zbI (zbL (jv 0)) (zar (i:=6) sc17.nd rfl (Or.inl rfl)) (zae (zao (i:=7) sc17.nd rfl (Or.inl rfl) (zcw (jv 6) zac))
  (zae (zao (i:=8) sc17.nd rfl (Or.inl rfl) (zkH (zaB (zaa zac (zaa zac (zaa zac (zaa zac zad))))) (zlC rfl n_m (zaa (jv 7) (zaa zac zad)))))
  (zae (zao (i:=9) sc17.nd rfl (Or.inl rfl) (zak (zaa (zfk zac) (zaa zac (zaa (zap (jv 2) (zkH (zaB (zaa zac (zaa zac (zaa zac (zaa zac zad))))) (zlC rfl n_m (zaa (jv 7) (zaa zac zad))))) zad)))))
  (zae (zaZ (zoS (jv 7) zac) (zae (zao (i:=10) sc17.nd rfl (Or.inl rfl) (zcw (zdJ (jv 6) zac) (zcd rfl n_l (zaa (jv 1) zad))))
  (zae (zao (i:=8) sc17.nd rfl (Or.inl rfl) (zal (x12.zg r) hr rfl x12.zm x12.zk x12.zb (zaa (zap (zap (jv 1) (jv 10)) zac) zad)))
  (zae (zao (i:=9) sc17.nd rfl (Or.inl rfl) (zak (zaa (jv 10) (zaa (zcw (zdJ (jv 6) zac) zac) (zaa ziG zad)))))
  (zai (zao (i:=5) sc17.nd rfl (Or.inl rfl) (zaU (jv 5) zac)))))) zaD)
  (zai (zaZ (JW.jt (znv (zoS (jv 3) zac) (zll (zmz (jv 5) zac)))) (zae (zao (i:=3) sc17.nd rfl (Or.inl rfl) (zhd (jv 3) zac))
  (zae (zao (i:=4) sc17.nd rfl (Or.inl rfl) (zax (zoz (zrE (zaB (zaa (zak (zaa (zfk zac) (zaa zac (zaa (zap (jv 2) zac) (zaa (zax (zaB zad)) zad))))) zad)) (zhd (jv 8) (zcd rfl n_l (zaa (jv 4) zad)))) (jv 4))))
  (zae (zao (i:=11) sc17.nd rfl (Or.inl rfl) (zhd (zcd rfl n_l (zaa (jv 4) zad)) (jv 8)))
  (zai (zao (i:=4) sc17.nd rfl (Or.inl rfl) (zax (zhA (zoL (jv 4) zaN (zaM (jv 11))) (zaB (zaa (zaU (jv 9) (zak (zaa (zcs (jv 4) (zaM (jv 11)) zaN) zad))) zad))))))))) zaD)))))))
  (zae (zmK (zoS (zcd rfl n_l (zaa (jv 4) zad)) zac) (zai (zao (i:=4) sc17.nd rfl (Or.inl rfl) (zax (zhA (zoL (jv 4) zaN (zaM (zfk zac))) (zaB (zaa (zak (zaa (zfk zac) (zaa zac (zaa (zap (jv 2) zac) (zaa (zcs (jv 4) (zaM (zfk zac)) zaN) zad))))) zad)))))))
  (zai (zaq (zkH (zcS (jv 4) (zaB (zaa (zak (zaa (zfk zac) (zaa zac (zaa (zap (jv 2) zac) (zaa (zax (zaB zad)) zad))))) zad))) zac)))))))
theorem o18{f:Addr}{d:FuncData}(F:Fun K "_law_way" "_law_way" s18 f d) (x13:C13 P w K mg base) (b:Binds K d ["plan", "book", "by"] []) (m:mg "_law_way" =some (.ref f)) (n_t:mg "tuple" =none):Ok P w K mg base f d ["plan", "book", "by"] zbR:=zdw rfl fun r ih=>zbs F sc18 rfl rfl fun _ _ _ _ _ _ hr=>(zae (zpG (jv 0) (zdS (zaO (zar (i:=3) sc18.nd rfl (Or.inl rfl)) (zaO (zar (i:=4) sc18.nd rfl (Or.inl rfl)) (zaO (zar (i:=5) sc18.nd rfl (Or.inl rfl)) (zaO (zar (i:=6) sc18.nd rfl (Or.inl rfl)) zcM)))) (glS (glS (glS (glS gl0))))))
  (zae (zhL (i:=7) (N:=["one", "book", "by"]) (k:=1) (fr:=[1,2]) sc18.nd rfl (Or.inl rfl) ⟨rfl,by decide +kernel,rfl,rfl,rfl,rfl,rfl,rfl,rfl⟩ (zbL (jv 6)) (fun _ _ _ _=>(zar (i:=0) (show List.Nodup [("one" :Str),("book" :Str),("by" :Str)] from by decide +kernel) rfl (Or.inl rfl))) (fun _ _ _ _=>zcD) (fun _ _ _ _=>(zal ih hr rfl m F.kp b (zaa (jv 0) (zaa (jv 1) (zaa (jv 2) zad))))))
  (zae (zaZ (zmz (jv 3) zac) (zai (zaq (zaU (zak (zaa (jv 5) zad)) (zfy rfl n_t (zaa (jv 7) zad))))) zaD)
  (zae (zaZ (zdy hr (zcw (zdJ (jv 4) (jv 2)) zac) zac) (zai (zaq (zaU (zak (zaa (zap (zap (jv 1) (jv 3)) zac) zad)) (zfy rfl n_t (zaa (jv 7) zad))))) zaD)
  (zai (zaq (zal (x13.zg r) hr rfl x13.zm x13.zk x13.zb (zaa (zap (zap (jv 1) (jv 3)) zac) (zaa (jv 7) zad)))))))))
theorem o19{f:Addr}{d:FuncData}(F:Fun K "_law_made" "_law_made" s19 f d) (b:Binds K d ["book", "way", "which"] []) (m:mg "_law_made" =some (.ref f)) (x13:C13 P w K mg base) (n_t:mg "tuple" =none):Ok P w K mg base f d ["book", "way", "which"] zaT:=zdw rfl fun r ih=>zbs F sc19 rfl rfl fun _ _ _ _ _ _ hr=>(zae (zhL (i:=3) (N:=["one", "book", "which"]) (k:=1) (fr:=[0,2]) sc19.nd rfl (Or.inl rfl) ⟨rfl,by decide +kernel,rfl,rfl,rfl,rfl,rfl,rfl,rfl⟩ (zbL (zcs (jv 1) (zaM zac) zaN)) (fun _ _ _ _=>(zar (i:=0) (show List.Nodup [("one" :Str),("book" :Str),("which" :Str)] from by decide +kernel) rfl (Or.inl rfl))) (fun _ _ _ _=>zcD) (fun _ _ _ _=>(zal ih hr rfl m F.kp b (zaa (jv 1) (zaa (jv 0) (zaa (jv 2) zad))))))
  (zae (zbI (zbL (jv 0)) (zar (i:=4) sc19.nd rfl (Or.inl rfl)) (zai (zaZ (zdy hr (zap (jv 4) zac) (zap (jv 1) zac)) (zai (zaq (zal (x13.zg r) hr rfl x13.zm x13.zk x13.zb (zaa (zap (jv 4) (jv 2)) (zaa (jv 3) zad))))) zaD)))
  (zai (zaq (zaU (zcs (jv 1) zaN (zaM zac)) (zfy rfl n_t (zaa (jv 3) zad)))))))
theorem o20{f:Addr}{d:FuncData}(F:Fun K "_law_places" "_law_places" s20 f d) (b:Binds K d ["t"] []) (m:mg "_law_places" =some (.ref f)) (n_i:mg "isinstance" =none) (n_n:mg "int" =none) (n_e:mg "enumerate" =none):Ok P w K mg base f d ["t"] zat:=zdw rfl fun r ih=>zbs F sc20 rfl rfl fun _ _ _ _ _ _ hr=>(zae (zao (i:=1) sc20.nd rfl (Or.inl rfl) (zax (zaB (zaa (zak zad) zad))))
  (zae (zaZ (ziM (zbJ (zdl rfl n_i rfl n_n PyProof.Rows.boot_int (jv 0) (by decide) (by decide) (zlF _ (by simp))))) (zai (zbI (zhz rfl n_e (zcs (jv 0) (zaM zac) zaN)) (zdS (zaO (zar (i:=2) sc20.nd rfl (Or.inr rfl)) (zaO (zar (i:=3) sc20.nd rfl (Or.inl rfl)) zcM)) (glS (glS gl0))) (zai (zao (i:=1) sc20.nd rfl (Or.inl rfl) (zax (zcS (jv 1) (zcC (N:=["place", "i"]) (k:=1) (fr:=[2]) ⟨rfl,by decide +kernel,rfl,rfl,rfl,rfl,rfl,rfl,rfl⟩ (zbL (zal ih hr rfl m F.kp b (zaa (jv 3) zad))) (fun _ _ _ _=>(zar (i:=0) (show List.Nodup [("place" :Str),("i" :Str)] from by decide +kernel) rfl (Or.inl rfl))) (fun _ _ _ _=>zcD) (fun _ _ _ _=>(zaU (zak (zaa (jv 1) zad)) (jv 0)))))))))) zaD)
  (zai (zaq (jv 1)))))
theorem o21{f:Addr}{d:FuncData}(F:Fun K "_law_at" "_law_at" s21 f d):Ok P w K mg base f d ["t", "place"] zaS:=zdw rfl fun r ih=>zbs F sc21 rfl rfl fun _ _ _ _ _ _ hr=>(zae (zbI (zbL (jv 1)) (zar (i:=2) sc21.nd rfl (Or.inl rfl)) (zai (zao (i:=0) sc21.nd rfl (Or.inl rfl) (zap (jv 0) (zaU (jv 2) zac)))))
  (zai (zaq (jv 0))))
theorem o22{f:Addr}{d:FuncData}(F:Fun K "_law_stands" "_law_stands" s22 f d) (b:Binds K d ["left", "shape"] []) (m:mg "_law_stands" =some (.ref f)) (n_i:mg "isinstance" =none) (n_n:mg "int" =none) (n_a:mg "all" =none) (n_l:mg "len" =none) (n_z:mg "zip" =none):Ok P w K mg base f d ["left", "shape"] zaw:=zdw rfl fun r ih=>zbs F ztC rfl rfl fun _ _ _ _ _ _ hr=>(zae (zaZ (zbJ (zdl rfl n_i rfl n_n PyProof.Rows.boot_int (jv 0) (by decide) (by decide) (zlF _ (by simp)))) (zai (zaq zhH)) zaD)
  (zae (zaZ (JW.jt (zoY (zlJ hr (zap (jv 0) zac) (zap (jv 1) zac)) (zlx (zlJ hr (zcd rfl n_l (zaa (jv 0) zad)) (zcd rfl n_l (zaa (jv 1) zad)))))) (zai (zaq zhH)) zaD)
  (zai (zaq (zoC rfl n_a (zcC (N:=["one", "other"]) (k:=2) (fr:=[]) ⟨rfl,by decide +kernel,rfl,rfl,rfl,rfl,rfl,rfl,rfl⟩ (ziD rfl n_z (zcs (jv 0) (zaM zac) zaN) (zcs (jv 1) (zaM zac) zaN)) (fun _ _ _ _=>(zdS (zaO (zar (i:=0) (show List.Nodup [("one" :Str),("other" :Str)] from by decide +kernel) rfl (Or.inl rfl)) (zaO (zar (i:=1) (show List.Nodup [("one" :Str),("other" :Str)] from by decide +kernel) rfl (Or.inl rfl)) zcM)) (glS (glS gl0)))) (fun _ _ _ _=>zcD) (fun _ _ _ _=>(zal ih hr rfl m F.kp b (zaa (jv 0) (zaa (jv 1) zad))))))))))
theorem o23{f:Addr}{d:FuncData}(F:Fun K "_law_things" "_law_things" s23 f d) (b:Binds K d ["left", "t"] []) (m:mg "_law_things" =some (.ref f)) (n_i:mg "isinstance" =none) (n_n:mg "int" =none) (n_z:mg "zip" =none):Ok P w K mg base f d ["left", "t"] zaK:=zdw rfl fun r ih=>zbs F sc23 rfl rfl fun _ _ _ _ _ _ hr=>(zae (zaZ (zbJ (zdl rfl n_i rfl n_n PyProof.Rows.boot_int (jv 0) (by decide) (by decide) (zlF _ (by simp)))) (zai (zaq (zax (zaB (zaa (jv 1) zad))))) zaD)
  (zae (zao (i:=2) sc23.nd rfl (Or.inl rfl) (zax (zaB zad)))
  (zae (zbI (ziD rfl n_z (zcs (jv 0) (zaM zac) zaN) (zcs (jv 1) (zaM zac) zaN)) (zdS (zaO (zar (i:=3) sc23.nd rfl (Or.inl rfl)) (zaO (zar (i:=4) sc23.nd rfl (Or.inl rfl)) zcM)) (glS (glS gl0))) (zai (zao (i:=2) sc23.nd rfl (Or.inl rfl) (zaU (jv 2) (zal ih hr rfl m F.kp b (zaa (jv 3) (zaa (jv 4) zad)))))))
  (zai (zaq (jv 2))))))
theorem o24{f:Addr}{d:FuncData}(F:Fun K "_law_put" "_law_put" s24 f d) (b:Binds K d ["t", "place", "other"] []) (m:mg "_law_put" =some (.ref f)):Ok P w K mg base f d ["t", "place", "other"] zby:=zdw rfl fun r ih=>zbs F sc24 rfl rfl fun _ _ _ _ _ _ hr=>(zae (zaZ (zdy hr (jv 1) (zak zad)) (zai (zaq (jv 2))) zaD)
  (zae (zao (i:=3) sc24.nd rfl (Or.inl rfl) (zaU (zap (jv 1) zac) zac))
  (zai (zaq (zaU (zaU (zcs (jv 0) zaN (zaM (jv 3))) (zak (zaa (zal ih hr rfl m F.kp b (zaa (zap (jv 0) (jv 3)) (zaa (zcs (jv 1) (zaM zac) zaN) (zaa (jv 2) zad)))) zad))) (zcs (jv 0) (zaM (zaU (jv 3) zac)) zaN))))))
theorem o25{f:Addr}{d:FuncData}(F:Fun K "_law_turned" "_law_turned" s25 f d) (x21:C21 P w K mg base) (x22:C22 P w K mg base) (x24:C24 P w K mg base) (x13:C13 P w K mg base) (x23:C23 P w K mg base):Ok P w K mg base f d ["book", "shape", "place"] zbv:=zdw rfl fun r ih=>zbs F sc25 rfl rfl fun _ _ _ _ _ _ hr=>(zae (zao (i:=3) sc25.nd rfl (Or.inl rfl) (zal (x21.zg r) hr rfl x21.zm x21.zk x21.zb (zaa (jv 1) (zaa (jv 2) zad))))
  (zae (zbI (zbL (jv 0)) (zar (i:=4) sc25.nd rfl (Or.inl rfl)) (zai (zaZ (zbJ (zal (x22.zg r) hr rfl x22.zm x22.zk x22.zb (zaa (zap (jv 4) zac) (zaa (jv 3) zad)))) (zai (zaq (zal (x24.zg r) hr rfl x24.zm x24.zk x24.zb (zaa (jv 1) (zaa (jv 2) (zaa (zal (x13.zg r) hr rfl x13.zm x13.zk x13.zb (zaa (zap (jv 4) zac) (zaa (zal (x23.zg r) hr rfl x23.zm x23.zk x23.zb (zaa (zap (jv 4) zac) (zaa (jv 3) zad))) zad))) zad)))))) zaD)))
  (zai (zaq (jv 1)))))
theorem o26{f:Addr}{d:FuncData}(F:Fun K "_law_spots" "_law_spots" s26 f d) (x20:C20 P w K mg base) (x21:C21 P w K mg base) (n_i:mg "isinstance" =none) (n_n:mg "int" =none):Ok P w K mg base f d ["left"] zbE:=zdw rfl fun r ih=>zbs F ztA rfl rfl fun _ _ _ _ _ _ hr=>(zai (zaq (zax (zcC (N:=["place", "left"]) (k:=1) (fr:=[0]) ⟨rfl,by decide +kernel,rfl,rfl,rfl,rfl,rfl,rfl,rfl⟩ (zbL (zal (x20.zg r) hr rfl x20.zm x20.zk x20.zb (zaa (jv 0) zad))) (fun _ _ _ _=>(zar (i:=0) (show List.Nodup [("place" :Str),("left" :Str)] from by decide +kernel) rfl (Or.inl rfl))) (fun _ _ _ _=>(zht (zbJ (zdl rfl n_i rfl n_n PyProof.Rows.boot_int (zal (x21.zg r) hr rfl x21.zm x21.zk x21.zb (zaa (jv 1) (zaa (jv 0) zad))) (by decide) (by decide) (zlF _ (by simp)))))) (fun _ _ _ _=>(jv 0))))))
theorem o27{f:Addr}{d:FuncData}(F:Fun K "_law_laid" "_law_laid" s27 f d) (x26:C26 P w K mg base) (b:Binds K d ["book", "way", "at"] []) (m:mg "_law_laid" =some (.ref f)) (n_z:mg "zip" =none) (n_r:mg "range" =none) (n_l:mg "len" =none):Ok P w K mg base f d ["book", "way", "at"] zba:=zdw rfl fun r ih=>zbs F sc27 rfl rfl fun _ _ _ _ _ _ hr=>(zae (zhL (i:=3) (N:=["i"]) (k:=1) (fr:=[]) sc27.nd rfl (Or.inl rfl) ⟨rfl,by decide +kernel,rfl,rfl,rfl,rfl,rfl,rfl,rfl⟩ (zda rfl n_r (zaa (zhd (zcd rfl n_l (zaa (jv 1) zad)) zac) zad)) (fun _ _ _ _=>(zar (i:=0) (show List.Nodup [("i" :Str)] from by decide +kernel) rfl (Or.inl rfl))) (fun _ _ _ _=>zcD) (fun _ _ _ _=>(zak (zaa (jv 0) zad))))
  (zae (zao (i:=4) sc27.nd rfl (Or.inl rfl) (zax (zaB zad)))
  (zae (zbI (zbL (jv 0)) (zar (i:=5) sc27.nd rfl (Or.inl rfl)) (zai (zaZ (zdy hr (zap (jv 5) zac) (zap (jv 1) zac)) (zae (zao (i:=3) sc27.nd rfl (Or.inl rfl) (zal (x26.zg r) hr rfl x26.zm x26.zk x26.zb (zaa (zap (jv 5) zac) zad)))
  (zai (zao (i:=4) sc27.nd rfl (Or.inl rfl) (zax (zaB (zaa (jv 2) zad)))))) zaD)))
  (zae (zao (i:=6) sc27.nd rfl (Or.inl rfl) (zax (zaB zad)))
  (zae (zbI (ziD rfl n_z (zcs (jv 1) (zaM zac) zaN) (jv 3)) (zdS (zaO (zar (i:=7) sc27.nd rfl (Or.inl rfl)) (zaO (zar (i:=8) sc27.nd rfl (Or.inl rfl)) zcM)) (glS (glS gl0))) (zai (zao (i:=6) sc27.nd rfl (Or.inl rfl) (zaU (jv 6) (zal ih hr rfl m F.kp b (zaa (jv 0) (zaa (jv 7) (zaa (zaU (jv 2) (jv 8)) zad))))))))
  (zai (zaq (zaU (jv 6) (jv 4)))))))))
theorem o28{f:Addr}{d:FuncData}(F:Fun K "law" "law" s28 f d) (x11:C11 P w K mg base) (x16:C16 P w K mg base) (x17:C17 P w K mg base) (x18:C18 P w K mg base) (x9:C9 P w K mg base) (x19:C19 P w K mg base) (x10:C10 P w K mg base) (x21:C21 P w K mg base) (x25:C25 P w K mg base) (x27:C27 P w K mg base) (x22:C22 P w K mg base) (n_i:mg "isinstance" =none) (n_s:mg "list" =none) (n_t:mg "tuple" =none) (n_l:mg "len" =none):Ok P w K mg base f d ["script"] zct:=zdw rfl fun r ih=>by
  refine zbs F sc28 rfl rfl fun _ _ _ _ _ _ hr=>?_;delta zbG zcl zco zcj zck zbU zcg zbX zbT zbZ zbV zca zbS zcf;delta zcz;delta zbG zcl zco zcj zck zbU zcg zbX zbT zbZ zbV zca zbS zcf;exact(zae (zao (i:=1) sc28.nd rfl (Or.inl rfl) (zal (x11.zg r) hr rfl x11.zm x11.zk x11.zb (zaa (zal (x10.zg r) hr rfl x10.zm x10.zk x10.zb (zaa (jv 0) (zaa zac zad))) (zaa (zal (x10.zg r) hr rfl x10.zm x10.zk x10.zb (zaa (jv 0) (zaa zac zad))) (zaa zhH zad)))))
  (zae (zao (i:=2) sc28.nd rfl (Or.inl rfl) (zal (x11.zg r) hr rfl x11.zm x11.zk x11.zb (zaa (zal (x10.zg r) hr rfl x10.zm x10.zk x10.zb (zaa (jv 0) (zaa zac zad))) (zaa (zal (x10.zg r) hr rfl x10.zm x10.zk x10.zb (zaa (jv 0) (zaa zac zad))) (zaa zhH zad)))))
  (zae (zao (i:=3) sc28.nd rfl (Or.inl rfl) (zal (x16.zg r) hr rfl x16.zm x16.zk x16.zb (zaa (jv 0) (zaa zac (zaa (jv 1) (zaa (jv 2) (zaa (znY hr (zcw (zal (x10.zg r) hr rfl x10.zm x10.zk x10.zb (zaa (jv 0) (zaa zac zad))) zac) zac) zad)))))))
  (zae (zao (i:=4) sc28.nd rfl (Or.inl rfl) (zal (x17.zg r) hr rfl x17.zm x17.zk x17.zb (zaa (zcs (jv 0) (zaM zac) zaN) (zaa (jv 3) (zaa (jv 1) (zaa zac zad))))))
  (zae (zao (i:=5) sc28.nd rfl (Or.inl rfl) (zal (x18.zg r) hr rfl x18.zm x18.zk x18.zb (zaa (jv 4) (zaa (jv 3) (zaa zac zad)))))
  (zae (zao (i:=6) sc28.nd rfl (Or.inl rfl) (zal (x9.zg r) hr rfl x9.zm x9.zk x9.zb (zaa (jv 3) (zaa (jv 5) zad))))
  (zae (zaZ (JW.jt (zoY (ziM (zbJ (zdl rfl n_i rfl n_s PyProof.Rows.boot_list (jv 6) (by decide) (by decide) (zlF _ (by simp))))) (zlx (zlJ hr (jv 6) (zal (x27.zg r) hr rfl x27.zm x27.zk x27.zb (zaa (jv 3) (zaa (jv 5) (zaa (zak zad) zad)))))))) (zai (zaq zhH)) zaD)
  (zae (zao (i:=7) sc28.nd rfl (Or.inl rfl) (zal (x19.zg r) hr rfl x19.zm x19.zk x19.zb (zaa (jv 3) (zaa (jv 5) (zaa zac zad)))))
  (zae (zbI (zbL (jv 6)) (zar (i:=8) sc28.nd rfl (Or.inl rfl)) (zae (zaZ (ziM (zbJ (zdl rfl n_i rfl n_t PyProof.Rows.boot_tuple (jv 8) (by decide) (by decide) (zlF _ (by simp))))) (zai (zaq zhH)) zaD)
  (zae (zao (i:=9) sc28.nd rfl (Or.inr rfl) (zal (x21.zg r) hr rfl x21.zm x21.zk x21.zb (zaa (jv 7) (zaa (jv 8) zad))))
  (zae (zaZ (zlJ hr (zcd rfl n_l (zaa (zax (zcC (N:=["turning", "here"]) (k:=1) (fr:=[9]) ⟨rfl,by decide +kernel,rfl,rfl,rfl,rfl,rfl,rfl,rfl⟩ (zbL (jv 3)) (fun _ _ _ _=>(zar (i:=0) (show List.Nodup [("turning" :Str),("here" :Str)] from by decide +kernel) rfl (Or.inl rfl))) (fun _ _ _ _=>(zht (zbJ (zal (x22.zg r) hr rfl x22.zm x22.zk x22.zb (zaa (zap (jv 0) zac) (zaa (jv 1) zad)))))) (fun _ _ _ _=>(jv 0)))) zad)) zac) (zai (zaq zhH)) zaD)
  (zai (zao (i:=7) sc28.nd rfl (Or.inl rfl) (zal (x25.zg r) hr rfl x25.zm x25.zk x25.zb (zaa (jv 3) (zaa (jv 7) (zaa (jv 8) zad))))))))))
  (zai (zaq (znY hr (jv 7) (zal (x19.zg r) hr rfl x19.zm x19.zk x19.zb (zaa (jv 3) (zaa (jv 5) (zaa zac zad))))))))))))))))
end
theorem all_mk{l:PySem.W.OpenLaw}{w:World}{K:PySem.W.Frag}{h:Heap}{mg:Str→Option Value}{fa:Addr}(X:K.In h) (G:h.Ns mainGlobals mg) (hfa:mg "law" =some (.ref fa))
  (D0:Dfn K "parts_of" s0)
  (D2:Dfn K "places" s2)
  (D1:Dfn K "gather_places" s1)
  (D4:Dfn K "part" s4)
  (D3:Dfn K "numbered_part" s3)
  (D5:Dfn K "blank_places" s5)
  (D6:Dfn K "turning_of" s6)
  (D7:Dfn K "part_places" s7)
  (D9:Dfn K "laid_out" s9)
  (D8:Dfn K "gather_inner_first" s8)
  (D10:Dfn K "_law_cell" s10)
  (D11:Dfn K "_law_words" s11)
  (D12:Dfn K "_law_count" s12)
  (D13:Dfn K "_law_filled" s13)
  (D14:Dfn K "_law_lefts" s14)
  (D15:Dfn K "_law_rights" s15)
  (D16:Dfn K "_law_book" s16)
  (D17:Dfn K "_law_plan" s17)
  (D18:Dfn K "_law_way" s18)
  (D19:Dfn K "_law_made" s19)
  (D20:Dfn K "_law_places" s20)
  (D21:Dfn K "_law_at" s21)
  (D22:Dfn K "_law_stands" s22)
  (D23:Dfn K "_law_things" s23)
  (D24:Dfn K "_law_put" s24)
  (D25:Dfn K "_law_turned" s25)
  (D26:Dfn K "_law_spots" s26)
  (D27:Dfn K "_law_laid" s27)
  (D28:Dfn K "law" s28)
  (z_ValueError:PySem.W.nsIn K mainGlobals "ValueError" =some none)
  (z_a:PySem.W.nsIn K mainGlobals "all" =some none)
  (z_e:PySem.W.nsIn K mainGlobals "enumerate" =some none)
  (z_n:PySem.W.nsIn K mainGlobals "int" =some none)
  (z_i:PySem.W.nsIn K mainGlobals "isinstance" =some none)
  (z_l:PySem.W.nsIn K mainGlobals "len" =some none)
  (z_s:PySem.W.nsIn K mainGlobals "list" =some none)
  (z_m:PySem.W.nsIn K mainGlobals "min" =some none)
  (z_r:PySem.W.nsIn K mainGlobals "range" =some none)
  (z_u:PySem.W.nsIn K mainGlobals "sum" =some none)
  (z_t:PySem.W.nsIn K mainGlobals "tuple" =some none)
  (z_z:PySem.W.nsIn K mainGlobals "zip" =some none)
  {t_LEFT:Tok}(z_LEFT:PySem.W.nsIn K mainGlobals "LEFT" =some (some (.int 1 t_LEFT)))
  {C_NoPlace:Addr}(z_NoPlace:PySem.W.nsIn K mainGlobals "NoPlace" =some (some (.ref C_NoPlace)))
  (za_NoPlace:PySem.W.excIn K C_NoPlace bmV "ValueError.__new__" =true) (zb_NoPlace:PySem.W.findIn K (.ref C_NoPlace) "__getattribute__" =some (some (.builtin "BaseException.__getattribute__"))) (zc_NoPlace:PySem.W.findIn K (.ref C_NoPlace) "__getattr__" =some none) (zd_NoPlace:PySem.W.findIn K (.ref C_NoPlace) "__class__" =some (some (.builtin "object.__class__"))) (ze_NoPlace:PySem.W.mroIn K C_NoPlace (.type "object")=some true) (zf_NoPlace:PySem.W.mroIn K C_NoPlace (.type "BaseException")=some true)
  :∃fd:FuncData,(∀(s:Shared) (v:Value),BindsTo s fd ⟨[v],[]⟩ [("script",v)])∧ ∀base:Heap,K.In base→base.Ns mainGlobals mg→FnOk l.prog w K mg base (CX1 l.prog w) 200 fa fd ["script"] (zch K (zct 200)):=by
 obtain⟨f28,d28,a28,F28⟩:=D28;have e:=hfa.symm.trans (PySem.W.mg_of X G a28);cases e;have n_ValueError:=PySem.W.mg_none_of X G z_ValueError;have n_a:=PySem.W.mg_none_of X G z_a;have n_e:=PySem.W.mg_none_of X G z_e;have n_n:=PySem.W.mg_none_of X G z_n;have n_i:=PySem.W.mg_none_of X G z_i;have n_l:=PySem.W.mg_none_of X G z_l;have n_s:=PySem.W.mg_none_of X G z_s;have n_m:=PySem.W.mg_none_of X G z_m;have n_r:=PySem.W.mg_none_of X G z_r;have n_u:=PySem.W.mg_none_of X G z_u;have n_t:=PySem.W.mg_none_of X G z_t;have n_z:=PySem.W.mg_none_of X G z_z;have g_LEFT:=PySem.W.mg_of X G z_LEFT;refine⟨d28,fun s v=>?_,fun base _ _=>?_⟩
 ·obtain⟨oc,od,kV,doc,pm,an,cdv,ct,osl,rfl,lk,hcd⟩:=F28.ex;exact .of_eq rfl
 obtain⟨f,d,a,F⟩:=D0;have x0:=mkC (base:=base) X G F a (o0 (P:=l.prog) (w:=w) F n_i n_n) (F.binds fun _ _ _ _ _ _=>n1 fun _=>rfl);obtain⟨f,d,a,F⟩:=D1;have x1:=mkC (base:=base) X G F a (o1 (P:=l.prog) (w:=w) F x0 (F.binds fun _ _ _ _ _ _=>n3 fun _ _ _=>rfl) (PySem.W.mg_of X G a) n_e) (F.binds fun _ _ _ _ _ _=>n3 fun _ _ _=>rfl);obtain⟨f,d,a,F⟩:=D2;have x2:=mkC (base:=base) X G F a (o2 (P:=l.prog) (w:=w) F x1) (F.binds fun _ _ _ _ _ _=>n1 fun _=>rfl);obtain⟨f,d,a,F⟩:=D3;have x3:=mkC (base:=base) X G F a (o3 (P:=l.prog) (w:=w) F x0 n_l ⟨C_NoPlace,PySem.W.mg_of X G z_NoPlace⟩ ⟨z_NoPlace,za_NoPlace,⟨zb_NoPlace,zc_NoPlace,zd_NoPlace,ze_NoPlace,zf_NoPlace⟩⟩) (F.binds fun _ _ _ _ _ _=>n2 fun _ _=>rfl);obtain⟨f,d,a,F⟩:=D4;have x4:=mkC (base:=base) X G F a (o4 (P:=l.prog) (w:=w) F x3) (F.binds fun _ _ _ _ _ _=>n2 fun _ _=>rfl);obtain⟨f,d,a,F⟩:=D5;have x5:=mkC (base:=base) X G F a (o5 (P:=l.prog) (w:=w) F x2 x4 n_i n_n) (F.binds fun _ _ _ _ _ _=>n1 fun _=>rfl);obtain⟨f,d,a,F⟩:=D6;have x6:=mkC (base:=base) X G F a (o6 (P:=l.prog) (w:=w) F) (F.binds fun _ _ _ _ _ _=>n2 fun _ _=>rfl);obtain⟨f,d,a,F⟩:=D7;have x7:=mkC (base:=base) X G F a (o7 (P:=l.prog) (w:=w) F x6 x5 n_r n_l g_LEFT) (F.binds fun _ _ _ _ _ _=>n2 fun _ _=>rfl);obtain⟨f,d,a,F⟩:=D8;have x8:=mkC (base:=base) X G F a (o8 (P:=l.prog) (w:=w) F x7 (F.binds fun _ _ _ _ _ _=>n4 fun _ _ _ _=>rfl) (PySem.W.mg_of X G a) x6 n_z) (F.binds fun _ _ _ _ _ _=>n4 fun _ _ _ _=>rfl);obtain⟨f,d,a,F⟩:=D9;have x9:=mkC (base:=base) X G F a (o9 (P:=l.prog) (w:=w) F x8) (F.binds fun _ _ _ _ _ _=>n2 fun _ _=>rfl);obtain⟨f,d,a,F⟩:=D10;have x10:=mkC (base:=base) X G F a (o10 (P:=l.prog) (w:=w) F n_l) (F.binds fun _ _ _ _ _ _=>n2 fun _ _=>rfl);obtain⟨f,d,a,F⟩:=D11;have x11:=mkC (base:=base) X G F a (o11 (P:=l.prog) (w:=w) F n_r n_l n_n) (F.binds fun _ _ _ _ _ _=>n3 fun _ _ _=>rfl);obtain⟨f,d,a,F⟩:=D12;have x12:=mkC (base:=base) X G F a (o12 (P:=l.prog) (w:=w) F (F.binds fun _ _ _ _ _ _=>n1 fun _=>rfl) (PySem.W.mg_of X G a) n_i n_n n_u) (F.binds fun _ _ _ _ _ _=>n1 fun _=>rfl);obtain⟨f,d,a,F⟩:=D13;have x13:=mkC (base:=base) X G F a (o13 (P:=l.prog) (w:=w) F (F.binds fun _ _ _ _ _ _=>n2 fun _ _=>rfl) (PySem.W.mg_of X G a) n_i n_n n_t) (F.binds fun _ _ _ _ _ _=>n2 fun _ _=>rfl);obtain⟨f,d,a,F⟩:=D14;have x14:=mkC (base:=base) X G F a (o14 (P:=l.prog) (w:=w) F) (F.binds fun _ _ _ _ _ _=>n4 fun _ _ _ _=>rfl);obtain⟨f,d,a,F⟩:=D15;have x15:=mkC (base:=base) X G F a (o15 (P:=l.prog) (w:=w) F) (F.binds fun _ _ _ _ _ _=>n3 fun _ _ _=>rfl);obtain⟨f,d,a,F⟩:=D16;have x16:=mkC (base:=base) X G F a (o16 (P:=l.prog) (w:=w) F x14 x15 x10 x12 n_r n_e n_l) (F.binds fun _ _ _ _ _ _=>n5 fun _ _ _ _ _=>rfl);obtain⟨f,d,a,F⟩:=D17;have x17:=mkC (base:=base) X G F a (o17 (P:=l.prog) (w:=w) F x12 n_l n_m) (F.binds fun _ _ _ _ _ _=>n4 fun _ _ _ _=>rfl);obtain⟨f,d,a,F⟩:=D18;have x18:=mkC (base:=base) X G F a (o18 (P:=l.prog) (w:=w) F x13 (F.binds fun _ _ _ _ _ _=>n3 fun _ _ _=>rfl) (PySem.W.mg_of X G a) n_t) (F.binds fun _ _ _ _ _ _=>n3 fun _ _ _=>rfl);obtain⟨f,d,a,F⟩:=D19;have x19:=mkC (base:=base) X G F a (o19 (P:=l.prog) (w:=w) F (F.binds fun _ _ _ _ _ _=>n3 fun _ _ _=>rfl) (PySem.W.mg_of X G a) x13 n_t) (F.binds fun _ _ _ _ _ _=>n3 fun _ _ _=>rfl);obtain⟨f,d,a,F⟩:=D20;have x20:=mkC (base:=base) X G F a (o20 (P:=l.prog) (w:=w) F (F.binds fun _ _ _ _ _ _=>n1 fun _=>rfl) (PySem.W.mg_of X G a) n_i n_n n_e) (F.binds fun _ _ _ _ _ _=>n1 fun _=>rfl);obtain⟨f,d,a,F⟩:=D21;have x21:=mkC (base:=base) X G F a (o21 (P:=l.prog) (w:=w) F) (F.binds fun _ _ _ _ _ _=>n2 fun _ _=>rfl);obtain⟨f,d,a,F⟩:=D22;have x22:=mkC (base:=base) X G F a (o22 (P:=l.prog) (w:=w) F (F.binds fun _ _ _ _ _ _=>n2 fun _ _=>rfl) (PySem.W.mg_of X G a) n_i n_n n_a n_l n_z) (F.binds fun _ _ _ _ _ _=>n2 fun _ _=>rfl);obtain⟨f,d,a,F⟩:=D23;have x23:=mkC (base:=base) X G F a (o23 (P:=l.prog) (w:=w) F (F.binds fun _ _ _ _ _ _=>n2 fun _ _=>rfl) (PySem.W.mg_of X G a) n_i n_n n_z) (F.binds fun _ _ _ _ _ _=>n2 fun _ _=>rfl);obtain⟨f,d,a,F⟩:=D24;have x24:=mkC (base:=base) X G F a (o24 (P:=l.prog) (w:=w) F (F.binds fun _ _ _ _ _ _=>n3 fun _ _ _=>rfl) (PySem.W.mg_of X G a)) (F.binds fun _ _ _ _ _ _=>n3 fun _ _ _=>rfl);obtain⟨f,d,a,F⟩:=D25;have x25:=mkC (base:=base) X G F a (o25 (P:=l.prog) (w:=w) F x21 x22 x24 x13 x23) (F.binds fun _ _ _ _ _ _=>n3 fun _ _ _=>rfl);obtain⟨f,d,a,F⟩:=D26;have x26:=mkC (base:=base) X G F a (o26 (P:=l.prog) (w:=w) F x20 x21 n_i n_n) (F.binds fun _ _ _ _ _ _=>n1 fun _=>rfl);obtain⟨f,d,a,F⟩:=D27;have x27:=mkC (base:=base) X G F a (o27 (P:=l.prog) (w:=w) F x26 (F.binds fun _ _ _ _ _ _=>n3 fun _ _ _=>rfl) (PySem.W.mg_of X G a) n_z n_r n_l) (F.binds fun _ _ _ _ _ _=>n3 fun _ _ _=>rfl);exact o28 F28 x11 x16 x17 x18 x9 x19 x10 x21 x25 x27 x22 n_i n_s n_t n_l 200
theorem walk{l:PySem.W.OpenLaw}{q:Program}{loose:List Str}{XP:(Str→Option Value)→Heap→Prop}{YP:World→Heap→Prop}{d:DefRec}{K:Params→PySem.W.Frag}(hn:l.most=some 63) (hdf:d.params.defaults=[])
  (hY:∀(w:World) (h:Heap),YP w h→(K w.params).In h)
  (F:∀(w:World) (mg:Str→Option Value) (fa:Addr) (h:Heap),(K w.params).In h→h.Ns mainGlobals mg→mg d.name=some (.ref fa)→
   ∃fd:FuncData,(∀(s:Shared) (u:Value),BindsTo s fd ⟨[u],[]⟩ [("script",u)])∧ ∀base:Heap,(K w.params).In base→base.Ns mainGlobals mg→FnOk l.prog w (K w.params) mg base (CX1 l.prog w) 200 fa fd ["script"] (zch (K w.params) (zct 200))) :
  PySem.W.WalkO q loose XP YP l.row.toRowW d [] (fun f vs=>PySem.call f vs):=
 L2.zpz (n:=63) (k:=200) (x:= "script") (CX:=fun w=>CX1 l.prog w) (sp:=fun w=>zch (K w.params) (zct 200)) hn (by decide) hdf ⟨rfl,by decide,by decide⟩ hY F (fun w H a ns hl hO hS=>zmP hO hS (zqJ ns hl)) fun _ _ _ _ _ ⟨_,_,_,_,_,_,_,_,_,z⟩=>z
end K36
noncomputable def PySem.W.Fast.tw12053690894115226196:Nat:=0
noncomputable def PySem.W.Fast.tw88287365352478865:Nat:=0
noncomputable def PySem.W.Fast.tw6657551891550877544:Nat:=0
noncomputable def PySem.W.Fast.tw3035139534001194774:Nat:=0
noncomputable def PySem.W.Fast.tw16030580469881728300:Nat:=0
noncomputable def PySem.W.Fast.tw13361824856189970728:Nat:=0
noncomputable def PySem.W.Fast.tw10658566615870462502:Nat:=0
noncomputable def PySem.W.Fast.tw7469068031389274358:Nat:=0
noncomputable def PySem.W.Fast.tw17957224027905241298:Nat:=0
noncomputable def PySem.W.Fast.tw1468788261835269881:Nat:=0
noncomputable def PySem.W.Fast.tw7947043275005836724:Nat:=0
noncomputable def PySem.W.Fast.tw16530064727475362475:Nat:=0
open PySem PySem.W PyProof.Rows
set_option maxRecDepth 100000 in
set_option maxHeartbeats 0 in
theorem PySem.Challenge.cw_turnweave_k36_laid_out_holds : PySem.Challenge.rw_turnweave_k36_laid_out.Holds := by
 w_on;o_law;k_head;(case hw=>w_witness2)
 k_fill
 refine K36.walk (l:=PySem.Challenge.rw_turnweave_k36_laid_out) rfl rfl (fun w h Y=>PySem.W.kIn_of Y) ?F
 case F=>
  intro w mg fa h KX G hmg
  refine' K36.all_mk KX G hmg (K36.dfn ?_ ?_ ?_ ?_) (K36.dfn ?_ ?_ ?_ ?_) (K36.dfn ?_ ?_ ?_ ?_) (K36.dfn ?_ ?_ ?_ ?_) (K36.dfn ?_ ?_ ?_ ?_) (K36.dfn ?_ ?_ ?_ ?_) (K36.dfn ?_ ?_ ?_ ?_) (K36.dfn ?_ ?_ ?_ ?_) (K36.dfn ?_ ?_ ?_ ?_) (K36.dfn ?_ ?_ ?_ ?_) (K36.dfn ?_ ?_ ?_ ?_) (K36.dfn ?_ ?_ ?_ ?_) (K36.dfn ?_ ?_ ?_ ?_) (K36.dfn ?_ ?_ ?_ ?_) (K36.dfn ?_ ?_ ?_ ?_) (K36.dfn ?_ ?_ ?_ ?_) (K36.dfn ?_ ?_ ?_ ?_) (K36.dfn ?_ ?_ ?_ ?_) (K36.dfn ?_ ?_ ?_ ?_) (K36.dfn ?_ ?_ ?_ ?_) (K36.dfn ?_ ?_ ?_ ?_) (K36.dfn ?_ ?_ ?_ ?_) (K36.dfn ?_ ?_ ?_ ?_) (K36.dfn ?_ ?_ ?_ ?_) (K36.dfn ?_ ?_ ?_ ?_) (K36.dfn ?_ ?_ ?_ ?_) (K36.dfn ?_ ?_ ?_ ?_) (K36.dfn ?_ ?_ ?_ ?_) (K36.dfn ?_ ?_ ?_ ?_) ?_ ?_ ?_ ?_ ?_ ?_ ?_ ?_ ?_ ?_ ?_ ?_ ?_ ?_ ?_ ?_ ?_ ?_ ?_ ?_<;>first |k_is |kit_is | (dsimp only[List.map];kit_is) |kts_exm | (delta L2.bmV;k_exc) |skip
end
