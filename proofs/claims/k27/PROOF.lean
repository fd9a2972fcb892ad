import PyProof.Rows.All
import Wide.All
import OpenK.AllK
import Wide.FinOn
import Lean
import PyProof.EqAt
import PyProof.EqKinds
import PyProof.TupleCall
import PyProof.NeKinds
import PyProof.ListMulRoad
import PyProof.AttrMissHeap
import KE.KDictOf
import KE.KRevIter
import PyProof.ListRange
import PySem.Challenge.RW_turnweave_k27_what_is_a_road
set_option Elab.async false
set_option compiler.extract_closed false
set_option linter.all false
set_option maxRecDepth 100000
set_option maxHeartbeats 4000000
section
namespace L2
open PySem PySem.Spec PyProof.Rows
noncomputable abbrev Key:=Sum Int Str
noncomputable def zls:Key→Value→Bool
 | .inl k,v=>Value.isInt k v
 | .inr x,v=>Value.isStrOf x v
noncomputable def zxg (w:World):Key→Int
 | .inl k=>hashInt k
 | .inr x=>hashStr w x
theorem zba:∀{k:Key}{v:Value},zls k v=true→(∃i t,k=Sum.inl i∧v=Value.int i t)∨(∃x t,k=Sum.inr x∧v=Value.str x t)
 | .inl i,v,h=>by
  obtain⟨t,e⟩:=Value.isInt_shape (k:=i) (v:=v) h;exact .inl ⟨i,t,rfl,e⟩
 | .inr x,v,h=>by
  obtain⟨t,e⟩:=Value.isStrOf_shape (x:=x) (v:=v) h;exact .inr ⟨x,t,rfl,e⟩
theorem zmV (i:Int) (t:Tok):zls (.inl i) (.int i t)=true:=by simp [zls,Value.isInt]
theorem zne (x:Str) (t:Tok):zls (.inr x) (.str x t)=true:=by simp [zls,Value.isStrOf]
theorem ztP (a b:Int):decide ((Sum.inl a:Key)=Sum.inl b)=(a == b):=by
 by_cases e:a=b
 ·subst e;simp
 ·have h:¬(Sum.inl a:Key)=Sum.inl b:=fun q=>e (Sum.inl.inj q);rw [decide_eq_false h];exact(beq_eq_false_iff_ne.mpr e).symm
theorem zuw (a b:Str):decide ((Sum.inr a:Key)=Sum.inr b)=decide (a=b):=by
 by_cases e:a=b
 ·subst e;simp
 ·have h:¬(Sum.inr a:Key)=Sum.inr b:=fun q=>e (Sum.inr.inj q);rw [decide_eq_false h,decide_eq_false e]
theorem ztm (a:Int) (b:Str):decide ((Sum.inl a:Key)=Sum.inr b)=false:=decide_eq_false (fun q=>nomatch q)
theorem zsN (a:Str) (b:Int):decide ((Sum.inr a:Key)=Sum.inl b)=false:=decide_eq_false (fun q=>nomatch q)
noncomputable def zbg (prog:Program) (w:World):PySem.KeyKind prog w Key where
  is:=zls
  hash:=zxg w
  inj:=fun v a b ha hb=>by
    rcases zba ha with⟨i,t,rfl,rfl⟩ |⟨x,t,rfl,rfl⟩
    · rcases zba hb with⟨j,u,rfl,e⟩ |⟨y,u,rfl,e⟩
      · injection e with e1 _;rw [e1]
      · exact nomatch e
    · rcases zba hb with⟨j,u,rfl,e⟩ |⟨y,u,rfl,e⟩
      · exact nomatch e
      · injection e with e1 _;rw [e1]
  byValue:=fun k v h=>by
    rcases zba h with⟨i,t,rfl,rfl⟩ |⟨x,t,rfl,rfl⟩<;>rfl
  pyHash:=fun hv h=>by
    rcases zba hv with⟨i,t,rfl,rfl⟩ |⟨x,t,rfl,rfl⟩
    · exact wpAny_pyHash_int h
    · exact wpAny_pyHash_str h
  eqBool:=fun hu hv h=>by
    rcases zba hu with⟨i,t,rfl,rfl⟩ |⟨x,t,rfl,rfl⟩
    · rcases zba hv with⟨j,u,rfl,rfl⟩ |⟨y,u,rfl,rfl⟩
      · rw [ztP]at h;exact wpAny_eqBool_int h
      · rw [ztm]at h;exact SeqAt.EqAt.int_str i t y u _ _ _ _ h
    · rcases zba hv with⟨j,u,rfl,rfl⟩ |⟨y,u,rfl,rfl⟩
      · rw [zsN]at h;exact SeqAt.EqAt.str_int x t j u _ _ _ _ h
      · rw [zuw]at h;exact wpAny_eqBool_str h
  «strs» :=fun k x t v h=>by
    rcases zba h with⟨i,u,rfl,e⟩ |⟨y,u,rfl,e⟩
    · exact nomatch e
    · injection e with e1 _;subst e1;cases v<;>rfl
theorem zjJ (prog:Program) (w:World) (i:Int) (t:Tok):(zbg prog w).is (.inl i) (.int i t)=true:=zmV i t
theorem zjy (prog:Program) (w:World) (x:Str) (t:Tok):(zbg prog w).is (.inr x) (.str x t)=true:=zne x t
inductive V where
  |non |bl (b:Bool) |int (i:Int) |str (x:Str) |byt (b:Array UInt8) |flt (b:UInt64) |ref (a:Addr) |ty (n:String)
  deriving DecidableEq
noncomputable def RelV:V→Value→Prop
 | .non,u=>u=Value.none
 | .bl b,u=>u=Value.bool b
 | .int i,u=>∃t,u=Value.int i t
 | .str x,u=>∃t,u=Value.str x t
 | .byt b,u=>∃t,u=Value.bytes b t
 | .flt b,u=>∃t,u=Value.float b t
 | .ref a,u=>u=Value.ref a
 | .ty n,u=>u=Value.type n
noncomputable abbrev Vals:List V→List Value→Prop:=Paired RelV
theorem Vals.length{xs:List V}{us:List Value}(r:Vals xs us):xs.length=us.length:=Paired.length r
theorem Vals.get:∀{xs:List V}{us:List Value}{i:Nat}{x:V},Vals xs us→xs[i]? =some x→ ∃u,us[i]? =some u∧RelV x u
 |_,_,_,_, .nil,e=>by simp at e
 |_,_,0,_, .cons r _,e=>by simp at e;subst e;exact⟨_,rfl,r⟩
 |_,_,i+1,x, .cons _ t,e=>by
  obtain⟨u,h1,h2⟩:=Vals.get (i:=i) (x:=x) t (by simpa using e);exact⟨u,by simpa using h1,h2⟩
theorem Vals.append:∀{xs ys:List V}{us ws:List Value},Vals xs us→Vals ys ws→Vals (xs++ys) (us++ws)
 |_,_,_,_, .nil,s=>s
 |_,_,_,_, .cons r t,s=> .cons r (Vals.append t s)
theorem Vals.take:∀{xs:List V}{us:List Value}(n:Nat),Vals xs us→Vals (xs.take n) (us.take n)
 |_,_,0,_=> .nil
 |_,_,_+1, .nil=> .nil
 |_,_,n+1, .cons r t=> .cons r (Vals.take n t)
theorem Vals.drop:∀{xs:List V}{us:List Value}(n:Nat),Vals xs us→Vals (xs.drop n) (us.drop n)
 |_,_,0,r=>r
 |_,_,_+1, .nil=> .nil
 |_,_,n+1, .cons _ t=>Vals.drop n t
noncomputable def RelO:Option V→Option Value→Prop
 |some v,some u=>RelV v u
 |none,none=>True
 |_,_=>False
noncomputable def KV {κ:Type}:List (κ×V)→List (κ×Value)→Prop:=Paired fun(p:κ×V) (q:κ×Value)=>p.1=q.1∧RelV p.2 q.2
noncomputable def kV:Key→V
 | .inl i=> .int i
 | .inr x=> .str x
inductive HO where
    |lst (xs:List V)
    |tup (xs:List V)
    |dK (kvs:List (Key×V)) |dT (kvs:List (List Key×V))
    |set (S:Int→Bool) (n:Nat)
    |ins (C dx:Addr) (fs:List (Str×V))
    |own (x:Addr)
    |xd (fs:List (Str×V))
    |met (f x:Addr)
    |rng (lo hi:Int)
    |frz (o:Obj) (u:HO)
    |tbl (ps:Array Value)
    |ext (φ:Heap→Prop)
noncomputable abbrev Hp:=Addr→Option HO
noncomputable def upd (H:Hp) (a:Addr) (o:HO):Hp:=fun b=>if b=a then some o else H b
theorem zat{H:Hp}{a:Addr}{o:HO}:upd H a o a=some o:=by unfold upd;rw [if_pos rfl]
theorem zav{H:Hp}{a b:Addr}{o:HO}(h:b≠a):upd H a o b=H b:=by unfold upd;rw [if_neg h]
theorem zoG{H:Hp}{a b:Addr}{o u:HO}(h:H a=some o) (h':H b=some u) (d:o≠u):a≠b:=by
 intro e;subst e;rw [h]at h';exact d (Option.some.inj h')
theorem zap{H:Hp}{a b:Addr}{o:HO}(h:H a=some o) (h':H b=none):a≠b:=by
 intro e;subst e;rw [h]at h';cases h'
section
variable (P:Program) (w:World)
noncomputable def ObjOk (H:Hp) (h:Heap) (a:Addr):HO→Prop
 | .lst xs=>xs.length≤sizeLine∧ ∃(its:List Value) (n:Nat),Vals xs its∧h.get? a=some { cls:= .type "list",data:= .seq its.toArray n }
 | .tup xs=>xs.length≤sizeLine∧ ∃its:List Value,Vals xs its∧IsTup h a its.toArray
 | .dK kvs=>kvs.length≤sizeLine∧(a == sysModules)=false∧ ∃vs,KV kvs vs∧h.DictOf (zbg P w) a vs
 | .dT kvs=>kvs.length≤sizeLine∧(a == sysModules)=false∧ ∃xs:List (List Key×Addr×Value),
   Paired (fun(p:List Key×V) (q:List Key×Addr×Value)=>p.1=q.1∧H q.2.1=some (.tup (p.1.map kV))∧RelV p.2 q.2.2) kvs xs∧
   ∃o es ep,h.get? a=some o∧o.ExactDict∧o.data= .dict es ep∧es.toList=xs.map (entryOfKey (tupleKind (zbg P w)))∧(xs.map (·.1)).Nodup
 | .set S n=>h.SetOf (intKind P w) a S n
 | .ins C dx fs=>H dx=some (.own a)∧fs.length≤1000∧dx≠a∧h.get? a=some (PySem.W.instObj C dx)∧
   ∃mA,h.Ns1 dx mA∧(∀f,RelO (fs.lookup f) (mA f))∧PySem.Within mA (fs.map (·.1))
 | .own _=>∃o,h.get? a=some o
 | .xd fs=>∃mA,h.Ns1 a mA∧ ∀f,RelO (fs.lookup f) (mA f)
 | .rng lo hi=>∃t u v,h.get? a=some { cls:= .type "range",data:= .fields #[.int lo t, .int hi u, .int 1 v] }
 | .frz o u=>h.get? a=some o∧ObjOk H h a u
 | .tbl ps=>h.get? a=some { cls:= .none,data:= .fields ps }
 | .met f x=>h.get? a=some (PySem.W.methodObj (.ref f) (.ref x))
 | .ext φ=>φ h∧(∃o,h.get? a=some o)∧ ∀h1 h2:Heap,φ h1→(∀o,h1.get? a=some o→h2.get? a=some o)→φ h2
noncomputable def HOk (H:Hp) (h:Heap):Prop:=∀a o,H a=some o→ObjOk P w H h a o
end
section
variable {P:Program}{w:World}{H H':Hp}{h h':Heap}{a:Addr}{o:HO}
theorem ObjOk.lt (x:ObjOk P w H h a o):a<h.objs.size:=by
 cases o with
 |lst xs=>obtain⟨_,_,_,_,e⟩:=x;exact Heap.lt_size e
 |tup xs=>obtain⟨_,_,_,p⟩:=x;exact p.lt
 |dK kvs=>obtain⟨_,_,_,_,o,_,_,e,_⟩:=x;exact Heap.lt_size e
 |dT kvs=>obtain⟨_,_,_,_,o,_,_,e,_⟩:=x;exact Heap.lt_size e
 |set S n=>obtain⟨o,_,_,_,e,_⟩:=x;exact Heap.lt_size e
 |ins C dx fs=>obtain⟨_,_,_,e,_⟩:=x;exact Heap.lt_size e
 |own y=>obtain⟨_,e⟩:=x;exact Heap.lt_size e
 |xd fs=>obtain⟨_,⟨_,_,_,e,_⟩,_⟩:=x;exact Heap.lt_size e
 |rng lo hi=>obtain⟨_,_,_,e⟩:=x;exact Heap.lt_size e
 |frz ob u=>obtain⟨e,_⟩:=x;exact Heap.lt_size e
 |tbl ps=>exact Heap.lt_size (show h.get? a=some _ from x)
 |met f y=>exact Heap.lt_size (show h.get? a=some _ from x)
 |ext φ=>obtain⟨_,⟨_,e⟩,_⟩:=x;exact Heap.lt_size e
theorem Paired.mapP{α β:Type}{F G:α→β→Prop}:∀{l₁:List α}{l₂:List β},Paired F l₁ l₂→(∀a b,F a b→G a b)→Paired G l₁ l₂
 |_,_, .nil,_=> .nil
 |_,_, .cons r t,f=> .cons (f _ _ r) (Paired.mapP t f)
theorem ObjOk.stay (x:ObjOk P w H h a o) (k:∀b u,(b=a∨H b=some (.own a))→h.get? b=some u→h'.get? b=some u)
  (ho:∀b,H b=some (.own a)→H' b=some (.own a)) (ht:∀b xs,H b=some (.tup xs)→H' b=some (.tup xs)):ObjOk P w H' h' a o:=by
 induction o with
 |lst xs=>obtain⟨z,its,n,r,e⟩:=x;exact⟨z,its,n,r,k _ _ (.inl rfl) e⟩
 |tup xs=>obtain⟨z,its,r,ob,e,c⟩:=x;exact⟨z,its,r,ob,k _ _ (.inl rfl) e,c⟩
 |dK kvs=>obtain⟨z,y,vs,r,ob,es,ep,e,c⟩:=x;exact⟨z,y,vs,r,ob,es,ep,k _ _ (.inl rfl) e,c⟩
 |dT kvs=>
  obtain⟨z,y,xs,r,ob,es,ep,e,c⟩:=x;exact⟨z,y,xs,Paired.mapP r fun p q z=>⟨z.1,ht _ _ z.2.1,z.2.2⟩,ob,es,ep,k _ _ (.inl rfl) e,c⟩
 |set S n=>obtain⟨ob,es,ep,t,e,c⟩:=x;exact⟨ob,es,ep,t,k _ _ (.inl rfl) e,c⟩
 |ins C dx fs=>
  obtain⟨d,z,ne,e,mA,⟨od,es,ep,e2,c⟩,r⟩:=x;exact⟨ho _ d,z,ne,k _ _ (.inl rfl) e,mA,⟨od,es,ep,k _ _ (.inr d) e2,c⟩,r⟩
 |own y=>obtain⟨ob,e⟩:=x;exact⟨ob,k _ _ (.inl rfl) e⟩
 |xd fs=>obtain⟨mA,⟨od,es,ep,e,c⟩,r⟩:=x;exact⟨mA,⟨od,es,ep,k _ _ (.inl rfl) e,c⟩,r⟩
 |rng lo hi=>obtain⟨t,u,v,e⟩:=x;exact⟨t,u,v,k _ _ (.inl rfl) e⟩
 |frz ob u ih=>obtain⟨e,q⟩:=x;exact⟨k _ _ (.inl rfl) e,ih q⟩
 |tbl ps=>
  have e:h.get? a=some { cls:= .none,data:= .fields ps }:=x;show h'.get? a=some { cls:= .none,data:= .fields ps };exact k a _ (.inl rfl) e
 |met f y=>
  have e:h.get? a=some (PySem.W.methodObj (.ref f) (.ref y)):=x;show h'.get? a=some (PySem.W.methodObj (.ref f) (.ref y));exact k a _ (.inl rfl) e
 |ext φ=>obtain⟨p,⟨o,e⟩,st⟩:=x;exact⟨st _ _ p fun o q=>k _ _ (.inl rfl) q,⟨o,k _ _ (.inl rfl) e⟩,st⟩
theorem HOk.lt (x:HOk P w H h) (e:H a=some o):a<h.objs.size:=(x a o e).lt
theorem HOk.fresh (x:HOk P w H h) (e:h.objs.size≤a):H a=none:=by
 cases q:H a with
 |none=>rfl
 |some u=>exact absurd (Nat.lt_of_lt_of_le (x.lt q) e) (Nat.lt_irrefl _)
theorem HOk.kept (x:HOk P w H h) (k:∀b u,h.get? b=some u→h'.get? b=some u):HOk P w H h':=fun a o e=>
 (x a o e).stay (fun b u _ q=>k b u q) (fun _ q=>q) fun _ _ q=>q
theorem HOk.laid (x:HOk P w H h) (k:∀b u,h.get? b=some u→h'.get? b=some u) (hp:h.objs.size≤a) (new:ObjOk P w (upd H a o) h' a o):HOk P w (upd H a o) h':=fun b u e=>by
 have hn:=x.fresh hp;by_cases hb:b=a
 ·subst hb;rw [zat]at e;cases e;exact new
 ·rw [zav hb]at e;exact(x b u e).stay (fun c v _ q=>k c v q) (fun c q=>by rw [zav (zap q hn)];exact q) fun c xs q=>by rw [zav (zap q hn)];exact q
end
noncomputable def Rd (H:Hp) (a:Addr) (u:HO):Prop:=H a=some u∨ ∃o,H a=some (.frz o u)
theorem Rd.ok{P:Program}{w:World}{H:Hp}{h:Heap}{a:Addr}{u:HO}(r:Rd H a u) (x:HOk P w H h):ObjOk P w H h a u:=by
 rcases r with r |⟨o,r⟩
 ·exact x a u r
 ·obtain⟨_,q⟩:=x a _ r;exact q
noncomputable def Mut:Option HO→Prop
 |some (.lst _)=>True
 |some (.dK _)=>True
 |some (.dT _)=>True
 |some (.set _ _)=>True
 |some (.ins _ _ _)=>True
 |some (.ext _)=>True
 |_=>False
section
variable {P:Program}{w:World}{H:Hp}{h h':Heap}{x e:Addr}{o':HO}
theorem HOk.write (ok:HOk P w H h) (mu:Mut (H x)) (he:e=x∨H e=some (.own x)) (k:∀b u,b≠e→h.get? b=some u→h'.get? b=some u) (heo:∃u,h'.get? e=some u)
  (new:ObjOk P w (upd H x o') h' x o'):HOk P w (upd H x o') h':=fun b u q=>by
 have nown:∀c y,H c=some (.own y)→c≠x:=fun c y r z=>by subst z;rw [r]at mu;exact mu
 have ntup:∀c xs,H c=some (.tup xs)→c≠x:=fun c xs r z=>by subst z;rw [r]at mu;exact mu
 by_cases hb:b=x
 ·subst hb;rw [zat]at q;cases q;exact new
 ·rw [zav hb]at q;by_cases hbe:b=e
  ·have q':H b=some (.own x):=by
    rcases he with z |z
    ·exact absurd (hbe.trans z) hb
    ·rw [hbe];exact z
   rw [q]at q';cases q';obtain⟨v,hv⟩:=heo;exact⟨v,by rw [hbe];exact hv⟩
  ·refine(ok b u q).stay (fun c v hc r=>k c v ?_ r) (fun c r=>by rw [zav (nown c b r)];exact r) fun c xs r=>by rw [zav (ntup c xs r)];exact r
   rcases hc with rfl |hc
   ·exact hbe
   ·rintro rfl;rcases he with z |z
    ·exact nown c b hc z
    ·rw [hc]at z;cases z;exact hb rfl
end
structure Un (fs ex:List Addr) (H H':Hp) (h h':Heap):Prop where
  keep:∀b o,h.get? b=some o→H b=none→b∉fs→b∉ex→h'.get? b=some o
  slot:∀b o,h.get? b=some o→H b=none→b∈fs→b∉ex→ ∃sl,h'.get? b=some { o with slots:=sl }
  free:∀b o,h.get? b=some o→H b=none→b∉ex→H' b=none
  there:∀b o,h.get? b=some o→b∉ex→ ∃o',h'.get? b=some o'
  tups:∀b xs,H b=some (.tup xs)→H' b=some (.tup xs)
  frzs:∀b o u,H b=some (.frz o u)→H' b=some (.frz o u)
  tbls:∀b ps,H b=some (.tbl ps)→ ∃more,H' b=some (.tbl (ps++more))
section
variable {fs ex:List Addr}{H H1 H2:Hp}{h h1 h2 h':Heap}{a x e:Addr}{o:HO}
theorem Un.any (u:Un fs ex H H1 h h1) {b:Addr}{ob:Obj}(q:h.get? b=some ob) (n:H b=none) (hx:b∉ex):∃sl,h1.get? b=some { ob with slots:=sl }:=by
 by_cases hb:b∈fs
 ·exact u.slot b ob q n hb hx
 ·exact⟨ob.slots,u.keep b ob q n hb hx⟩
theorem Un.trans (a:Un fs ex H H1 h h1) (b:Un fs ex H1 H2 h1 h2):Un fs ex H H2 h h2 where
  keep:=fun c ob q n hc hx=>b.keep c ob (a.keep c ob q n hc hx) (a.free c ob q n hx) hc hx
  slot:=fun c ob q n hc hx=>by
    obtain⟨sl,e1⟩:=a.slot c ob q n hc hx;obtain⟨sl',e2⟩:=b.slot c _ e1 (a.free c ob q n hx) hc hx;exact⟨sl',e2⟩
  free:=fun c ob q n hx=>by
    obtain⟨o',e1⟩:=a.there c ob q hx;exact b.free c o' e1 (a.free c ob q n hx) hx
  there:=fun c ob q hx=>by
    obtain⟨o',e1⟩:=a.there c ob q hx;exact b.there c o' e1 hx
  tups:=fun c xs q=>b.tups c xs (a.tups c xs q)
  frzs:=fun c ob xs q=>b.frzs c ob xs (a.frzs c ob xs q)
  tbls:=fun c ps q=>by
    obtain⟨m1,e1⟩:=a.tbls c ps q;obtain⟨m2,e2⟩:=b.tbls c _ e1;exact⟨m1++m2,by rw [e2,Array.append_assoc]⟩
theorem Un.kept (k:∀b u,h.get? b=some u→h'.get? b=some u):Un fs ex H H h h':=
 ⟨fun b ob q _ _ _=>k b ob q,fun b ob q _ _ _=>⟨ob.slots,k b ob q⟩,fun _ _ _ n _=>n,fun b ob q _=>⟨ob,k b ob q⟩,fun _ _ q=>q,fun _ _ _ q=>q,fun _ ps q=>⟨#[],by rw [q];simp⟩⟩
theorem Un.refl:Un fs ex H H h h:=Un.kept fun _ _ q=>q
theorem Un.laid (k:∀b u,h.get? b=some u→h'.get? b=some u) (hp:h.objs.size≤a) (hn:H a=none):Un fs ex H (upd H a o) h h' where
  keep:=fun b u q _ _ _=>k b u q
  slot:=fun b u q _ _ _=>⟨u.slots,k b u q⟩
  free:=fun b u q n _=>by rw [zav (Nat.ne_of_lt (Nat.lt_of_lt_of_le (Heap.lt_size q) hp))];exact n
  there:=fun b u q _=>⟨u,k b u q⟩
  tups:=fun b xs q=>by rw [zav (zap q hn)];exact q
  frzs:=fun b u xs q=>by rw [zav (zap q hn)];exact q
  tbls:=fun b ps q=>⟨#[],by rw [zav (zap q hn),q];simp⟩
theorem Un.write (mu:Mut (H x)) (he:e=x∨H e=some (.own x)) (k:∀b u,b≠e→h.get? b=some u→h'.get? b=some u) (heo:∃u,h'.get? e=some u):Un fs ex H (upd H x o) h h':=by
 have hx:∀b,H b=none→b≠x:=fun b n z=>by subst z;rw [n]at mu;exact mu
 have hb:∀b,H b=none→b≠e:=fun b n z=>by
  subst z;rcases he with r |r
  ·exact hx b n r
  ·rw [n]at r;cases r
 have hm:∀b u,H b=some u→ ¬Mut (some u)→b≠x:=fun b u q nm z=>by subst z;rw [q]at mu;exact nm mu
 refine⟨fun b u q n _ _=>k b u (hb b n) q,fun b u q n _ _=>⟨u.slots,k b u (hb b n) q⟩,fun b u q n _=>by rw [zav (hx b n)];exact n,fun b u q _=>?_,
  fun b xs q=>by rw [zav (hm b _ q fun z=>z)];exact q,fun b u xs q=>by rw [zav (hm b _ q fun z=>z)];exact q,fun b ps q=>⟨#[],by rw [zav (hm b _ q fun z=>z),q];simp⟩⟩
 by_cases hbe:b=e
 ·subst hbe;exact heo
 ·exact⟨u,k b u hbe q⟩
end
noncomputable def trk (h:Heap) (H:Hp):List Addr:=(List.range h.objs.size).filter fun a=>(H a).isSome
noncomputable def zoT (h:Heap) (H:Hp):Heap:=PySem.W.hideAll h (trk h H)
theorem zmc (h:Heap) (H:Hp):(zoT h H).objs.size=h.objs.size:=PySem.W.hideAll_size _ _
theorem zoZ{h:Heap}{H:Hp}{b:Addr}{o:Obj}(e:h.get? b=some o) (n:H b=none):(zoT h H).get? b=some o:=
 PySem.W.hideAll_get _ e fun hm=>by
  have q:(H b).isSome=true:=(List.mem_filter.mp hm).2;rw [n]at q;simp at q
theorem zsm{h:Heap}{H:Hp}{b:Addr}{o:Obj}(e:(zoT h H).get? b=some o):h.get? b=some o∧H b=none:=by
 have e':h.get? b=some o:=PySem.W.of_hideAll (trk h H) e;refine⟨e',?_⟩;cases q:H b with
 |none=>rfl
 |some x=>
  have hm:b∈trk h H:=List.mem_filter.mpr ⟨List.mem_range.mpr (Heap.lt_size e'),by simp [q]⟩
  have z:(zoT h H).get? b=none:=PySem.W.hideAll_none (trk h H) hm;rw [z]at e;cases e
noncomputable def zqY (g h:Heap) (L:Addr):List (Addr×Obj):=(List.range h.objs.size).filterMap fun a=>if a=L∨(g.get? a).isSome=true then none else(h.get? a).map fun o=>(a,o)
noncomputable def rest (g h:Heap) (L d:Addr):List (Addr×Obj):=(zqY g h L).filter fun p=>decide (p.1≠d)
structure Mod (K:PySem.W.Frag) (mg:Str→Option Value) (base:Heap):Prop where
  kin:K.In base
  glob:base.Ns mainGlobals mg
  blt:∃mb,base.Ns builtinsNs mb∧ ∀x:Str,x≠ "__name__" →mb x=bootBuiltins x
  nolimit:base.NoLimit
structure Cx where
  prog:Program
  w:World
  K:PySem.W.Frag
  mg:Str→Option Value
  base:Heap
  A:Around
  N:List Str
  s₀:Shared
  H₀:Hp
  env:Env
  outer:List Env
  stack:List Env
  ex:List Addr
  fn:Str→Bool
  calm:Bool
  pn:List (Addr×Obj)
  xe:Value→Shared→Prop
noncomputable def frs (l:List Env):List Addr:=l.filterMap (·.frame)
noncomputable abbrev Cx.fs (X:Cx):List Addr:=frs X.outer
noncomputable def Vis (sc:Scope) (x:Str):Prop:=sc.names.lookup x=some .local∨sc.names.lookup x=some .cell∨sc.names.lookup x=some .free
noncomputable def Loc (sc:Scope) (x:Str):Prop:=sc.names.lookup x=some .local∨sc.names.lookup x=some .cell
noncomputable def zxk (env:Env) (h:Heap) (m:Str→Option Value) (x:Str) (u:Value):Prop:=
 (env.kindOf x=some .local∧m x=some u)∨((env.kindOf x=some .cell∨env.kindOf x=some .free)∧ ∃c,env.cells.lookup x=some c∧h.IsCell c (some u))
structure Cx.Ok (X:Cx):Prop where
  mod:Mod X.K X.mg X.base
  kind:X.env.scope.kind= .function
  glob:X.env.globals=mainGlobals
  blt:X.env.builtins=builtinsNs
  above:X.s₀.heap.objs.size≤X.env.locals
  inj:∀x y c,X.env.cells.lookup x=some c→X.env.cells.lookup y=some c→x=y
  has:∀x,(X.env.kindOf x=some .cell∨X.env.kindOf x=some .free)→ ∃c,X.env.cells.lookup x=some c
  cab:∀x c,X.fn x=true→X.env.cells.lookup x=some c→X.s₀.heap.objs.size≤c
  hd:X.calm=true→X.A.handled=none
  frames:X.A.frames=some X.stack
  stk:X.stack=X.outer∨(X.stack=X.env::X.outer∧X.env.frame=some X.env.locals)
  exf:∀b∈X.ex,b≠X.env.locals∧ ∀x c,X.env.cells.lookup x=some c→c≠b
  bs:∀b o,X.base.get? b=some o→X.s₀.heap.get? b=some o∧X.H₀ b=none
  bsz:X.base.objs.size≤X.s₀.heap.objs.size
  noex:∀b o,X.base.get? b=some o→b∉X.ex
  exfs:∀b∈X.ex,b∉X.fs
  funs:X.s₀.heap.FunFrames X.base X.outer
  frf:∀b∈X.fs,X.H₀ b=none
structure Inv (X:Cx) (pins:List (Addr×Obj)) (σ:List (Option V)) (H:Hp) (s:Shared):Prop where
  ok:X.Ok
  os:s.os=X.s₀.os
  bare:AllBare s.gens
  base:Un X.fs X.ex X.H₀ H X.s₀.heap s.heap
  loc:∃m,s.heap.Ns X.env.locals m∧ ∀(i:Nat) (x:Str) (v:V),X.N[i]? =some x→σ[i]? =some (some v)→Vis X.env.scope x→ ∃u,RelV v u∧zxk X.env s.heap m x u
  cell:∀x c,X.env.cells.lookup x=some c→ ∃v,s.heap.IsCell c v
  free:H X.env.locals=none
  freeC:∀x c,X.env.cells.lookup x=some c→H c=none
  pin:∀p∈X.pn++pins,s.heap.get? p.1=some p.2∧H p.1=none∧p.1≠X.env.locals∧p.1∉X.fs∧ ∀v,p.2.data≠ .cell v
  hok:HOk X.prog X.w H s.heap
  len:σ.length=X.N.length
section
variable {X:Cx}{pins:List (Addr×Obj)}{σ:List (Option V)}{H H':Hp}{s:Shared}{h':Heap}
theorem Cx.Ok.nofr (ok:X.Ok) {b:Addr}{o:Obj}(e:X.base.get? b=some o):b∉X.fs:=fun hb=>by
 have:=(ok.funs.mem hb).1;rw [e]at this;cases this
theorem Inv.bs (I:Inv X pins σ H s):∀b o,X.base.get? b=some o→s.heap.get? b=some o∧H b=none:=fun b o e=>
 ⟨I.base.keep b o (I.ok.bs b o e).1 (I.ok.bs b o e).2 (I.ok.nofr e) (I.ok.noex b o e),I.base.free b o (I.ok.bs b o e).1 (I.ok.bs b o e).2 (I.ok.noex b o e)⟩
theorem Inv.bk (I:Inv X pins σ H s):∀b o,X.base.get? b=some o→s.heap.get? b=some o:=fun b o e=>(I.bs b o e).1
theorem Inv.mod (I:Inv X pins σ H s):Mod X.K X.mg X.base:=I.ok.mod
theorem Inv.kIn (I:Inv X pins σ H s):X.K.In s.heap:=I.ok.mod.kin.keeps I.bk
theorem Inv.lt (I:Inv X pins σ H s):X.env.locals<s.heap.objs.size:=let ⟨_,hn,_⟩:=I.loc;hn.lt
theorem Inv.sz (I:Inv X pins σ H s):X.s₀.heap.objs.size≤s.heap.objs.size:=Nat.le_trans I.ok.above (Nat.le_of_lt I.lt)
theorem Inv.nofs (I:Inv X pins σ H s) {a:Addr}(h:s.heap.objs.size≤a):a∉X.fs:=fun hb=>by
 obtain⟨_,o,ho,_⟩:=I.ok.funs.mem hb;exact absurd (Nat.lt_of_lt_of_le (Heap.lt_size ho) (Nat.le_trans I.sz h)) (Nat.lt_irrefl _)
theorem Inv.cne (I:Inv X pins σ H s):∀x c,X.env.cells.lookup x=some c→c≠X.env.locals:=fun x c e z=>by
 obtain⟨v,o,ho,hd⟩:=I.cell x c e;obtain⟨m,⟨o',es,ep,ho',hd',_⟩,_⟩:=I.loc;rw [z,ho']at ho;cases ho;rw [hd']at hd;cases hd
theorem Inv.funs (I:Inv X pins σ H s):s.heap.FunFrames X.base X.outer:=by
 have all:∀(l:List Env),(∀b∈frs l,b∈X.fs)→X.s₀.heap.FunFrames X.base l→s.heap.FunFrames X.base l:=by
  intro l
  induction l with
  |nil=>intro _ _;trivial
  |cons env r ih=>
   intro hs hl;obtain⟨hk,⟨L,o,hf,hn,ho,hd⟩,hr⟩:=hl;have hL:L∈X.fs:=hs L (by unfold frs;rw [List.filterMap_cons,hf];exact List.mem_cons_self);obtain⟨sl,e⟩:=I.base.slot L o ho (I.ok.frf L hL) hL fun z=>I.ok.exfs L z hL;exact⟨hk,⟨L,_,hf,hn,e,hd⟩,ih (fun b hb=>hs b (by unfold frs;rw [List.filterMap_cons,hf];exact List.mem_cons_of_mem _ hb)) hr⟩
 exact all X.outer (fun _ hb=>hb) I.ok.funs
theorem Inv.stack (I:Inv X pins σ H s):s.heap.FunFrames X.base X.stack:=by
 rcases I.ok.stk with e |⟨e,hf⟩
 ·rw [e];exact I.funs
 ·rw [e];obtain⟨m,hn,_⟩:=I.loc;refine .cons (by rw [I.ok.kind];decide) hf hn ?_ I.funs;exact Heap.get?_none_of_le (Nat.le_trans I.ok.bsz I.ok.above)
theorem Inv.stkSub (I:Inv X pins σ H s):∀b∈frs X.stack,b∈X.env.locals::X.fs:=fun b hb=>by
 rcases I.ok.stk with e |⟨e,hf⟩
 ·rw [e]at hb;exact List.mem_cons_of_mem _ hb
 ·rw [e]at hb;unfold frs at hb;rw [List.filterMap_cons,hf]at hb;exact hb
theorem Inv.stkFree (I:Inv X pins σ H s):∀b∈frs X.stack,H b=none:=fun b hb=>by
 rcases List.mem_cons.mp (I.stkSub b hb) with e |hb
 ·rw [e];exact I.free
 ·obtain⟨_,o,ho,_⟩:=I.ok.funs.mem hb;exact I.base.free b o ho (I.ok.frf b hb) fun z=>I.ok.exfs b z hb
theorem Inv.step{g':Array GenState}{t':Nat}{d':Drawn}{ch:List Addr}(I:Inv X pins σ H s)
  (hch:∀b∈ch,(b∈X.ex∨X.s₀.heap.objs.size≤b)∧b≠X.env.locals∧(∀x c,X.env.cells.lookup x=some c→c≠b)∧ ∀p∈X.pn++pins,p.1≠b)
  (keep:∀b o,b≠X.env.locals→b∉X.fs→b∉ch→s.heap.get? b=some o→H b=none→h'.get? b=some o)
  (slot:∀b o,b≠X.env.locals→b∈X.fs→b∉ch→s.heap.get? b=some o→H b=none→ ∃sl,h'.get? b=some { o with slots:=sl }) (free:∀b o,b∉ch→s.heap.get? b=some o→H b=none→H' b=none)
  (there:∀b o,b∉ch→s.heap.get? b=some o→ ∃o',h'.get? b=some o')
  (tups:∀b xs,H b=some (.tup xs)→H' b=some (.tup xs)) (frzs:∀b o u,H b=some (.frz o u)→H' b=some (.frz o u)) (tbls:∀b ps,H b=some (.tbl ps)→ ∃more,H' b=some (.tbl (ps++more)))
  (ns:∀m,s.heap.Ns X.env.locals m→h'.Ns X.env.locals m) (hok:HOk X.prog X.w H' h') (hg:AllBare g') :
  Inv X pins σ H' { s with heap:=h',gens:=g',drawn:=d',toks:=t' }:=by
 have neL:∀b o,X.s₀.heap.get? b=some o→b≠X.env.locals:=fun b o e=>Nat.ne_of_lt (Nat.lt_of_lt_of_le (Heap.lt_size e) I.ok.above);have neC:∀b o,X.s₀.heap.get? b=some o→b∉X.ex→b∉ch:=fun b o e hx hb=>by
  rcases(hch b hb).1 with z |z
  ·exact hx z
  ·exact absurd (Nat.lt_of_lt_of_le (Heap.lt_size e) z) (Nat.lt_irrefl _)
 have cellK:∀x c,X.env.cells.lookup x=some c→ ∀v,s.heap.IsCell c v→h'.IsCell c v:=fun x c e v ⟨o,ho,hd⟩=>by
  have nch:c∉ch:=fun z=>(hch c z).2.2.1 x c e rfl;by_cases hc:c∈X.fs
  ·obtain⟨sl,q⟩:=slot c o (I.cne x c e) hc nch ho (I.freeC x c e);exact⟨_,q,hd⟩
  ·exact⟨o,keep c o (I.cne x c e) hc nch ho (I.freeC x c e),hd⟩
 refine⟨I.ok,I.os,hg,⟨fun b o e n hb hx=>?_,fun b o e n hb hx=>?_,fun b o e n hx=>?_,fun b o e hx=>?_,fun b xs e=>tups b xs (I.base.tups b xs e),fun b o xs e=>frzs b o xs (I.base.frzs b o xs e),fun b ps e=>?_⟩,?_,fun x c e=>?_,?_,fun x c e=>?_,fun p hp=>?_,hok,I.len⟩
 ·exact keep b o (neL b o e) hb (neC b o e hx) (I.base.keep b o e n hb hx) (I.base.free b o e n hx)
 ·obtain⟨sl,e1⟩:=I.base.slot b o e n hb hx;obtain⟨sl',e2⟩:=slot b _ (neL b o e) hb (neC b o e hx) e1 (I.base.free b o e n hx);exact⟨sl',e2⟩
 ·obtain⟨o',e1⟩:=I.base.there b o e hx;exact free b o' (neC b o e hx) e1 (I.base.free b o e n hx)
 ·obtain⟨o',e1⟩:=I.base.there b o e hx;exact there b o' (neC b o e hx) e1
 ·obtain⟨m1,e1⟩:=I.base.tbls b ps e;obtain⟨m2,e2⟩:=tbls b _ e1;exact⟨m1++m2,by rw [e2,Array.append_assoc]⟩
 ·obtain⟨m,hn,hl⟩:=I.loc;refine⟨m,ns m hn,fun i x v e1 e2 e3=>?_⟩;obtain⟨u,r,l⟩:=hl i x v e1 e2 e3;refine⟨u,r,?_⟩;rcases l with l |⟨k,c,e,z⟩
  ·exact .inl l
  ·exact .inr ⟨k,c,e,cellK x c e _ z⟩
 ·obtain⟨v,z⟩:=I.cell x c e;exact⟨v,cellK x c e v z⟩
 ·obtain⟨m,⟨o,_,_,ho,_⟩,_⟩:=I.loc;exact free _ o (fun z=>(hch _ z).2.1 rfl) ho I.free
 ·obtain⟨v,o,ho,hd⟩:=I.cell x c e;exact free c o (fun z=>(hch c z).2.2.1 x c e rfl) ho (I.freeC x c e)
 ·obtain⟨e,n,ne,nf,d⟩:=I.pin p hp;have nch:p.1∉ch:=fun z=>(hch p.1 z).2.2.2 p hp rfl;exact⟨keep p.1 p.2 ne nf nch e n,free p.1 p.2 nch e n,ne,nf,d⟩
theorem Inv.un{t':Nat}(I:Inv X pins σ H s) (u:Un X.fs [] H H' s.heap h') (hok:HOk X.prog X.w H' h'):Inv X pins σ H' { s with heap:=h',toks:=t' }:=by
 obtain⟨m,⟨o,es,ep,ho,r⟩,_⟩:=id I.loc;obtain⟨sl,hL⟩:=u.any ho I.free (by simp);exact I.step (g':=s.gens) (d':=s.drawn) (ch:=[]) (fun _ z=>nomatch z) (fun b o _ hb _ e n=>u.keep b o e n hb (by simp)) (fun b o _ hb _ e n=>u.slot b o e n hb (by simp)) (fun b o _ e n=>u.free b o e n (by simp)) (fun b o _ e=>u.there b o e (by simp)) u.tups u.frzs u.tbls (fun m' hm=>by
  obtain⟨o',es',ep',ho',r'⟩:=hm;rw [ho]at ho';cases ho';exact⟨_,es',ep',hL,r'⟩) hok I.bare
theorem Inv.call{g':Array GenState}{t':Nat}{d':Drawn}{ch:List Addr}(I:Inv X pins σ H s) (u:Un (frs X.stack) ch H H' s.heap h') (hok:HOk X.prog X.w H' h') (hg:AllBare g')
  (hch:∀b∈ch,(b∈X.ex∨X.s₀.heap.objs.size≤b)∧b≠X.env.locals∧(∀x c,X.env.cells.lookup x=some c→c≠b)∧ ∀p∈X.pn++pins,p.1≠b) :
  Inv X pins σ H' { s with heap:=h',gens:=g',drawn:=d',toks:=t' }:=by
 obtain⟨m,⟨o,es,ep,ho,r⟩,_⟩:=id I.loc;obtain⟨sl,hL⟩:=u.any ho I.free fun z=>(hch _ z).2.1 rfl;exact I.step (ch:=ch) hch (fun b o hL hb hc e n=>u.keep b o e n (fun z=>(List.mem_cons.mp (I.stkSub b z)).elim hL hb) hc) (fun b o _ _ hc e n=>u.any e n hc) (fun b o hc e n=>u.free b o e n hc) (fun b o hc e=>u.there b o e hc) u.tups u.frzs u.tbls (fun m' hm=>by
  obtain⟨o',es',ep',ho',r'⟩:=hm;rw [ho]at ho';cases ho';exact⟨_,es',ep',hL,r'⟩) hok hg
theorem Inv.turned{t':Nat}{it:Addr}(I:Inv X pins σ H s) (k:∀b o,b≠it→s.heap.get? b=some o→h'.get? b=some o) (hn:H it=none) (hL:it≠X.env.locals)
  (h1:it∈X.ex∨X.s₀.heap.objs.size≤it) (h2:∀x c,X.env.cells.lookup x=some c→c≠it) (h3:∀p∈X.pn++pins,p.1≠it):Inv X pins σ H { s with heap:=h',toks:=t' }:=by
 have nit:∀b u,H b=some u→b≠it:=fun b u e z=>by rw [z,hn]at e;cases e
 refine I.step (g':=s.gens) (d':=s.drawn) (ch:=[it]) (fun b hb=>?_) (fun b o _ _ hc e _=>k b o (fun z=>hc (by simp [z])) e) (fun b o _ _ hc e _=>⟨o.slots,k b o (fun z=>hc (by simp [z])) e⟩) (fun _ _ _ _ n=>n)
  (fun b o hc e=>⟨o,k b o (fun z=>hc (by simp [z])) e⟩) (fun _ _ e=>e) (fun _ _ _ e=>e) (fun b ps e=>⟨#[],by rw [e];simp⟩) (fun m hm=>?_) (fun b u e=>?_) I.bare
 ·have e:b=it:=by simpa using hb
  subst e;exact⟨h1,hL,h2,h3⟩
 ·obtain⟨o,es,ep,ho,r⟩:=hm;exact⟨o,es,ep,k _ o (Ne.symm hL) ho,r⟩
 ·refine(I.hok b u e).stay (fun c v hc q=>k c v ?_ q) (fun _ q=>q) fun _ _ q=>q;rcases hc with z |z
  ·rw [z];exact nit b u e
  ·exact nit c _ z
theorem Inv.tok (I:Inv X pins σ H s) (t:Nat):Inv X pins σ H { s with toks:=t }:=I.un (h':=s.heap) (t':=t) Un.refl I.hok
theorem Inv.kept{t':Nat}(I:Inv X pins σ H s) (k:∀b u,s.heap.get? b=some u→h'.get? b=some u):Inv X pins σ H { s with heap:=h',toks:=t' }:=I.un (Un.kept k) (I.hok.kept k)
theorem Inv.laid{a:Addr}{o:HO}{t':Nat}(I:Inv X pins σ H s) (k:∀b u,s.heap.get? b=some u→h'.get? b=some u) (hp:s.heap.objs.size≤a) (new:ObjOk X.prog X.w (upd H a o) h' a o) :
  Inv X pins σ (upd H a o) { s with heap:=h',toks:=t' }:=I.un (Un.laid k hp (I.hok.fresh hp)) (I.hok.laid k hp new)
theorem Inv.write{x e:Addr}{o:HO}{t':Nat}(I:Inv X pins σ H s) (mu:Mut (H x)) (he:e=x∨H e=some (.own x)) (k:∀b u,b≠e→s.heap.get? b=some u→h'.get? b=some u) (heo:∃u,h'.get? e=some u)
  (new:ObjOk X.prog X.w (upd H x o) h' x o):Inv X pins σ (upd H x o) { s with heap:=h',toks:=t' }:=I.un (Un.write mu he k heo) (I.hok.write mu he k heo new)
theorem Inv.pins_of{pins':List (Addr×Obj)}(I:Inv X pins σ H s) (h:∀p∈pins',s.heap.get? p.1=some p.2∧H p.1=none∧p.1≠X.env.locals∧p.1∉X.fs∧ ∀v,p.2.data≠ .cell v):Inv X pins' σ H s:=
 ⟨I.ok,I.os,I.bare,I.base,I.loc,I.cell,I.free,I.freeC,fun p hp=>(List.mem_append.mp hp).elim (fun z=>I.pin p (List.mem_append_left _ z)) (h p),I.hok,I.len⟩
theorem zjM{N:List Str}(hN:N.Nodup) {i j:Nat}{x:Str}(a:N[i]? =some x) (b:N[j]? =some x):i=j:=by
 obtain⟨h1,e1⟩:=List.getElem?_eq_some_iff.mp a;obtain⟨h2,e2⟩:=List.getElem?_eq_some_iff.mp b;exact(List.getElem_inj hN).mp (e1.trans e2.symm)
theorem zhS{M:Model}{A:Around}{E:Value→Shared→Prop}{i:Nat}{x:Str}{v:V}{u:Value}{Q:Unit→Shared→Prop}(I:Inv X pins σ H s) (hN:X.N.Nodup) (hi:X.N[i]? =some x) (hx:Loc X.env.scope x) (r:RelV v u)
  (h:∀s',Inv X pins (σ.set i (some v)) H s'→(∃a,Heap.SameBut a s.heap s'.heap∧(a=X.env.locals∨X.env.cells.lookup x=some a))→Q () s') (hf:X.fn x=true∨X.env.scope.names.lookup x=some .local:=by first |exact .inl rfl |exact .inr rfl |assumption):wpAny M A (storeName X.env x u) Q E s:=by
 obtain⟨m,hn,hl⟩:=id I.loc;have hcls:(X.env.scope.kind == .class || (X.env.scope.kind == .module&&X.env.locals != X.env.globals))=false:=by rw [I.ok.kind];rfl
 have hiσ:i<σ.length:=by rw [I.len];exact(List.getElem?_eq_some_iff.mp hi).1
 have cne:=I.cne;have tracked:∀{a:Addr}{h':Heap},(∃o,s.heap.get? a=some o∧H a=none)→Heap.SameBut a s.heap h'→HOk X.prog X.w H h':=fun {a h'} ha hs b ob e=>by
  obtain⟨_,_,hfree⟩:=ha;refine(I.hok b ob e).stay (fun c w' hc q=>(hs.2 c ?_).trans q) (fun _ q=>q) fun _ _ q=>q;rintro rfl;rcases hc with rfl |hc
  ·rw [hfree]at e;cases e
  ·rw [hfree]at hc;cases hc
 rcases hx with hk |hk
 ·refine wpAny_storeName_local hk hn (fun h' hn' hs=>?_) hcls;obtain⟨oL,_,_,hoL,_⟩:=id hn;refine h _ ⟨I.ok,I.os,I.bare,⟨fun b o e n hb hx=>?_,fun b o e n hb hx=>?_,I.base.free,fun b o e hx=>?_,I.base.tups,I.base.frzs,I.base.tbls⟩,⟨_,hn',fun j y v' e1 e2 e3=>?_⟩,fun y c e=>?_,I.free,I.freeC,fun p hp=>?_,tracked ⟨oL,hoL,I.free⟩ hs,by simpa using I.len⟩ ⟨_,hs, .inl rfl⟩
  ·exact(hs.2 b (Nat.ne_of_lt (Nat.lt_of_lt_of_le (Heap.lt_size e) I.ok.above))).trans (I.base.keep b o e n hb hx)
  ·obtain⟨sl,e1⟩:=I.base.slot b o e n hb hx;exact⟨sl,(hs.2 b (Nat.ne_of_lt (Nat.lt_of_lt_of_le (Heap.lt_size e) I.ok.above))).trans e1⟩
  ·obtain⟨o',e1⟩:=I.base.there b o e hx;exact⟨o',(hs.2 b (Nat.ne_of_lt (Nat.lt_of_lt_of_le (Heap.lt_size e) I.ok.above))).trans e1⟩
  ·by_cases hj:j=i
   ·subst hj;rw [hi]at e1;cases e1;rw [List.getElem?_set_self hiσ]at e2;cases e2;exact⟨u,r, .inl ⟨hk,by simp⟩⟩
   ·rw [List.getElem?_set_ne (Ne.symm hj)]at e2;obtain⟨u',r',q⟩:=hl j y v' e1 e2 e3;refine⟨u',r',?_⟩;rcases q with⟨k,e⟩ |⟨k,c,e,z⟩
    ·refine .inl ⟨k,?_⟩;have:y≠x:=fun e=>hj (zjM hN e1 (e▸hi));simp [this,e]
    ·exact .inr ⟨k,c,e,z.sameBut hs (cne y c e)⟩
  ·obtain⟨w',z⟩:=I.cell y c e;exact⟨w',z.sameBut hs (cne y c e)⟩
  ·obtain⟨e,n,ne,nf,d⟩:=I.pin p hp;exact⟨(hs.2 p.1 ne).trans e,n,ne,nf,d⟩
 ·have hfn:X.fn x=true:=by
   rcases hf with z |z
   ·exact z
   ·rw [z]at hk;cases hk
  obtain⟨c,hc⟩:=I.ok.has x (.inl hk);obtain⟨w',z⟩:=I.cell x c hc;refine wpAny_storeName_cell I.ok.kind hk hc z (fun h' hc' hs=>?_);obtain⟨oc,hoc,hocd⟩:=id z;refine h { s with heap:=h' } ⟨I.ok,I.os,I.bare,⟨fun b o e n hb hx=>?_,fun b o e n hb hx=>?_,I.base.free,fun b o e hx=>?_,I.base.tups,I.base.frzs,I.base.tbls⟩,⟨m,hn.sameBut hs (Ne.symm (cne x c hc)),fun j y v' e1 e2 e3=>?_⟩,fun y c' e=>?_,I.free,I.freeC,fun p hp=>?_,tracked ⟨oc,hoc,I.freeC x c hc⟩ hs,by simpa using I.len⟩ ⟨c,hs, .inr hc⟩
  ·exact(hs.2 b (Nat.ne_of_lt (Nat.lt_of_lt_of_le (Heap.lt_size e) (I.ok.cab x c hfn hc)))).trans (I.base.keep b o e n hb hx)
  ·obtain⟨sl,e1⟩:=I.base.slot b o e n hb hx;exact⟨sl,(hs.2 b (Nat.ne_of_lt (Nat.lt_of_lt_of_le (Heap.lt_size e) (I.ok.cab x c hfn hc)))).trans e1⟩
  ·obtain⟨o',e1⟩:=I.base.there b o e hx;exact⟨o',(hs.2 b (Nat.ne_of_lt (Nat.lt_of_lt_of_le (Heap.lt_size e) (I.ok.cab x c hfn hc)))).trans e1⟩
  ·by_cases hj:j=i
   ·subst hj;rw [hi]at e1;cases e1;rw [List.getElem?_set_self hiσ]at e2;cases e2;exact⟨u,r, .inr ⟨.inl hk,c,hc,hc'⟩⟩
   ·rw [List.getElem?_set_ne (Ne.symm hj)]at e2;obtain⟨u',r',q⟩:=hl j y v' e1 e2 e3;refine⟨u',r',?_⟩;rcases q with q |⟨k,c',e,z'⟩
    ·exact .inl q
    ·refine .inr ⟨k,c',e,z'.sameBut hs ?_⟩;rintro rfl;exact hj (zjM hN e1 (I.ok.inj _ _ _ e hc▸hi))
  ·by_cases hcc:c'=c
   ·subst hcc;exact⟨_,hc'⟩
   ·obtain⟨w2,z2⟩:=I.cell y c' e;exact⟨w2,z2.sameBut hs hcc⟩
  ·obtain⟨e,n,ne,nf,d⟩:=I.pin p hp;refine⟨(hs.2 p.1 ?_).trans e,n,ne,nf,d⟩;intro q;rw [q,hoc]at e;have q':oc=p.2:=Option.some.inj e;exact d w' (by rw [←q'];exact hocd)
theorem zhc{M:Model}{A:Around}{E:Value→Shared→Prop}{i:Nat}{x:Str}{v:V}{u:Value}{Q:Unit→Shared→Prop}(I:Inv X pins σ H s) (hN:X.N.Nodup) (hi:X.N[i]? =some x) (hx:Loc X.env.scope x) (r:RelV v u)
  (h:∀s',Inv X pins (σ.set i (some v)) H s'→Q () s') (hf:X.fn x=true∨X.env.scope.names.lookup x=some .local:=by first |exact .inl rfl |exact .inr rfl |assumption):wpAny M A (storeName X.env x u) Q E s:=
 zhS I hN hi hx r (fun s' I' _=>h s' I') hf
theorem Inv.call'{s':Shared}{ch:List Addr}(I:Inv X pins σ H s) (ho:s'.os=s.os) (u:Un (frs X.stack) ch H H' s.heap s'.heap) (hok:HOk X.prog X.w H' s'.heap) (hg:AllBare s'.gens)
  (hch:∀b∈ch,(b∈X.ex∨X.s₀.heap.objs.size≤b)∧b≠X.env.locals∧(∀x c,X.env.cells.lookup x=some c→c≠b)∧ ∀p∈X.pn++pins,p.1≠b):Inv X pins σ H' s':=by
 obtain⟨h',g',d',t',o'⟩:=s';have e:o'=s.os:=ho;subst e;exact I.call (g':=g') (t':=t') (d':=d') u hok hg hch
end
noncomputable abbrev XK:=Value→Option Addr→Hp→Prop
noncomputable abbrev St:=List (Option V)
noncomputable abbrev VK:=V→Hp→Prop
noncomputable abbrev TE:=St→Hp→VK→Prop
noncomputable abbrev TT:=St→Hp→(Bool→Hp→Prop)→Prop
noncomputable abbrev TA:=St→Hp→(List V→Hp→Prop)→Prop
structure Ends where
  nx:St→Hp→Prop
  rt:VK
  bk:St→Hp→Prop:=fun _ _=>False
  ct:St→Hp→Prop:=fun _ _=>False
noncomputable abbrev TS:=Ends→St→Hp→Prop
noncomputable def EP (X:Cx) (pins:List (Addr×Obj)) (σ:St) (Q:VK) (u:Value) (s':Shared):Prop:=∃v H',Inv X pins σ H' s'∧RelV v u∧Q v H'
noncomputable def TP (X:Cx) (pins:List (Addr×Obj)) (σ:St) (Q:Bool→Hp→Prop) (b:Bool) (s':Shared):Prop:=∃H',Inv X pins σ H' s'∧Q b H'
noncomputable def AP (X:Cx) (pins:List (Addr×Obj)) (σ:St) (Q:List V→Hp→Prop) (us:List Value) (s':Shared):Prop:=∃vs H',Inv X pins σ H' s'∧Vals vs us∧Q vs H'
noncomputable def SP (X:Cx) (pins:List (Addr×Obj)) (D:Ends) (f:Flow) (s':Shared):Prop:=
 match f with
 | .next=>∃σ' H',Inv X pins σ' H' s'∧D.nx σ' H'
 | .brk=>∃σ' H',Inv X pins σ' H' s'∧D.bk σ' H'
 | .cont=>∃σ' H',Inv X pins σ' H' s'∧D.ct σ' H'
 | .ret u=>∃v σ' H',Inv X pins σ' H' s'∧RelV v u∧D.rt v H'
noncomputable def PE (X:Cx) (e:Expr) (t:TE):Prop:=
 ∀(pins:List (Addr×Obj)) (s:Shared) (σ:St) (H:Hp) (Q:VK),Inv X pins σ H s→t σ H Q→wpAny (model X.prog X.w) X.A (eval e X.env) (EP X pins σ Q) X.xe s
noncomputable def PT (X:Cx) (e:Expr) (t:TT):Prop:=
 ∀(pins:List (Addr×Obj)) (s:Shared) (σ:St) (H:Hp) (Q:Bool→Hp→Prop),Inv X pins σ H s→t σ H Q→wpAny (model X.prog X.w) X.A (isTrue e X.env (eval e X.env)) (TP X pins σ Q) X.xe s
noncomputable def PW (X:Cx) (e:Expr) (t:TT):Prop:=
 ∀(whole:Sem Value) (pins:List (Addr×Obj)) (s:Shared) (σ:St) (H:Hp) (Q:Bool→Hp→Prop),Inv X pins σ H s→t σ H Q→wpAny (model X.prog X.w) X.A (isTrue e X.env whole) (TP X pins σ Q) X.xe s
theorem PW.pt{X:Cx}{e:Expr}{t:TT}(h:PW X e t):PT X e t:=h _
noncomputable def PA (X:Cx) (es:List Expr) (t:TA):Prop:=
 ∀(pos:Pos) (pins:List (Addr×Obj)) (s:Shared) (σ:St) (H:Hp) (Q:List V→Hp→Prop),Inv X pins σ H s→t σ H Q→wpAny (model X.prog X.w) X.A (spliced (backTo pos (starEach es X.env))) (AP X pins σ Q) X.xe s
noncomputable def PS (X:Cx) (st:Stmt) (t:TS):Prop:=
 ∀(pins:List (Addr×Obj)) (s:Shared) (σ:St) (H:Hp) (D:Ends),Inv X pins σ H s→t D σ H→wpAny (model X.prog X.w) X.A (exec st X.env) (SP X pins D) X.xe s
noncomputable def PSs (X:Cx) (st:List Stmt) (t:TS):Prop:=
 ∀(pins:List (Addr×Obj)) (s:Shared) (σ:St) (H:Hp) (D:Ends),Inv X pins σ H s→t D σ H→wpAny (model X.prog X.w) X.A (execs st X.env) (SP X pins D) X.xe s
theorem thn{α:Type}{t:Sem α}{Q Q':α→Shared→Prop}{M:Model}{A:Around}{E:Value→Shared→Prop}{s:Shared}(h:wpAny M A t Q E s) (hQ:∀a s,Q a s→Q' a s):wpAny M A t Q' E s:=wpAny_mono h hQ fun _ _ x=>x
section
variable {X:Cx}
noncomputable def zxp (i:Nat):TE:=fun σ H Q=>∃v,σ[i]? =some (some v)∧Q v H
noncomputable def tC (v:V):TE:=fun _ H Q=>Q v H
theorem ztb{i:Nat}{x:Str}{pos:Pos}(hN:X.N[i]? =some x) (hv:Vis X.env.scope x) (hd:(x == ("__debug__" :Str))=false:=by decide) (hcd:(x == ("__classdict__" :Str))=false:=by decide):PE X (.Name x pos) (zxp i):=by
 intro pins s σ H Q I h;obtain⟨v,e,h⟩:=h;obtain⟨m,hn,hl⟩:=I.loc;obtain⟨u,r,l⟩:=hl i x v hN e hv;have fin:EP X pins σ Q u s:=⟨v,H,I,r,h⟩;rcases l with⟨hk,hm⟩ |⟨hk,c,hc,hcell⟩
 ·exact wpAny_Name (wpAny_loadName_local I.ok.kind hk hn hm fin) hd
 ·rcases hk with hk |hk
  ·exact wpAny_Name (wpAny_loadName_cell I.ok.kind hk hc hcell fin) hd
  ·exact wpAny_Name (wpAny_loadName_free I.ok.kind hk hc hcell fin hcd) hd
theorem ztK{i j pos}:PE X (.Constant (.int i) j pos) (tC (.int i)):=fun _ _ _ H _ I h=>wpAny_Constant_int ⟨.int i,H,I.tok _,⟨_,rfl⟩,h⟩
theorem zwC{b j pos}:PE X (.Constant (.bool b) j pos) (tC (.bl b)):=fun _ _ _ H _ I h=>Constant_bool ⟨.bl b,H,I,rfl,h⟩
theorem zul{j pos}:PE X (.Constant .none j pos) (tC .non):=fun _ _ _ H _ I h=>Constant_none ⟨.non,H,I,rfl,h⟩
theorem zsO{x j pos}:PE X (.Constant (.str x) j pos) (tC (.str x)):=fun _ _ _ H _ I h=>Calls.Constant_str ⟨.str x,H,I.tok _,⟨_,rfl⟩,h⟩
noncomputable def Gl (X:Cx) (x:Str):Prop:=X.env.kindOf x=some .globalImplicit
theorem zmD{E:Value→Shared→Prop}{pins:List (Addr×Obj)}{s:Shared}{σ:St}{H:Hp}{x:Str}{u:Value}{pos:Pos}{Q:Value→Shared→Prop}(I:Inv X pins σ H s) (hg:Gl X x) (hm:X.mg x=some u) (h:Q u s)
  (hd:(x == ("__debug__" :Str))=false:=by decide):wpAny (model X.prog X.w) X.A (eval (.Name x pos) X.env) Q E s:=
 Calls.Name_function_global I.ok.kind hg (Calls.loadGlobal_global (by rw [I.ok.glob];exact I.mod.glob.keeps I.bk) hm h) hd
theorem zeN{E:Value→Shared→Prop}{pins:List (Addr×Obj)}{s:Shared}{σ:St}{H:Hp}{x:Str}{u:Value}{pos:Pos}{Q:Value→Shared→Prop}(I:Inv X pins σ H s) (hg:Gl X x) (hm:X.mg x=none) (hv:bootBuiltins x=some u) (h:Q u s)
  (hn:x≠ "__name__" :=by decide) (hd:(x == ("__debug__" :Str))=false:=by decide):wpAny (model X.prog X.w) X.A (eval (.Name x pos) X.env) Q E s:=by
 obtain⟨mb,h1,h2⟩:=I.mod.blt;exact Calls.Name_function_global I.ok.kind hg (Calls.loadGlobal_builtin (by rw [I.ok.glob];exact I.mod.glob.keeps I.bk) hm (by rw [I.ok.blt];exact h1.keeps I.bk) ((h2 x hn).trans hv) h) hd
theorem zra{x:Str}{v:V}{u:Value}{pos:Pos}(hg:Gl X x) (hm:X.mg x=some u) (r:RelV v u) (hd:(x == ("__debug__" :Str))=false:=by decide):PE X (.Name x pos) (tC v):=
 fun _ _ _ H _ I h=>zmD I hg hm ⟨v,H,I,r,h⟩ hd
theorem zso{x:Str}{v:V}{u:Value}{pos:Pos}(hg:Gl X x) (hm:X.mg x=none) (hv:bootBuiltins x=some u) (r:RelV v u) (hn:x≠ "__name__" :=by decide) (hd:(x == ("__debug__" :Str))=false:=by decide):PE X (.Name x pos) (tC v):=
 fun _ _ _ H _ I h=>zeN I hg hm hv ⟨v,H,I,r,h⟩ hn hd
variable {a b:Expr}{ta tb:TE}{pos:Pos}
variable {tA tB':TT}{rest:List Expr}
noncomputable def zxd (t u:TT):TT:=fun σ H Q=>t σ H fun c H1=>if c=true then u σ H1 Q else Q false H1
noncomputable def tOr (t u:TT):TT:=fun σ H Q=>t σ H fun c H1=>if c=true then Q true H1 else u σ H1 Q
noncomputable def zxD (t:TT):TT:=fun σ H Q=>t σ H fun c H1=>Q (!c) H1
theorem zqT (ha:PT X a tA):PW X (.BoolOp .And [a] pos) tA:=by
 intro wh pins s σ H Q I h;refine isTrue_and (thn (ha pins s σ H Q I h) fun c s1 e=>?_);cases c with
 |true=>exact isTrue_and_nil e
 |false=>exact e
theorem zsC (ha:PT X a tA):PW X (.BoolOp .Or [a] pos) tA:=by
 intro wh pins s σ H Q I h;refine isTrue_or (thn (ha pins s σ H Q I h) fun c s1 e=>?_);cases c with
 |false=>exact isTrue_or_nil e
 |true=>exact e
theorem zts (ha:PT X a tA) (hb:PW X (.BoolOp .And (b::rest) pos) tB'):PW X (.BoolOp .And (a::b::rest) pos) (zxd tA tB'):=by
 intro wh pins s σ H Q I h;refine isTrue_and (thn (ha pins s σ H _ I h) fun c s1 ⟨H1,I1,q1⟩=>?_);cases c with
 |true=>exact hb wh pins s1 σ H1 Q I1 q1
 |false=>exact⟨H1,I1,q1⟩
theorem zwr (ha:PT X a tA) (hb:PW X (.BoolOp .Or (b::rest) pos) tB'):PW X (.BoolOp .Or (a::b::rest) pos) (tOr tA tB'):=by
 intro wh pins s σ H Q I h;refine isTrue_or (thn (ha pins s σ H _ I h) fun c s1 ⟨H1,I1,q1⟩=>?_);cases c with
 |true=>exact⟨H1,I1,q1⟩
 |false=>exact hb wh pins s1 σ H1 Q I1 q1
theorem zte (ha:PT X a tA):PT X (.UnaryOp .Not a pos) (zxD tA):=by
 intro pins s σ H Q I h;exact isTrue_not (ha pins s σ H (fun c H1=>Q (!c) H1) I h)
noncomputable def zvG (ta tb:TE):TE:=fun σ H Q=>ta σ H fun x H1=>∃c,x= .bl c∧if c=true then tb σ H1 Q else Q (.bl false) H1
theorem zuo{op}{t:TE}(h:PE X a t):PE X (.BoolOp op [a] pos) t:=fun pins s σ H Q I hw=>BoolOp_one (h pins s σ H Q I hw)
theorem zuk (ha:PE X a ta) (hb:PE X (.BoolOp .And (b::rest) pos) tb):PE X (.BoolOp .And (a::b::rest) pos) (zvG ta tb):=by
 intro pins s σ H Q I h;refine BoolOp_and (thn (ha pins s σ H _ I h) fun v s1 ⟨x,H1,I1,r1,q1⟩=>?_);obtain⟨c,rfl,q1⟩:=q1;cases r1;refine wpAny_truthy_bool ?_;cases c with
 |true=>exact hb pins s1 σ H1 Q I1 q1
 |false=>exact⟨.bl false,H1,I1,rfl,q1⟩
noncomputable def tIf (t:TT) (ta tb:TE):TE:=fun σ H Q=>t σ H fun c H1=>if c=true then ta σ H1 Q else tb σ H1 Q
theorem zpG{c:Expr}(hc:PT X c tA) (ha:PE X a ta) (hb:PE X b tb):PE X (.IfExp c a b pos) (tIf tA ta tb):=by
 intro pins s σ H Q I h;refine wpAny_IfExp (thn (hc pins s σ H _ I h) fun d s1 ⟨H1,I1,q1⟩=>?_);cases d with
 |true=>exact ha pins s1 σ H1 Q I1 q1
 |false=>exact hb pins s1 σ H1 Q I1 q1
end
noncomputable def SqL (K:PySem.W.Frag) (H:Hp) (a:Addr) (xs:List V):Prop:=
 Rd H a (.lst xs)∨
  ∃(o:Obj) (its:Array Value) (n:Nat),K.lookup a=some o∧o.cls= .type "list" ∧o.dict=none∧o.data= .seq its n∧its.size≤sizeLine∧Vals xs its.toList
noncomputable def SqT (K:PySem.W.Frag) (H:Hp) (a:Addr) (xs:List V):Prop:=
 Rd H a (.tup xs)∨
  ∃(o:Obj) (its:Array Value) (n:Nat),K.lookup a=some o∧o.cls= .type "tuple" ∧o.data= .seq its n∧its.size≤sizeLine∧Vals xs its.toList
noncomputable def zwV:Value→Option V
 | .none=>some .non
 | .bool b=>some (.bl b)
 | .int i _=>some (.int i)
 | .str x _=>some (.str x)
 | .bytes b _=>some (.byt b)
 | .float b _=>some (.flt b)
 | .ref a=>some (.ref a)
 | .type n=>some (.ty n)
 |_=>none
theorem RelV.abs{x:V}{u:Value}(r:RelV x u):zwV u=some x:=by
 cases x with
 |non=>cases r;rfl
 |bl _=>cases r;rfl
 |int _=>obtain⟨t,rfl⟩:=r;rfl
 |str _=>obtain⟨t,rfl⟩:=r;rfl
 |byt _=>obtain⟨t,rfl⟩:=r;rfl
 |flt _=>obtain⟨t,rfl⟩:=r;rfl
 |ref _=>cases r;rfl
 |ty _=>cases r;rfl
theorem RelV.inj{x y:V}{u:Value}(r:RelV x u) (q:RelV y u):x=y:=Option.some.inj (r.abs.symm.trans q.abs)
theorem Vals.inj:∀{xs ys:List V}{us:List Value},Vals xs us→Vals ys us→xs=ys
 |_,_,_, .nil, .nil=>rfl
 |_,_,_, .cons r t, .cons r' t'=>by rw [r.inj r',Vals.inj t t']
section
variable {X:Cx}{pins:List (Addr×Obj)}{σ:St}{H:Hp}{s:Shared}{a:Addr}{xs ys:List V}
theorem SqL.of{K:PySem.W.Frag}(h:H a=some (.lst xs)):SqL K H a xs:= .inl (.inl h)
theorem SqT.of{K:PySem.W.Frag}(h:H a=some (.tup xs)):SqT K H a xs:= .inl (.inl h)
theorem Inv.list (I:Inv X pins σ H s) (h:SqL X.K H a xs):∃its:List Value,Vals xs its∧PlainL s.heap a its.toArray∧xs.length≤sizeLine:=by
 rcases h with h |⟨o,its,n,hk,hc,hd,hs,hz,r⟩
 ·obtain⟨z,its,n,r,e⟩:=h.ok I.hok;exact⟨its,r,⟨_,n,e,rfl,rfl,rfl⟩,z⟩
 ·refine⟨its.toList,r,⟨o,n,I.kIn a o hk,hc,hd,by simpa using hs⟩,?_⟩
  have e:=r.length;simp only[Array.length_toList]at e;omega
theorem Inv.tuple (I:Inv X pins σ H s) (h:SqT X.K H a xs):∃its:List Value,Vals xs its∧IsTup s.heap a its.toArray∧xs.length≤sizeLine:=by
 rcases h with h |⟨o,its,n,hk,hc,hs,hz,r⟩
 ·obtain⟨z,its,r,p⟩:=h.ok I.hok;exact⟨its,r,p,z⟩
 ·refine⟨its.toList,r,⟨o,I.kIn a o hk,hc,n,by simpa using hs⟩,?_⟩
  have e:=r.length;simp only[Array.length_toList]at e;omega
theorem Inv.list_inj (I:Inv X pins σ H s) (h:SqL X.K H a xs) (h':SqL X.K H a ys):xs=ys:=by
 obtain⟨its,r,⟨o,n,e,_,_,d⟩,_⟩:=I.list h;obtain⟨its',r',⟨o',n',e',_,_,d'⟩,_⟩:=I.list h';rw [e]at e';cases e';rw [d]at d';injection d' with d1 _;have:its=its':=by simpa using congrArg Array.toList d1
 subst this;exact r.inj r'
theorem Inv.tuple_inj (I:Inv X pins σ H s) (h:SqT X.K H a xs) (h':SqT X.K H a ys):xs=ys:=by
 obtain⟨its,r,⟨o,e,_,n,d⟩,_⟩:=I.tuple h;obtain⟨its',r',⟨o',e',_,n',d'⟩,_⟩:=I.tuple h';rw [e]at e';cases e';rw [d]at d';injection d' with d1 _;have:its=its':=by simpa using congrArg Array.toList d1
 subst this;exact r.inj r'
end
noncomputable abbrev Cx.wish (X:Cx) (E:Value→Shared→Prop):Cx:={ X with xe:=E }
noncomputable abbrev Cx.nox (X:Cx):Cx:=X.wish fun _ _=>False
theorem Cx.Ok.wish{X:Cx}(ok:X.Ok) (E:Value→Shared→Prop):(X.wish E).Ok:=
 ⟨ok.mod,ok.kind,ok.glob,ok.blt,ok.above,ok.inj,ok.has,ok.cab,ok.hd,ok.frames,ok.stk,ok.exf,ok.bs,ok.bsz,ok.noex,ok.exfs,ok.funs,ok.frf⟩
theorem Cx.Ok.unwish{X:Cx}{E:Value→Shared→Prop}(ok:(X.wish E).Ok):X.Ok:=
 ⟨ok.mod,ok.kind,ok.glob,ok.blt,ok.above,ok.inj,ok.has,ok.cab,ok.hd,ok.frames,ok.stk,ok.exf,ok.bs,ok.bsz,ok.noex,ok.exfs,ok.funs,ok.frf⟩
section
variable {X:Cx}{pins:List (Addr×Obj)}{σ:St}{H:Hp}{s:Shared}{E:Value→Shared→Prop}
theorem Inv.wish (I:Inv X pins σ H s) (E:Value→Shared→Prop):Inv (X.wish E) pins σ H s:=⟨I.ok.wish E,I.os,I.bare,I.base,I.loc,I.cell,I.free,I.freeC,I.pin,I.hok,I.len⟩
theorem Inv.unwish (I:Inv (X.wish E) pins σ H s):Inv X pins σ H s:=⟨I.ok.unwish,I.os,I.bare,I.base,I.loc,I.cell,I.free,I.freeC,I.pin,I.hok,I.len⟩
theorem SP.unwish{D:Ends}{f:Flow}{s':Shared}(h:SP (X.wish E) pins D f s'):SP X pins D f s':=by
 cases f with
 |next=>obtain⟨σ',H',I,q⟩:=h;exact⟨σ',H',I.unwish,q⟩
 |brk=>obtain⟨σ',H',I,q⟩:=h;exact⟨σ',H',I.unwish,q⟩
 |cont=>obtain⟨σ',H',I,q⟩:=h;exact⟨σ',H',I.unwish,q⟩
 |ret u=>obtain⟨v,σ',H',I,r,q⟩:=h;exact⟨v,σ',H',I.unwish,r,q⟩
theorem PSs.nox{st:List Stmt}{t:TS}(h:PSs X.nox st t):PSs X st t:=fun pins s σ H D I hw=>
 wpAny_mono (h pins s σ H D (I.wish _) hw) (fun _ _ q=>q.unwish) fun _ _ z=>False.elim z
end
section
variable {X:Cx}{st:Stmt}{rest:List Stmt}{t u:TS}{e:Expr}{te:TE}{pos:Pos}
noncomputable def zvD:TS:=fun D σ H=>D.nx σ H
noncomputable def zxu (t u:TS):TS:=fun D σ H=>t { D with nx:=u D } σ H
theorem pss_nil:PSs X [] zvD:=fun _ _ σ H _ I h=>wpAny_execs_nil ⟨σ,H,I,h⟩
theorem zpe (h1:PS X st t) (h2:PSs X rest u):PSs X (st::rest) (zxu t u):=by
 intro pins s σ H D I h;refine wpAny_execs_cons (thn (h1 pins s σ H { D with nx:=u D } I h) fun f s1 q=>?_);cases f with
 |next=>
  obtain⟨σ',H',I',q⟩:=q;exact h2 pins s1 σ' H' D I' q
 |ret v=>exact q
 |brk=>exact q
 |cont=>exact q
theorem zqH (h1:PS X st t):PSs X [st] t:=by
 intro pins s σ H D I h;refine wpAny_execs_cons (thn (h1 pins s σ H D I h) fun f s1 q=>?_);cases f with
 |next=>exact wpAny_execs_nil q
 |ret v=>exact q
 |brk=>exact q
 |cont=>exact q
theorem Inv.quiet{pins:List (Addr×Obj)}{σ:St}{H:Hp}{s:Shared}(I:Inv X pins σ H s):interactive X.env=false:=by simp [interactive,I.ok.kind]
noncomputable def zwn (te:TE):TS:=fun D σ H=>te σ H fun _ H1=>D.nx σ H1
theorem zsq (he:PE X e te) (hs:swapsWith e none pos.line X.env=pure false:=by rfl):PS X (.Expr e pos) (zwn te):=by
 intro pins s σ H D I h;exact wpAny_Expr_any (thn (he pins s σ H _ I h) fun v s1 ⟨x,H1,I1,r1,q1⟩=>⟨σ,H1,I1,q1⟩) I.quiet hs
noncomputable def zwW (te:TE):TS:=fun D σ H=>te σ H D.rt
theorem zti (he:PE X e te):PS X (.Return (some e) pos) (zwW te):=by
 intro pins s σ H D I h;exact wpAny_Return_some (thn (he pins s σ H _ I h) fun v s1 ⟨x,H1,I1,r1,q1⟩=>⟨x,σ,H1,I1,r1,q1⟩)
noncomputable def zxm (c:TT) (t u:TS):TS:=fun D σ H=>c σ H fun b H1=>if b=true then t D σ H1 else u D σ H1
theorem zvE{c:Expr}{a b:List Stmt}{tc:TT}(hc:PT X c tc) (ha:PSs X a t) (hb:PSs X b u):PS X (.If c a b pos) (zxm tc t u):=by
 intro pins s σ H D I h;refine wpAny_If (thn (hc pins s σ H _ I h) fun d s1 ⟨H1,I1,q1⟩=>?_);cases d with
 |true=>exact ha pins s1 σ H1 D I1 q1
 |false=>exact hb pins s1 σ H1 D I1 q1
noncomputable def zsB:TS:=fun _ _ _=>False
theorem ps_never:PS X st zsB:=fun _ _ _ _ _ _ h=>h.elim
end
noncomputable abbrev TG:=V→St→Hp→(St→Hp→Prop)→Prop
noncomputable abbrev TGs:=List V→St→Hp→(St→Hp→Prop)→Prop
noncomputable def PG (X:Cx) (target:Expr) (t:TG):Prop:=
 ∀(pins:List (Addr×Obj)) (s:Shared) (σ:St) (H:Hp) (v:V) (u:Value) (Q:St→Hp→Prop),Inv X pins σ H s→RelV v u→t v σ H Q→
  wpAny (model X.prog X.w) X.A (assign target X.env u) (fun _ s'=>∃σ' H',Inv X pins σ' H' s'∧Q σ' H') X.xe s
noncomputable def PGs (X:Cx) (ts:List Expr) (t:TGs):Prop:=
 ∀(pins:List (Addr×Obj)) (s:Shared) (σ:St) (H:Hp) (vs:List V) (us:List Value) (Q:St→Hp→Prop),Inv X pins σ H s→Vals vs us→t vs σ H Q→
  wpAny (model X.prog X.w) X.A (assignInOrder ((assignEach ts X.env).map (·.2)) us) (fun _ s'=>∃σ' H',Inv X pins σ' H' s'∧Q σ' H') X.xe s
noncomputable abbrev TIp:=V→V→Hp→VK→Prop
noncomputable def PIp (X:Cx) (op:Operator) (t:TIp):Prop:=
 ∀(pins:List (Addr×Obj)) (s:Shared) (σ:St) (H:Hp) (x y:V) (v u:Value) (Q:VK),Inv X pins σ H s→RelV x v→RelV y u→t x y H Q→
  wpAny (model X.prog X.w) X.A (inplaceOp op v u) (EP X pins σ Q) X.xe s
section
variable {X:Cx}{pos:Pos}
noncomputable def zrW (i:Nat):TG:=fun v σ H Q=>Q (σ.set i (some v)) H
theorem zrR{i:Nat}{x:Str}(hN:X.N.Nodup) (hi:X.N[i]? =some x) (hx:Loc X.env.scope x) (hf:X.fn x=true∨X.env.scope.names.lookup x=some .local:=by first |exact .inl rfl |exact .inr rfl |assumption):PG X (.Name x pos) (zrW i):=by
 intro pins s σ H v u Q I r h;exact wpAny_assign_Name (zhc I hN hi hx r (fun s' I'=>⟨_,H,I',h⟩) hf)
noncomputable def zwS:TGs:=fun vs σ H Q=>vs=[]∧Q σ H
noncomputable def zvI (t:TG) (u:TGs):TGs:=fun vs σ H Q=>∃v r,vs=v::r∧t v σ H fun σ' H'=>u r σ' H' Q
theorem zqG:PGs X [] zwS:=by
 intro pins s σ H vs us Q I r h;obtain⟨e,h⟩:=h;subst e;cases r;exact assignInOrder_nil ⟨σ,H,I,h⟩
theorem zoH{e:Expr}{es:List Expr}{t:TG}{u:TGs}(h1:PG X e t) (h2:PGs X es u)
  (hs:(assignEach (e::es) X.env).map (·.2)=assign e X.env::(assignEach es X.env).map (·.2):=by rfl):PGs X (e::es) (zvI t u):=by
 intro pins s σ H vs us Q I r h;obtain⟨v,vr,e1,h⟩:=h;subst e1;cases r with
 |cons r rr=>
  rw [hs];refine assignInOrder_cons (thn (h1 pins s σ H _ _ _ I r h) fun _ s1 ⟨σ1,H1,I1,q1⟩=>?_);exact h2 pins s1 σ1 H1 _ _ Q I1 rr q1
noncomputable def zxl (K:PySem.W.Frag) (n:Nat) (t:TGs):TG:=fun v σ H Q=>∃a xs,v= .ref a∧SqT K H a xs∧xs.length=n∧t xs σ H Q
theorem ztc{es:List Expr}{k:Nat}{t:TGs}{n:Nat}(hc:X.calm=true) (h:PGs X es t)
  (hn:(assignEach es X.env).length=n:=by rfl) (hst:(assignEach es X.env).findIdx? (·.1)=none:=by rfl):PG X (.Tuple es k pos) (zxl X.K n t):=by
 intro pins s σ H v u Q I r hw;obtain⟨a,xs,e1,hq,hl,hw⟩:=hw;subst e1;cases r;obtain⟨its,rv,ht,hz⟩:=I.tuple hq;refine assign_Tuple_tuple (I.ok.hd hc) ht (by simp [hn,←hl,rv.length]) hst fun h' hx=>?_;have I1:Inv X pins σ H { s with heap:=h' }:=I.kept (t':=s.toks) fun b o e=>hx b o (Nat.ne_of_lt (Heap.lt_size e)) e;exact h pins _ σ H xs _ Q I1 (by simpa using rv) hw
noncomputable def zwv (te:TE) (g:TG):TS:=fun D σ H=>te σ H fun x H1=>g x σ H1 D.nx
theorem ztV{tg e:Expr}{te:TE}{g:TG}(he:PE X e te) (hg:PG X tg g) (hs:swapsWithSole [tg] e pos.line X.env=pure false:=by rfl) (hw:swappedStores [tg] e X.env=pure none:=by rfl)
  (h1:(assignEach [tg] X.env).map (·.2)=[assign tg X.env]:=by rfl):PS X (.Assign [tg] e pos) (zwv te g):=by
 intro pins s σ H D I h;refine wpAny_Assign_stores (thn (he pins s σ H _ I h) fun v s1 ⟨x,H1,I1,r1,q1⟩=>?_) hs hw;rw [h1];exact thn (hg pins s1 σ H1 x v _ I1 r1 q1) fun _ s2 q=>q
theorem zuu{i:Nat}{x:Str}{e:Expr}{te:TE}{pos':Pos}(hN:X.N.Nodup) (hi:X.N[i]? =some x) (hx:Loc X.env.scope x) (he:PE X e te) (hs:swapsWith e (some (.Name x pos')) pos.line X.env=pure false:=by rfl) (hf:X.fn x=true∨X.env.scope.names.lookup x=some .local:=by first |exact .inl rfl |exact .inr rfl |assumption) :
  PS X (.Assign [.Name x pos'] e pos) (zwv te (zrW i)):=by
 intro pins s σ H D I h;refine wpAny_Assign_Name (thn (he pins s σ H _ I h) fun v s1 ⟨y,H1,I1,r1,q1⟩=>?_) hs;exact zhc I1 hN hi hx r1 (fun s2 I2=>⟨_,H1,I2,q1⟩) hf
noncomputable def zxe (i:Nat) (te:TE) (ti:TIp):TS:=fun D σ H=>∃x,σ[i]? =some (some x)∧te σ H fun y H1=>ti x y H1 fun z H2=>D.nx (σ.set i (some z)) H2
theorem zuz{i:Nat}{x:Str}{e:Expr}{te:TE}{op:Operator}{ti:TIp}{pos':Pos}(hN:X.N.Nodup) (hi:X.N[i]? =some x) (hx:Loc X.env.scope x) (he:PE X e te) (ho:PIp X op ti) (hf:X.fn x=true∨X.env.scope.names.lookup x=some .local:=by first |exact .inl rfl |exact .inr rfl |assumption) :
  PS X (.AugAssign (.Name x pos') op e pos) (zxe i te ti):=by
 intro pins s σ H D I h;obtain⟨v,e1,h⟩:=h;obtain⟨m,hn,hl⟩:=I.loc;have vis:Vis X.env.scope x:=by rcases hx with k |k;exact .inl k;exact .inr (.inl k)
 obtain⟨u,r,l⟩:=hl i x v hi e1 vis;refine wpAny_AugAssign_Name ?_;have go:wpAny (model X.prog X.w) X.A (eval e X.env) (fun w s₂=>wpAny (model X.prog X.w) X.A (inplaceOp op u w) (fun r s₃=>wpAny (model X.prog X.w) X.A (storeName X.env x r) (fun _=>SP X pins D .next) X.xe s₃) X.xe s₂) X.xe s:=by
  refine thn (he pins s σ H _ I h) fun w s1 ⟨y,H1,I1,r1,q1⟩=>?_;refine thn (ho pins s1 σ H1 v y u w _ I1 r r1 q1) fun z s2 ⟨zv,H2,I2,r2,q2⟩=>?_;exact zhc I2 hN hi hx r2 (fun s3 I3=>⟨_,H2,I3,q2⟩) hf
 rcases l with⟨hk,hm⟩ |⟨hk,c,hc,hcell⟩
 ·exact wpAny_loadName_local I.ok.kind hk hn hm go
 ·rcases hk with hk |hk
  ·exact wpAny_loadName_cell I.ok.kind hk hc hcell go
  ·rcases hx with k |k
   ·have:X.env.scope.names.lookup x=some .free:=hk;rw [k]at this;cases this
   ·have:X.env.scope.names.lookup x=some .free:=hk;rw [k]at this;cases this
noncomputable def ipI (f:Int→Int→Int):TIp:=fun x y H Q=>∃i j,x= .int i∧y= .int j∧Q (.int (f i j)) H
theorem ztw:PIp X .Add (ipI fun i j=>i+j):=by
 intro pins s σ H x y v u Q I r1 r2 h;obtain⟨i,j,e1,e2,q⟩:=h;subst e1;subst e2;obtain⟨t,rfl⟩:=r1;obtain⟨t',rfl⟩:=r2;exact iadd_int ⟨.int _,H,I.tok _,⟨_,rfl⟩,q⟩
end
section
variable {X:Cx}{pos:Pos}
noncomputable def zto (c:TT) (tb:TS):TS:=fun D σ H=>∃W:Nat→St→Hp→Prop,(∃m,W m σ H)∧ ∀m σ H,W m σ H→
 c σ H fun b H1=>if b=true then ∃N:St→Hp→Prop,(∀σ' H',N σ' H'→ ∃m',m'<m∧W m' σ' H')∧tb { D with nx:=N,ct:=N,bk:=D.nx } σ H1 else D.nx σ H1
theorem zpv{c:Expr}{body:List Stmt}{tc:TT}{tb:TS}(hp:PassesOwn (model X.prog X.w) X.A X.env X.xe) (hc:PT X c tc) (hb:PSs X body tb):PS X (.While c body [] pos) (zto tc tb):=by
 intro pins s σ H D I h;obtain⟨W,⟨m0,w0⟩,turn⟩:=h;refine wpAny_While (codeAny_whileLoop (fun n s'=>∃σ' H',Inv X pins σ' H' s'∧W n σ' H') ?_ m0 ⟨σ,H,I,w0⟩);rintro n s1 ⟨σ1,H1,I1,w1⟩;refine wpAny_passesOwn hp (thn (hc pins s1 σ1 H1 _ I1 (turn n σ1 H1 w1)) fun b s2 ⟨H2,I2,q2⟩=>?_);cases b with
 |true=>
  obtain⟨N,hN,q2⟩:=q2;rw [if_pos rfl];refine wpAny_passesOwn hp (thn (hb pins s2 σ1 H2 _ I2 q2) fun f s3 q3=>?_);cases f with
  |next=>
   obtain⟨σ3,H3,I3,n3⟩:=q3;obtain⟨m',hm,w3⟩:=hN σ3 H3 n3;exact⟨m',hm,σ3,H3,I3,w3⟩
  |cont=>
   obtain⟨σ3,H3,I3,n3⟩:=q3;obtain⟨m',hm,w3⟩:=hN σ3 H3 n3;exact⟨m',hm,σ3,H3,I3,w3⟩
  |brk=>exact q3
  |ret v=>exact q3
 |false=>
  rw [if_neg Bool.false_ne_true];exact wpAny_execs_nil ⟨σ1,H2,I2,q2⟩
end
structure It where
  go:Nat→Hp→Prop
  yld:Nat→Hp→V→Hp→Prop
  stop:Nat→Hp→Prop
noncomputable def zhr (X:Cx) (pins:List (Addr×Obj)) (H:Hp) (b:Addr):Prop:=
 H b=none∧b≠X.env.locals∧b∉X.fs∧(b∈X.ex∨X.s₀.heap.objs.size≤b)∧(∀x c,X.env.cells.lookup x=some c→c≠b)∧ ∀p∈X.pn++pins,p.1≠b
theorem Inv.fpOk{X:Cx}{pins:List (Addr×Obj)}{σ:St}{H H':Hp}{s:Shared}{b:Addr}(I:Inv X pins σ H s) (hb:s.heap.objs.size≤b) (hn:H' b=none):zhr X pins H' b:=by
 refine⟨hn,Nat.ne_of_gt (Nat.lt_of_lt_of_le I.lt hb),I.nofs hb, .inr (Nat.le_trans I.sz hb),fun x c e z=>?_,fun p hp z=>?_⟩
 ·obtain⟨v,q⟩:=I.cell x c e;exact absurd (Nat.lt_of_lt_of_le q.lt (by rw [z];exact hb)) (Nat.lt_irrefl _)
 ·exact absurd (Nat.lt_of_lt_of_le (Heap.lt_size (I.pin p hp).1) (by rw [z];exact hb)) (Nat.lt_irrefl _)
structure Turn (P:Program) (w:World) (K:PySem.W.Frag) (tg:Expr) (J:It) (fp:List Addr) (it:Addr) (tn:Nat→Heap→Prop):Prop where
  mem:it∈fp
  obj:∀i h,tn i h→ ∀b∈fp,∃o,h.get? b=some o∧ ∀v,o.data≠ .cell v
  keep:∀i h h',tn i h→(∀b∈fp,∀o,h.get? b=some o→h'.get? b=some o)→tn i h'
  item:∀(X:Cx),X.prog=P→X.w=w→X.K=K→X.calm=true→ ∀(i:Nat) (pins:List (Addr×Obj)) (s:Shared) (σ:St) (H:Hp) (E:Value→Shared→Prop),Inv X pins σ H s→(∀b∈fp,zhr X pins H b)→tn i s.heap→J.go i H→
    wpAny (model P w) X.A (pyNext (.ref it)) (fun r s1=>∃u,r=some u∧
      wpAny (model P w) X.A (letOwnedTupleGo tg (.ref it) u) (fun _ s2=>∃x H',Inv X pins σ H' s2∧RelV x u∧J.yld i H x H'∧tn (i+1) s2.heap∧ ∀b∈fp,H' b=none) E s1) E s
  done:∀(X:Cx),X.prog=P→X.w=w→X.K=K→X.calm=true→ ∀(i:Nat) (pins:List (Addr×Obj)) (s:Shared) (σ:St) (H:Hp) (E:Value→Shared→Prop),Inv X pins σ H s→(∀b∈fp,zhr X pins H b)→tn i s.heap→J.stop i H→
    wpAny (model P w) X.A (pyNext (.ref it)) (fun r s1=>r=none∧Inv X pins σ H s1) E s
  self:∀(A:Around) (i:Nat) (s:Shared) (Q:Value→Shared→Prop) (E:Value→Shared→Prop),tn i s.heap→Q (.ref it) s→wpAny (model P w) A (pyIter (.ref it)) Q E s
noncomputable abbrev TI:=St→Hp→(It→Hp→Prop)→Prop
noncomputable def PIE (X:Cx) (pins:List (Addr×Obj)) (σ:St) (tg:Expr) (R:It→Hp→Prop) (itv:Value) (s2:Shared):Prop:=
 ∃(it:Addr) (fp:List Addr) (tn:Nat→Heap→Prop) (J:It) (H':Hp),itv= .ref it∧Inv X pins σ H' s2∧Turn X.prog X.w X.K tg J fp it tn∧tn 0 s2.heap∧(∀b∈fp,zhr X pins H' b)∧R J H'
noncomputable def PI (X:Cx) (tg iter:Expr) (wi:TI):Prop:=
 ∀(pins:List (Addr×Obj)) (s:Shared) (σ:St) (H:Hp) (R:It→Hp→Prop),Inv X pins σ H s→wi σ H R→
  wpAny (model X.prog X.w) X.A (eval iter X.env) (fun v s1=>wpAny (model X.prog X.w) X.A (pyIter v) (PIE X pins σ tg R) X.xe s1) X.xe s
theorem zpy{M:Model}{A:Around}{E:Value→Shared→Prop}{s:Shared}{tg:Expr}{it:Addr}{u:Value}{o:Obj}{n:String}{vs:Array Value}{Q:Unit→Shared→Prop}(ho:s.heap.get? it=some o) (hc:o.cls= .type n) (hd:o.data= .fields vs)
    (hn: ["enumerate", "zip", "dict_itemiterator", "dict_reverseitemiterator", "odict_iterator", "itertools.zip_longest", "itertools.pairwise"].contains n=false) (hQ:Q () s):wpAny M A (letOwnedTupleGo tg (.ref it) u) Q E s:=by
  unfold letOwnedTupleGo;cases tg<;>first
    |exact wpAny_pure hQ
    | (cases u<;>first
        |exact wpAny_pure hQ
        | (refine wpAny_bind (wpAny_load ho ?_)
           rw [hc,hd];show wpAny M A (if(["enumerate", "zip", "dict_itemiterator", "dict_reverseitemiterator", "odict_iterator", "itertools.zip_longest", "itertools.pairwise"].contains n&&vs[0]? == some (rawInt _))=true then _ else _) Q E s;rw [if_neg (by intro h;rw [hn,Bool.false_and]at h;cases h)];exact wpAny_pure hQ))
noncomputable def Itl (K:PySem.W.Frag) (a:Addr):It:=
 ⟨fun i H=>∃xs x,SqL K H a xs∧xs[i]? =some x,fun i H x H'=>H'=H∧ ∀xs,SqL K H a xs→xs[i]? =some x,fun i H=>∃xs,SqL K H a xs∧xs.length≤i⟩
noncomputable def Itt (K:PySem.W.Frag) (a:Addr):It:=
 ⟨fun i H=>∃xs x,SqT K H a xs∧xs[i]? =some x,fun i H x H'=>H'=H∧ ∀xs,SqT K H a xs→xs[i]? =some x,fun i H=>∃xs,SqT K H a xs∧xs.length≤i⟩
noncomputable def Itr (lo:Int) (n:Nat):It:=⟨fun i _=>i<n,fun i H x H'=>H'=H∧x= .int (lo+i),fun i _=>n≤i⟩
theorem zmB{P:Program}{w:World}{K:PySem.W.Frag}{tg:Expr}(a it:Addr):Turn P w K tg (Itl K a) [it] it (fun i h=>h.IsListIter it a i) where
  mem:=by simp
  obj:=fun i h st b hb=>by
    have e:b=it:=by simpa using hb
    subst e;obtain⟨o,e,c,d⟩:=st;exact⟨o,e,fun v z=>by rw [d]at z;cases z⟩
  keep:=fun i h h' st k=>st.at fun o e=>k it (by simp) o e
  item:=by
    intro X hP hw hK hc i pins s σ H E I hf st hg;subst hP hw hK;obtain⟨xs,x,hq,hx⟩:=hg;obtain⟨its,rv,p,hz⟩:=I.list hq;obtain⟨u,hu,ru⟩:=rv.get hx;obtain⟨f0,f1,f2,f3,f4,f5⟩:=hf it (by simp);refine wpAny_pyNext_list_item st p.isList (x:=u) (by simpa using hu) fun h' st' sb=>?_;have I1:Inv X pins σ H { s with heap:=h' }:=I.turned (t':=s.toks) (fun b o hb e=>(sb.2 b hb).trans e) f0 f1 f3 f4 f5;obtain⟨o,e,c,d⟩:=id st';exact⟨u,rfl,zpy (s:={ s with heap:=h' }) e c d (by decide) ⟨x,H,I1,ru,⟨rfl,fun ys hy=>by rw [I.list_inj hy hq];exact hx⟩,st',fun b hb=>(hf b hb).1⟩⟩
  done:=by
    intro X hP hw hK hc i pins s σ H E I hf st hg;subst hP hw hK;obtain⟨xs,hq,hx⟩:=hg;obtain⟨its,rv,p,hz⟩:=I.list hq;obtain⟨f0,f1,f2,f3,f4,f5⟩:=hf it (by simp);have hl:=rv.length;exact wpAny_pyNext_list_end (I.ok.hd hc) st p.isList (by simp;omega) fun h' eb=>⟨rfl,I.turned (t':=s.toks) (fun b o hb e=>eb b o hb e) f0 f1 f3 f4 f5⟩
  self:=fun _ _ _ _ _ st h=>wpAny_pyIter_listiter st h
theorem zlb{P:Program}{w:World}{K:PySem.W.Frag}{tg:Expr}(a it:Addr):Turn P w K tg (Itt K a) [it] it (fun i h=>h.IsTupleIter it a i) where
  mem:=by simp
  obj:=fun i h st b hb=>by
    have e:b=it:=by simpa using hb
    subst e;obtain⟨o,e,c,d⟩:=st;exact⟨o,e,fun v z=>by rw [d]at z;cases z⟩
  keep:=fun i h h' st k=>st.at fun o e=>k it (by simp) o e
  item:=by
    intro X hP hw hK hc i pins s σ H E I hf st hg;subst hP hw hK;obtain⟨xs,x,hq,hx⟩:=hg;obtain⟨its,rv,p,hz⟩:=I.tuple hq;obtain⟨u,hu,ru⟩:=rv.get hx;obtain⟨f0,f1,f2,f3,f4,f5⟩:=hf it (by simp);refine wpAny_pyNext_tuple_item st (show s.heap.IsTuple a its.toArray from p) (x:=u) (by simpa using hu) fun h' st' sb=>?_;have I1:Inv X pins σ H { s with heap:=h' }:=I.turned (t':=s.toks) (fun b o hb e=>(sb.2 b hb).trans e) f0 f1 f3 f4 f5;obtain⟨o,e,c,d⟩:=id st';exact⟨u,rfl,zpy (s:={ s with heap:=h' }) e c d (by decide) ⟨x,H,I1,ru,⟨rfl,fun ys hy=>by rw [I.tuple_inj hy hq];exact hx⟩,st',fun b hb=>(hf b hb).1⟩⟩
  done:=by
    intro X hP hw hK hc i pins s σ H E I hf st hg;subst hP hw hK;obtain⟨xs,hq,hx⟩:=hg;obtain⟨its,rv,p,hz⟩:=I.tuple hq;obtain⟨f0,f1,f2,f3,f4,f5⟩:=hf it (by simp);have hl:=rv.length;exact wpAny_pyNext_tuple_end (I.ok.hd hc) st (show s.heap.IsTuple a its.toArray from p) (by simp;omega) fun h' eb=>⟨rfl,I.turned (t':=s.toks) (fun b o hb e=>eb b o hb e) f0 f1 f3 f4 f5⟩
  self:=fun _ _ _ _ _ st h=>wpAny_pyIter_tupleiter st h
theorem zlw{P:Program}{w:World}{K:PySem.W.Frag}{tg:Expr}(it:Addr) (lo:Int) (n:Nat):Turn P w K tg (Itr lo n) [it] it (fun i h=>IsRangeIter h it (lo+(i:Nat)*1) ((n:Int) - (i:Nat)) 1) where
  mem:=by simp
  obj:=fun i h st b hb=>by
    have e:b=it:=by simpa using hb
    subst e;exact⟨_,st,fun v z=>by
      have z':Data.fields _=Data.cell v:=z;cases z'⟩
  keep:=fun i h h' st k=>k it (by simp) _ st
  item:=by
    intro X hP hw hK hc i pins s σ H E I hf st hg;subst hP hw hK;obtain⟨f0,f1,f2,f3,f4,f5⟩:=hf it (by simp);have W:=Walks.range (prog:=X.prog) (w:=X.w) (I.ok.hd hc) it lo 1 n;refine W.item i s _ _ hg st fun v h' tk hv st' kk=>?_;obtain⟨t,rfl⟩:=hv;have I1:Inv X pins σ H { s with heap:=h',toks:=tk }:=I.turned (fun b o hb e=>kk b o (by simpa using hb) e) f0 f1 f3 f4 f5;refine⟨_,rfl,zpy (s:={ s with heap:=h',toks:=tk }) (n:= "range_iterator") st' rfl rfl (by decide) ⟨.int (lo+i),H,I1,⟨t,?_⟩,⟨rfl,rfl⟩,st',fun b hb=>(hf b hb).1⟩⟩;rw [Int.mul_one]
  done:=by
    intro X hP hw hK hc i pins s σ H E I hf st hg;subst hP hw hK;obtain⟨f0,f1,f2,f3,f4,f5⟩:=hf it (by simp);exact wpAny_pyNext_range_end (I.ok.hd hc) st (by have:n≤i:=hg;omega) fun h' eb=>⟨rfl,I.turned (t':=s.toks) (fun b o hb e=>eb b o hb e) f0 f1 f3 f4 f5⟩
  self:=fun _ _ _ _ _ st h=>wpAny_pyIter_rangeiter st h
section
variable {X:Cx}{tg:Expr}
theorem zpl{pins:List (Addr×Obj)}{σ:St}{H:Hp}{s:Shared}{R:It→Hp→Prop}{E:Value→Shared→Prop}{lo hi:Int}{t u v:Tok}{tk:Nat}(I:Inv X pins σ H s) (h1: -(2 ^ 62)≤lo) (h2:lo<2 ^ 62) (h3: -(2 ^ 62)≤hi) (h4:hi<2 ^ 62)
  (q:R (Itr lo (hi - lo).toNat) H):wpAny (model X.prog X.w) X.A (pyIter (.ref s.heap.objs.size)) (PIE X pins σ tg R) E { s with heap:=s.heap.push { cls:= .type "range",data:= .fields #[.int lo t, .int hi u, .int 1 v] },toks:=tk }:=by
 refine wpAny_pyIter_range (IsRange.new ..) (small_one h1 h2 h3 h4) ?_;have I1:Inv X pins σ H { s with heap:=s.heap.push { cls:= .type "range",data:= .fields #[.int lo t, .int hi u, .int 1 v] },toks:=tk }:=I.kept fun b o e=>Heap.get?_push_of_some _ e;refine⟨(s.heap.push { cls:= .type "range",data:= .fields #[.int lo t, .int hi u, .int 1 v] }).objs.size,[(s.heap.push { cls:= .type "range",data:= .fields #[.int lo t, .int hi u, .int 1 v] }).objs.size],_,_,H,rfl,
  I1.kept (t':=tk) fun b o e=>Heap.get?_push_of_some _ e,zlw _ lo (hi - lo).toNat,?_,fun b hb=>?_,q⟩
 ·have e1:lo+((0:Nat):Int)*1=lo:=by simp
  have e2:(((hi - lo).toNat:Nat):Int) - ((0:Nat):Int)=Builtin.Range.rangeSize lo hi 1:=by rw [rangeSize_one];split<;>omega
  show IsRangeIter _ _ (lo+((0:Nat):Int)*1) ((((hi - lo).toNat:Nat):Int) - ((0:Nat):Int)) 1;rw [e1,e2];exact Heap.get?_push_size _ rfl
 ·have e:b=(s.heap.push { cls:= .type "range",data:= .fields #[.int lo t, .int hi u, .int 1 v] }).objs.size:=by simpa using hb
  subst e;exact I1.fpOk (Nat.le_refl _) (I1.hok.fresh (Nat.le_refl _))
noncomputable def zwB (ta:TA):TI:=fun σ H R=>ta σ H fun vs H1=>∃j:Int,vs=[.int j]∧ -(2 ^ 62)≤j∧j<2 ^ 62∧R (Itr 0 j.toNat) H1
theorem zoi{a:Expr}{ta:TA}{p pos:Pos}(hg:Gl X "range") (hm:X.mg "range" =none) (ha:PA X [a] ta) (hs:starEach [a] X.env=[(false,eval a X.env)]:=by rfl):PI X tg (.Call (.Name "range" p) [a] [] pos) (zwB ta):=by
 intro pins s σ H R I h;refine Call_ (zeN I hg hm boot_range (PyProof.Rows.callWith_type1 (thn (ha pos pins s σ H _ I h) fun us s1 ⟨vs,H1,I1,r1,q1⟩=>?_) hs rfl));obtain⟨j,e,q1,q2,q⟩:=q1;subst e;cases r1 with
 |cons r rr=>
  cases rr;obtain⟨t,rfl⟩:=r;exact call_range_1 (zpl I1 (by omega) (by omega) q1 q2 (by simpa using q))
noncomputable def zxC (wi:TI) (g:TG) (tb:TS):TS:=fun D σ H=>wi σ H fun J H1=>∃W:Nat→Nat→St→Hp→Prop,(∃m,W 0 m σ H1)∧ ∀i m σ H,W i m σ H→
 (J.stop i H∧D.nx σ H)∨(J.go i H∧ ∃N:St→Hp→Prop,(∀σ' H',N σ' H'→ ∃m',m'<m∧W (i+1) m' σ' H')∧ ∀x H',J.yld i H x H'→g x σ H' fun σ2 H2=>tb { D with nx:=N,ct:=N,bk:=D.nx } σ2 H2)
noncomputable def zhW (fp:List Addr) (h:Heap):List (Addr×Obj):=fp.filterMap fun b=>(h.get? b).map fun o=>(b,o)
theorem zdD{fp:List Addr}{h:Heap}{b:Addr}{o:Obj}(hb:b∈fp) (e:h.get? b=some o):(b,o)∈zhW fp h:=List.mem_filterMap.mpr ⟨b,hb,by rw [e];rfl⟩
theorem zlS{fp:List Addr}{h:Heap}{p:Addr×Obj}(hp:p∈zhW fp h):p.1∈fp∧h.get? p.1=some p.2:=by
 obtain⟨b,hb,e⟩:=List.mem_filterMap.mp hp;cases q:h.get? b with
 |none=>rw [q]at e;cases e
 |some o=>
  rw [q]at e;have e':(b,o)=p:=Option.some.inj e;subst e';exact⟨hb,q⟩
theorem Inv.pinned{pins:List (Addr×Obj)}{σ:St}{H:Hp}{s:Shared}{fp:List Addr}(I:Inv X pins σ H s) (hf:∀b∈fp,zhr X pins H b) (ho:∀b∈fp,∃o,s.heap.get? b=some o∧ ∀v,o.data≠ .cell v):Inv X (pins++zhW fp s.heap) σ H s:=
 I.pins_of fun p hp=>(List.mem_append.mp hp).elim (fun z=>I.pin p (List.mem_append_right _ z)) fun z=>by
  obtain⟨hb,e⟩:=zlS z;obtain⟨f0,f1,f2,_⟩:=hf p.1 hb;obtain⟨o,e',d⟩:=ho p.1 hb;rw [e]at e';cases e';exact⟨e,f0,f1,f2,d⟩
theorem Inv.unpinned{pins pl:List (Addr×Obj)}{σ:St}{H:Hp}{s:Shared}(I:Inv X (pins++pl) σ H s):Inv X pins σ H s:=I.pins_of fun p hp=>I.pin p (List.mem_append_right _ (List.mem_append_left _ hp))
theorem zth{iter:Expr}{body:List Stmt}{wi:TI}{g:TG}{tb:TS}{pos:Pos}(hp:PassesOwn (model X.prog X.w) X.A X.env X.xe) (hc:X.calm=true) (hi:PI X tg iter wi) (hg:PG X tg g) (hb:PSs X body tb)
  (hs:∀x,foldedSetIterable iter X.env x=pure x:=by intro _;rfl):PS X (.For tg iter body [] pos) (zxC wi g tb):=by
 intro pins s σ H D I h;refine wpAny_For (thn (hi pins s σ H _ I h) fun v s1 h1=>thn h1 fun itv s2 h2=>?_) hs;obtain⟨it,fp,tn,J,H2,e,I2,T,st2,f2,W,⟨m0,w0⟩,turn⟩:=h2;subst e;have stat:∀{H':Hp},(∀b∈fp,H' b=none)→ ∀b∈fp,zhr X pins H' b:=fun hn b hb=>⟨hn b hb,(f2 b hb).2⟩;refine codeAny_forLoop_any (fun n s'=>∃i σ' H',Inv X pins σ' H' s'∧tn i s'.heap∧(∀b∈fp,H' b=none)∧W i n σ' H') ?_ m0 ⟨0,σ,H2,I2,st2,fun b hb=>(f2 b hb).1,w0⟩;rintro n s3 ⟨i,σ3,H3,I3,st3,fr3,w3⟩;rcases turn i n σ3 H3 w3 with⟨stop,qn⟩ |⟨go,N,hN,step⟩
 ·refine wpAny_passesOwn hp (thn (T.done X rfl rfl rfl hc i pins s3 σ3 H3 X.xe I3 (stat fr3) st3 stop) fun r s4 ⟨hr,I4⟩=>?_);subst hr;exact wpAny_execs_nil ⟨σ3,H3,I4,qn⟩
 ·refine wpAny_passesOwn hp (thn (T.item X rfl rfl rfl hc i pins s3 σ3 H3 X.xe I3 (stat fr3) st3 go) fun r s4 ⟨u,hr,h4⟩=>?_);subst hr;refine wpAny_passesOwn hp (thn h4 fun _ s5 ⟨x,H5,I5,r5,y5,st5,fr5⟩=>?_);have I5':=I5.pinned (stat fr5) (T.obj _ _ st5);refine wpAny_passesOwn hp (thn (hg _ s5 σ3 H5 x u _ I5' r5 (step x H5 y5)) fun _ s6 ⟨σ6,H6,I6,q6⟩=>?_);refine wpAny_passesOwn hp (thn (hb _ s6 σ6 H6 _ I6 q6) fun f s7 q7=>?_);have again:∀{σ7:St}{H7:Hp},Inv X (pins++zhW fp s5.heap) σ7 H7 s7→N σ7 H7→ ∃m,m<n∧ ∃i σ' H',Inv X pins σ' H' s7∧tn i s7.heap∧(∀b∈fp,H' b=none)∧W i m σ' H':=fun {σ7 H7} I7 n7=>by
   obtain⟨m',hm,w7⟩:=hN σ7 H7 n7;refine⟨m',hm,i+1,σ7,H7,I7.unpinned,T.keep _ _ _ st5 fun b hb o e=>(I7.pin (b,o) (List.mem_append_right _ (List.mem_append_right _ (zdD hb e)))).1,fun b hb=>?_,w7⟩;obtain⟨o,e,d⟩:=T.obj _ _ st5 b hb;exact(I7.pin (b,o) (List.mem_append_right _ (List.mem_append_right _ (zdD hb e)))).2.1
  cases f with
  |next=>obtain⟨σ7,H7,I7,n7⟩:=q7;exact again I7 n7
  |cont=>obtain⟨σ7,H7,I7,n7⟩:=q7;exact again I7 n7
  |brk=>obtain⟨σ7,H7,I7,q7⟩:=q7;exact⟨σ7,H7,I7.unpinned,q7⟩
  |ret v=>obtain⟨x7,σ7,H7,I7,r7,q7⟩:=q7;exact⟨x7,σ7,H7,I7.unpinned,r7,q7⟩
end
noncomputable abbrev R2:=V→V→Hp→VK→Prop
noncomputable def OpR (X:Cx) (f:Value→Value→Sem Value) (r:R2):Prop:=
 ∀(pins:List (Addr×Obj)) (s:Shared) (σ:St) (H:Hp) (x y:V) (v u:Value) (Q:VK),Inv X pins σ H s→RelV x v→RelV y u→r x y H Q→
  wpAny (model X.prog X.w) X.A (f v u) (EP X pins σ Q) X.xe s
noncomputable def UnR (X:Cx) (f:Value→Sem Value) (r:V→Hp→VK→Prop):Prop:=
 ∀(pins:List (Addr×Obj)) (s:Shared) (σ:St) (H:Hp) (x:V) (v:Value) (Q:VK),Inv X pins σ H s→RelV x v→r x H Q→
  wpAny (model X.prog X.w) X.A (f v) (EP X pins σ Q) X.xe s
noncomputable def CallR (X:Cx) (f:Value) (r:List V→Hp→VK→Prop):Prop:=
 ∀(pins:List (Addr×Obj)) (s:Shared) (σ:St) (H:Hp) (xs:List V) (us:List Value) (Q:VK),Inv X pins σ H s→Vals xs us→r xs H Q→
  wpAny (model X.prog X.w) X.A (call f us) (EP X pins σ Q) X.xe s
noncomputable def zwR (X:Cx) (r:V→Hp→(Bool→Hp→Prop)→Prop):Prop:=
 ∀(pins:List (Addr×Obj)) (s:Shared) (σ:St) (H:Hp) (x:V) (v:Value) (Q:Bool→Hp→Prop),Inv X pins σ H s→RelV x v→r x H Q→
  wpAny (model X.prog X.w) X.A (truthy v) (TP X pins σ Q) X.xe s
noncomputable def tOp (r:R2) (ta tb:TE):TE:=fun σ H Q=>ta σ H fun x H1=>tb σ H1 fun y H2=>r x y H2 Q
noncomputable def tUn (r:V→Hp→VK→Prop) (ta:TE):TE:=fun σ H Q=>ta σ H fun x H1=>r x H1 Q
noncomputable def rI (C:Int→Int→Prop) (g:Int→Int→V):R2:=fun x y H Q=>∃i j,x= .int i∧y= .int j∧C i j∧Q (g i j) H
noncomputable def rI0 (g:Int→Int→V):R2:=fun x y H Q=>∃i j,x= .int i∧y= .int j∧Q (g i j) H
noncomputable def rU (g:Int→V):V→Hp→VK→Prop:=fun x H Q=>∃i,x= .int i∧Q (g i) H
section
variable {X:Cx}{a b:Expr}{ta tb:TE}{pos:Pos}
theorem zvM (ha:PE X a ta) (hb:PE X b tb) {pins:List (Addr×Obj)}{s:Shared}{σ:St}{H:Hp}{R:V→V→Hp→Prop}(I:Inv X pins σ H s)
  (h:ta σ H fun x H1=>tb σ H1 fun y H2=>R x y H2) {Q:Value→Shared→Prop}{f:Value→Value→Sem Value}
  (hf:∀v u s2 x y H2,Inv X pins σ H2 s2→RelV x v→RelV y u→R x y H2→wpAny (model X.prog X.w) X.A (f v u) Q X.xe s2) :
  wpAny (model X.prog X.w) X.A (eval a X.env) (fun v s₁=>wpAny (model X.prog X.w) X.A (eval b X.env) (fun u s₂=>wpAny (model X.prog X.w) X.A (f v u) Q X.xe s₂) X.xe s₁) X.xe s:=by
 refine thn (ha pins s σ H _ I h) fun v s1 ⟨x,H1,I1,r1,q1⟩=>?_;refine thn (hb pins s1 σ H1 _ I1 q1) fun u s2 ⟨y,H2,I2,r2,q2⟩=>?_;exact hf v u s2 x y H2 I2 r1 r2 q2
theorem zlW{op:Operator}{r:R2}(ho:OpR X (binaryOp op) r) (ha:PE X a ta) (hb:PE X b tb):PE X (.BinOp a op b pos) (tOp r ta tb):=by
 intro pins s σ H Q I h;exact wpAny_BinOp (zvM ha hb I h fun v u s2 x y H2 I2 rx ry q=>ho pins s2 σ H2 x y v u Q I2 rx ry q)
theorem zve{op:UnaryOp}{r:V→Hp→VK→Prop}(ho:UnR X (unaryOp op) r) (ha:PE X a ta):PE X (.UnaryOp op a pos) (tUn r ta):=by
 intro pins s σ H Q I h;exact UnaryOp_ (thn (ha pins s σ H _ I h) fun v s1 ⟨x,H1,I1,r1,q1⟩=>ho pins s1 σ H1 x v Q I1 r1 q1)
theorem opI{f:Value→Value→Sem Value}{C:Int→Int→Prop}{g:Int→Int→Int}
  (rule:∀(i j:Int) (t u:Tok) (s:Shared) (Q:Value→Shared→Prop) (E:Value→Shared→Prop),C i j→Q (.int (g i j) s.toks) { s with toks:=s.toks+1 }→wpAny (model X.prog X.w) X.A (f (.int i t) (.int j u)) Q E s) :
  OpR X f (rI C fun i j=> .int (g i j)):=by
 intro pins s σ H x y v u Q I rx ry h;obtain⟨i,j,rfl,rfl,hc,q⟩:=h;obtain⟨t,rfl⟩:=rx;obtain⟨t',rfl⟩:=ry;exact rule i j t t' s _ _ hc ⟨.int (g i j),H,I.tok _,⟨_,rfl⟩,q⟩
theorem zwL{f:Value→Value→Sem Value}{g:Int→Int→Int}
  (rule:∀(i j:Int) (t u:Tok) (s:Shared) (Q:Value→Shared→Prop) (E:Value→Shared→Prop),Q (.int (g i j) s.toks) { s with toks:=s.toks+1 }→wpAny (model X.prog X.w) X.A (f (.int i t) (.int j u)) Q E s) :
  OpR X f (rI0 fun i j=> .int (g i j)):=by
 intro pins s σ H x y v u Q I rx ry h;obtain⟨i,j,rfl,rfl,q⟩:=h;obtain⟨t,rfl⟩:=rx;obtain⟨t',rfl⟩:=ry;exact rule i j t t' s _ _ ⟨.int (g i j),H,I.tok _,⟨_,rfl⟩,q⟩
theorem zuV{f:Value→Value→Sem Value}{g:Int→Int→Bool}
  (rule:∀(i j:Int) (t u:Tok) (s:Shared) (Q:Value→Shared→Prop) (E:Value→Shared→Prop),Q (.bool (g i j)) s→wpAny (model X.prog X.w) X.A (f (.int i t) (.int j u)) Q E s) :
  OpR X f (rI0 fun i j=> .bl (g i j)):=by
 intro pins s σ H x y v u Q I rx ry h;obtain⟨i,j,rfl,rfl,q⟩:=h;obtain⟨t,rfl⟩:=rx;obtain⟨t',rfl⟩:=ry;exact rule i j t t' s _ _ ⟨.bl (g i j),H,I,rfl,q⟩
noncomputable def zhb (i j:Int):Prop:=0<j∧j<1073741824
noncomputable def zws (i j:Int):Prop:=0≤j∧j≤1000000∧i.natAbs<2 ^ 64
noncomputable def CMul (i j:Int):Prop:=(-(2 ^ 64)<i∧i<2 ^ 64)∨(-(2 ^ 64)<j∧j<2 ^ 64)
theorem CMul.ok{i j:Int}(h:CMul i j):IntMulOk i j:=by
 rcases h with⟨h1,h2⟩ |⟨h1,h2⟩
 ·exact .of_left (intBits_le_64 h1 h2)
 ·exact .of_right (intBits_le_64 h1 h2)
theorem op_add:OpR X (binaryOp .Add) (rI0 fun i j=> .int (i+j)):=zwL fun _ _ _ _ _ _ _ q=>add_int q
theorem zuA:OpR X (binaryOp .Sub) (rI0 fun i j=> .int (i - j)):=zwL fun _ _ _ _ _ _ _ q=>sub_int q
theorem zuj:OpR X (binaryOp .Mult) (rI CMul fun i j=> .int (i*j)):=opI fun _ _ _ _ _ _ _ hc q=>mul_int q hc.ok
theorem zqC:OpR X (binaryOp .FloorDiv) (rI zhb fun i j=> .int (i / j)):=opI fun i j _ _ _ _ _ hc q=>by
 have h1:(0:Int)<j:=hc.1;have h2:j<1073741824:=hc.2;exact floordiv_int (by omega) (by rw [Int.fdiv_eq_ediv_of_nonneg i (by omega)];exact q) (.inl (PyProof.noPylong_small (by omega)))
theorem ztC:OpR X (binaryOp .Mod) (rI (fun _ j=>0<j) fun i j=> .int (i % j)):=opI fun i j _ _ _ _ _ hc q=>by
 have h1:(0:Int)<j:=hc;exact mod_int' (by omega) (by rw [Int.fmod_eq_emod_of_nonneg i (by omega)];exact q)
theorem ztT:OpR X (binaryOp .Pow) (rI zws fun i j=> .int (i ^ j.toNat)):=opI fun _ _ _ _ _ _ _ hc q=>pow_int_small hc.1 hc.2.1 hc.2.2 q
theorem unI{f:Value→Sem Value}{g:Int→Int}
  (rule:∀(i:Int) (t:Tok) (s:Shared) (Q:Value→Shared→Prop) (E:Value→Shared→Prop),Q (.int (g i) s.toks) { s with toks:=s.toks+1 }→wpAny (model X.prog X.w) X.A (f (.int i t)) Q E s) :
  UnR X f (rU fun i=> .int (g i)):=by
 intro pins s σ H x v Q I rx h;obtain⟨i,rfl,q⟩:=h;obtain⟨t,rfl⟩:=rx;exact rule i t s _ _ ⟨.int (g i),H,I.tok _,⟨_,rfl⟩,q⟩
theorem ztz:UnR X (unaryOp .USub) (rU fun i=> .int (-i)):=unI fun _ _ _ _ _ q=>neg_int q
end
section
variable {X:Cx}{a b c:Expr}{ta tb:TE}{pos:Pos}
theorem zkc{pins:List (Addr×Obj)}{σ:St}{H:Hp}{s:Shared}{Q:VK}{k k':Bool}(I:Inv X pins σ H s) (q:Q (.bl k) H) (e:k=k'):EP X pins σ Q (.bool k') s:=by
 subst e;exact⟨.bl k,H,I,rfl,q⟩
theorem zwd:OpR X (compareOp .Lt) (rI0 fun i j=> .bl (decide (i<j))):=zuV fun _ _ _ _ _ _ _ q=>lt_int q
theorem op_le:OpR X (compareOp .LtE) (rI0 fun i j=> .bl (decide (i≤j))):=zuV fun _ _ _ _ _ _ _ q=>le_int q
theorem zvy:OpR X (compareOp .Gt) (rI0 fun i j=> .bl (decide (j<i))):=zuV fun _ _ _ _ _ _ _ q=>gt_int q
theorem zvj:OpR X (compareOp .GtE) (rI0 fun i j=> .bl (decide (j≤i))):=zuV fun _ _ _ _ _ _ _ q=>ge_int q
theorem op_isN:OpR X (compareOp .Is) (fun x y H Q=>y= .non∧Q (.bl (decide (x= .non))) H):=by
 intro pins s σ H x y v u Q I rx ry h;obtain⟨rfl,q⟩:=h;cases ry;refine is_none_gen (zkc I q ?_);cases x<;>first
  | (cases rx;rfl)
  | (obtain⟨t,rfl⟩:=rx;rfl)
theorem op_notN:OpR X (compareOp .IsNot) (fun x y H Q=>y= .non∧Q (.bl (!decide (x= .non))) H):=by
 intro pins s σ H x y v u Q I rx ry h;obtain⟨rfl,q⟩:=h;cases ry;refine isnot_none_gen (zkc I q ?_);cases x<;>first
  | (cases rx;rfl)
  | (obtain⟨t,rfl⟩:=rx;rfl)
theorem op_notin_str:OpR X (compareOp .NotIn) (fun x y H Q=>∃i j,x= .str i∧y= .str j∧Q (.bl (!(!(Builtin.Str.occurrences j i 0 j.length 1).isEmpty))) H):=by
 intro pins s σ H x y v u Q I rx ry h;obtain⟨i,j,rfl,rfl,q⟩:=h;obtain⟨t,rfl⟩:=rx;obtain⟨t',rfl⟩:=ry;exact notIn_str (zkc I q rfl)
theorem OpR.or{f:Value→Value→Sem Value}{r r':R2}(h:OpR X f r) (h':OpR X f r'):OpR X f (fun x y H Q=>r x y H Q∨r' x y H Q):=by
 intro pins s σ H x y v u Q I rx ry q;rcases q with q |q
 ·exact h pins s σ H x y v u Q I rx ry q
 ·exact h' pins s σ H x y v u Q I rx ry q
theorem nomark (b:Expr) {op:CmpOp}(h:op≠ .In:=by decide) (h2:op≠ .NotIn:=by decide):behindInMarks op b=false:=by
 have e1:(op == CmpOp.In)=false:=by cases op<;>first |rfl |exact absurd rfl h
 have e2:(op == CmpOp.NotIn)=false:=by cases op<;>first |rfl |exact absurd rfl h2
 cases b<;>simp [behindInMarks,e1,e2]
theorem zre{op:CmpOp}{r:R2}(ho:OpR X (compareOp op) r) (ha:PE X a ta) (hb:PE X b tb) (hm:behindInMarks op b=false):PE X (.Compare a [op] [b] pos) (tOp r ta tb):=by
 intro pins s σ H Q I h;exact wpAny_Compare1 (zvM ha hb I h fun v u s2 x y H2 I2 rx ry q=>ho pins s2 σ H2 x y v u Q I2 rx ry q) hm
noncomputable def zvL (t:TE):TT:=fun σ H Q=>t σ H fun x H'=>∃k,x= .bl k∧Q k H'
theorem zrF{op:CmpOp}{r:R2}(ho:OpR X (compareOp op) r) (ha:PE X a ta) (hb:PE X b tb) (hm:behindInMarks op b=false):PT X (.Compare a [op] [b] pos) (zvL (tOp r ta tb)):=by
 intro pins s σ H Q I h;refine wpAny_isTrue_Compare1 (thn (ha pins s σ H _ I h) fun v s1 ⟨x,H1,I1,r1,q1⟩=>thn (hb pins s1 σ H1 _ I1 q1) fun u s2 ⟨y,H2,I2,r2,q2⟩=>
  thn (ho pins s2 σ H2 x y v u _ I2 r1 r2 q2) fun c s3 ⟨z,H3,I3,r3,k,e,q3⟩=>?_) hm
 subst e;cases r3;exact wpAny_truthy_bool ⟨H3,I3,q3⟩
noncomputable def zvX (K:PySem.W.Frag) (x:V) (H:Hp) (k:Bool):Prop:=
 match x with
 | .non=>k=false
 | .bl b=>k=b
 | .int i=>k=(i != 0)
 | .str y=>y.length≤sizeLine∧k=((y.length:Int) != 0)
 | .byt y=>y.size≤sizeLine∧k=((y.size:Int) != 0)
 | .ref p=>(∃xs,SqL K H p xs∧k= !xs.isEmpty)∨(∃xs,SqT K H p xs∧k= !xs.isEmpty)∨ ∃kvs,H p=some (.dK kvs)∧k= !kvs.isEmpty
 |_=>False
theorem zlt{κ:Type}{kvs:List (κ×V)}{vs:List (κ×Value)}(r:KV kvs vs):(!vs.isEmpty)= !kvs.isEmpty:=by
 cases r<;>rfl
theorem zgu{xs:List V}{its:List Value}(r:Vals xs its):(!its.toArray.isEmpty)= !xs.isEmpty:=by
 cases r<;>simp
theorem zgj:(sizeLine:Nat)<2 ^ 63:=by rw [sizeLine_eq];decide
theorem zuK:zwR X (fun x H Q=>∃k,zvX X.K x H k∧Q k H):=by
 intro pins s σ H x v Q I rx h;obtain⟨k,e,q⟩:=h;have hl:=zgj;have hs:sizeLine=16777216:=sizeLine_eq;cases x with
 |non=>
  cases rx;have e':k=false:=e;subst e';exact truthy_none ⟨H,I,q⟩
 |bl b=>
  cases rx;have e':k=b:=e;subst e';exact wpAny_truthy_bool ⟨H,I,q⟩
 |int i=>
  obtain⟨t,rfl⟩:=rx;have e':k=(i != 0):=e;subst e';exact PySem.P.truthy_int ⟨H,I,q⟩
 |str y=>
  obtain⟨t,rfl⟩:=rx;obtain⟨hy,e'⟩:y.length≤sizeLine∧k=((y.length:Int) != 0):=e;subst e';exact PySem.P.truthy_str (by omega) ⟨H,I.tok _,q⟩
 |byt y=>
  obtain⟨t,rfl⟩:=rx;obtain⟨hy,e'⟩:y.size≤sizeLine∧k=((y.size:Int) != 0):=e;subst e';exact PySem.W.truthy_bytes (by omega) ⟨H,I.tok _,q⟩
 |ref p=>
  cases rx;have e':(∃xs,SqL X.K H p xs∧k= !xs.isEmpty)∨(∃xs,SqT X.K H p xs∧k= !xs.isEmpty)∨ ∃kvs,H p=some (.dK kvs)∧k= !kvs.isEmpty:=e;rcases e' with⟨xs,hx,e'⟩ |⟨xs,hx,e'⟩ |⟨kvs,hx,e'⟩
  ·subst e';obtain⟨its,r,pl,hz⟩:=I.list hx;have hlen:=r.length;exact wpAny_truthy_list pl.isList (by simp only[List.size_toArray];omega) ⟨H,I.tok _,by rw [zgu r];exact q⟩
  ·subst e';obtain⟨its,r,pl,hz⟩:=I.tuple hx;have hlen:=r.length;exact truthy_tuple pl (by simp only[List.size_toArray];omega) ⟨H,I.tok _,by rw [zgu r];exact q⟩
  ·subst e';obtain⟨hz,hS,vs,r,m⟩:kvs.length≤sizeLine∧(p == sysModules)=false∧ ∃vs,KV kvs vs∧s.heap.DictOf (zbg X.prog X.w) p vs:=I.hok p _ hx;have hlen:kvs.length=vs.length:=Paired.length r;exact wpAny_truthy_dict hS m (by omega) ⟨H,I.tok _,by rw [zlt r];exact q⟩
 |_=>exact(show False from e).elim
theorem zoJ (ha:PE X a ta) (he:∀whole,isTrue a X.env whole=(do let v ←whole;standAt a.pos;holding [v] (truthy v))) :
  PT X a (fun σ H Q=>ta σ H fun x H'=>∃k,zvX X.K x H' k∧Q k H'):=by
 intro pins s σ H Q I h;exact isTrue_plain (thn (ha pins s σ H _ I h) fun v s1 ⟨x,H1,I1,r1,q1⟩=>zuK pins s1 σ H1 x v Q I1 r1 q1) (he _)
theorem op_add_str:OpR X (binaryOp .Add) (fun x y H Q=>∃i j,x= .str i∧y= .str j∧i.length+j.length≤sizeLine∧Q (.str (i++j)) H):=by
 intro pins s σ H x y v u Q I rx ry h;obtain⟨i,j,rfl,rfl,hz,q⟩:=h;obtain⟨t,rfl⟩:=rx;obtain⟨t',rfl⟩:=ry;exact add_str (fun t' tk=>⟨.str (i++j),H,I.tok _,⟨_,rfl⟩,q⟩) hz
theorem zgW{x:V}{us:List Value}(r:Vals [x] us):∃u,us=[u]∧RelV x u:=by
 cases r with
 |cons r1 r2=>cases r2;exact⟨_,rfl,r1⟩
theorem ztf{x y:V}{us:List Value}(r:Vals [x,y] us):∃u w',us=[u,w']∧RelV x u∧RelV y w':=by
 cases r with
 |cons r1 r2=>
  cases r2 with
  |cons r3 r4=>cases r4;exact⟨_,_,rfl,r1,r3⟩
theorem znh (hc:X.calm=true):CallR X (.builtin "min") (fun xs H Q=>∃i j,xs=[.int i, .int j]∧Q (.int (if j<i then j else i)) H):=by
 intro pins s σ H xs us Q I r h;obtain⟨i,j,rfl,q⟩:=h;obtain⟨u,w',rfl,⟨t,rfl⟩,⟨t',rfl⟩⟩:=ztf r;refine min_two_ints (I.ok.hd hc) fun h' tk k=>⟨_,H,I.kept k,?_,q⟩;by_cases hj:j<i
 ·rw [if_pos hj,if_pos hj];exact⟨_,rfl⟩
 ·rw [if_neg hj,if_neg hj];exact⟨_,rfl⟩
theorem zmN:CallR X (.type "int") (fun xs H Q=>(∃i,xs=[.int i]∧Q (.int i) H)∨ ∃k,xs=[.bl k]∧Q (.int (if k then 1 else 0)) H):=by
 intro pins s σ H xs us Q I r h;rcases h with⟨i,rfl,q⟩ |⟨k,rfl,q⟩
 ·obtain⟨u,rfl,t,rfl⟩:=zgW r;exact call_int_int ⟨.int i,H,I,⟨_,rfl⟩,q⟩
 ·obtain⟨u,rfl,r1⟩:=zgW r;cases r1;exact call_int_bool ⟨.int (if k then 1 else 0),H,I.tok _,⟨_,rfl⟩,q⟩
end
structure ObjM (h:Heap) (x dx C:Addr) (mA:Str→Option Value):Prop where
  obj:h.get? x=some (PySem.W.instObj C dx)
  ns:h.Ns1 dx mA
  ne:dx≠x
theorem zna{h:Heap}{dx:Addr}{mA:Str→Option Value}(n:h.Ns1 dx mA):∃od,h.get? dx=some od∧ ∀name,PySem.W.lookIn name od=some (mA name):=by
 obtain⟨o,es,ep,ho,hd,hk,_,hm⟩:=n;refine⟨o,ho,fun name=>?_⟩;have e:=hm name;unfold nsFind findBy at e;rw [←Array.find?_toList]at e;unfold PySem.W.lookIn;rw [hd];dsimp only;split
 ·rename_i y q;rw [q]at e;exact congrArg some e
 ·rename_i q;rw [q]at e;have a:es.toList.any (·.refKey)=false:=by
   rw [List.any_eq_false];intro y hy;obtain⟨z,t,hkey⟩:=hk y (Array.mem_toList_iff.mp hy);simp [DictEntry.refKey,hkey]
  have a':¬es.toList.any (·.refKey)=true:=by rw [a];exact Bool.false_ne_true
  rw [if_neg a'];exact congrArg some e
theorem ObjM.look{h:Heap}{x dx C:Addr}{mA:Str→Option Value}(I:ObjM h x dx C mA):∃od,PySem.W.InstAt h x (PySem.W.instObj C dx) C (some od)∧ ∀name,PySem.W.lookIn name od=some (mA name):=
 let ⟨od,ho,hl⟩:=zna I.ns
 ⟨od,⟨I.obj,rfl,rfl,ho⟩,hl⟩
section
variable {P:Program}{w:World}{H:Hp}{h:Heap}{a C dx:Addr}{fs:List (Str×V)}
theorem zrk (hok:HOk P w H h) (e:H a=some (.ins C dx fs)):∃mA,ObjM h a dx C mA∧(∀f,RelO (fs.lookup f) (mA f))∧PySem.Within mA (fs.map (·.1))∧fs.length≤1000∧H dx=some (.own a):=by
 obtain⟨d,z,ne,ob,mA,n,r,q⟩:=(show ObjOk P w H h a (.ins C dx fs) from hok a _ e);exact⟨mA,⟨ob,n,ne⟩,r,q,z,d⟩
end
structure Cls (K:PySem.W.Frag) (C:Addr):Prop where
  pg:PySem.W.plainGet K C Str.empty=true
  hd:PySem.W.hasDictIn K C=true
  po:PySem.W.plainOver K C=true
  sa:PySem.W.findIn K (.ref C) "__setattr__" =some (some (.builtin "object.__setattr__"))
theorem Cls.get{K:PySem.W.Frag}{C:Addr}(c:Cls K C) (f:Str):PySem.W.plainGet K C f=true:=c.pg
section
variable {X:Cx}{pins:List (Addr×Obj)}{σ:St}{H:Hp}{s:Shared}{A:Around}{E:Value→Shared→Prop}{Q:Value→Shared→Prop}{c:Value}{b:Bool}
inductive TyOf (K:PySem.W.Frag) (H:Hp):V→Value→Prop where
  |non:TyOf K H .non (.type "NoneType")
  |bl (x:Bool):TyOf K H (.bl x) (.type "bool")
  |int (i:Int):TyOf K H (.int i) (.type "int")
  |str (x:Str):TyOf K H (.str x) (.type "str")
  |flt (x:UInt64):TyOf K H (.flt x) (.type "float")
  |lst {a:Addr}{xs:List V}(e:H a=some (.lst xs)):TyOf K H (.ref a) (.type "list")
  |frz {a:Addr}{o:Obj}{xs:List V}(e:H a=some (.frz o (.lst xs))):TyOf K H (.ref a) (.type "list")
  |tup {a:Addr}{xs:List V}(e:H a=some (.tup xs)):TyOf K H (.ref a) (.type "tuple")
  |dK {a:Addr}{kvs:List (Key×V)}(e:H a=some (.dK kvs)):TyOf K H (.ref a) (.type "dict")
  |dT {a:Addr}{kvs:List (List Key×V)}(e:H a=some (.dT kvs)):TyOf K H (.ref a) (.type "dict")
  |ins {a C dx:Addr}{fs:List (Str×V)}(e:H a=some (.ins C dx fs)) (cl:Cls K C) (ha:PySem.W.findIn K (.ref C) "__class__" =some (some (.builtin "object.__class__")))
      (hn:PySem.W.specialIn K (.builtin "object.__class__") "__get__" =some (some (.builtin "getset_descriptor.__get__"))) (htk:PySem.W.takesIn K (.builtin "object.__class__")=some true)
      (hm:PySem.W.mroIn K C (.type "object")=some true):TyOf K H (.ref a) (.ref C)
theorem znF{x:V}{u t:Value}(I:Inv X pins σ H s) (rx:RelV x u) (ty:TyOf X.K H x t) (e:PySem.W.kitOne X.K t c=some b) (h:∀tk,Q (.bool b) { s with toks:=tk }) :
  wpAny (model X.prog X.w) A (call (.builtin "isinstance") [u,c]) Q E s:=by
 cases ty with
 |non=>cases(show u=Value.none from rx);exact PySem.W.kia_one PySem.W.kitx_none I.kIn True.intro e (fun z=>nomatch z) h
 |bl y=>cases(show u=Value.bool y from rx);exact PySem.W.kia_one PySem.W.kitx_bool I.kIn True.intro e (fun z=>nomatch z) h
 |int i=>obtain⟨t,q⟩:=(show ∃t,u=Value.int i t from rx);cases q;exact PySem.W.kia_one PySem.W.kitx_int I.kIn True.intro e (fun z=>nomatch z) h
 |str y=>obtain⟨t,q⟩:=(show ∃t,u=Value.str y t from rx);cases q;exact PySem.W.kia_one PySem.W.kitx_str I.kIn True.intro e (fun z=>nomatch z) h
 |flt y=>obtain⟨t,q⟩:=(show ∃t,u=Value.float y t from rx);cases q;exact PySem.W.kia_one PySem.W.kitx_float I.kIn True.intro e (fun z=>nomatch z) h
 | @lst a xs ea=>
  cases(show u=Value.ref a from rx);obtain⟨_,_,n,_,h1⟩:=(show ObjOk X.prog X.w H s.heap a (.lst xs) from I.hok a _ ea);exact PySem.W.kia_one PySem.W.kitx_list I.kIn ⟨_,h1,rfl⟩ e (fun z=>nomatch z) h
 | @frz a ob xs ea=>
  cases(show u=Value.ref a from rx);obtain⟨_,_,_,n,_,h1⟩:=(show ObjOk X.prog X.w H s.heap a (.frz ob (.lst xs)) from I.hok a _ ea);exact PySem.W.kia_one PySem.W.kitx_list I.kIn ⟨_,h1,rfl⟩ e (fun z=>nomatch z) h
 | @tup a xs ea=>
  cases(show u=Value.ref a from rx);obtain⟨_,_,_,p⟩:=(show ObjOk X.prog X.w H s.heap a (.tup xs) from I.hok a _ ea);obtain⟨o,h1,h2,_⟩:=p;exact PySem.W.kia_one PySem.W.kitx_tuple I.kIn ⟨o,h1,h2⟩ e (fun z=>nomatch z) h
 | @dK a kvs ea=>
  cases(show u=Value.ref a from rx);obtain⟨_,_,vs,_,p⟩:=(show ObjOk X.prog X.w H s.heap a (.dK kvs) from I.hok a _ ea);obtain⟨o,es,ep,h1,h2,_⟩:=p;exact PySem.W.kia_one PySem.W.kitx_dict I.kIn ⟨o,h1,h2.1⟩ e (fun z=>nomatch z) h
 | @dT a kvs ea=>
  cases(show u=Value.ref a from rx);obtain⟨_,_,xs,_,o,es,ep,h1,h2,_⟩:=(show ObjOk X.prog X.w H s.heap a (.dT kvs) from I.hok a _ ea);exact PySem.W.kia_one PySem.W.kitx_dict I.kIn ⟨o,h1,h2.1⟩ e (fun z=>nomatch z) h
 | @ins a C dx fs ea cl ha hn htk hm=>
  cases(show u=Value.ref a from rx);obtain⟨mA,O,_⟩:=zrk I.hok ea;obtain⟨od,J,_⟩:=O.look;exact PySem.W.kia_one (PySem.W.kitx_own (cl.get _) cl.hd ha hn htk hm) I.kIn J e (fun z=>nomatch z) h
end
structure Room (k:Nat) (A:Around):Prop where
  hd:A.handled=none
  dp:A.depth+3*k+5<recursionLimit
  un:A.units+16*k+200<cLine
theorem Room.deeper{k:Nat}{A:Around}(r:Room (k+1) A) (env:Env):Room k (A.deeper env):=
 ⟨r.hd,by have:=r.dp;show A.depth+1+3*k+5<_;omega,by have:=r.un;show A.units+3+16*k+200<_;omega⟩
theorem Room.depth{k:Nat}{A:Around}(r:Room k A):A.depth<recursionLimit:=by have:=r.dp;omega
theorem Room.units{k:Nat}{A:Around}(r:Room k A):A.units+64<cLine:=by have:=r.un;omega
noncomputable def zwY:TA:=fun _ H Q=>Q [] H
noncomputable def zuZ (ta:TE) (tr:TA):TA:=fun σ H Q=>ta σ H fun x H1=>tr σ H1 fun xs H2=>Q (x::xs) H2
section
variable {X:Cx}{e:Expr}{es:List Expr}{te:TE}{t:TA}{pos:Pos}
theorem pa_nil:PA X [] zwY:=fun _ _ _ _ H Q I h=>Calls.spliced_nil ⟨[],H,I, .nil,h⟩
theorem zcy (ha:PE X e te) (hr:PA X es t) (hs:starEach (e::es) X.env=(false,eval e X.env)::starEach es X.env:=by rfl):PA X (e::es) (zuZ te t):=by
 intro pos pins s σ H Q I h;rw [hs];show wpAny _ _ (spliced ((false,eval e X.env)::backTo pos (starEach es X.env))) _ _ s;refine Calls.spliced_cons (thn (ha pins s σ H _ I h) fun u s1 ⟨x,H1,I1,r1,q1⟩=>?_);exact thn (hr pos pins s1 σ H1 _ I1 q1) fun us s2 ⟨xs,H2,I2,r2,q2⟩=>⟨x::xs,H2,I2, .cons r1 r2,q2⟩
noncomputable def zxx (t:TA):TE:=fun σ H Q=>t σ H fun xs H1=>xs.length≤sizeLine∧ ∀p,H1 p=none→Q (.ref p) (upd H1 p (.tup xs))
noncomputable def zxA (t:TA):TE:=fun σ H Q=>t σ H fun xs H1=>xs.length≤sizeLine∧ ∀p,H1 p=none→Q (.ref p) (upd H1 p (.lst xs))
theorem zty{x1}(h:PA X es t):PE X (.Tuple es x1 pos) (zxx t):=by
 intro pins s σ H Q I hq;refine wpAny_Tuple_spliced (thn (h pos pins s σ H _ I hq) fun us s1 ⟨xs,H1,I1,r,z,q⟩=>⟨by rw [←r.length];exact z,?_⟩);have hf:H1 s1.heap.objs.size=none:=I1.hok.fresh (Nat.le_refl _);refine⟨.ref s1.heap.objs.size,upd H1 s1.heap.objs.size (.tup xs),I1.laid (t':=s1.toks) (fun b u e=>Heap.get?_push_of_some _ e) (Nat.le_refl _) ?_,rfl,q _ hf⟩;exact⟨z,us,r,⟨_,Heap.get?_push_size _ rfl,rfl,_,rfl⟩⟩
theorem zuv (h:PA X es t):PE X (.List es pos) (zxA t):=by
 intro pins s σ H Q I hq;refine wpAny_List_spliced (thn (h pos pins s σ H _ I hq) fun us s1 ⟨xs,H1,I1,r,z,q⟩=>⟨by rw [←r.length];exact z,?_⟩);have hf:H1 s1.heap.objs.size=none:=I1.hok.fresh (Nat.le_refl _);refine⟨.ref s1.heap.objs.size,upd H1 s1.heap.objs.size (.lst xs),I1.laid (t':=s1.toks) (fun b u e=>Heap.get?_push_of_some _ e) (Nat.le_refl _) ?_,rfl,q _ hf⟩;exact⟨z,us,0,r,Heap.get?_push_size _ rfl⟩
end
noncomputable abbrev Sp:=List V→Hp→VK→XK→Prop
noncomputable abbrev CXT:=List Env→Hp→Shared→XK→Value→Shared→Prop
structure Env0 (P:Program) (w:World) (K:PySem.W.Frag) (mg:Str→Option Value) (base:Heap) (A:Around) (outer:List Env) (s:Shared) (H:Hp):Prop where
  frames:A.frames=some outer
  mod:Mod K mg base
  bs:∀b o,base.get? b=some o→s.heap.get? b=some o∧H b=none
  bsz:base.objs.size≤s.heap.objs.size
  funs:s.heap.FunFrames base outer
  frf:∀b∈frs outer,H b=none
  hok:HOk P w H s.heap
  bare:AllBare s.gens
noncomputable def CE (outer:List Env) (P:Program) (w:World) (H:Hp) (s:Shared) (Q:VK) (u:Value) (s':Shared):Prop:=
 ∃v H',s'.os=s.os∧AllBare s'.gens∧Un (frs outer) [] H H' s.heap s'.heap∧HOk P w H' s'.heap∧RelV v u∧Q v H'
noncomputable def CR (CX:CXT) (outer:List Env) (P:Program) (w:World) (H:Hp) (s:Shared) (Q:VK) (E:XK) (r:Result) (s':Shared):Prop:=
 match r with
 | .ok (.ret u)=>CE outer P w H s Q u s'
 | .ok _=>False
 | .error e=>CX outer H s E e s'
structure FnOk (P:Program) (w:World) (K:PySem.W.Frag) (mg:Str→Option Value) (base:Heap) (CX:CXT) (k:Nat) (f:Addr) (fd:FuncData) (ps:List Str) (sp:Sp):Prop where
  len:∀vs H Q E,sp vs H Q E→vs.length=ps.length
  run:∀(A:Around) (outer:List Env) (s:Shared) (H:Hp) (args:Args) (us:List Value) (vs:List V) (Q:VK) (E:XK),Room k A→Env0 P w K mg base A outer s H→BindsTo s fd args (ps.zip us)→Vals vs us→sp vs H Q E→
    codeAny (model P w) A (.call (.ref f) args) (CR CX outer P w H s Q E) s
section
variable {X:Cx}{pins:List (Addr×Obj)}{σ:St}{H:Hp}{s s':Shared}
theorem Inv.env0 (I:Inv X pins σ H s):Env0 X.prog X.w X.K X.mg X.base X.A X.stack s H:=
 ⟨I.ok.frames,I.ok.mod,I.bs,Nat.le_trans I.ok.bsz I.sz,I.stack,I.stkFree,I.hok,I.bare⟩
theorem Inv.after{Q:VK}{u:Value}(I:Inv X pins σ H s) (h:CE X.stack X.prog X.w H s Q u s'):EP X pins σ Q u s':=by
 obtain⟨v,H',os,bare,un,hok,r,q⟩:=h;obtain⟨hh,g,d,t,os'⟩:=s';obtain rfl:os'=s.os:=os;exact⟨v,H',I.call (h':=hh) (g':=g) (d':=d) (t':=t) (ch:=[]) un hok bare (fun b z=>absurd z (by simp)),r,q⟩
end
noncomputable def zvT (sp:Sp) (dvs:List V) (E:XK) (t:TA):TE:=fun σ H Q=>t σ H fun vs H1=>sp (vs++dvs) H1 Q E
noncomputable def Binds (K:PySem.W.Frag) (fd:FuncData) (ps:List Str) (ds:List Value):Prop:=
 ∀(s:Shared) (us:List Value),K.In s.heap→(us++ds).length=ps.length→BindsTo s fd ⟨us,[]⟩ (ps.zip (us++ds))
theorem Binds.all{K:PySem.W.Frag}{fd:FuncData}{ps:List Str}(h:∀us:List Value,us.length=ps.length→bindArgs fd ⟨us,[]⟩=pure (ps.zip us)):Binds K fd ps []:=fun s us _ hl=>by
 rw [List.append_nil]at hl⊢;exact .of_eq (h us hl)
noncomputable def zno (CX:CXT) (X:Cx) (E:XK):Prop:=∀(pins:List (Addr×Obj)) (σ:St) (H:Hp) (s:Shared) (e:Value) (s':Shared),Inv X pins σ H s→CX X.stack H s E e s'→X.xe e s'
section
variable {X:Cx}{CX:CXT}{k:Nat}{f:Addr}{fd:FuncData}{ps:List Str}{sp:Sp}{dvs:List V}{ds:List Value}{E:XK}{x:Str}{p pos:Pos}{e:Expr}{es:List Expr}{t:TA}
theorem zsZ{pins:List (Addr×Obj)}{σ:St}{H:Hp}{s:Shared}{Q:VK}{us:List Value}{vs:List V}(F:FnOk X.prog X.w X.K X.mg X.base CX k f fd ps sp) (hr:Room k X.A) (hb:Binds X.K fd ps ds) (hd:Vals dvs ds) (hx:zno CX X E)
  (I:Inv X pins σ H s) (r:Vals vs us) (h:sp (vs++dvs) H Q E):wpAny (model X.prog X.w) X.A (call (.ref f) us) (EP X pins σ Q) X.xe s:=by
 have r2:Vals (vs++dvs) (us++ds):=r.append hd;have hl:(us++ds).length=ps.length:=by rw [←r2.length];exact F.len _ _ _ _ h
 refine wpAny_call (codeAny_mono (F.run X.A X.stack s H ⟨us,[]⟩ (us++ds) (vs++dvs) Q E hr I.env0 (hb s us I.kIn hl) r2 h) fun r s' hq=>?_);cases r with
 |error e=>exact hx pins σ H s e s' I hq
 |ok fl=>
  cases fl with
  |ret u=>exact I.after hq
  |next=>exact False.elim hq
  |brk=>exact False.elim hq
  |cont=>exact False.elim hq
theorem zqE (F:FnOk X.prog X.w X.K X.mg X.base CX k f fd ps sp) (hr:Room k X.A) (hg:Gl X x) (hm:X.mg x=some (.ref f)) (hk:PySem.W.keepIn X.K (.ref f)=true) (hb:Binds X.K fd ps ds) (hd:Vals dvs ds) (hx:zno CX X E)
  (ha:PA X (e::es) t) (hdb:(x == ("__debug__" :Str))=false:=by decide) (he:starEach (e::es) X.env=(false,eval e X.env)::starEach es X.env:=by rfl) (hpl:(backTo pos (starEach es X.env)).any (·.1)=false:=by rfl) :
  PE X (.Call (.Name x p) (e::es) [] pos) (zvT sp dvs E t):=by
 intro pins s σ H Q I h;refine wpAny_Call_Name_kw (zmD I hg hm ?_ hdb);refine PySem.W.callWith_K (h₀:=X.base) I.ok.mod.kin hk (thn (ha pos pins s σ H _ I h) fun us s1 ⟨vs,H1,I1,r,q⟩=>⟨I1.kIn,?_⟩) he hpl;exact zsZ F hr hb hd hx I1 r q
end
structure FnScope (N P:List Str) (sc:Scope):Prop where
  kind:sc.kind= .function
  co:sc.isCoroutine=false
  gen:sc.isGenerator=false
  nd:N.Nodup
  pre:N.take P.length=P
  par:∀x∈P,sc.names.lookup x=some .local∨sc.names.lookup x=some .cell
  nofree:∀y∈sc.names,y.2≠ .free
theorem zhZ{kindOf:Str→Option NameKind}{x:Str}:∀{binds:List (Str×Value)}{m:Str→Option Value},(∀v,(x,v)∉binds)→bindL kindOf binds m x=m x
 | [],_,_=>rfl
 | (n,v)::r,m,h=>by
  unfold bindL;rw [zhZ fun w hw=>h w (List.mem_cons_of_mem _ hw)];split
  ·have:x≠n:=by rintro rfl;exact h v List.mem_cons_self
   simp [this]
  ·rfl
theorem ziK{kindOf:Str→Option NameKind}{x:Str}:∀{binds:List (Str×Value)}{m:Str→Option Value},(∀v,(x,v)∉binds)→bindC kindOf binds m x=m x
 | [],_,_=>rfl
 | (n,v)::r,m,h=>by
  unfold bindC;rw [ziK fun w hw=>h w (List.mem_cons_of_mem _ hw)];split
  ·rfl
  ·have:x≠n:=by rintro rfl;exact h v List.mem_cons_self
   simp [this]
theorem zhA{kindOf:Str→Option NameKind}{x:Str}{v:Value}:∀{P:List Str}{vs:List Value}{i:Nat}{m:Str→Option Value},P.Nodup→P[i]? =some x→vs[i]? =some v→kindOf x=some .local→
  bindL kindOf (P.zip vs) m x=some v
 | [],_,_,_,_,h,_,_=>by simp at h
 |_::_,[],_,_,_,_,h,_=>by simp at h
 |p::P,w::vs,0,m,nd,h1,h2,hk=>by
  simp at h1 h2;subst h1;subst h2;show bindL kindOf ((p,w)::P.zip vs) m p=_;unfold bindL;rw [zhZ fun v hv=>(List.nodup_cons.mp nd).1 (List.of_mem_zip hv).1,if_pos hk];simp
 |p::P,w::vs,i+1,m,nd,h1,h2,hk=>by
  show bindL kindOf ((p,w)::P.zip vs) m x=_;unfold bindL;exact zhA (i:=i) (List.nodup_cons.mp nd).2 (by simpa using h1) (by simpa using h2) hk
theorem zhX{kindOf:Str→Option NameKind}{x:Str}{v:Value}:∀{P:List Str}{vs:List Value}{i:Nat}{m:Str→Option Value},P.Nodup→P[i]? =some x→vs[i]? =some v→kindOf x≠some .local→
  bindC kindOf (P.zip vs) m x=some v
 | [],_,_,_,_,h,_,_=>by simp at h
 |_::_,[],_,_,_,_,h,_=>by simp at h
 |p::P,w::vs,0,m,nd,h1,h2,hk=>by
  simp at h1 h2;subst h1;subst h2;show bindC kindOf ((p,w)::P.zip vs) m p=_;unfold bindC;rw [ziK fun v hv=>(List.nodup_cons.mp nd).1 (List.of_mem_zip hv).1,if_neg hk];simp
 |p::P,w::vs,i+1,m,nd,h1,h2,hk=>by
  show bindC kindOf ((p,w)::P.zip vs) m x=_;unfold bindC;exact zhX (i:=i) (List.nodup_cons.mp nd).2 (by simpa using h1) (by simpa using h2) hk
noncomputable def zga (N:List Str) (vs:List V):St:=vs.map some++List.replicate (N.length - vs.length) none
noncomputable def zqD (CX:CXT) (P:Program) (w:World) (K:PySem.W.Frag) (mg:Str→Option Value) (base:Heap) (N:List Str) (qual:Str) (scope:Scope) (f:Addr) (cd:Value) (A:Around) (outer:List Env) (s:Shared) (H:Hp) (E:XK):Cx where
  prog:=P
  w:=w
  K:=K
  mg:=mg
  base:=base
  A:=A.deeper (envOfC qual scope s.heap.objs.size f cd)
  N:=N
  s₀:=s
  H₀:=H
  env:=envOfC qual scope s.heap.objs.size f cd
  outer:=outer
  stack:=envOfC qual scope s.heap.objs.size f cd::outer
  ex:=[]
  calm:=true
  fn:=fun _=>true
  pn:=[]
  xe:=fun e s'=>wpAny (model P w) (A.deeper (envOfC qual scope s.heap.objs.size f cd)) (leaving (envOfC qual scope s.heap.objs.size f cd) e) (fun _ s''=>CX outer H s E e s'') (fun e' s''=>CX outer H s E e' s'') s'
theorem zkp{sc:Scope}{n:Nat}{x:Str}(h:sc.names.lookup x=some .cell):∃c,(cellsFrom n sc.names []).lookup x=some c:=by
 have q:=PySem.W.cellsFrom_some sc.names n [] (.inl h);exact Option.isSome_iff_exists.mp q
theorem znN{CX:CXT}{P:Program}{w:World}{K:PySem.W.Frag}{mg:Str→Option Value}{base:Heap}{N ps:List Str}{qual:Str}{scope:Scope}{f:Addr}{cd:Value}{A:Around}{outer:List Env}{s s1:Shared}{H:Hp}{E:XK}{us:List Value}{vs:List V}
  (S:FnScope N ps scope) (hd:A.handled=none) (e0:Env0 P w K mg base A outer s H) (hl:vs.length=ps.length) (r:Vals vs us)
  (x:InCallC s s.heap.objs.size (bindL (envOfC qual scope s.heap.objs.size f cd).kindOf (ps.zip us) fun _=>none) (cellsFrom (s.heap.objs.size+1) scope.names []) (bindC (envOfC qual scope s.heap.objs.size f cd).kindOf (ps.zip us) fun _=>none) s1) :
  Inv (zqD CX P w K mg base N qual scope f cd A outer s H E) [] (zga N vs) H s1:=by
 have hpl:ps.length≤N.length:=by have:=congrArg List.length S.pre;rw [List.length_take]at this;omega
 obtain⟨h1,tk,rfl,hk⟩:=x.done;have noA:∀b:Addr,b∉(zqD CX P w K mg base N qual scope f cd A outer s H E).ex:=fun b z=>absurd (show b∈([]:List Addr) from z) (by simp);refine⟨⟨e0.mod,S.kind,rfl,rfl,Nat.le_refl _,fun y z c h1 h2=>?_,fun y hy=>?_,fun y c _ h=>?_,fun _=>hd,Around.frames_deeper e0.frames, .inr ⟨rfl,rfl⟩,fun b z=>absurd z (noA b),e0.bs,e0.bsz,fun b _ _=>noA b,fun b z=>absurd z (noA b),e0.funs,e0.frf⟩,
  rfl,e0.bare,Un.kept hk,⟨_,x.toInCall.ns,fun i y v h1 h2 h3=>?_⟩,fun y c h=>⟨_,x.cell y c h⟩,e0.hok.fresh (Nat.le_refl _),fun y c h=>?_,fun p hp=>absurd (show p∈([]:List (Addr×Obj)) from hp) (by simp),e0.hok.kept hk,?_⟩
 ·exact name_of_addr x.apart (PySem.mem_of_lookup h1) (PySem.mem_of_lookup h2)
 ·have hy:scope.names.lookup y=some .cell∨scope.names.lookup y=some .free:=hy;rcases hy with hy |hy
  ·exact zkp hy
  ·exact absurd rfl (S.nofree _ (PySem.mem_of_lookup hy))
 ·exact Nat.le_of_lt (x.above y c (PySem.mem_of_lookup h))
 ·have hi:i<vs.length:=by
   unfold zga at h2;by_cases hi:i<vs.length
   ·exact hi
   ·rw [List.getElem?_append_right (by simpa using hi)]at h2;rw [List.getElem?_replicate]at h2;split at h2<;>cases h2
  have ha:vs[i]? =some v:=by
   unfold zga at h2;rw [List.getElem?_append_left (by simpa using hi),List.getElem?_map]at h2;cases e:vs[i]? with
   |none=>rw [e]at h2;cases h2
   |some a=>rw [e]at h2;cases h2;rfl
  obtain⟨u,hu,rv⟩:=r.get ha;have hp:ps[i]? =some y:=by
   rw [←S.pre,List.getElem?_take_of_lt (by omega)];exact h1
  have ndP:ps.Nodup:=by rw [←S.pre];exact S.nd.sublist (List.take_sublist _ _)
  refine⟨u,rv,?_⟩;rcases S.par y (List.mem_of_getElem? hp) with k |k
  ·exact .inl ⟨k,zhA ndP hp hu k⟩
  ·obtain⟨c,e⟩:=zkp (n:=s.heap.objs.size+1) k;refine .inr ⟨.inl k,c,e,?_⟩;have q:=x.cell y c e;rw [zhX ndP hp hu (by show scope.names.lookup y≠_;rw [k];decide)]at q;exact q
 ·exact e0.hok.fresh (Nat.le_of_lt (x.above y c (PySem.mem_of_lookup h)))
 ·unfold zga;show _=N.length;rw [List.length_append,List.length_map,List.length_replicate];omega
theorem zwc{CX:CXT}{P:Program}{w:World}{K:PySem.W.Frag}{mg:Str→Option Value}{base:Heap}{k:Nat}{f:Addr}{name qual:Str}{params:Arguments}{body:List Stmt}{scope:Scope}{dV kV doc pm cdv ct oc:Value}{an od:Option Addr}
  {osl:Array (Option Value)}{N ps:List Str}{sp:Sp}(lk:K.lookup f=some ⟨oc,od, .func (PySem.W.fnOf name qual params body scope dV kV doc pm an cdv ct),osl⟩) (hcd:PySem.W.codeIn K cdv qual=true) (S:FnScope N ps scope)
  (len:∀vs H Q E,sp vs H Q E→vs.length=ps.length)
  (hbody:∀(A:Around) (outer:List Env) (s:Shared) (H:Hp) (vs:List V) (Q:VK) (E:XK),Room k (A.deeper (envOfC qual scope s.heap.objs.size f cdv))→sp vs H Q E→
   ∃t,PSs (zqD CX P w K mg base N qual scope f cdv A outer s H E) body t∧t { nx:=fun _ H'=>Q .non H',rt:=Q } (zga N vs) H) :
  FnOk P w K mg base CX (k+1) f (PySem.W.fnOf name qual params body scope dV kV doc pm an cdv ct) ps sp:=by
 refine⟨len,fun A outer s H args us vs Q E hr e0 hb r hsp=>?_⟩;have hl:=len _ _ _ _ hsp;have KX:K.In s.heap:=e0.mod.kin.keeps fun b o e=>(e0.bs b o e).1;have lim:s.heap.NoLimit:=e0.mod.nolimit.keeps fun b o e=>(e0.bs b o e).1;have hkind:∀y∈ps.zip us,scope.names.lookup y.1=some .local∨(scope.names.lookup y.1=some .cell∧((cellsFrom (s.heap.objs.size+1) scope.names []).lookup y.1).isSome=true):=fun⟨n,v⟩ hy=>by
  rcases S.par n (List.of_mem_zip hy).1 with q |q
  ·exact .inl q
  ·exact .inr ⟨q,PySem.W.cellsFrom_some _ _ _ (.inl q)⟩
 refine codeAny_call_function hr.depth (KX _ _ lk) rfl S.co S.gen rfl (PySem.W.codeRec_of KX hcd) (hb _ _ _ _ ?_);refine wpAny_newFunctionEnv_cells S.kind hkind fun env he s1 x=>?_;subst he;refine⟨lim.keeps x.toInCall.keep,codeAny_func ?_⟩;obtain⟨t,ht,hq⟩:=hbody A outer s H vs Q E (hr.deeper _) hsp;have I:Inv (zqD CX P w K mg base N qual scope f cdv A outer s H E) [] (zga N vs) H s1:=znN S hr.hd e0 hl r x;refine wpAny_mono (ht [] s1 (zga N vs) H _ I hq) (fun fl s' hs=>?_) fun e s' hs=>hs;have fin:∀{σ':St}{H':Hp}{v:V}{u:Value},Inv (zqD CX P w K mg base N qual scope f cdv A outer s H E) [] σ' H' s'→RelV v u→Q v H'→CE outer P w H s Q u s':=
  fun {σ' H' v u} J rv q=>⟨v,H',J.os,J.bare,J.base,J.hok,rv,q⟩
 cases fl with
 |ret u=>
  obtain⟨v,σ',H',J,rv,q⟩:=hs;exact fin J rv q
 |next=>
  obtain⟨σ',H',J,q⟩:=hs;exact fin (v:=V.non) (u:=Value.none) J rfl q
 |brk=>
  obtain⟨_,_,_,q⟩:=hs;exact False.elim q
 |cont=>
  obtain⟨_,_,_,q⟩:=hs;exact False.elim q
section
variable {X:Cx}{x:Str}{p pos:Pos}{e:Expr}{es:List Expr}{t:TA}{id T:String}{r:List V→Hp→VK→Prop}
noncomputable def tCB (r:List V→Hp→VK→Prop) (t:TA):TE:=fun σ H Q=>t σ H fun vs H1=>r vs H1 Q
theorem zgC (hc:CallR X (.builtin id) r) (hg:Gl X x) (hm:X.mg x=none) (hv:bootBuiltins x=some (.builtin id)) (ha:PA X (e::es) t) (hn:x≠ "__name__" :=by decide) (hdb:(x == ("__debug__" :Str))=false:=by decide)
  (he:starEach (e::es) X.env=(false,eval e X.env)::starEach es X.env:=by rfl) (hpl:(backTo pos (starEach es X.env)).any (·.1)=false:=by rfl):PE X (.Call (.Name x p) (e::es) [] pos) (tCB r t):=by
 intro pins s σ H Q I h;refine wpAny_Call_Name_kw (zeN I hg hm hv ?_ hn hdb);exact PyProof.Rows.callWith_builtin1 (thn (ha pos pins s σ H _ I h) fun us s1 ⟨vs,H1,I1,r1,q1⟩=>hc pins s1 σ H1 vs us Q I1 r1 q1) he hpl
theorem zfF (hc:CallR X (.type T) r) (hg:Gl X x) (hm:X.mg x=none) (hv:bootBuiltins x=some (.type T)) (ha:PA X (e::es) t) (hn:x≠ "__name__" :=by decide) (hdb:(x == ("__debug__" :Str))=false:=by decide)
  (he:starEach (e::es) X.env=(false,eval e X.env)::starEach es X.env:=by rfl) (hpl:(backTo pos (starEach es X.env)).any (·.1)=false:=by rfl):PE X (.Call (.Name x p) (e::es) [] pos) (tCB r t):=by
 intro pins s σ H Q I h;refine wpAny_Call_Name_kw (zeN I hg hm hv ?_ hn hdb);exact PyProof.Rows.callWith_type1 (thn (ha pos pins s σ H _ I h) fun us s1 ⟨vs,H1,I1,r1,q1⟩=>hc pins s1 σ H1 vs us Q I1 r1 q1) he hpl
end
end L2
namespace HT
open PySem PyProof.Rows
section
variable {prog:Program}{w:World}{A:Around}{E:Value→Shared→Prop}{s:Shared}
theorem cat_tup{t b:Addr}{vs ws:List Value}{Q:Value→Shared→Prop}(ht:IsTup s.heap t vs.toArray) (hb:IsTup s.heap b ws.toArray) (hv:vs≠ [])
  (h1:ws=[]→Q (.ref t) s) (h2:ws≠ []→Q (.ref s.heap.objs.size) { s with heap:=s.heap.push { cls:= .type "tuple",data:= .seq (vs++ws).toArray } })
  (hsz:vs.length+ws.length≤sizeLine):wpAny (model prog w) A (binaryOp .Add (.ref t) (.ref b)) Q E s:=by
 obtain⟨⟨cls,dd,data,sl⟩,ho,hc,n,hd⟩:=id ht;obtain⟨⟨cls2,dd2,data2,sl2⟩,ho2,hc2,n2,hd2⟩:=id hb;simp only at hc hd hc2 hd2;subst hc hd hc2 hd2;have e:vs.toArray++ws.toArray=(vs++ws).toArray:=by simp
 by_cases hw:ws=[]
 ·exact concat_meets ⟨_,ho,rfl⟩ ⟨_,ho2,rfl⟩ noFill_tuple_add seq_tuple_add PySem.F.slot_tuple_add PySem.F.entry_tuple_add (PySem.F.args_tuple_add_2 _ _)
   (tuple_addW1 t b vs.toArray ws.toArray n n2 dd dd2 sl sl2 (by simpa using hv) (by simp [hw])) ⟨ho,ho2,h1 hw⟩
 ·refine concat_meets ⟨_,ho,rfl⟩ ⟨_,ho2,rfl⟩ noFill_tuple_add seq_tuple_add PySem.F.slot_tuple_add PySem.F.entry_tuple_add (PySem.F.args_tuple_add_2 _ _)
   (tuple_addW2 t b vs.toArray ws.toArray n n2 dd dd2 sl sl2 (by simpa using hv) (by simpa using hw) (by rw [List.size_toArray,List.size_toArray];exact hsz)) ⟨ho,ho2,?_⟩
  rw [e];exact h2 hw
noncomputable def sIx (n d:Nat):Option Int→Nat
 |none=>d
 |some v=>if v<0 then(v+(n:Int)).toNat else min v.toNat n
theorem sIx_none (n d:Nat):sIx n d none=d:=rfl
theorem sIx_nat (n d k:Nat):sIx n d (some (k:Int))=min k n:=by
 show(if(k:Int)<0 then((k:Int)+(n:Int)).toNat else min (k:Int).toNat n)=min k n;rw [if_neg (by omega),Int.toNat_natCast]
theorem sIx_le (n d:Nat) (hd:d≤n) (o:Option Int):sIx n d o≤n:=by
 cases o with
 |none=>exact hd
 |some v=>
  show(if v<0 then(v+(n:Int)).toNat else min v.toNat n)≤n;by_cases hv:v<0
  ·rw [if_pos hv];omega
  ·rw [if_neg hv];exact Nat.min_le_right _ _
theorem zmp (v:Int) (n d:Nat):(if v<0 then max (v+(n:Int)) 0 else min v (n:Int))=((sIx n d (some v):Nat):Int):=by
 show(if v<0 then max (v+(n:Int)) 0 else min v (n:Int))=(((if v<0 then(v+(n:Int)).toNat else min v.toNat n):Nat):Int);by_cases hv:v<0
 ·simp only[if_pos hv];omega
 ·simp only[if_neg hv];omega
theorem zlj (lo hi:Option Int) (n:Nat):Builtin.Slice.sliceAdjust lo hi 1 (n:Int)=(((sIx n 0 lo:Nat):Int),((sIx n n hi:Nat):Int)):=by
 have h1:¬((1:Int)<0):=by omega
 unfold Builtin.Slice.sliceAdjust;simp only[h1,if_false];refine Prod.ext ?_ ?_
 ·cases lo with
  |none=>rfl
  |some v=>exact zmp v n 0
 ·cases hi with
  |none=>rfl
  |some v=>exact zmp v n n
theorem zlF (i j:Nat):Builtin.Slice.slicePlaces (i:Int) (j:Int) 1=j - i:=by
 unfold Builtin.Slice.slicePlaces;have h1:(1:Int) > 0:=by omega
 simp only[h1,if_true,Int.ediv_one];split<;>omega
theorem zgq{v:Value}{o:Option Int}{Q:Option Int→Shared→Prop}(p:IsPart v o) (h:Q o s):wpAny (model prog w) A (Builtin.Slice.slicePartIndex v) Q E s:=by
 cases p with
 |none=>exact slicePart_none h
 |int i t=>exact slicePart_int h
theorem sliceApplied_gen{sl:Addr}{vl vu:Value}{lo hi:Option Int}{n:Nat}{Q:Int×Int×Nat→Shared→Prop}(hs:s.heap.IsSliceOf sl vl vu .none) (pl:IsPart vl lo) (pu:IsPart vu hi)
  (h:Q (((sIx n 0 lo:Nat):Int),1,sIx n n hi - sIx n 0 lo) s):wpAny (model prog w) A (Builtin.Slice.sliceApplied (.ref sl) (pure (n:Int))) Q E s:=by
 obtain⟨os,hos,hcs,hds⟩:=id hs;unfold Builtin.Slice.sliceApplied Builtin.Slice.sliceFields;refine wpAny_bind (wpAny_bind (wpAny_field hos hds (x:=vl) rfl (wpAny_bind (wpAny_field hos hds (x:=vu) rfl (wpAny_bind (wpAny_field hos hds (x:= .none) rfl (wpAny_pure ?_)))))));refine wpAny_bind (slicePart_none ?_);show wpAny _ _ (if((1:Int) == 0)=true then _ else _) _ _ s;rw [if_neg (by decide)];refine wpAny_bind (zgq pl (wpAny_bind (zgq pu (wpAny_bind (wpAny_pure ?_)))));show wpAny _ _ (match Builtin.Slice.sliceAdjust lo hi 1 (n:Int) with | (lo,hi)=>pure (lo,(1:Int),Builtin.Slice.slicePlaces lo hi 1)) _ _ s;rw [zlj lo hi n];show wpAny _ _ (pure (((sIx n 0 lo:Nat):Int),(1:Int),Builtin.Slice.slicePlaces ((sIx n 0 lo:Nat):Int) ((sIx n n hi:Nat):Int) 1)) _ _ s;rw [zlF];exact wpAny_pure h
theorem zos (xs:Array Value) (i k:Nat):((List.range k).filterMap fun(m:Nat)=>xs[((i:Int)+(m:Int)*1).toNat]?).toArray=((xs.toList.drop i).take k).toArray:=by
 have e:(fun(m:Nat)=>xs[((i:Int)+(m:Int)*1).toNat]?)=fun m=>xs[i+m]? :=by
  funext m;have:((i:Int)+(m:Int)*1).toNat=i+m:=by omega
  rw [this]
 rw [e];have:=pick_run xs i k;rw [List.filterMap_map]at this;have e2:((fun x=>xs[x]?)∘fun x=>i+x)=fun m=>xs[i+m]? :=rfl;rw [e2]at this;rw [this]
theorem getItem_tuple_cut{t sl:Addr}{items:Array Value}{vl vu:Value}{lo hi:Option Int}{Q:Value→Shared→Prop}(ht:IsTup s.heap t items) (hs:s.heap.IsSliceOf sl vl vu .none) (pl:IsPart vl lo) (pu:IsPart vu hi)
  (hw:¬(sIx items.size 0 lo=0∧sIx items.size items.size hi=items.size))
  (h:Q (.ref s.heap.objs.size) { s with heap:=s.heap.push { cls:= .type "tuple",data:= .seq ((items.toList.drop (sIx items.size 0 lo)).take (sIx items.size items.size hi - sIx items.size 0 lo)).toArray } })
  (hsz:items.size≤sizeLine):wpAny (model prog w) A (getItem (.ref t) (.ref sl)) Q E s:=by
 have htake:sizeOk (.seq ((items.toList.drop (sIx items.size 0 lo)).take (sIx items.size items.size hi - sIx items.size 0 lo)).toArray):=by
  show((items.toList.drop (sIx items.size 0 lo)).take (sIx items.size items.size hi - sIx items.size 0 lo)).toArray.size≤sizeLine;rw [List.size_toArray,List.length_take,List.length_drop,Array.length_toList];omega
 have hj:sIx items.size items.size hi≤items.size:=sIx_le _ _ (Nat.le_refl _) hi;obtain⟨os,hos,hcs,hds⟩:=id hs;have hTs:s.TypeIs (.ref sl) "slice" :=⟨os,hos,hcs⟩;unfold getItem
 try with_reducible refine wpAny_holding ?_
 first |refine wpAny_bind (wpAny_pure ?_) |skip
 refine wpAny_bind (wpAny_sequenceKey ht.typeIs (by decide) ?_);refine wpAny_bind (wpAny_callSpecial?_slot (name:=Str.ofString "__getitem__") ht.typeIs PyProof.Rows.slot_tuple_getitem
  (wpAny_call_entry PyProof.Rows.slot_tuple_getitem ht.typeIs entry_tuple_getitem ?_ (args_tuple_getitem _ _)))
 show wpAny _ _ (Builtin.Tuple.tupleItemsOf (.ref t) >>= _) _ _ s;refine wpAny_bind (tupleItemsOf_ ht ?_);refine wpAny_bind (wpAny_typeOf hTs ?_);rw [if_pos (by decide)];refine wpAny_bind (sliceApplied_gen hs pl pu ?_);have hno:¬((((sIx items.size 0 lo:Nat):Int) == 0&&(1:Int) == 1&&(sIx items.size items.size hi - sIx items.size 0 lo) == items.size)=true):=by
  intro q;rw [Bool.and_eq_true,Bool.and_eq_true]at q;have q1:((sIx items.size 0 lo:Nat):Int)=0:=eq_of_beq q.1.1;have q2:sIx items.size items.size hi - sIx items.size 0 lo=items.size:=eq_of_beq q.2;exact hw ⟨by omega,by omega⟩
 show wpAny _ _ (if(((sIx items.size 0 lo:Nat):Int) == 0&&(1:Int) == 1&&(sIx items.size items.size hi - sIx items.size 0 lo) == items.size)=true then _ else _) _ _ s;rw [if_neg hno,zos]
 first
  |exact wpAny_bind (m:=Builtin.Tuple.tupleExact _) (wpAny_newObj_type (wpAny_pure ⟨_,rfl,wpAny_pure h⟩) htake)
  |exact wpAny_bind (m:=Builtin.Tuple.tupleExact _) (wpAny_newObj_type (wpAny_bind (wpAny_pure (wpAny_pure ⟨_,rfl,wpAny_pure h⟩))) htake)
  |exact wpAny_bind (wpAny_bind (m:=Builtin.Tuple.tupleExact _) (wpAny_newObj_type (wpAny_pure (wpAny_pure ⟨_,rfl,wpAny_pure h⟩)) htake))
  |exact wpAny_bind (wpAny_bind (m:=Builtin.Tuple.tupleExact _) (wpAny_newObj_type (wpAny_pure ⟨_,rfl,wpAny_pure h⟩) htake))
end
end HT
namespace L2
open PySem PySem.Spec PyProof.Rows
noncomputable abbrev TO:=St→Hp→(Option Int→Hp→Prop)→Prop
noncomputable def PO (X:Cx) (e:Option Expr) (t:TO):Prop:=
 ∀(pins:List (Addr×Obj)) (s:Shared) (σ:St) (H:Hp) (Q:Option Int→Hp→Prop),Inv X pins σ H s→t σ H Q→
  wpAny (model X.prog X.w) X.A (evalPart e X.env) (fun u s'=>∃o H',Inv X pins σ H' s'∧IsPart u o∧Q o H') X.xe s
noncomputable def zrx:TO:=fun _ H Q=>Q none H
noncomputable def zvP (t:TE):TO:=fun σ H Q=>t σ H fun x H1=>∃i,x= .int i∧Q (some i) H1
section
variable {X:Cx}{e:Expr}{te:TE}{lo hi:Option Expr}{tl th:TO}{pos p2:Pos}
theorem po_none:PO X none zrx:=by
 intro pins s σ H Q I h;rw [evalPart_none];exact wpAny_pure ⟨none,H,I, .none,h⟩
theorem zrw (h:PE X e te):PO X (some e) (zvP te):=by
 intro pins s σ H Q I hw;rw [evalPart_some];refine thn (h pins s σ H _ I hw) fun u s1 ⟨x,H1,I1,r1,q1⟩=>?_;obtain⟨i,rfl,q⟩:=q1;obtain⟨t,rfl⟩:=r1;exact⟨some i,H1,I1, .int i t,q⟩
noncomputable def SlR (X:Cx) (r:V→Option Int→Option Int→Hp→VK→Prop):Prop:=
 ∀(pins:List (Addr×Obj)) (s:Shared) (σ:St) (H:Hp) (x:V) (v vl vu:Value) (lo hi:Option Int) (sl:Addr) (Q:VK),Inv X pins σ H s→RelV x v→s.heap.IsSliceOf sl vl vu .none→IsPart vl lo→IsPart vu hi→r x lo hi H Q→
  ∃T id,typeLookup (.type T) "__getitem__" =pure (some (.builtin id))∧s.TypeIs v T∧wpAny (model X.prog X.w) X.A (getItem v (.ref sl)) (EP X pins σ Q) X.xe s
theorem SlR.or{r r':V→Option Int→Option Int→Hp→VK→Prop}(h:SlR X r) (h':SlR X r'):SlR X (fun x lo hi H Q=>r x lo hi H Q∨r' x lo hi H Q):=by
 intro pins s σ H x v vl vu lo hi sl Q I rx hs pl pu q;rcases q with q |q
 ·exact h pins s σ H x v vl vu lo hi sl Q I rx hs pl pu q
 ·exact h' pins s σ H x v vl vu lo hi sl Q I rx hs pl pu q
noncomputable def tSl (r:V→Option Int→Option Int→Hp→VK→Prop) (te:TE) (tl th:TO):TE:=fun σ H Q=>te σ H fun x H1=>tl σ H1 fun l H2=>th σ H2 fun u H3=>r x l u H3 Q
theorem zkU{r:V→Option Int→Option Int→Hp→VK→Prop}(hr:SlR X r) (he:PE X e te) (hl:PO X lo tl) (hu:PO X hi th):PE X (.Subscript e (.Slice lo hi none p2) pos) (tSl r te tl th):=by
 intro pins s σ H Q I h;refine Subscript_ (thn (he pins s σ H _ I h) fun v s1 ⟨x,H1,I1,r1,q1⟩=>?_);refine wpAny_Slice (thn (hl pins s1 σ H1 _ I1 q1) fun vl s2 ⟨l,H2,I2,pl,q2⟩=>thn (hu pins s2 σ H2 _ I2 q2) fun vu s3 ⟨u,H3,I3,pu,q3⟩=>?_);rw [evalPart_none];refine wpAny_pure ?_;have I4:Inv X pins σ H3 { s3 with heap:=s3.heap.push { cls:= .type "slice",data:= .fields #[vl,vu, .none] } }:=I3.kept (t':=s3.toks) fun b ob q=>Heap.get?_push_of_some _ q;obtain⟨T,id,hT,ht,hg⟩:=hr pins { s3 with heap:=s3.heap.push { cls:= .type "slice",data:= .fields #[vl,vu, .none] } } σ H3 x v vl vu l u s3.heap.objs.size Q I4 r1 (Heap.IsSliceOf.new ..) pl pu q3;show wpAny (model X.prog X.w) X.A (subscriptTail e (.Slice lo hi none p2) v (.ref s3.heap.objs.size)) (EP X pins σ Q) X.xe { s3 with heap:=s3.heap.push { cls:= .type "slice",data:= .fields #[vl,vu, .none] } };exact tail_any (ops:=[.ref s3.heap.objs.size,v]) ht hT hg (by with_unfolding_all rfl)
noncomputable def zlV (xs:List V) (lo hi:Option Int):List V:=(xs.drop (HT.sIx xs.length 0 lo)).take (HT.sIx xs.length xs.length hi - HT.sIx xs.length 0 lo)
theorem zfE (xs:List V) (lo hi:Option Int):(zlV xs lo hi).length≤xs.length:=by
 unfold zlV;rw [List.length_take,List.length_drop];omega
noncomputable def zxI (K:PySem.W.Frag):V→Option Int→Option Int→Hp→VK→Prop:=fun x lo hi H Q=>∃a xs,x= .ref a∧SqT K H a xs∧
 ¬(HT.sIx xs.length 0 lo=0∧HT.sIx xs.length xs.length hi=xs.length)∧ ∀p,H p=none→Q (.ref p) (upd H p (.tup (zlV xs lo hi)))
theorem zum:SlR X (zxI X.K):=by
 intro pins s σ H x v vl vu lo hi sl Q I rx hs pl pu h;obtain⟨a,xs,rfl,hx,hw,q⟩:=h;cases rx;obtain⟨its,r,ht,hz⟩:=I.tuple hx;have hlen:its.toArray.size=xs.length:=by rw [List.size_toArray];exact r.length.symm
 refine⟨"tuple",_,PyProof.Rows.slot_tuple_getitem.lookup,ht.typeIs,?_⟩;refine HT.getItem_tuple_cut ht hs pl pu (by rw [hlen];exact hw) ?_ (by rw [hlen];exact hz);rw [hlen];refine⟨.ref s.heap.objs.size,_,I.laid (t':=s.toks) (o:= .tup (zlV xs lo hi)) (fun b ob q=>Heap.get?_push_of_some _ q) (Nat.le_refl _) ?_,rfl,q _ (I.hok.fresh (Nat.le_refl _))⟩;exact⟨Nat.le_trans (zfE xs lo hi) hz,_,(r.drop (HT.sIx xs.length 0 lo)).take (HT.sIx xs.length xs.length hi - HT.sIx xs.length 0 lo),IsTup.new _ _⟩
noncomputable def zsr (K:PySem.W.Frag):R2:=fun x y H Q=>∃a b xs ys,x= .ref a∧y= .ref b∧SqT K H a xs∧SqT K H b ys∧xs≠ []∧xs.length+ys.length≤sizeLine∧
 (ys=[]→Q (.ref a) H)∧(ys≠ []→ ∀p,H p=none→Q (.ref p) (upd H p (.tup (xs++ys))))
theorem Vals.nil_iff{xs:List V}{us:List Value}(r:Vals xs us):us=[]↔xs=[]:=by
 cases r with
 |nil=>simp
 |cons _ _=>simp
theorem op_catT:OpR X (binaryOp .Add) (zsr X.K):=by
 intro pins s σ H x y v u Q I rx ry h;obtain⟨a,b,xs,ys,rfl,rfl,ha,hb,hx,hz,q1,q2⟩:=h;cases rx;cases ry;obtain⟨its,r1,p1,_⟩:=I.tuple ha;obtain⟨its2,r2,p2,_⟩:=I.tuple hb;refine HT.cat_tup p1 p2 (fun z=>hx (r1.nil_iff.mp z)) (fun z=>⟨.ref a,H,I,rfl,q1 (r2.nil_iff.mp z)⟩) (fun z=>?_) (by rw [←r1.length,←r2.length];exact hz);refine⟨.ref s.heap.objs.size,_,I.laid (t':=s.toks) (o:= .tup (xs++ys)) (fun b ob q=>Heap.get?_push_of_some _ q) (Nat.le_refl _) ?_,rfl,q2 (fun w=>z (r2.nil_iff.mpr w)) _ (I.hok.fresh (Nat.le_refl _))⟩;exact⟨by rw [List.length_append];exact hz,_,r1.append r2,IsTup.new _ _⟩
end
noncomputable def ixN (n:Nat) (i:Int):Option Nat:=if 0≤i then(if i<n then some i.toNat else none) else if -(n:Int)≤i then some (i+n).toNat else none
noncomputable def atI {α:Type}(xs:List α) (i:Int):Option α:=(ixN xs.length i).bind fun j=>xs[j]?
theorem zrU{n:Nat}{i:Int}{j:Nat}(h:ixN n i=some j):seqIndex? i n=some j∧j<n∧ -(n:Int)≤i∧i<n:=by
 unfold ixN at h;by_cases h0:0≤i
 ·rw [if_pos h0]at h;by_cases h1:i<n
  ·rw [if_pos h1]at h;have e:i.toNat=j:=Option.some.inj h;exact⟨by rw [seqIndex_of h0 h1,e],by omega,by omega,h1⟩
  ·rw [if_neg h1]at h;cases h
 ·rw [if_neg h0]at h;by_cases h1: -(n:Int)≤i
  ·rw [if_pos h1]at h;have e:(i+n).toNat=j:=Option.some.inj h;exact⟨by rw [seqIndex_neg (by omega) h1,e],by omega,h1,by omega⟩
  ·rw [if_neg h1]at h;cases h
theorem zjG{α:Type}{xs:List α}{i:Int}{v:α}(h:atI xs i=some v):∃j,seqIndex? i xs.length=some j∧xs[j]? =some v∧j<xs.length∧ -(xs.length:Int)≤i∧i<xs.length:=by
 unfold atI at h;cases e:ixN xs.length i with
 |none=>rw [e]at h;cases h
 |some j=>
  rw [e]at h;obtain⟨h1,h2,h3,h4⟩:=zrU e;exact⟨j,h1,h,h2,h3,h4⟩
theorem zmA{α:Type}{xs:List α}{j:Nat}{v:α}(h:xs[j]? =some v):atI xs (j:Int)=some v:=by
 have hj:j<xs.length:=(List.getElem?_eq_some_iff.mp h).1;have e:ixN xs.length (j:Int)=some j:=by
  unfold ixN;rw [if_pos (by omega),if_pos (by omega)];simp
 unfold atI;rw [e];exact h
noncomputable def ziW (b:Expr):Prop:=∀o i,subscripted b false o i=operate [o,i] (getItem o i)
noncomputable def IxR (X:Cx) (r:R2):Prop:=
 ∀(value slice:Expr) (pins:List (Addr×Obj)) (s:Shared) (σ:St) (H:Hp) (x y:V) (v u:Value) (Q:VK),Inv X pins σ H s→RelV x v→RelV y u→r x y H Q→
  subscripted slice false v u=operate [v,u] (getItem v u)→wpAny (model X.prog X.w) X.A (subscriptTail value slice v u) (EP X pins σ Q) X.xe s
noncomputable def MtR (X:Cx) (id:String) (r:V→List V→Hp→VK→Prop):Prop:=
 ∀(pins:List (Addr×Obj)) (s:Shared) (σ:St) (H:Hp) (x:V) (xs:List V) (v:Value) (us:List Value) (Q:VK),Inv X pins σ H s→RelV x v→Vals xs us→r x xs H Q→
  wpAny (model X.prog X.w) X.A (call (.builtin id) (v::us)) (EP X pins σ Q) X.xe s
section
variable {X:Cx}{a b:Expr}{ta tb:TE}{pos:Pos}
theorem IxR.or{r r':R2}(h:IxR X r) (h':IxR X r'):IxR X (fun x y H Q=>r x y H Q∨r' x y H Q):=by
 intro value slice pins s σ H x y v u Q I rx ry q hs;rcases q with q |q
 ·exact h value slice pins s σ H x y v u Q I rx ry q hs
 ·exact h' value slice pins s σ H x y v u Q I rx ry q hs
theorem MtR.or{id:String}{r r':V→List V→Hp→VK→Prop}(h:MtR X id r) (h':MtR X id r'):MtR X id (fun x xs H Q=>r x xs H Q∨r' x xs H Q):=by
 intro pins s σ H x xs v us Q I rx rs q;rcases q with q |q
 ·exact h pins s σ H x xs v us Q I rx rs q
 ·exact h' pins s σ H x xs v us Q I rx rs q
theorem zta{r:R2}(hr:IxR X r) (ha:PE X a ta) (hb:PE X b tb) (hs:ziW b):PE X (.Subscript a b pos) (tOp r ta tb):=by
 intro pins s σ H Q I h;exact Subscript_ (zvM ha hb I h fun v u s2 x y H2 I2 rx ry q=>hr a b pins s2 σ H2 x y v u Q I2 rx ry q (hs _ _))
noncomputable def zwJ (K:PySem.W.Frag):R2:=fun x y H Q=>∃p xs i v,x= .ref p∧y= .int i∧SqL K H p xs∧atI xs i=some v∧Q v H
noncomputable def zwH (K:PySem.W.Frag):R2:=fun x y H Q=>∃p xs i v,x= .ref p∧y= .int i∧SqT K H p xs∧atI xs i=some v∧Q v H
noncomputable def zwK:R2:=fun x y H Q=>∃z i c,x= .str z∧y= .int i∧z.length≤sizeLine∧atI z.cps.toList i=some c∧Q (.str ⟨#[c]⟩) H
theorem ix_list:IxR X (zwJ X.K):=by
 intro value slice pins s σ H x y v u Q I rx ry h hs;obtain⟨p,xs,i,z,rfl,rfl,hq,he,q⟩:=h;cases rx;obtain⟨t,rfl⟩:=ry;obtain⟨its,r,pl,hz⟩:=I.list hq;obtain⟨j,h1,h2,h3,h4,h5⟩:=zjG he;obtain⟨w,ew,rw'⟩:=r.get h2;have hl:=r.length;have hn:=zgj;have fin:EP X pins σ Q w s:=⟨z,H,I,rw',q⟩;by_cases h0:0≤i
 ·have hj:i.toNat=j:=by
   rw [seqIndex_of h0 h5]at h1;exact Option.some.inj h1
  exact item_listR pl.isList h0 (by omega) (by rw [hj];simpa using ew) fin hs
 ·have hj:(i+(its.toArray.size:Int)).toNat=j:=by
   rw [seqIndex_neg (by omega) h4]at h1;rw [List.size_toArray,←hl];exact Option.some.inj h1
  exact subscriptTail_builtinR (x:=w) pl.isList.typeIs slot_list_getitem.lookup
   (wpAny_getItem_list_neg (Q:=fun r s'=>r=w∧EP X pins σ Q r s') pl.isList (by omega) (by rw [List.size_toArray]<;>omega) (by omega) (by rw [hj];simpa using ew) ⟨rfl,fin⟩) hs
theorem ix_tup:IxR X (zwH X.K):=by
 intro value slice pins s σ H x y v u Q I rx ry h hs;obtain⟨p,xs,i,z,rfl,rfl,hq,he,q⟩:=h;cases rx;obtain⟨t,rfl⟩:=ry;obtain⟨its,r,pl,hz⟩:=I.tuple hq;obtain⟨j,h1,h2,h3,h4,h5⟩:=zjG he;obtain⟨w,ew,rw'⟩:=r.get h2;have hl:=r.length;have hn:=zgj;have fin:EP X pins σ Q w s:=⟨z,H,I,rw',q⟩;exact subscriptTail_builtinR (x:=w) pl.typeIs slot_tuple_getitem.lookup
  (getItem_tuple (j:=j) (Q:=fun r s'=>r=w∧EP X pins σ Q r s') pl (by omega) (by omega) (by rw [List.size_toArray,←hl];exact h1) (by simpa using ew) ⟨rfl,fin⟩) hs
theorem zsP:IxR X zwK:=by
 intro value slice pins s σ H x y v u Q I rx ry h hs;obtain⟨z,i,c,rfl,rfl,hz,he,q⟩:=h;obtain⟨t,rfl⟩:=rx;obtain⟨t',rfl⟩:=ry;obtain⟨j,h1,h2,h3,h4,h5⟩:=zjG he;have hl:z.cps.toList.length=z.length:=by simp [Str.length]
 rw [hl]at h1 h4 h5;have hn:=zgj;exact tail_any (typeIs_str s z t) slot_str_getitem.lookup (getItem_str (c:=c) (by
  have e1:decide (i< -(2 ^ 63:Int))=false:=decide_eq_false (by omega);have e2:decide (i≥2 ^ 63)=false:=decide_eq_false (by omega);rw [e1,e2,Bool.or_false]) (by rw [h1];simpa using h2) ⟨.str ⟨#[c]⟩,H,I.tok _,⟨_,rfl⟩,q⟩) hs
noncomputable def rIx (K:PySem.W.Frag):R2:=fun x y H Q=>zwJ K x y H Q∨zwH K x y H Q∨zwK x y H Q
theorem zpV:IxR X (rIx X.K):=ix_list.or (ix_tup.or zsP)
theorem zhU (lo hi:Option Int) (n:Nat):(sliceBounds lo hi none n).1=((HT.sIx n 0 lo:Nat):Int)∧(sliceBounds lo hi none n).2.1=((HT.sIx n n hi:Nat):Int)∧(sliceBounds lo hi none n).2.2=1:=by
 refine⟨?_,?_,rfl⟩
 ·cases lo with
  |none=>simp [sliceBounds,HT.sIx]
  |some i=>
   simp only[sliceBounds,HT.sIx,Option.getD_none,show(1:Int) > 0 by decide,if_true]
   by_cases h:i<0
   ·simp only[h,if_true]<;>omega
   ·simp only[h,if_false]<;>omega
 ·cases hi with
  |none=>simp [sliceBounds,HT.sIx]
  |some i=>
   simp only[sliceBounds,HT.sIx,Option.getD_none,show(1:Int) > 0 by decide,if_true]
   by_cases h:i<0
   ·simp only[h,if_true]<;>omega
   ·simp only[h,if_false]<;>omega
theorem zha (its:List Value) (lo hi:Option Int):slicePick its.toArray lo hi none=((its.drop (HT.sIx its.length 0 lo)).take (HT.sIx its.length its.length hi - HT.sIx its.length 0 lo)).toArray:=by
 obtain⟨h1,h2,h3⟩:=zhU lo hi its.toArray.size;unfold slicePick;rw [h1,h2,h3];simp only[sliceRange_one,pick_run,List.size_toArray]<;>rfl
noncomputable def zxo (K:PySem.W.Frag):V→Option Int→Option Int→Hp→VK→Prop:=fun x lo hi H Q=>∃a xs,x= .ref a∧SqL K H a xs∧ ∀p,H p=none→Q (.ref p) (upd H p (.lst (zlV xs lo hi)))
theorem zod:SlR X (zxo X.K):=by
 intro pins s σ H x v vl vu lo hi sl Q I rx hs pl pu h;obtain⟨a,xs,rfl,hx,q⟩:=h;cases rx;obtain⟨its,r,ht,hz⟩:=I.list hx;have hlen:=r.length;refine⟨"list",_,slot_list_getitem.lookup,ht.isList.typeIs,?_⟩;refine wpAny_getItem_list_slice ht.isList hs pl pu .none (by simp) ?_ (by rw [List.size_toArray]<;>omega);rw [zha,←hlen];refine⟨.ref s.heap.objs.size,_,I.laid (t':=s.toks) (o:= .lst (zlV xs lo hi)) (fun b ob q=>Heap.get?_push_of_some _ q) (Nat.le_refl _) ?_,rfl,q _ (I.hok.fresh (Nat.le_refl _))⟩;exact⟨Nat.le_trans (zfE xs lo hi) hz,_,0,(r.drop (HT.sIx xs.length 0 lo)).take (HT.sIx xs.length xs.length hi - HT.sIx xs.length 0 lo),Heap.get?_push_size _ rfl⟩
theorem call_len_seq:CallR X (.builtin "len") (fun xs H Q=>∃p ys,xs=[.ref p]∧(SqL X.K H p ys∨SqT X.K H p ys)∧Q (.int ys.length) H):=by
 intro pins s σ H xs us Q I r h;obtain⟨p,ys,rfl,hq,q⟩:=h;obtain⟨u,rfl,rx⟩:=zgW r;cases rx;have hn:=zgj;rcases hq with hq |hq
 ·obtain⟨its,r',pl,hz⟩:=I.list hq;have hlen:=r'.length;exact Calls.call_len_list pl.isList (by simp only[List.size_toArray]<;>omega) ⟨.int ys.length,H,I.tok _,⟨s.toks+1,by rw [List.size_toArray,hlen]⟩,q⟩
 ·obtain⟨its,r',pl,hz⟩:=I.tuple hq;have hlen:=r'.length;exact len_tuple pl (by simp only[List.size_toArray]<;>omega) ⟨.int ys.length,H,I.tok _,⟨s.toks+1,by rw [List.size_toArray,hlen]⟩,q⟩
theorem zhB:CallR X (.builtin "len") (fun xs H Q=>∃z,xs=[.str z]∧z.length≤sizeLine∧Q (.int z.length) H):=by
 intro pins s σ H xs us Q I r h;obtain⟨z,rfl,hz,q⟩:=h;obtain⟨u,rfl,t,rfl⟩:=zgW r;have hn:=zgj;exact len_str (by omega) ⟨.int z.length,H,I.tok _,⟨_,rfl⟩,q⟩
theorem CallR.or{f:Value}{r r':List V→Hp→VK→Prop}(h:CallR X f r) (h':CallR X f r'):CallR X f (fun xs H Q=>r xs H Q∨r' xs H Q):=by
 intro pins s σ H xs us Q I rs q;rcases q with q |q
 ·exact h pins s σ H xs us Q I rs q
 ·exact h' pins s σ H xs us Q I rs q
theorem zia:CallR X (.type "list") (fun xs H Q=>∃p ys,xs=[.ref p]∧(SqL X.K H p ys∨SqT X.K H p ys)∧ ∀l,H l=none→Q (.ref l) (upd H l (.lst ys))):=by
 intro pins s σ H xs us Q I r h;obtain⟨p,ys,rfl,hq,q⟩:=h;obtain⟨u,rfl,rx⟩:=zgW r;cases rx;have fin:∀(its:List Value),Vals ys its→ys.length≤sizeLine→ ∀(h':Heap) (c':Nat),(∀b o',s.heap.get? b=some o'→h'.get? b=some o')→
   h'.get? s.heap.objs.size=some { cls:= .type "list",dict:=none,data:= .seq its.toArray c',slots:= #[] }→EP X pins σ Q (.ref s.heap.objs.size) { s with heap:=h' }:=fun its r' hz h' c' kp e=>
  ⟨.ref s.heap.objs.size,_,I.laid (t':=s.toks) kp (Nat.le_refl _) (show ObjOk X.prog X.w _ h' _ (.lst ys) from⟨hz,its,c',r',e⟩),rfl,q _ (I.hok.fresh (Nat.le_refl _))⟩
 rcases hq with hq |hq
 ·obtain⟨its,r',pl,hz⟩:=I.list hq;have hlen:=r'.length;obtain⟨o,ho,hc,n,hd⟩:=pl.isList;exact call_list_seq p (.inl rfl) ho hc hd (fun h' c' kp e=>fin its r' hz h' c' kp e) (by simp only[List.size_toArray]<;>omega)
 ·obtain⟨its,r',pl,hz⟩:=I.tuple hq;have hlen:=r'.length;obtain⟨o,ho,hc,n,hd⟩:=pl;exact call_list_seq p (.inr rfl) ho hc hd (fun h' c' kp e=>fin its r' hz h' c' kp e) (by simp only[List.size_toArray]<;>omega)
theorem zel:CallR X (.type "tuple") (fun xs H Q=>∃p ys,xs=[.ref p]∧((SqL X.K H p ys∧ ∀l,H l=none→Q (.ref l) (upd H l (.tup ys)))∨(SqT X.K H p ys∧Q (.ref p) H))):=by
 intro pins s σ H xs us Q I r h;obtain⟨p,ys,rfl,h⟩:=h;obtain⟨u,rfl,rx⟩:=zgW r;cases rx;rcases h with⟨hq,q⟩ |⟨hq,q⟩
 ·obtain⟨its,r',pl,hz⟩:=I.list hq;have hlen:=r'.length;refine call_tuple_list pl.isList (fun h' kp=>?_) (by simp only[List.size_toArray]<;>omega);have I1:Inv X pins σ H { s with heap:=h' }:=I.kept (t':=s.toks) kp;have I2:Inv X pins σ (upd H h'.objs.size (.tup ys)) { s with heap:=h'.push { cls:= .type "tuple",data:= .seq its.toArray } }:=
   I1.laid (t':=s.toks) (fun b o e=>Heap.get?_push_of_some _ e) (Nat.le_refl _) (show ObjOk X.prog X.w _ _ _ (.tup ys) from⟨hz,its,r',IsTup.new _ _⟩)
  exact⟨.ref h'.objs.size,_,I2,rfl,q _ (I1.hok.fresh (Nat.le_refl _))⟩
 ·obtain⟨its,r',pl,hz⟩:=I.tuple hq;exact call_tuple_same pl ⟨.ref p,H,I,rfl,q⟩
noncomputable def tyV (K:PySem.W.Frag) (T:String) (x:V) (H:Hp):Prop:=match x with
 | .str _=>T= "str"
 | .int _=>T= "int"
 | .ref p=>(T= "list" ∧ ∃xs,SqL K H p xs)∨(T= "tuple" ∧ ∃o,K.lookup p=some o∧o.cls= .type "tuple" ∧o.dict=none)∨
   (T= "dict" ∧((∃kvs,H p=some (.dK kvs))∨ ∃kvs,H p=some (.dT kvs)))∨(T= "set" ∧ ∃S n,H p=some (.set S n))
 |_=>False
theorem zqr{pins:List (Addr×Obj)}{σ:St}{H:Hp}{s:Shared}{T:String}{x:V}{v:Value}(I:Inv X pins σ H s) (r:RelV x v) (ty:tyV X.K T x H) :
  s.TypeIs v T∧ ∀a,v= .ref a→ ∃ob,s.heap.get? a=some ob∧ob.dict=none:=by
 cases x with
 |str z=>
  obtain⟨t,rfl⟩:=r;cases(show T= "str" from ty);exact⟨typeIs_str s z t,fun _ e=>nomatch e⟩
 |int i=>
  obtain⟨t,rfl⟩:=r;cases(show T= "int" from ty);exact⟨typeIs_int s i t,fun _ e=>nomatch e⟩
 |ref p=>
  cases r;rcases ty with⟨rfl,xs,hq⟩ |⟨rfl,o,hk,hc,hd⟩ |⟨rfl,hk⟩ |⟨rfl,S,n,hk⟩
  ·obtain⟨its,_,pl,_⟩:=I.list hq;refine⟨pl.isList.typeIs,fun a e=>?_⟩;cases e;obtain⟨o,n,e,c,hd,_⟩:=pl;exact⟨o,e,hd⟩
  ·refine⟨⟨o,I.kIn p o hk,hc⟩,fun a e=>?_⟩;cases e;exact⟨o,I.kIn _ o hk,hd⟩
  ·have z:∃o,s.heap.get? p=some o∧o.ExactDict:=by
    rcases hk with⟨kvs,hk⟩ |⟨kvs,hk⟩
    ·obtain⟨_,_,_,_,o,_,_,e,ex,_⟩:=I.hok p _ hk;exact⟨o,e,ex⟩
    ·obtain⟨_,_,_,_,o,_,_,e,ex,_⟩:=I.hok p _ hk;exact⟨o,e,ex⟩
   obtain⟨o,e,ex⟩:=z;refine⟨⟨o,e,ex.1⟩,fun a e2=>?_⟩;cases e2;exact⟨o,e,ex.2.1⟩
  ·obtain⟨o,_,_,_,e,ex,_⟩:=I.hok p _ hk;refine⟨⟨o,e,ex.1⟩,fun a e2=>?_⟩;cases e2;exact⟨o,e,ex.2.1⟩
 |_=>exact False.elim ty
noncomputable def zwZ (K:PySem.W.Frag) (T:String) (r:V→List V→Hp→VK→Prop) (to:TE):TE:=fun σ H Q=>to σ H fun x H1=>tyV K T x H1∧r x [] H1 Q
noncomputable def tBM (K:PySem.W.Frag) (T:String) (r:V→List V→Hp→VK→Prop) (to:TE) (t:TA):TE:=fun σ H Q=>to σ H fun x H1=>tyV K T x H1∧t σ H1 fun xs H2=>r x xs H2 Q
variable {o e:Expr}{es:List Expr}{to:TE}{t:TA}{name:Str}{apos cpos:Pos}{T id:String}{r:V→List V→Hp→VK→Prop}
theorem zsS (pa:PlainAttrs T) (slot:Slot T name id) (hty:typeOf (.builtin id)=pure (.type "method_descriptor")) (hm:MtR X id r) (ho:PE X o to)
  (hbase:attributeBase o name X.env (eval o X.env)=eval o X.env:=by rfl) (hline:(apos.endLine == cpos.line)=true:=by rfl):PE X (.Call (.Attribute o name apos) [] [] cpos) (zwZ X.K T r to):=by
 intro pins s σ H Q I h;refine wpAny_Call_method0_late hbase hline (thn (ho pins s σ H _ I h) fun v s1 ⟨x,H1,I1,r1,ty,q1⟩=>?_);obtain⟨h1,h2⟩:=zqr I1 r1 ty;exact⟨T,id,pa,slot,hty,h1,h2,Calls.callWith_builtin rfl (PySem.evalArgs_none (hm pins s1 σ H1 x [] v [] Q I1 r1 .nil q1))⟩
theorem zuF (pa:PlainAttrs T) (slot:Slot T name id) (hty:typeOf (.builtin id)=pure (.type "method_descriptor")) (hm:MtR X id r) (ho:PE X o to) (ha:PA X (e::es) t)
  (hbase:attributeBase o name X.env (eval o X.env)=eval o X.env:=by rfl)
  (hfew:((backTo cpos (starEach (e::es) X.env)).all (fun x=> !x.1)&&(backToKw cpos (keywordEach [] X.env)).all (fun x=>x.1.isSome)
   &&decide ((e::es).length+([]:List Keyword).length+(if([]:List Keyword).isEmpty then 0 else 1)<30))=true:=by rfl)
  (hline:(apos.endLine == cpos.line)=true:=by rfl) (hs:starEach (e::es) X.env=(false,eval e X.env)::starEach es X.env:=by rfl) (hplain:(backTo cpos (starEach es X.env)).any (·.1)=false:=by rfl) :
  PE X (.Call (.Attribute o name apos) (e::es) [] cpos) (tBM X.K T r to t):=by
 intro pins s σ H Q I h;refine wpAny_Call_method_late hbase hfew hline rfl (thn (ho pins s σ H _ I h) fun v s1 ⟨x,H1,I1,r1,ty,q1⟩=>?_);obtain⟨h1,h2⟩:=zqr I1 r1 ty;refine⟨T,id,pa,slot,hty,h1,h2,?_⟩;have hA:=ha cpos pins s1 σ H1 _ I1 q1;rw [hs]at hA⊢;refine Calls.callWith_builtin (by show(false || (backTo cpos (starEach es X.env)).any (·.1))=false;rw [hplain]<;>rfl) (Calls.evalArgs_plain ?_)
 exact thn hA fun us s2 ⟨vs,H2,I2,r2,q2⟩=>hm pins s2 σ H2 x vs v us Q I2 r1 r2 q2
end
noncomputable def MtM (X:Cx) (id:String) (r:V→List V→Hp→VK→Prop):Prop:=
 ∀(pins:List (Addr×Obj)) (s:Shared) (σ:St) (H:Hp) (x:V) (xs:List V) (v:Value) (us:List Value) (Q:VK),Inv X pins σ H s→RelV x v→Vals xs us→r x xs H Q→
  wpAny (model X.prog X.w) X.A (call (.builtin id) (v::us)) (EP X pins σ Q) X.xe s
theorem Vals.one:∀{x:V}{us:List Value},Vals [x] us→ ∃u,us=[u]∧RelV x u
 |_,_, .cons r .nil=>⟨_,rfl,r⟩
theorem Vals.rep{xs:List V}{us:List Value}(h:Vals xs us):∀k:Nat,Vals (List.replicate k xs).flatten (List.replicate k us).flatten
 |0=> .nil
 |k+1=>by
  rw [List.replicate_succ,List.replicate_succ,List.flatten_cons,List.flatten_cons];exact Vals.append h (Vals.rep h k)
theorem zhY (its:List Value):∀(k:Nat) (acc:List Value),
  List.foldl (fun x1 x2=>x1++x2) acc.toArray (List.replicate k its.toArray)=(acc++(List.replicate k its).flatten).toArray
 |0,acc=>by simp
 |k+1,acc=>by
  have e:acc.toArray++its.toArray=(acc++its).toArray:=by simp
  have e2:(acc++its)++(List.replicate k its).flatten=acc++(List.replicate (k+1) its).flatten:=by
   rw [List.replicate_succ,List.flatten_cons,List.append_assoc]
  rw [←e2,←zhY its k (acc++its),←e,List.replicate_succ,List.foldl_cons]
section
variable {X:Cx}{pins:List (Addr×Obj)}{σ:St}{H:Hp}{s:Shared}{l:Addr}{xs ys:List V}
theorem Inv.lset{its its':List Value}{n:Nat}{f:Array Value→Array Value}{t':Nat}(I:Inv X pins σ H s) (hH:H l=some (.lst xs))
  (e:s.heap.get? l=some { cls:= .type "list",data:= .seq its.toArray n }) (hf:f its.toArray=its'.toArray) (hv:Vals ys its') (hz:ys.length≤sizeLine) :
  Inv X pins σ (upd H l (.lst ys)) { s with heap:=s.heap.update l (Obj.mapSeq f),toks:=t' }:=by
 have q:=PySem.IsL.update e f;rw [hf]at q;refine I.write (x:=l) (e:=l) (by rw [hH];exact trivial) (.inl rfl) (fun b' u hb hu=>(Heap.get?_update_other s.heap (Obj.mapSeq f) (Ne.symm hb)).trans hu) ⟨_,q⟩ ?_;exact⟨hz,its',_,hv,q⟩
theorem Inv.lnew{its:List Value}{t':Nat}(I:Inv X pins σ H s) (hv:Vals ys its) (hz:ys.length≤sizeLine) :
  Inv X pins σ (upd H s.heap.objs.size (.lst ys)) { s with heap:=s.heap.push { cls:= .type "list",data:= .seq its.toArray },toks:=t' }:=
 I.laid (fun _ _ q=>Heap.get?_push_of_some _ q) (Nat.le_refl _) ⟨hz,its,0,hv,Heap.get?_push_size _ rfl⟩
theorem Inv.fresh (I:Inv X pins σ H s):H s.heap.objs.size=none:=I.hok.fresh (Nat.le_refl _)
theorem Inv.lstM (I:Inv X pins σ H s) (hH:H l=some (.lst xs)):xs.length≤sizeLine∧ ∃(its:List Value) (n:Nat),Vals xs its∧xs.length=its.length∧s.heap.get? l=some { cls:= .type "list",data:= .seq its.toArray n }:=by
 obtain⟨z,its,n,r,e⟩:=I.hok l _ hH;exact⟨z,its,n,r,r.length,e⟩
theorem zgP{n:Nat}(h:n≤sizeLine):Builtin.List.listTooLong n=false:=by
 unfold Builtin.List.listTooLong;exact decide_eq_false (by omega)
end
section
variable {X:Cx}
noncomputable def zns:V→List V→Hp→VK→Prop:=fun x vs H Q=>∃l xs y,x= .ref l∧vs=[y]∧H l=some (.lst xs)∧xs.length<sizeLine∧Q .non (upd H l (.lst (xs++[y])))
theorem zhQ:MtM X "list.append" zns:=by
 intro pins s σ H x vs v us Q I rx rv h;obtain⟨l,xs,y,rfl,rfl,hH,hz,q⟩:=h;cases rx;obtain⟨u,rfl,ru⟩:=rv.one;obtain⟨z,its,n,r,hl,e⟩:=I.lstM hH;refine call_meets F.slot_list_append ⟨_,e,rfl⟩ F.entry_list_append (F.args_list_append_2 _ _) (PySem.list_append l its.toArray n u (by rw [List.size_toArray];omega)) ⟨e,?_⟩;refine⟨.non,_,I.lset (its':=its++[u]) hH e (by simp) (r.append (.cons ru .nil)) ?_,rfl,q⟩;rw [List.length_append,List.length_singleton];omega
noncomputable def znT:V→List V→Hp→VK→Prop:=fun x vs H Q=>∃l b xs zs,x= .ref l∧vs=[.ref b]∧H l=some (.lst xs)∧H b=some (.lst zs)∧xs.length+zs.length≤sizeLine∧Q .non (upd H l (.lst (xs++zs)))
theorem zmw:MtM X "list.extend" znT:=by
 intro pins s σ H x vs v us Q I rx rv h;obtain⟨l,b,xs,zs,rfl,rfl,hH,hB,hz,q⟩:=h;cases rx;obtain⟨u,rfl,ru⟩:=rv.one;cases ru;obtain⟨z,its,n,r,hl,e⟩:=I.lstM hH;obtain⟨z2,its2,n2,r2,hl2,e2⟩:=I.lstM hB;have hsz:its.toArray.size+its2.toArray.size≤sizeLine:=by rw [List.size_toArray,List.size_toArray];omega
 have hlong:¬(!its.toArray.isEmpty&&Builtin.List.listTooLong (its.toArray.size+its2.toArray.size))=true:=by
  rw [zgP hsz,Bool.and_false];exact Bool.false_ne_true
 refine call_meets F.slot_list_extend ⟨_,e,rfl⟩ F.entry_list_extend (F.args_list_extend_2 _ _)
  (AutoSeq1.list_extend_list_list_0 l its.toArray n b its2.toArray n2 hlong (by rw [List.size_toArray];omega) (by omega)) ⟨e,e2,?_⟩
 refine⟨.non,_,I.lset (its':=its++its2) hH e (by simp) (r.append r2) ?_,rfl,q⟩;rw [List.length_append];omega
noncomputable def zvU:R2:=fun x y H Q=>∃l b xs zs,x= .ref l∧y= .ref b∧H l=some (.lst xs)∧H b=some (.lst zs)∧xs.length+zs.length≤sizeLine∧ ∀p,H p=none→Q (.ref p) (upd H p (.lst (xs++zs)))
theorem zkL:OpR X (binaryOp .Add) zvU:=by
 intro pins s σ H x y v u Q I rx ry h;obtain⟨l,b,xs,zs,rfl,rfl,hH,hB,hz,q⟩:=h;cases rx;cases ry;obtain⟨z,its,n,r,hl,e⟩:=I.lstM hH;obtain⟨z2,its2,n2,r2,hl2,e2⟩:=I.lstM hB;refine PySem.P.add_list e e2 ?_ (by rw [List.size_toArray,List.size_toArray];omega);have ea:its.toArray++its2.toArray=(its++its2).toArray:=by simp
 rw [ea];exact⟨.ref _,_,I.lnew (t':=s.toks) (r.append r2) (by rw [List.length_append];omega),rfl,q _ I.fresh⟩
noncomputable def zwN:R2:=fun x y H Q=>∃l k xs,x= .ref l∧y= .int k∧H l=some (.lst xs)∧ -(2 ^ 63)≤k∧k<2 ^ 63∧xs.length*k.toNat≤sizeLine∧
 ∀p,H p=none→Q (.ref p) (upd H p (.lst (List.replicate k.toNat xs).flatten))
theorem zri{α:Type}(xs:List α) (k:Nat):(List.replicate k xs).flatten.length=k*xs.length:=by
 induction k with
 |zero=>simp
 |succ k ih=>rw [List.replicate_succ,List.flatten_cons,List.length_append,ih,Nat.succ_mul,Nat.add_comm]
theorem zuy:OpR X (binaryOp .Mult) zwN:=by
 intro pins s σ H x y v u Q I rx ry h;obtain⟨l,k,xs,rfl,rfl,hH,h1,h2,hz,q⟩:=h;cases rx;obtain⟨t,rfl⟩:=ry;obtain⟨z,its,n,r,hl,e⟩:=I.lstM hH;have hlen:its.toArray.size*k.toNat≤sizeLine:=by rw [List.size_toArray,←hl];exact hz
 have hcap:¬its.toArray.size*k.toNat > (2 ^ 63 - 1) / 8:=by
  have:(sizeLine:Nat)≤(2 ^ 63 - 1) / 8:=by decide
  omega
 have hfit:¬(!Builtin.List.listFitsIndex k)=true:=by
  rw [fitsIndex_both h1 h2];exact Bool.false_ne_true
 have hlong:¬Builtin.List.listTooLong (its.toArray.size*k.toNat)=true:=by
  rw [zgP hlen];exact Bool.false_ne_true
 have hnew:List.foldl (fun x1 x2=>x1++x2) #[] (List.replicate (if its.toArray.isEmpty=true then 0 else k.toNat) its.toArray)=(List.replicate k.toNat its).flatten.toArray:=by
  have f0:∀m:Nat,List.foldl (fun x1 x2=>x1++x2) #[] (List.replicate m its.toArray)=(List.replicate m its).flatten.toArray:=fun m=>by
   have:=zhY its m [];rw [List.nil_append]at this;exact this
  rw [f0];cases its with
  |nil=>simp
  |cons a r'=>rw [if_neg (by simp)]
 refine wpAny_binaryOp_repeat_ref (T:= "list") (U:= "int") (by decide) ⟨_,e,rfl⟩ (fun s'=>typeIs_int s' k t) noFill_list_mul F.fills_int_mul F.slot_int_rmul repeat_list F.slot_int_index.lookup
  (call_meets F.slot_int_rmul (typeIs_int s k t) F.entry_int_rmul (F.args_int_rmul_2 _ _) (int___rmul___int_list k t l its.toArray n)
   ⟨e,rfl,⟨_,e,rfl⟩,call_meets F.slot_list_mul ⟨_,e,rfl⟩ F.entry_list_mul (F.args_list_mul_2 _ _) (AutoListH.list___mul___list_int_3 l its.toArray n k t hfit hcap hlong) ⟨e,?_⟩⟩)
 rw [hnew];exact⟨.ref _,_,I.lnew (t':=s.toks) (r.rep k.toNat) (by rw [zri,Nat.mul_comm];exact hz),rfl,q _ I.fresh⟩
end
end L2
namespace Att
open PySem PySem.W PySem.Calls PyProof.Rows
theorem zfV{P:Params}{h:Heap}:∀(ns:List Int) (vs:List Value),WellAll P h vs (ns.map WData.int)→IntsAre vs ns:=by
 intro ns
 induction ns with
 |nil=>
  intro vs w;rw [List.map_nil]at w;cases w;exact .nil
 |cons n ns ih=>
  intro vs w;rw [List.map_cons]at w;cases w with
  |cons a b=>
   cases a;exact .cons _ _ (ih _ b)
theorem zmi{l:OpenLaw}{n:Nat}(hn:l.most=some n) {P:Params}{h:Heap}{args:List WData}{vals:List Value}
  (hpre:l.row.toRowW.claim.pre args=true) (hwl:WellAll P h vals args) :
  ∃a vs ns,vals=[Value.ref a]∧args=[WData.list (ns.map WData.int)]∧h.get? a=some { cls:= .type "list",data:= .seq vs.toArray }∧IntsAre vs ns∧ns.length≤n:=by
 have hsh:WShape.hasAll [] args [.list .int]=true:=(pre_splitW hpre).1;have hc:l.pre.holds [] { args:=args }=true:=(pre_splitW hpre).2;obtain⟨d,r,rfl,h1,h2⟩:=hasAllW_cons hsh;obtain rfl:=hasAllW_nil h2;obtain⟨xs,rfl,h3⟩:=hasW_list h1;obtain⟨ns,rfl⟩:=items_int h3;have hlen:ns.length≤n:=by
  unfold OpenLaw.pre at hc;have h4:(WTm.not (.lt (.lit (.int (n:Int))) (.len (.arg 0)))).holds [] { args:=[.list (ns.map .int)] }=true:=by
   have h4:=(holds_andW hc).1;rw [hn]at h4;exact h4
  have h5:=condW_of h4 (w_not (w_lt w_lit (w_len_list (w_arg rfl))));rw [List.length_map]at h5;refine Nat.le_of_not_lt fun q=>?_;have q':(n:Int)<((ns.length:Nat):Int):=by omega
  first
   | (rw [decide_eq_true q']at h5;exact absurd h5 (by decide))
   | (simp at h5;omega)
 cases hwl with
 |cons w1 w2=>
  cases w2;cases w1 with
  |list ho hall=>exact⟨_,_,ns,rfl,rfl,ho,zfV ns _ hall,hlen⟩
theorem zmk (l:OpenLaw) (args:List WData):l.row.toRowW.claim.post args (.bool true) args=true:=
 postW_of (r:=l.row.toRowW) (X:=(true == true))
  (show WShape.has [] (.bool true) .bool=true by first |rfl |decide |simp [WShape.has,WShape.arms,WShape.armsAll])
  (show(WTm.eq .res (.lit (.bool true))).value [] { args:=args,res:=some (.bool true),after:=args }=some (.bool (true == true)) from w_eq_bool (w_res rfl) w_lit) rfl
theorem attach_call{l:OpenLaw}{n:Nat}{q:Program}{loose:List Str}{XP:(Str→Option Value)→Heap→Prop}{YP:World→Heap→Prop}{d:DefRec}
  (hn:l.most=some n) (hdf:d.params.defaults=[])
  (call:∀(w:World) (s₀ s₁:Shared) (mg mb:Str→Option Value) (fa:Addr) (o:Obj) (pm cd doc:Value) (a:Addr) (vs:List Value) (ns:List Int),
   Ground q loose [] XP w s₀ mg mb s₁.heap→YP w s₁.heap→
   s₁.heap.get? fa=some o→o.data= .func (docDef d.name d.params d.body d.scope pm cd doc)→s₁.heap.CodeRec cd d.name→mg d.name=some (.ref fa)→
   s₁.heap.get? a=some { cls:= .type "list",data:= .seq vs.toArray }→IntsAre vs ns→ns.length≤n→s₁.gens= #[]→
   codeAny (model l.prog w) callerA (.call (.ref fa) ⟨[.ref a],[]⟩) (fun r s'=>r= .ok (.ret (.bool true))∧OldK s₁.heap s'.heap∧s'.os=s₁.os∧AllBare s'.gens) s₁) :
  WalkO q loose XP YP l.row.toRowW d [] (fun f vs=>PySem.call f vs):=by
 intro w s₀ s₁ mg mb G Y fa o pm cd doc dV kV ho hd hcd hD hmg hg args vals as hpre hlay hrd hwl hlo;obtain rfl:dV= .none:=Dflts.none hD hdf;obtain rfl:kV= .none:=Dflts.noKw hD;obtain⟨a,vs,ns,rfl,rfl,hobj,hints,hlen⟩:=zmi hn hpre hwl;refine enter_call (codeAny_mono (call w s₀ s₁ mg mb fa o pm cd doc a vs ns G Y ho (fd_plain hd) hcd hmg hobj hints hlen hg) fun r s' hq=>?_);obtain⟨rfl,h2,h3,h4⟩:=hq;exact⟨.inl ⟨.bool true, .bool true,[],rfl,fun _=>rfl, .bool true,zmk l _,fun _=>⟨List.Pairwise.nil,fun _ hm=>(nomatch hm)⟩⟩,h2,h3,h4⟩
end Att
namespace L2
open PySem PySem.Spec PyProof.Rows
theorem zih:∀{vs:List Value}{ns:List Int},IntsAre vs ns→Vals (ns.map V.int) vs
 |_,_, .nil=> .nil
 |_,_, .cons n t h=> .cons ⟨t,rfl⟩ (zih h)
noncomputable def zuY (H:Hp):Prop:=∀b,H b=none∨ ∃o xs,H b=some (.frz o (.lst xs))
theorem zok{P:Program}{w:World}{K:PySem.W.Frag}{mg mb:Str→Option Value}{CX:CXT}{k:Nat}{fa a:Addr}{fd:FuncData}{x:Str}{sp:Sp}{s₁:Shared}{vs:List Value}{ns:List Int}
  (KX:K.In s₁.heap) (hns:s₁.heap.Ns mainGlobals mg) (hb:s₁.heap.Ns builtinsNs mb) (hbb:∀x:Str,x≠ "__name__" →mb x=bootBuiltins x) (hlim:s₁.heap.NoLimit) (hg:s₁.gens= #[])
  (ha:s₁.heap.get? a=some { cls:= .type "list",data:= .seq vs.toArray }) (hi:IntsAre vs ns) (hl:ns.length≤sizeLine) (hr:Room k callerA)
  (F:∀base:Heap,K.In base→base.Ns mainGlobals mg→FnOk P w K mg base CX k fa fd [x] sp) (hbind:∀(s:Shared) (u:Value),BindsTo s fd ⟨[u],[]⟩ [(x,u)])
  (hsp:∀H:Hp,zuY H→SqL K H a (ns.map V.int)→sp [.ref a] H (fun v _=>v= .bl true) fun _ _ _=>False)
  (hCX:∀H e s',CX [] H s₁ (fun _ _ _=>False) e s'→False) :
  codeAny (model P w) callerA (.call (.ref fa) ⟨[.ref a],[]⟩) (fun r s'=>r= .ok (.ret (.bool true))∧OldK s₁.heap s'.heap∧s'.os=s₁.os∧AllBare s'.gens) s₁:=by
 have rv:=zih hi;have lenV:=hi.length;have core:∀H:Hp,zuY H→SqL K H a (ns.map V.int)→HOk P w H s₁.heap→(∀b,H b≠none→b=a)→(H a≠none→K.lookup a=none)→
   codeAny (model P w) callerA (.call (.ref fa) ⟨[.ref a],[]⟩) (fun r s'=>r= .ok (.ret (.bool true))∧OldK s₁.heap s'.heap∧s'.os=s₁.os∧AllBare s'.gens) s₁:=by
  intro H hO hS hok hA hK;have base_of:∀{b:Addr}{o:Obj},s₁.heap.get? b=some o→H b=none→(zoT s₁.heap H).get? b=some o:=fun e n=>zoZ e n;have noA:∀{b:Addr}{o:Obj}{es:Array DictEntry}{ep:Nat},s₁.heap.get? b=some o→o.data= .dict es ep→H b=none:=fun {b o es ep} e d=>by
   cases q:H b with
   |none=>rfl
   |some u=>
    have e':b=a:=hA b (by rw [q];simp);subst e';rw [ha]at e;cases e;have d':Data.seq vs.toArray _=Data.dict es ep:=d;cases d'
  have nsK:∀{b:Addr}{m:Str→Option Value},s₁.heap.Ns b m→(zoT s₁.heap H).Ns b m:=fun {b m} ⟨o,es,ep,e,d,r⟩=>⟨o,es,ep,base_of e (noA e d),d,r⟩;have hKb:K.In (zoT s₁.heap H):=fun b o e=>base_of (KX b o e) (by
   cases q:H b with
   |none=>rfl
   |some u=>
    have e':b=a:=hA b (by rw [q];simp);subst e';rw [hK (by rw [q];simp)]at e;cases e)
  have hM:Mod K mg (zoT s₁.heap H):=⟨hKb,nsK hns,⟨mb,nsK hb,hbb⟩,let ⟨mc,h1,h2⟩:=hlim;⟨mc,nsK h1,h2⟩⟩;have e0:Env0 P w K mg (zoT s₁.heap H) callerA [] s₁ H:=⟨rfl,hM,fun b o e=>zsm e,Nat.le_of_eq (zmc _ _),trivial,fun b hb=>absurd (show b∈([]:List Addr) from hb) (by simp),hok, .of_eq hg⟩;refine codeAny_mono ((F _ hKb (nsK hns)).run callerA [] s₁ H ⟨[.ref a],[]⟩ [.ref a] [.ref a] _ _ hr e0 (hbind s₁ (.ref a)) (.cons rfl .nil) (hsp H hO hS)) fun r s' h=>?_;cases r with
  |error e=>exact(hCX H e s' h).elim
  |ok fl=>
   cases fl with
   |next=>exact False.elim h
   |brk=>exact False.elim h
   |cont=>exact False.elim h
   |ret u=>
    obtain⟨v,H',os,bare,un,hok',r',q⟩:=h;have q':v= .bl true:=q;subst q';obtain rfl:u=Value.bool true:=r';refine⟨rfl,OldK.of_keep fun b o e=>?_,os,bare⟩;cases q:H b with
    |none=>exact un.keep b o e q (by intro z;exact absurd (show b∈([]:List Addr) from z) (by simp)) (by simp)
    |some u=>
     rcases hO b with z |⟨ob,xs,z⟩
     ·rw [q]at z;cases z
     ·have z2:=un.frzs b ob _ z;obtain⟨e1,_⟩:=hok b _ z;obtain⟨e2,_⟩:=hok' b _ z2;rw [e]at e1;cases e1;exact e2
 cases hk:K.lookup a with
 |some o=>
  have e:=KX a o hk;rw [ha]at e;cases e;refine core (fun _=>none) (fun _=> .inl rfl) (.inr ⟨_,vs.toArray,_,hk,rfl,rfl,rfl,by rw [List.size_toArray,lenV];exact hl,by simpa using rv⟩) (fun b u z=>by have z':(none:Option HO)=some u:=z;cases z') (fun b z=>absurd rfl z) fun z=>absurd rfl z
 |none=>
  refine core (fun b=>if b=a then some (.frz { cls:= .type "list",data:= .seq vs.toArray } (.lst (ns.map V.int))) else none) (fun b=>?_) (.inl (.inr ⟨{ cls:= .type "list",data:= .seq vs.toArray },if_pos rfl⟩)) (fun b u z=>?_) (fun b z=>?_) fun _=>hk
  ·by_cases hb:b=a
   ·exact .inr ⟨_,_,if_pos hb⟩
   ·exact .inl (if_neg hb)
  ·by_cases hb:b=a
   ·have z':=(if_pos hb).symm.trans z;cases z';subst hb;exact⟨ha,by rw [List.length_map];exact hl,vs,_,rv,ha⟩
   ·have z':=(if_neg hb).symm.trans z;cases z'
  ·by_cases hb:b=a
   ·exact hb
   ·exact absurd (if_neg hb) z
theorem zrg{l:PySem.W.OpenLaw}{n k:Nat}{q:Program}{loose:List Str}{XP:(Str→Option Value)→Heap→Prop}{YP:World→Heap→Prop}{d:DefRec}{K:Params→PySem.W.Frag}{CX:World→CXT}{sp:World→Sp}{x:Str}
  (hn:l.most=some n) (hn2:n≤sizeLine) (hdf:d.params.defaults=[]) (hr:Room k callerA)
  (hY:∀(w:World) (h:Heap),YP w h→(K w.params).In h)
  (F:∀(w:World) (mg:Str→Option Value) (fa:Addr) (h:Heap),(K w.params).In h→h.Ns mainGlobals mg→mg d.name=some (.ref fa)→
   ∃fd:FuncData,(∀(s:Shared) (u:Value),BindsTo s fd ⟨[u],[]⟩ [(x,u)])∧
    ∀base:Heap,(K w.params).In base→base.Ns mainGlobals mg→FnOk l.prog w (K w.params) mg base (CX w) k fa fd [x] (sp w))
  (hsp:∀(w:World) (H:Hp) (a:Addr) (ns:List Int),ns.length≤n→zuY H→SqL (K w.params) H a (ns.map V.int)→sp w [.ref a] H (fun v _=>v= .bl true) fun _ _ _=>False)
  (hCX:∀(w:World) (H:Hp) (s:Shared) (e:Value) (s':Shared),CX w [] H s (fun _ _ _=>False) e s'→False) :
  PySem.W.WalkO q loose XP YP l.row.toRowW d [] (fun f vs=>PySem.call f vs):=by
 refine Att.attach_call hn hdf fun w s₀ s₁ mg mb fa o pm cd doc a vs ns G Y ho hd hcd hmg hobj hints hlen hg=>?_;have KX:=hY w _ Y;obtain⟨fd,hb,hF⟩:=F w mg fa _ KX G.T.g hmg;exact zok KX G.T.g G.T.b G.T.builtins G.T.nolimit hg hobj hints (Nat.le_trans hlen hn2) hr hF hb (fun H hO hS=>hsp w H a ns hlen hO hS) fun H e s'=>hCX w H s₁ e s'
noncomputable def zfk (s:Stmt):Arguments:=match s with
 | .FunctionDef _ a _ _ _ _ _ _ _ _=>a
 |_=>{ posonlyargs:=[],args:=[],vararg:=none,kwonlyargs:=[],kw_defaults:=[],kwarg:=none,defaults:=[] }
noncomputable def zdZ (s:Stmt):List Stmt:=match s with
 | .FunctionDef _ _ b _ _ _ _ _ _ _=>b
 |_=>[]
noncomputable def zak (s:Stmt):Scope:=match s with
 | .FunctionDef _ _ _ _ _ _ sc _ _ _=>sc
 |_=>{ kind:= .function,names:=[],isGenerator:=false,isCoroutine:=false }
noncomputable abbrev CX0:CXT:=fun _ _ _ _ _ _=>False
noncomputable abbrev E0:XK:=fun _ _ _=>False
theorem zvr{X:Cx}:zno CX0 X E0:=fun _ _ _ _ _ _ _ h=>h.elim
structure Fun (K:PySem.W.Frag) (x qual:Str) (st:Stmt) (f:Addr) (fd:FuncData):Prop where
  ex:∃(oc:Value) (od:Option Addr) (kV doc pm:Value) (an:Option Addr) (cdv ct:Value) (osl:Array (Option Value)),
    fd=PySem.W.fnOf x qual (zfk st) (zdZ st) (zak st) .none kV doc pm an cdv ct∧K.lookup f=some ⟨oc,od, .func fd,osl⟩∧PySem.W.codeIn K cdv qual=true
  kp:PySem.W.keepIn K (.ref f)=true
section
variable {P:Program}{w:World}{K:PySem.W.Frag}{mg:Str→Option Value}{base:Heap}
theorem Fun.ok{x qual:Str}{st:Stmt}{f:Addr}{fd:FuncData}{N ps:List Str}{k:Nat}{sp:Sp}(F:Fun K x qual st f fd) (S:FnScope N ps (zak st)) (len:∀vs H Q E,sp vs H Q E→vs.length=ps.length)
  (hbody:∀(cdv:Value) (A:Around) (outer:List Env) (s:Shared) (H:Hp) (vs:List V) (Q:VK) (E:XK),Room k (A.deeper (envOfC qual (zak st) s.heap.objs.size f cdv))→sp vs H Q E→
   ∃t,PSs (zqD CX0 P w K mg base N qual (zak st) f cdv A outer s H E).nox (zdZ st) t∧t { nx:=fun _ H'=>Q .non H',rt:=Q } (zga N vs) H):FnOk P w K mg base CX0 (k+1) f fd ps sp:=by
 obtain⟨oc,od,kV,doc,pm,an,cdv,ct,osl,rfl,lk,hcd⟩:=F.ex;refine zwc lk hcd S len fun A outer s H vs Q E hr hsp=>?_;obtain⟨t,h,q⟩:=hbody cdv A outer s H vs Q E hr hsp;exact⟨t,h.nox,q⟩
theorem Fun.binds{x qual:Str}{st:Stmt}{f:Addr}{fd:FuncData}{ps:List Str}(F:Fun K x qual st f fd)
  (h:∀(kV doc pm:Value) (an:Option Addr) (cdv ct:Value) (us:List Value),us.length=ps.length→bindArgs (PySem.W.fnOf x qual (zfk st) (zdZ st) (zak st) .none kV doc pm an cdv ct) ⟨us,[]⟩=pure (ps.zip us)):Binds K fd ps []:=by
 obtain⟨oc,od,kV,doc,pm,an,cdv,ct,osl,rfl,lk,hcd⟩:=F.ex;exact .all (h kV doc pm an cdv ct)
theorem ztu{x qual:Str}{st:Stmt}{f:Addr}{oc:Value}{od an:Option Addr}{osl:Array (Option Value)}{kV doc pm cdv ct:Value}(l:K.lookup f=some ⟨oc,od, .func (PySem.W.fnOf x qual (zfk st) (zdZ st) (zak st) .none kV doc pm an cdv ct),osl⟩)
  (c:PySem.W.codeIn K cdv qual=true) (k:PySem.W.keepIn K (.ref f)=true):Fun K x qual st f (PySem.W.fnOf x qual (zfk st) (zdZ st) (zak st) .none kV doc pm an cdv ct):=⟨⟨oc,od,kV,doc,pm,an,cdv,ct,osl,rfl,l,c⟩,k⟩
end
theorem zxn{A B:Prop}(h:B):if false=true then A else B:=by
 rw [if_neg Bool.false_ne_true];exact h
theorem zwT{A B:Prop}(h:A):if true=true then A else B:=by
 rw [if_pos rfl];exact h
noncomputable def Same (H H':Hp):Prop:=∀b o,H b=some o→H' b=some o
theorem Same.trans{H H1 H2:Hp}(a:Same H H1) (b:Same H1 H2):Same H H2:=fun c o h=>b c o (a c o h)
section
variable {κ:Type} [DecidableEq κ]
noncomputable def zkx (kvs:List (κ×V)) (k:κ):Option V:=(kvs.find? fun kv=>decide (kv.1=k)).map (·.2)
noncomputable def zmq (kvs:List (κ×V)) (k:κ) (v:V):List (κ×V):=
 if(kvs.any fun kv=>decide (kv.1=k))=true then kvs.map (fun kv=>if kv.1=k then(kv.1,v) else kv) else kvs++[(k,v)]
theorem zfe{p:κ×V}{r:List (κ×V)}{k:κ}(e:p.1=k):zkx (p::r) k=some p.2:=by simp [zkx,List.find?_cons,e]
theorem zfb{p:κ×V}{r:List (κ×V)}{k:κ}(e:¬p.1=k):zkx (p::r) k=zkx r k:=by simp [zkx,List.find?_cons,e]
theorem zjZ (k:κ):∀kvs:List (κ×V),(kvs.any fun kv=>decide (kv.1=k))=(zkx kvs k).isSome
 | []=>rfl
 |p::r=>by
  rw [List.any_cons];by_cases e:p.1=k
  ·simp only[zfe e,decide_eq_true e,Bool.true_or,Option.isSome_some]
  ·rw [zfb e,decide_eq_false e,Bool.false_or];exact zjZ k r
theorem ziU (kvs:List (κ×V)) (k:κ) (v:V):(zmq kvs k v).length≤kvs.length+1:=by
 unfold zmq;split
 ·rw [List.length_map];omega
 ·rw [List.length_append,List.length_cons,List.length_nil];omega
theorem RelO.isSome_eq{o:Option V}{u:Option Value}(r:RelO o u):o.isSome=u.isSome:=by
 cases o with
 |none=>cases u with
  |none=>rfl
  |some _=>exact(show False from r).elim
 |some _=>cases u with
  |none=>exact(show False from r).elim
  |some _=>rfl
theorem RelO.getD{o:Option V}{u:Option Value}{d:V}{d':Value}(r:RelO o u) (rd:RelV d d'):RelV (o.getD d) (u.getD d'):=by
 cases o with
 |none=>cases u with
  |none=>exact rd
  |some _=>exact(show False from r).elim
 |some _=>cases u with
  |none=>exact(show False from r).elim
  |some _=>exact r
theorem KV.val{kvs:List (κ×V)}{vs:List (κ×Value)}(r:KV kvs vs) (k:κ):RelO (zkx kvs k) (valueAt vs k):=by
 unfold KV at r
 induction r with
 |nil=>exact True.intro
 | @cons p q ps qs h t ih=>
  obtain⟨h1,h2⟩:=h;by_cases e:p.1=k
  ·have e':q.1=k:=h1.symm.trans e;have b:valueAt (q::qs) k=some q.2:=by simp [valueAt,List.find?_cons,e']
   rw [zfe e,b];exact h2
  ·have e':¬q.1=k:=fun z=>e (h1.trans z);have b:valueAt (q::qs) k=valueAt qs k:=by simp [valueAt,List.find?_cons,e']
   rw [zfb e,b];exact ih
theorem KV.length{kvs:List (κ×V)}{vs:List (κ×Value)}(r:KV kvs vs):kvs.length=vs.length:=Paired.length r
end
theorem zsV{P:Program}{w:World}{k:Key}{u:Value}(r:RelV (kV k) u):(zbg P w).is k u=true:=by
 cases k with
 |inl i=>obtain⟨t,e⟩:=(show ∃t,u=Value.int i t from r);subst e;exact zjJ P w i t
 |inr x=>obtain⟨t,e⟩:=(show ∃t,u=Value.str x t from r);subst e;exact zjy P w x t
theorem zhs{P:Program}{w:World}:∀{ks:List Key}{us:List Value},Vals (ks.map kV) us→ItemsAre (zbg P w) ks us
 | [],_,r=>by rw [List.map_nil]at r;cases r;exact .nil
 |k::ks,_,r=>by
  rw [List.map_cons]at r;cases r with
  |cons h t=>exact .cons (zsV h) (zhs t)
noncomputable abbrev KT (H:Hp):List (List Key×V)→List (List Key×Addr×Value)→Prop:=Paired fun p q=>p.1=q.1∧H q.2.1=some (.tup (p.1.map kV))∧RelV p.2 q.2.2
theorem KT.val{H:Hp}{kvs:List (List Key×V)}{xs:List (List Key×Addr×Value)}(r:KT H kvs xs) (k:List Key):RelO (zkx kvs k) ((atKey xs k).map (·.2)):=by
 induction r with
 |nil=>exact True.intro
 | @cons p q ps qs h t ih=>
  obtain⟨h1,_,h2⟩:=h;by_cases e:p.1=k
  ·have e':q.1=k:=h1.symm.trans e;have b:atKey (q::qs) k=some q.2:=by simp [atKey,List.find?_cons,e']
   rw [zfe e,b];exact h2
  ·have e':¬q.1=k:=fun z=>e (h1.trans z);have b:atKey (q::qs) k=atKey qs k:=by simp [atKey,List.find?_cons,e']
   rw [zfb e,b];exact ih
theorem KT.repl{H:Hp}{kvs:List (List Key×V)}{xs:List (List Key×Addr×Value)}(r:KT H kvs xs) (k:List Key) {y:V}{u:Value}(ry:RelV y u) :
  KT H (kvs.map fun kv=>if kv.1=k then(kv.1,y) else kv) (xs.map (putAt k u)):=by
 induction r with
 |nil=>exact .nil
 | @cons p q ps qs h t ih=>
  rw [List.map_cons,List.map_cons];refine .cons ?_ ih;obtain⟨h1,h2,h3⟩:=h;unfold putAt;by_cases e:p.1=k
  ·rw [if_pos e,if_pos (h1.symm.trans e)];exact⟨h1,h2,ry⟩
  ·rw [if_neg e,if_neg (fun z=>e (h1.trans z))];exact⟨h1,h2,h3⟩
theorem KT.put{H:Hp}{kvs:List (List Key×V)}{xs:List (List Key×Addr×Value)}(r:KT H kvs xs) (k:List Key) {b:Addr}{y:V}{u:Value}(hb:H b=some (.tup (k.map kV))) (ry:RelV y u) :
  KT H (zmq kvs k y) (storedH xs k b u):=by
 have e:(kvs.any fun kv=>decide (kv.1=k))=(atKey xs k).isSome:=by
  rw [zjZ,(r.val k).isSome_eq,Option.isSome_map]
 unfold zmq storedH;rw [e];by_cases q:(atKey xs k).isSome=true
 ·rw [if_pos q,if_pos q];exact r.repl k ry
 ·rw [if_neg q,if_neg q];exact Paired.snoc r ⟨rfl,hb,ry⟩
theorem KT.keeps{H H':Hp}{kvs:List (List Key×V)}{xs:List (List Key×Addr×Value)}(r:KT H kvs xs) (ht:∀b ys,H b=some (.tup ys)→H' b=some (.tup ys)):KT H' kvs xs:=
 Paired.mapP r fun _ _ z=>⟨z.1,ht _ _ z.2.1,z.2.2⟩
section
variable {P:Program}{w:World}{H:Hp}{h:Heap}{a:Addr}
theorem zuN{u:HO}(ok:HOk P w H h) (e:Rd H a u):ObjOk P w H h a u:=e.ok ok
theorem zwz{kvs:List (Key×V)}(ok:HOk P w H h) (e:Rd H a (.dK kvs)):kvs.length≤sizeLine∧(a == sysModules)=false∧ ∃vs,KV kvs vs∧h.DictOf (zbg P w) a vs:=
 show ObjOk P w H h a (.dK kvs) from zuN ok e
theorem znr{ks:List Key}(ok:HOk P w H h) (e:H a=some (.tup (ks.map kV))):(tupleKind (zbg P w)).is h ks a:=by
 obtain⟨_,its,r,o,h1,h2,n,h3⟩:=(show ObjOk P w H h a (.tup (ks.map kV)) from ok a _ e);exact⟨o,its.toArray,n,h1,h2,h3,by simpa using zhs r⟩
theorem zwk{kvs:List (List Key×V)}(ok:HOk P w H h) (e:Rd H a (.dT kvs)):kvs.length≤sizeLine∧(a == sysModules)=false∧
  ∃xs,KT H kvs xs∧h.DictOfH (tupleKind (zbg P w)) a xs:=by
 obtain⟨z,y,xs,r,o,es,ep,h1,h2,h3,h4,h5⟩:=(show ObjOk P w H h a (.dT kvs) from zuN ok e);refine⟨z,y,xs,r,o,es,ep,h1,h2,h3,h4,fun x hx=>?_,h5⟩;have all:∀{l:List (List Key×V)}{m:List (List Key×Addr×Value)},KT H l m→ ∀x∈m,(tupleKind (zbg P w)).is h x.1 x.2.1:=by
  intro l m q
  induction q with
  |nil=>intro x hx;exact nomatch hx
  | @cons p q ps qs hq t ih=>
   intro x hx;rcases List.mem_cons.mp hx with e |hx
   ·subst e;exact znr ok (by rw [←hq.1];exact hq.2.1)
   ·exact ih x hx
 exact all r x hx
end
noncomputable def DGet (H:Hp) (a:Addr) (y:V) (r:Option V):Prop:=
 (∃kvs k,Rd H a (.dK kvs)∧y=kV k∧r=zkx kvs k)∨ ∃kvs k b,Rd H a (.dT kvs)∧y= .ref b∧H b=some (.tup (k.map kV))∧r=zkx kvs k
theorem DGet.t{H:Hp}{a b:Addr}{kvs:List (List Key×V)}{k:List Key}(e:H a=some (.dT kvs)) (eb:H b=some (.tup (k.map kV))):DGet H a (.ref b) (zkx kvs k):= .inr ⟨kvs,k,b, .inl e,rfl,eb,rfl⟩
section
variable {X:Cx}{pins:List (Addr×Obj)}{σ:St}{H:Hp}{s:Shared}{a:Addr}{y:V}{u:Value}{o:Option V}{A:Around}{E:Value→Shared→Prop}
theorem Inv.big (I:Inv X pins σ H s):sysModules<s.heap.objs.size:=by
 have h:mainGlobals<s.heap.objs.size:=(I.mod.glob.keeps I.bk).lt;exact Nat.lt_trans (by decide) h
theorem zxw{Q:Value→Shared→Prop}(hu:A.units+1<cLine) (I:Inv X pins σ H s) (g:DGet H a y o) (ry:RelV y u) (h:∀s',Inv X pins σ H s'→Q (.bool o.isSome) s') :
  wpAny (model X.prog X.w) A (compareOp .In u (.ref a)) Q E s:=by
 rcases g with⟨kvs,k,e,ey,l⟩ |⟨kvs,k,b,e,ey,eb,l⟩
 ·subst ey;obtain⟨z,hd,vs,rel,dd⟩:=zwz I.hok e;refine wpAny_in_of (zsV ry) hd dd.mapOf ?_;rw [←(rel.val k).isSome_eq,←l];exact h _ (I.tok _)
 ·subst ey;cases(show u=Value.ref b from ry);obtain⟨z,hd,xs,rel,dd⟩:=zwk I.hok e;refine wpAny_in_heap (tupleKind_room_in1 hu) (znr I.hok eb) hd dd ?_;have q:=(rel.val k).isSome_eq;rw [Option.isSome_map]at q;rw [←q,←l];exact h _ (I.tok _)
end
end L2
namespace Att
open PySem PySem.W PySem.Calls PyProof.Rows
end Att
namespace L2
open PySem PySem.Spec PyProof.Rows
section
variable {prog:Program}{w:World}{A:Around}{R:Result→Shared→Prop}{s:Shared}
theorem zhC{elt target iter:Expr}{ifs:List Expr}{scope:Scope}{pos:Pos}{it acc:Value}{env:Env}(I:Nat→Shared→Prop)
  (turn:∀n s,I n s→wpAny (model prog w) A (pyNext it) (fun r s₁=>match r with
   |none=>R (.ok .next) s₁
   |some v=>wpAny (model prog w) A (letOwnedTupleGo target it v) (fun _ s₀=>wpAny (model prog w) A (assign target env v) (fun _ s₂=>
     wpAny (model prog w) A (forIn ifs true fun c r=>if r=true then do let ok ←isTrue c env (eval c env);pure (ForInStep.yield ok) else pure (ForInStep.yield r)) (fun ok s₃=>
      if ok=true then wpAny (model prog w) A (eval elt env) (fun x s₄=>
       wpAny (model prog w) A (call (.builtin "list.append") [acc,x]) (fun _ s₅=>∃m,m<n∧I m s₅) (fun _ _=>False) s₄) (fun _ _=>False) s₃
      else ∃m,m<n∧I m s₃) (fun _ _=>False) s₂) (fun _ _=>False) s₀) (fun _ _=>False) s₁) (fun _ _=>False) s)
  (n:Nat) (h:I n s) :
  codeAny (model prog w) A (.compLoop (.ListComp elt [⟨target,iter,ifs,0⟩] scope pos) 0 it acc env) R s:=by
 refine codeAny_loop rfl I (fun n s hI=>?_) n h;show wpAny _ A ((compTurn (.ListComp elt [⟨target,iter,ifs,0⟩] scope pos) 0 it acc env).onRaise (fun x=>do noteFrame x env;theTreesLotGoes x)) _ _ s;refine wpAny_noted ?_;rw [compTurn_list];refine wpAny_bind (wpAny_standAt (wpAny_bind (wpAny_mono (turn n s hI) (fun r s₁ h₁=>?_) fun _ _ h'=>h'.elim)));cases r with
 |none=>exact wpAny_pure h₁
 |some v=>
  refine wpAny_bind (wpAny_mono h₁ (fun _ s₀ h₀=>?_) fun _ _ h'=>h'.elim);refine wpAny_bind (wpAny_mono h₀ (fun _ s₂ h₂=>wpAny_bind (wpAny_mono h₂ (fun ok s₃ h₃=>?_) fun _ _ h'=>h'.elim)) fun _ _ h'=>h'.elim);cases ok with
  |false=>exact wpAny_pure ⟨rfl,h₃⟩
  |true=>
   exact wpAny_bind (wpAny_bind (wpAny_mono h₃ (fun x s₄ h₄=>wpAny_bind (wpAny_mono h₄ (fun _ s₅ h₅=>wpAny_pure (wpAny_pure ⟨rfl,h₅⟩)) fun _ _ h'=>h'.elim)) fun _ _ h'=>h'.elim))
end
noncomputable def zfY (cells:List (Str×Addr)):List (Str×NameKind)→List (Str×Addr)→List (Str×Addr)
 | [],acc=>acc
 | (n,k)::r,acc=>if(k == NameKind.free)=true then zfY cells r ((n,(cells.lookup n).getD 0)::acc) else zfY cells r acc
theorem zlL{scope:Scope}{env:Env}(h:∀y∈scope.names,y.2= .free→ ∃c,env.cells.lookup y.1=some c) :
  closureFor scope env=pure (zfY env.cells scope.names []):=by
 have go:∀(l:List (Str×NameKind)) (acc:List (Str×Addr)),(∀y∈l,y.2= .free→ ∃c,env.cells.lookup y.1=some c)→
   (forIn l acc fun(x:Str×NameKind) (cs:List (Str×Addr))=>(if(x.2 == NameKind.free)=true then(do let a ←cellOf env x.1;pure (ForInStep.yield ((x.1,a)::cs))) else pure (ForInStep.yield cs):Sem (ForInStep (List (Str×Addr)))))=(pure (zfY env.cells l acc):Sem (List (Str×Addr))):=by
  intro l
  induction l with
  |nil=>intro acc _;rfl
  |cons x l ih=>
   intro acc hl;obtain⟨n,k⟩:=x;have hr:=fun y hy=>hl y (List.mem_cons_of_mem _ hy);rw [List.forIn_cons];by_cases hk:k= .free
   ·subst hk;obtain⟨c,hc⟩:=hl (n, .free) List.mem_cons_self rfl;have hc':env.cells.lookup n=some c:=hc;have e:cellOf env n=pure c:=by unfold cellOf;rw [hc']
    have e2:zfY env.cells ((n,NameKind.free)::l) acc=zfY env.cells l ((n,c)::acc):=by
     show(if(NameKind.free == NameKind.free)=true then zfY env.cells l ((n,(env.cells.lookup n).getD 0)::acc) else zfY env.cells l acc)=_;rw [if_pos (by rfl),hc'];rfl
    dsimp only;rw [if_pos (by rfl),e,pure_bind,pure_bind,e2];exact ih _ hr
   ·have hb:¬(k == NameKind.free)=true:=by simpa using hk
    have e2:zfY env.cells ((n,k)::l) acc=zfY env.cells l acc:=by
     show(if(k == NameKind.free)=true then zfY env.cells l ((n,(env.cells.lookup n).getD 0)::acc) else zfY env.cells l acc)=_;rw [if_neg hb]
    dsimp only;rw [if_neg hb,pure_bind,e2];exact ih _ hr
 have q:=go scope.names [] h;unfold closureFor
 first
  |exact(bind_pure _).trans q
  | (simp only[bind_pure];exact q)
  | (simp only[pure_bind,bind_assoc,bind_pure];exact q)
theorem zgH{cells:List (Str×Addr)}{x:Str}{c:Addr}:∀(l:List (Str×NameKind)) (acc:List (Str×Addr)),(∀y∈l,y.2= .free→ ∃c,cells.lookup y.1=some c)→
  (zfY cells l acc).lookup x=some c→acc.lookup x=some c∨cells.lookup x=some c
 | [],acc,_,h=> .inl h
 | (n,k)::r,acc,hl,h=>by
  have hr:=fun y hy=>hl y (List.mem_cons_of_mem (n,k) hy);by_cases hk:k= .free
  ·subst hk;have h':(zfY cells r ((n,(cells.lookup n).getD 0)::acc)).lookup x=some c:=h;rcases zgH r _ hr h' with q |q
   ·rw [List.lookup_cons]at q;cases e:x == n with
    |true=>
     rw [e]at q;obtain⟨d,hd⟩:=hl (n, .free) List.mem_cons_self rfl;have hd':cells.lookup n=some d:=hd;have e1:x=n:=eq_of_beq e;rw [hd']at q;have q':d=c:=Option.some.inj q;exact .inr (by rw [e1,hd',q'])
    |false=>
     rw [e]at q;exact .inl q
   ·exact .inr q
  ·have hb:¬(k == NameKind.free)=true:=by simpa using hk
   have h':(if(k == NameKind.free)=true then zfY cells r ((n,(cells.lookup n).getD 0)::acc) else zfY cells r acc).lookup x=some c:=h;rw [if_neg hb]at h';exact zgH r acc hr h'
theorem zff{cells:List (Str×Addr)}{x:Str}:∀(l:List (Str×NameKind)) (acc:List (Str×Addr)),((x,NameKind.free)∈l∨ ∃c,acc.lookup x=some c)→ ∃c,(zfY cells l acc).lookup x=some c
 | [],acc,h=>by
  rcases h with h |h
  ·cases h
  ·exact h
 | (n,k)::r,acc,h=>by
  by_cases hk:k= .free
  ·subst hk;refine zff r ((n,(cells.lookup n).getD 0)::acc) ?_;cases e:x == n with
   |true=>exact .inr ⟨_,by rw [List.lookup_cons,e]⟩
   |false=>
    rcases h with h |⟨c,h⟩
    ·rcases List.mem_cons.mp h with q |q
     ·have:x=n:=congrArg Prod.fst q;rw [this]at e;simp at e
     ·exact .inl q
    ·exact .inr ⟨c,by rw [List.lookup_cons,e];exact h⟩
  ·have hb:¬(k == NameKind.free)=true:=by simpa using hk
   show ∃c,(if(k == NameKind.free)=true then zfY cells r ((n,(cells.lookup n).getD 0)::acc) else zfY cells r acc).lookup x=some c;rw [if_neg hb];refine zff r acc ?_;rcases h with h |h
   ·rcases List.mem_cons.mp h with q |q
    ·exact absurd (congrArg Prod.snd q).symm hk
    ·exact .inl q
   ·exact .inr h
theorem zcC{env:Env}{x:Str}{k:NameKind}:∀{names:List (Str×NameKind)},(∀y∈names,y.2≠ .cell)→
  (names.map fun(n,k)=>if(k == NameKind.free&&env.scope.kind == .function&&env.kindOf n == some .cell) then(n,NameKind.cell) else(n,k)).lookup x=some k→(k= .cell∨k= .free)→(x,NameKind.free)∈names
 | [],_,h,_=>by simp at h
 | (n,j)::r,hc,h,hk=>by
  have h':List.lookup x ((if(j == NameKind.free&&env.scope.kind == .function&&env.kindOf n == some .cell)=true then(n,NameKind.cell) else(n,j)) ::
   (r.map fun(n,k)=>if(k == NameKind.free&&env.scope.kind == .function&&env.kindOf n == some .cell) then(n,NameKind.cell) else(n,k)))=some k:=h
  have hr:=fun y hy=>hc y (List.mem_cons_of_mem (n,j) hy);have hj:j≠ .cell:=hc (n,j) List.mem_cons_self;cases e:x == n with
  |true=>
   have e1:x=n:=eq_of_beq e;subst e1;by_cases c:(j == NameKind.free&&env.scope.kind == .function&&env.kindOf x == some .cell)=true
   ·have c1:(j == NameKind.free)=true:=by
     cases q:(j == NameKind.free) with
     |true=>rfl
     |false=>rw [q]at c;simp at c
    have c2:j= .free:=by simpa using c1
    rw [c2];exact List.mem_cons_self
   ·rw [if_neg c]at h';simp only[List.lookup_cons,beq_self_eq_true]at h';have h2:j=k:=Option.some.inj h';rcases hk with z |z
    ·exact absurd (h2.trans z) hj
    ·rw [h2,z];exact List.mem_cons_self
  |false=>
   by_cases c:(j == NameKind.free&&env.scope.kind == .function&&env.kindOf n == some .cell)=true
   ·rw [if_pos c]at h';simp only[List.lookup_cons,e]at h';exact List.mem_cons_of_mem _ (zcC hr h' hk)
   ·rw [if_neg c]at h';simp only[List.lookup_cons,e]at h';exact List.mem_cons_of_mem _ (zcC hr h' hk)
theorem zdu{env:Env}{x:Str}:∀{names:List (Str×NameKind)},names.lookup x=some .free→
  (names.map fun(n,k)=>if(k == NameKind.free&&env.scope.kind == .function&&env.kindOf n == some .cell) then(n,NameKind.cell) else(n,k)).lookup x=some .cell∨
  (names.map fun(n,k)=>if(k == NameKind.free&&env.scope.kind == .function&&env.kindOf n == some .cell) then(n,NameKind.cell) else(n,k)).lookup x=some .free
 | [],h=>by simp at h
 | (n,j)::r,h=>by
  show List.lookup x ((if(j == NameKind.free&&env.scope.kind == .function&&env.kindOf n == some .cell)=true then(n,NameKind.cell) else(n,j)) ::
   (r.map fun(n,k)=>if(k == NameKind.free&&env.scope.kind == .function&&env.kindOf n == some .cell) then(n,NameKind.cell) else(n,k)))=_∨
   List.lookup x ((if(j == NameKind.free&&env.scope.kind == .function&&env.kindOf n == some .cell)=true then(n,NameKind.cell) else(n,j)) ::
   (r.map fun(n,k)=>if(k == NameKind.free&&env.scope.kind == .function&&env.kindOf n == some .cell) then(n,NameKind.cell) else(n,k)))=_
  cases e:x == n with
  |true=>
   simp only[List.lookup_cons,e]at h;have h2:j= .free:=Option.some.inj h;subst h2;by_cases c:(NameKind.free == NameKind.free&&env.scope.kind == .function&&env.kindOf n == some .cell)=true
   ·rw [if_pos c];simp only[List.lookup_cons,e];exact .inl trivial
   ·rw [if_neg c];simp only[List.lookup_cons,e];exact .inr trivial
  |false=>
   simp only[List.lookup_cons,e]at h;by_cases c:(j == NameKind.free&&env.scope.kind == .function&&env.kindOf n == some .cell)=true
   ·rw [if_pos c];simp only[List.lookup_cons,e];exact zdu h
   ·rw [if_neg c];simp only[List.lookup_cons,e];exact zdu h
noncomputable def zbi (X:Cx) (scope:Scope) (N:List Str) (s:Shared) (H:Hp) (fp:List Addr) (pins:List (Addr×Obj)):Cx:=
 { X with N:=N,s₀:=s,H₀:=H,env:=compEnvC scope (zfY X.env.cells scope.names []) s.heap.objs.size X.env,outer:=X.stack,stack:=X.stack,ex:=fp,fn:=fun _=>false,pn:=X.pn++pins,xe:=fun _ _=>False }
structure CompSc (X:Cx) (scope:Scope) (N:List Str) (k:Nat) (fr:List Nat):Prop where
  kind:scope.kind= .function
  nd:N.Nodup
  len:N.length=k+fr.length
  cell:(scope.names.all fun y=>y.2 != NameKind.cell)=true
  loc:(scope.names.all fun y=>y.2 != NameKind.local || scope.names.lookup y.1 == some NameKind.local)=true
  free:(scope.names.all fun y=>y.2 != NameKind.free || X.env.kindOf y.1 == some NameKind.cell || X.env.kindOf y.1 == some NameKind.free)=true
  frs:((N.drop k).all fun x=>scope.names.lookup x == some NameKind.free)=true
  pl:N.drop k=fr.map fun j=>X.N.getD j Str.empty
  plen:(fr.all fun j=>decide (j<X.N.length))=true
noncomputable def zfP (σ:St) (fr:List Nat):St:=fr.map fun j=>(σ[j]?).join
noncomputable def zjN (σ:St) (k:Nat) (fr:List Nat):St:=List.replicate k none++zfP σ fr
section
variable {X:Cx}{scope:Scope}{N:List Str}{k:Nat}{fr:List Nat}
theorem CompSc.cell' (S:CompSc X scope N k fr):∀y∈scope.names,y.2≠ .cell:=fun y hy=>by
 have q:=List.all_eq_true.mp S.cell y hy;simpa using q
theorem CompSc.loc' (S:CompSc X scope N k fr):∀y∈scope.names,y.2= .local→scope.names.lookup y.1=some .local:=fun y hy e=>by
 have q:=List.all_eq_true.mp S.loc y hy;rw [e]at q;simpa using q
theorem CompSc.kinds (S:CompSc X scope N k fr):∀y∈scope.names,y.2= .free→X.env.kindOf y.1=some .cell∨X.env.kindOf y.1=some .free:=fun y hy e=>by
 have q:=List.all_eq_true.mp S.free y hy;rw [e]at q;simpa using q
theorem CompSc.hasCell (S:CompSc X scope N k fr) (ok:X.Ok):∀y∈scope.names,y.2= .free→ ∃c,X.env.cells.lookup y.1=some c:=fun y hy e=>ok.has y.1 (S.kinds y hy e)
theorem CompSc.sub (S:CompSc X scope N k fr) (ok:X.Ok) {x:Str}{c:Addr}(h:(zfY X.env.cells scope.names []).lookup x=some c):X.env.cells.lookup x=some c:=by
 rcases zgH scope.names [] (S.hasCell ok) h with q |q
 ·simp at q
 ·exact q
end
section
variable {X:Cx}{pins:List (Addr×Obj)}{σ:St}{H:Hp}{s:Shared}{scope:Scope}{N:List Str}{k:Nat}{fr:List Nat}{fp:List Addr}
theorem zsg (I:Inv X pins σ H s) (S:CompSc X scope N k fr) (hfp:∀b∈fp,zhr X pins H b) (hob:∀b∈fp,∃o,s.heap.get? b=some o):(zbi X scope N s H fp pins).Ok where
  mod:=I.ok.mod
  kind:=S.kind
  glob:=I.ok.glob
  blt:=I.ok.blt
  above:=Nat.le_refl _
  inj:=fun x y c h1 h2=>I.ok.inj x y c (S.sub I.ok h1) (S.sub I.ok h2)
  has:=fun x hx=>zff scope.names [] (.inl (by
    rcases hx with hx |hx
    · exact zcC S.cell' hx (.inl rfl)
    · exact zcC S.cell' hx (.inr rfl)))
  cab:=fun x c h _=>absurd h (by show ¬(false=true);decide)
  hd:=I.ok.hd
  frames:=I.ok.frames
  stk:= .inl rfl
  exf:=fun b hb=>⟨by
    obtain⟨o,e⟩:=hob b hb;exact Nat.ne_of_lt (Heap.lt_size e),fun x c h=>(hfp b hb).2.2.2.2.1 x c (S.sub I.ok h)⟩
  bs:=I.bs
  bsz:=Nat.le_trans I.ok.bsz I.sz
  noex:=fun b o e hb=>by
    rcases(hfp b hb).2.2.2.1 with z |z
    · exact I.ok.noex b o e z
    · exact absurd (Nat.lt_of_lt_of_le (Heap.lt_size (I.ok.bs b o e).1) z) (Nat.lt_irrefl _)
  exfs:=fun b hb z=>by
    rcases List.mem_cons.mp (I.stkSub b z) with q |q
    · exact(hfp b hb).2.1 q
    · exact(hfp b hb).2.2.1 q
  funs:=I.stack
  frf:=I.stkFree
theorem zqQ (I:Inv X pins σ H s) (S:CompSc X scope N k fr) {H':Hp}{b:Addr}(hb:b∈fp) (hf:zhr X pins H b) (hob:∃o,s.heap.get? b=some o) (hn:H' b=none):zhr (zbi X scope N s H fp pins) [] H' b:=by
 refine⟨hn,?_,fun z=>?_, .inl hb,fun x c h=>hf.2.2.2.2.1 x c (S.sub I.ok h),fun p hp=>?_⟩
 ·obtain⟨o,e⟩:=hob;exact Nat.ne_of_lt (Heap.lt_size e)
 ·rcases List.mem_cons.mp (I.stkSub b z) with q |q
  ·exact hf.2.1 q
  ·exact hf.2.2.1 q
 ·rcases List.mem_append.mp hp with z |z
  ·exact hf.2.2.2.2.2 p z
  ·cases z
theorem zlI{j:Nat}{v:V}(h:(zfP σ fr)[j]? =some (some v)):∃i,fr[j]? =some i∧σ[i]? =some (some v):=by
 unfold zfP at h;rw [List.getElem?_map]at h;cases e:fr[j]? with
 |none=>rw [e]at h;cases h
 |some i=>
  rw [e]at h;have h':(σ[i]?).join=some v:=Option.some.inj h;refine⟨i,rfl,?_⟩;cases q:σ[i]? with
  |none=>rw [q]at h';cases h'
  |some o=>
   rw [q]at h';have h2:o=some v:=h';rw [h2]
theorem zoq (I:Inv X pins σ H s) (S:CompSc X scope N k fr) (hfp:∀b∈fp,zhr X pins H b) (hob:∀b∈fp,∃o,s.heap.get? b=some o) {h1:Heap}{tk:Nat}{m:Str→Option Value}
    (hns:h1.Ns s.heap.objs.size m) (hk:∀b o,s.heap.get? b=some o→h1.get? b=some o):Inv (zbi X scope N s H fp pins) [] (zjN σ k fr) H { s with heap:=h1,toks:=tk } where
  ok:=zsg I S hfp hob
  os:=rfl
  bare:=I.bare
  base:=Un.kept hk
  loc:=⟨m,hns,fun i x v e1 e2 e3=>by
    have e2':(List.replicate k (none:Option V)++zfP σ fr)[i]? =some (some v):=e2;have hi:k≤i:=by
      refine Nat.le_of_not_lt fun z=>?_;rw [List.getElem?_append_left (by simpa using z),List.getElem?_replicate]at e2';split at e2'<;>cases e2'
    rw [List.getElem?_append_right (by simpa using hi),List.length_replicate]at e2';obtain⟨j,f1,f2⟩:=zlI e2';have e1':N[i]? =some x:=e1;have d1:(N.drop k)[i - k]? =some x:=by
      rw [List.getElem?_drop];have:k+(i - k)=i:=by omega
      rw [this];exact e1'
    have d2:=d1;rw [S.pl,List.getElem?_map,f1]at d2;have d3:X.N.getD j Str.empty=x:=Option.some.inj d2;have jl:j<X.N.length:=of_decide_eq_true (List.all_eq_true.mp S.plen j (List.mem_of_getElem? f1));have d4:X.N[j]? =some x:=by
      rw [List.getD_eq_getElem?_getD,List.getElem?_eq_getElem jl]at d3;rw [List.getElem?_eq_getElem jl];exact congrArg some d3
    have fk:scope.names.lookup x=some .free:=by
      have q:=List.all_eq_true.mp S.frs x (List.mem_of_getElem? d1);simpa using q
    have hmem:(x,NameKind.free)∈scope.names:=PySem.mem_of_lookup fk;have kd:=S.kinds _ hmem rfl;have vis:Vis X.env.scope x:=by
      rcases kd with z |z
      · exact .inr (.inl z)
      · exact .inr (.inr z)
    obtain⟨m0,_,hl⟩:=I.loc;obtain⟨u,ru,lk⟩:=hl j x v d4 f2 vis;refine⟨u,ru, .inr ⟨zdu fk,?_⟩⟩;have kd':X.env.kindOf x=some .cell∨X.env.kindOf x=some .free:=kd;rcases lk with⟨z,_⟩ |⟨_,c,hc,hcell⟩
    · rcases kd' with q |q<;>(rw [z]at q;cases q)
    · obtain⟨c',hc'⟩:=zff (cells:=X.env.cells) scope.names [] (.inl hmem);have e:=S.sub I.ok hc';rw [hc]at e;cases e;exact⟨c,hc',hcell.keeps hk⟩⟩
  cell:=fun x c h=>by
    obtain⟨v,z⟩:=I.cell x c (S.sub I.ok h);exact⟨v,z.keeps hk⟩
  free:=I.hok.fresh (Nat.le_refl _)
  freeC:=fun x c h=>I.freeC x c (S.sub I.ok h)
  pin:=fun p hp=>by
    have hp':p∈X.pn++pins:=by
      rcases List.mem_append.mp hp with z |z
      · exact z
      · cases z
    obtain⟨e,n,ne,nf,d⟩:=I.pin p hp';refine⟨hk _ _ e,n,Nat.ne_of_lt (Heap.lt_size e),fun z=>?_,d⟩;rcases List.mem_cons.mp (I.stkSub p.1 z) with q |q
    · exact ne q
    · exact nf q
  hok:=I.hok.kept hk
  len:=by
    show(List.replicate k (none:Option V)++zfP σ fr).length=N.length;rw [List.length_append,List.length_replicate,S.len];unfold zfP;rw [List.length_map]
theorem zif{σ':St}{H':Hp}{s':Shared}{h':Heap}(I:Inv X pins σ H s) (hfp:∀b∈fp,zhr X pins H b) (J:Inv (zbi X scope N s H fp pins) [] σ' H' s') (sb:Heap.SameBut s.heap.objs.size s'.heap h'):Inv X pins σ H' { s' with heap:=h' }:=by
 have neC:∀b o,s.heap.get? b=some o→b≠s.heap.objs.size:=fun b o e=>Nat.ne_of_lt (Heap.lt_size e);have frC:H' s.heap.objs.size=none:=J.free;refine Inv.call' (s':={ s' with heap:=h' }) (ch:=fp) I J.os ⟨fun b o e n hf hx=>?_,fun b o e n hf hx=>?_,fun b o e n hx=>J.base.free b o e n hx,fun b o e hx=>?_,J.base.tups,J.base.frzs,J.base.tbls⟩ (fun b o e=>?_) J.bare fun b hb=>⟨(hfp b hb).2.2.2.1,(hfp b hb).2.1,(hfp b hb).2.2.2.2.1,(hfp b hb).2.2.2.2.2⟩
 ·exact(sb.2 b (neC b o e)).trans (J.base.keep b o e n hf hx)
 ·obtain⟨sl,q⟩:=J.base.slot b o e n hf hx;exact⟨sl,(sb.2 b (neC b o e)).trans q⟩
 ·obtain⟨o',q⟩:=J.base.there b o e hx;exact⟨o',(sb.2 b (neC b o e)).trans q⟩
 ·refine(J.hok b o e).stay (fun c v hc q=>(sb.2 c ?_).trans q) (fun _ q=>q) fun _ _ q=>q;rintro rfl;rcases hc with rfl |hc
  ·rw [frC]at e;cases e
  ·rw [frC]at hc;cases hc
end
noncomputable def PTs (X:Cx) (ifs:List Expr) (t:TT):Prop:=
 ∀(pins:List (Addr×Obj)) (s:Shared) (σ:St) (H:Hp) (Q:Bool→Hp→Prop),Inv X pins σ H s→t σ H Q→
  wpAny (model X.prog X.w) X.A (forIn ifs true fun c r=>if r=true then do let ok ←isTrue c X.env (eval c X.env);pure (ForInStep.yield ok) else pure (ForInStep.yield r)) (TP X pins σ Q) X.xe s
noncomputable def zxJ:TT:=fun _ H Q=>Q true H
theorem zrp{X:Cx}:PTs X [] zxJ:=fun _ _ _ H _ I h=>wpAny_tests_nil ⟨H,I,h⟩
theorem zsk{X:Cx}{c:Expr}{t:TT}(h:PT X c t):PTs X [c] t:=fun pins s σ H Q I q=>wpAny_tests_one (h pins s σ H Q I q)
noncomputable def zwe (X:Cx) (scope:Scope) (N:List Str) (tg:Expr) (ifs:List Expr) (elt:Expr) (l:Addr) (x:V) (σ:St) (H:Hp) (M:St→Hp→Prop):Prop:=
 ∀(s₀:Shared) (H₀:Hp) (fp:List Addr) (pn:List (Addr×Obj)),∃(g:TG) (tt:TT) (te:TE),PG (zbi X scope N s₀ H₀ fp pn) tg g∧PTs (zbi X scope N s₀ H₀ fp pn) ifs tt∧PE (zbi X scope N s₀ H₀ fp pn) elt te∧
  g x σ H fun σ2 H2=>tt σ2 H2 fun b H3=>if b=true then te σ2 H3 fun y H4=>∃ys,H4 l=some (.lst ys)∧ys.length<sizeLine∧M σ2 (upd H4 l (.lst (ys++[y]))) else M σ2 H3
noncomputable def zrH (X:Cx) (scope:Scope) (N:List Str) (k:Nat) (fr:List Nat) (tg:Expr) (ifs:List Expr) (elt:Expr) (σ:St) (Q:VK) (J:It) (H1:Hp):Prop:=∀l,H1 l=none→
 ∃W:Nat→Nat→St→Hp→Prop,(∃m,W 0 m (zjN σ k fr) (upd H1 l (.lst [])))∧ ∀i m σ' H',W i m σ' H'→
  (J.stop i H'∧Q (.ref l) H')∨(J.go i H'∧ ∃M:St→Hp→Prop,(∀σ'' H'',M σ'' H''→ ∃m',m'<m∧W (i+1) m' σ'' H'')∧ ∀x H2,J.yld i H' x H2→zwe X scope N tg ifs elt l x σ' H2 M)
noncomputable def zpk (X:Cx) (scope:Scope) (N:List Str) (k:Nat) (fr:List Nat) (tg:Expr) (ifs:List Expr) (elt:Expr) (wi:TI):TE:=fun σ H Q=>wi σ H fun J H1=>zrH X scope N k fr tg ifs elt σ Q J H1
theorem zhx{X:Cx}{use:Option (Value→Sem Unit)}{Qf:Value→Shared→Prop}{pins:List (Addr×Obj)}{s:Shared}{σ:St}{H:Hp}{Q:VK}{scope:Scope}{N:List Str}{k:Nat}{fr:List Nat}{tg iter elt:Expr}{ifs:List Expr}{wi:TI}{pos:Pos}(hx:X.xe=fun _ _=>False) (hc:X.calm=true) (S:CompSc X scope N k fr) (hi:PI X tg iter wi) (I:Inv X pins σ H s)
  (fin:∀{s3 s6:Shared}{H3 H5:Hp}{fp:List Addr}{σ5:St}{l:Addr}{a:Flow},Inv X pins σ H3 s3→(∀b∈fp,zhr X pins H3 b)→Inv (zbi X scope N s3 H3 fp pins) [] σ5 H5 s6→Q (.ref l) H5→compPost (model X.prog X.w) X.A X.xe use Qf (.ref l) s3.heap.objs.size (.ok a) s6)
  (h:zpk X scope N k fr tg ifs elt wi σ H Q)
  (hs:∀x,foldedSetIterable iter X.env x=pure x:=by intro _;rfl):wpAny (model X.prog X.w) X.A (comprehension (.ListComp elt [⟨tg,iter,ifs,0⟩] scope pos) scope X.env (firstIterPos [⟨tg,iter,ifs,0⟩] pos) (newList []) (firstAsync [⟨tg,iter,ifs,0⟩]) (firstIter [⟨tg,iter,ifs,0⟩] X.env) use) Qf X.xe s:=by
 refine wpAny_comprehension_free (use:=use) rfl hs (zlL (S.hasCell I.ok)) S.kind S.loc' (thn (hi pins s σ H _ I h) fun v s1 h1=>thn h1 fun itv s2 h2=>?_);obtain⟨it,fp,tn,J,H2,e,I2,T,st2,f2,h2⟩:=h2;subst e;have fr2:H2 s2.heap.objs.size=none:=I2.hok.fresh (Nat.le_refl _);obtain⟨W,⟨m0,w0⟩,turn⟩:=h2 s2.heap.objs.size fr2;refine wpAny_newList ?_ (by show 0≤sizeLine;exact Nat.zero_le _);have I3:Inv X pins σ (upd H2 s2.heap.objs.size (.lst [])) { s2 with heap:=s2.heap.push { cls:= .type "list",data:= .seq ([]:List Value).toArray } }:=I2.lnew (t':=s2.toks) (ys:=[]) .nil (Nat.zero_le _);have old:∀b o,s2.heap.get? b=some o→(s2.heap.push { cls:= .type "list",data:= .seq ([]:List Value).toArray }).get? b=some o:=fun b o e=>Heap.get?_push_of_some _ e;have fpo2:∀b∈fp,∃o,s2.heap.get? b=some o:=fun b hb=>by
  obtain⟨o,e,_⟩:=T.obj _ _ st2 b hb;exact⟨o,e⟩
 have fpo:∀b∈fp,∃o,(s2.heap.push { cls:= .type "list",data:= .seq ([]:List Value).toArray }).get? b=some o:=fun b hb=>by
  obtain⟨o,e⟩:=fpo2 b hb;exact⟨o,old b o e⟩
 have f3:∀b∈fp,zhr X pins (upd H2 s2.heap.objs.size (.lst [])) b:=fun b hb=>by
  obtain⟨o,e⟩:=fpo2 b hb;refine⟨?_,(f2 b hb).2⟩;rw [zav (Nat.ne_of_lt (Heap.lt_size e))];exact(f2 b hb).1
 generalize hs3:({ s2 with heap:=s2.heap.push { cls:= .type "list",data:= .seq ([]:List Value).toArray } }:Shared)=s3 at I3⊢;have st3:tn 0 s3.heap:=by
  rw [←hs3];exact T.keep _ _ _ st2 fun b _ o e=>old b o e
 have fpo3:∀b∈fp,∃o,s3.heap.get? b=some o:=by rw [←hs3];exact fpo
 clear fpo old hs3;refine wpAny_newFunctionEnv S.cell' (by intro y hy;simp at hy) (fun h1 hns1 hsb1=>?_) S.kind;have hk1:∀b o,s3.heap.get? b=some o→h1.get? b=some o:=fun b o e=>hsb1.extBut b o (Nat.ne_of_lt (Heap.lt_size e)) (Heap.get?_push_of_some _ e);have I4:=zoq (tk:=s3.toks+([]:List (Str×Value)).length) I3 S f3 fpo3 hns1 hk1;have st4:tn 0 h1:=T.keep _ _ _ st3 fun b _ o e=>hk1 b o e;have stat:∀{H':Hp},(∀b∈fp,H' b=none)→ ∀b∈fp,zhr (zbi X scope N s3 (upd H2 s2.heap.objs.size (.lst [])) fp pins) [] H' b:=fun hn b hb=>zqQ I3 S hb (f3 b hb) (fpo3 b hb) (hn b hb);have loop:∀s4:Shared,s4={ s3 with heap:=h1,toks:=s3.toks+([]:List (Str×Value)).length }→
   codeAny (model X.prog X.w) X.A (.compLoop (.ListComp elt [⟨tg,iter,ifs,0⟩] scope pos) 0 (.ref it) (.ref s2.heap.objs.size) (compEnvC scope (zfY X.env.cells scope.names []) s3.heap.objs.size X.env))
    (compPost (model X.prog X.w) X.A X.xe use Qf (.ref s2.heap.objs.size) s3.heap.objs.size) s4:=by
  rintro s4 rfl;refine zhC (fun n s'=>∃i σ' H',Inv (zbi X scope N s3 (upd H2 s2.heap.objs.size (.lst [])) fp pins) [] σ' H' s'∧tn i s'.heap∧(∀b∈fp,H' b=none)∧W i n σ' H') ?_ m0 ⟨0,_,_,I4,st4,fun b hb=>(f3 b hb).1,w0⟩;rintro n s5 ⟨i,σ5,H5,I5,st5,fr5,w5⟩;rcases turn i n σ5 H5 w5 with⟨stop,qn⟩ |⟨go,M,hM,step⟩
  ·refine thn (T.done (zbi X scope N s3 (upd H2 s2.heap.objs.size (.lst [])) fp pins) rfl rfl rfl hc i [] s5 σ5 H5 _ I5 (stat fr5) st5 stop) fun r s6 ⟨hr,I6⟩=>?_;subst hr;exact fin I3 f3 I6 qn
  ·refine thn (T.item (zbi X scope N s3 (upd H2 s2.heap.objs.size (.lst [])) fp pins) rfl rfl rfl hc i [] s5 σ5 H5 _ I5 (stat fr5) st5 go) fun r s6 ⟨u,hr,h6⟩=>?_;subst hr;refine thn h6 fun _ s7 ⟨x,H7,I7,r7,y7,st7,fr7⟩=>?_;have I7':=I7.pinned (stat fr7) (T.obj _ _ st7);obtain⟨g,tt,te,hg,ht,he,q⟩:=step x H7 y7 s3 (upd H2 s2.heap.objs.size (.lst [])) fp pins;have again:∀{s8:Shared}{σ8:St}{H8:Hp},Inv (zbi X scope N s3 (upd H2 s2.heap.objs.size (.lst [])) fp pins) ([]++zhW fp s7.heap) σ8 H8 s8→M σ8 H8→
     ∃m,m<n∧ ∃i σ' H',Inv (zbi X scope N s3 (upd H2 s2.heap.objs.size (.lst [])) fp pins) [] σ' H' s8∧tn i s8.heap∧(∀b∈fp,H' b=none)∧W i m σ' H':=fun {s8 σ8 H8} I8 n8=>by
    obtain⟨m',hm,w8⟩:=hM σ8 H8 n8;refine⟨m',hm,i+1,σ8,H8,I8.unpinned,T.keep _ _ _ st7 fun b hb o e=>(I8.pin (b,o) (List.mem_append_right _ (List.mem_append_right _ (zdD hb e)))).1,fun b hb=>?_,w8⟩;obtain⟨o,e,d⟩:=T.obj _ _ st7 b hb;exact(I8.pin (b,o) (List.mem_append_right _ (List.mem_append_right _ (zdD hb e)))).2.1
   refine thn (hg _ s7 σ5 H7 x u _ I7' r7 q) fun _ s8 ⟨σ8,H8,I8,q8⟩=>?_;refine thn (ht _ s8 σ8 H8 _ I8 q8) fun b s9 ⟨H9,I9,q9⟩=>?_;cases b with
   |false=>exact again I9 q9
   |true=>
    refine thn (he _ s9 σ8 H9 _ I9 q9) fun y s10 ⟨yv,H10,I10,r10,ys,hl,hz,qM⟩=>?_;exact thn (zhQ _ s10 σ8 H10 (.ref s2.heap.objs.size) [yv] (.ref s2.heap.objs.size) [y] (fun _ H'=>M σ8 H') I10 rfl (.cons r10 .nil) ⟨_,ys,yv,rfl,rfl,hl,hz,qM⟩) fun _ s11 ⟨_,H11,I11,_,q11⟩=>again I11 q11
 exact codeAny_compStart_list (loop _ rfl) (T.self _ 0 _ _ _ st4 (loop _ rfl))
theorem zrc{X:Cx}{scope:Scope}{N:List Str}{k:Nat}{fr:List Nat}{tg iter elt:Expr}{ifs:List Expr}{wi:TI}{pos:Pos}(hx:X.xe=fun _ _=>False) (hc:X.calm=true) (S:CompSc X scope N k fr) (hi:PI X tg iter wi)
  (hs:∀x,foldedSetIterable iter X.env x=pure x:=by intro _;rfl):PE X (.ListComp elt [⟨tg,iter,ifs,0⟩] scope pos) (zpk X scope N k fr tg ifs elt wi):=by
 intro pins s σ H Q I h;rw [eval_ListComp];refine zhx hx hc S hi I (fun {s3 s6 H3 H5 fp σ5 l a} I3 f3 I6 qn=>?_) h hs;obtain⟨m6,ns6,_⟩:=I6.loc;exact⟨m6,ns6,fun h' sb=>⟨.ref l,H5,zif I3 f3 I6 sb,rfl,qn⟩⟩
theorem zrK{X:Cx}{scope:Scope}{N:List Str}{k:Nat}{fr:List Nat}{tg iter elt:Expr}{ifs:List Expr}{wi:TI}{pos spos pos':Pos}{i:Nat}{x:Str}(hx:X.xe=fun _ _=>False) (hc:X.calm=true) (S:CompSc X scope N k fr) (hi:PI X tg iter wi)
  (hN:X.N.Nodup) (hxi:X.N[i]? =some x) (hxl:Loc X.env.scope x) (hw:swapsWith (.ListComp elt [⟨tg,iter,ifs,0⟩] scope pos) (some (.Name x pos')) spos.line X.env=pure true) (hf:X.fn x=true∨X.env.scope.names.lookup x=some .local)
  (hs:∀x,foldedSetIterable iter X.env x=pure x:=by intro _;rfl):PS X (.Assign [.Name x pos'] (.ListComp elt [⟨tg,iter,ifs,0⟩] scope pos) spos) (zwv (zpk X scope N k fr tg ifs elt wi) (zrW i)):=by
 intro pins s σ H D I h;rw [exec_Assign_Name_used x pos' _ spos hw];refine wpAny_bind (wpAny_standAt (wpAny_bind ?_));rw [arm_evalThenUse_ListComp];refine wpAny_bind ?_;refine zhx (Qf:=fun _ s'=>wpAny (model X.prog X.w) X.A (pure ()) (fun _ s2=>wpAny (model X.prog X.w) X.A (pure Flow.next) (SP X pins D) X.xe s2) X.xe s') hx hc S hi I (fun {s3 s6 H3 H5 fp σ5 l a} I3 f3 I6 qn=>?_) h hs;have IX:Inv X pins σ H5 s6:=zif (h':=s6.heap) I3 f3 I6 ⟨rfl,fun _ _=>rfl⟩;obtain⟨m6,ns6,_⟩:=I6.loc;have ns6:s6.heap.Ns s3.heap.objs.size m6:=ns6;have frC:H5 s3.heap.objs.size=none:=I6.free;have fC:zhr X pins H5 s3.heap.objs.size:=I3.fpOk (Nat.le_refl _) frC;refine wpAny_assign_Name (zhS IX hN hxi hxl (v:= .ref l) rfl (fun s7 I7 ⟨b,sb,hb⟩=>?_) hf);have hbC:s3.heap.objs.size≠b:=by
  rcases hb with rfl |hb
  ·exact fC.2.1
  ·exact Ne.symm (fC.2.2.2.2.1 _ _ hb)
 refine⟨m6,ns6.sameBut sb hbC,fun h' sb2=>wpAny_pure (wpAny_pure ⟨_,H5,?_,qn⟩)⟩;refine Inv.call' (s':={ s7 with heap:=h' }) (ch:=[s3.heap.objs.size]) I7 rfl ⟨fun c o e n hfs hex=>?_,fun c o e n hfs hex=>?_,fun c o e n _=>n,fun c o e hex=>?_,fun _ _ q=>q,fun _ _ _ q=>q,fun _ ps q=>⟨#[],by simpa using q⟩⟩ (fun c o e=>?_) I7.bare fun c hcm=>?_
 ·exact(sb2.2 c (fun z=>hex (by simp [z]))).trans e
 ·exact⟨o.slots,(sb2.2 c (fun z=>hex (by simp [z]))).trans e⟩
 ·exact⟨o,(sb2.2 c (fun z=>hex (by simp [z]))).trans e⟩
 ·refine(I7.hok c o e).stay (fun d v hd q=>(sb2.2 d ?_).trans q) (fun _ q=>q) fun _ _ q=>q;rintro rfl;rcases hd with rfl |hd
  ·rw [frC]at e;cases e
  ·rw [frC]at hd;cases hd
 ·rw [List.mem_singleton.mp hcm];exact⟨fC.2.2.2.1,fC.2.1,fC.2.2.2.2.1,fC.2.2.2.2.2⟩
noncomputable def Its (x:Str):It:=⟨fun i _=>i<x.cps.size,fun i H v H'=>H'=H∧ ∃c,x.cps[i]? =some c∧v= .str ⟨#[c]⟩,fun i _=>i=x.cps.size⟩
theorem zkD{P:Program}{w:World}{K:PySem.W.Frag}{tg:Expr}(it:Addr) (x:Str) (t:Tok) (ty:String)
    (hn: ["enumerate", "zip", "dict_itemiterator", "dict_reverseitemiterator", "odict_iterator", "itertools.zip_longest", "itertools.pairwise"].contains ty=false)
    (hW:∀A':Around,A'.handled=none→Walks P w A' it [it] [it] x.cps.size (SignAt x) (fun i h=>h.IsStrIter it ty x t i))
    (hself:∀(A:Around) (i:Nat) (s:Shared) (Q:Value→Shared→Prop) (E:Value→Shared→Prop),s.heap.IsStrIter it ty x t i→Q (.ref it) s→wpAny (model P w) A (pyIter (.ref it)) Q E s) :
    Turn P w K tg (Its x) [it] it (fun i h=>h.IsStrIter it ty x t i) where
  mem:=by simp
  obj:=fun i h st b hb=>by
    have e:b=it:=by simpa using hb
    subst e;obtain⟨o,e,c,d⟩:=st;exact⟨o,e,fun v z=>by rw [d]at z;cases z⟩
  keep:=fun i h h' st k=>by
    obtain⟨o,e,r⟩:=st;exact⟨o,k it (by simp) o e,r⟩
  item:=by
    intro X hP hw hK hc i pins s σ H E I hf st hg;subst hP hw hK;obtain⟨f0,f1,f2,f3,f4,f5⟩:=hf it (by simp);refine(hW X.A (I.ok.hd hc)).item i s _ _ hg st fun v h' tk hv st' kk=>?_;obtain⟨c,u,hc',rfl⟩:=hv;have I1:Inv X pins σ H { s with heap:=h',toks:=tk }:=I.turned (fun b o hb e=>kk b o (by simpa using hb) e) f0 f1 f3 f4 f5;obtain⟨o,e,c',d⟩:=id st';exact⟨_,rfl,zpy (s:={ s with heap:=h',toks:=tk }) e c' d hn ⟨.str ⟨#[c]⟩,H,I1,⟨u,rfl⟩,⟨rfl,c,hc',rfl⟩,st',fun b hb=>(hf b hb).1⟩⟩
  done:=by
    intro X hP hw hK hc i pins s σ H E I hf st hg;subst hP hw hK;obtain⟨f0,f1,f2,f3,f4,f5⟩:=hf it (by simp);have hi:i=x.cps.size:=hg;subst hi;exact(hW X.A (I.ok.hd hc)).done s _ _ st fun h' tk kk=>⟨rfl,I.turned (fun b o hb e=>kk b o (by simpa using hb) e) f0 f1 f3 f4 f5⟩
  self:=hself
noncomputable def TupsOn (H H':Hp):Prop:=∀b xs,H b=some (.tup xs)→H' b=some (.tup xs)
theorem TupsOn.trans{H H1 H2:Hp}(a:TupsOn H H1) (b:TupsOn H1 H2):TupsOn H H2:=fun c xs h=>b c xs (a c xs h)
section
variable {X:Cx}
theorem zme:OpR X (compareOp .LtE) (fun x y H Q=>∃i j,x= .str i∧y= .str j∧Q (.bl (!decide (j.cps.toList<i.cps.toList))) H):=by
 intro pins s σ H x y v u Q I rx ry h;obtain⟨i,j,rfl,rfl,q⟩:=h;obtain⟨t,rfl⟩:=rx;obtain⟨t',rfl⟩:=ry;exact PySem.P.le_str (zkc I q rfl)
noncomputable def zwQ:V→Option Int→Option Int→Hp→VK→Prop:=fun x lo hi H Q=>∃z,x= .str z∧z.length≤sizeLine∧Q (.str (Txt.slice z lo hi)) H
theorem sl_str:SlR X zwQ:=by
 intro pins s σ H x v vl vu lo hi sl Q I rx hs pl pu h;obtain⟨z,rfl,hz,q⟩:=h;obtain⟨t,rfl⟩:=rx;refine⟨"str",_,F.slot_str_getitem.lookup,typeIs_str _ _ _,?_⟩;obtain⟨o,ho,hc,hd⟩:=hs;have fin:∀t' k,EP X pins σ Q (.str (Txt.slice z lo hi) t') { s with toks:=k }:=fun t' k=>⟨.str _,H,I.tok _,⟨t',rfl⟩,q⟩;have le:=Nat.le_trans (Txt.slice_le z lo hi) hz;cases pl with
 |none=>
  cases pu with
  |none=>exact wpAny_getItem_str_slice (l:=none) (u:=none) (st:=none) ⟨o,ho,hc,hd⟩ rfl (post_val_or_str ⟨le,fin⟩)
  |int j u=>exact wpAny_getItem_str_slice (l:=none) (u:=some (j,u)) (st:=none) ⟨o,ho,hc,hd⟩ rfl (post_val_or_str ⟨le,fin⟩)
 |int i w=>
  cases pu with
  |none=>exact wpAny_getItem_str_slice (l:=some (i,w)) (u:=none) (st:=none) ⟨o,ho,hc,hd⟩ rfl (post_val_or_str ⟨le,fin⟩)
  |int j u=>exact wpAny_getItem_str_slice (l:=some (i,w)) (u:=some (j,u)) (st:=none) ⟨o,ho,hc,hd⟩ rfl (post_val_or_str ⟨le,fin⟩)
noncomputable def zuW (xs:List Nat) (lo hi:Option Int):List Nat:=(xs.drop (HT.sIx xs.length 0 lo)).take (HT.sIx xs.length xs.length hi - HT.sIx xs.length 0 lo)
theorem zqs (lo hi:Option Int) (n:Nat):Builtin.Str.strSliceIndices lo hi 1 n=sliceRange ((HT.sIx n 0 lo:Nat):Int) ((HT.sIx n n hi:Nat):Int) 1:=by
 have one:(1:Int) > 0:=by decide
 have a:∀(v:Option Int) (d:Nat),(match v with |none=>(d:Int) |some i=>(if(1:Int) > 0 then max 0 (min (if i<0 then i+(n:Int) else i) (n:Int)) else max (-1) (min (if i<0 then i+(n:Int) else i) ((n:Int) - 1))))=((HT.sIx n d v:Nat):Int):=by
  intro v d;cases v with
  |none=>rfl
  |some i=>
   simp only[HT.sIx,one,if_true];by_cases h:i<0
   ·simp only[h,if_true];omega
   ·simp only[h,if_false];omega
 have l:=a lo 0;have u:=a hi n;unfold Builtin.Str.strSliceIndices;simp only[one,if_true]at l u⊢
 first
  |rw [l,u]
  | (cases lo<;>cases hi<;>simp_all)
theorem zmy (z:Str) (lo hi:Option Int):(Txt.slice z lo hi).cps.toList=zuW z.cps.toList lo hi:=by
 have hn:z.length=z.cps.toList.length:=by simp [Str.length]
 have hp:(Builtin.Str.strSliceIndices lo hi 1 z.length).filterMap (z.cps[·]?)=zuW z.cps.toList lo hi:=by
  rw [zqs,sliceRange_one,pick_run,hn];rfl
 unfold Txt.slice;split
 ·rename_i h;have h1:(Builtin.Str.strSliceIndices lo hi 1 z.length).length=z.length:=by simpa using h
  rw [zqs,sliceRange_one,List.length_map,List.length_range]at h1;have le1:=HT.sIx_le z.length z.length (Nat.le_refl _) hi;unfold zuW;rw [←hn];have e0:HT.sIx z.length 0 lo=0∨z.length=0:=by omega
  have hz:z.cps.toList.length=z.length:=hn.symm;rcases e0 with e0 |e0
  ·rw [e0,List.drop_zero,List.take_of_length_le (by omega)]
  ·have:z.cps.toList=[]:=List.eq_nil_of_length_eq_zero (by omega);rw [this];simp
 ·show(List.filterMap _ _).toArray.toList=_;rw [hp]
theorem zpF:CallR X (.builtin "isinstance") (fun xs H Q=>∃x t c b,xs=[x, .ty c]∧TyOf X.K H x t∧PySem.W.kitOne X.K t (.type c)=some b∧Q (.bl b) H):=by
 intro pins s σ H xs us Q I r h;obtain⟨x,t,c,b,rfl,ty,e,q⟩:=h;obtain⟨u,v,rfl,rx,ry⟩:=ztf r;cases(show v=Value.type c from ry);exact znF I rx ty e fun tk=>⟨.bl b,H,I.tok _,rfl,q⟩
end
section
variable {X:Cx}
theorem zdV (l:Addr) (items:Array Value) (n:Nat) (b:Addr) (items2:Array Value) (n2:Nat) (dd:Option Addr) (sl:Array (Option Value)) (hs0:¬(!items.isEmpty&&Builtin.List.listTooLong (items.size+items2.size))=true) (hs1:items.size≤sizeLine) (hs2:items.size+items2.size≤sizeLine+1) :
  Meets (Builtin.«list.extend» ⟨[.ref l, .ref b],[]⟩) (fun _ R s=>s.heap.get? l=some { cls:= .type "list",dict:=none,data:= .seq items n,slots:= #[] }∧s.heap.get? b=some { cls:= .type "tuple",dict:=dd,data:= .seq items2 n2,slots:=sl }∧R (.ok (.ret Value.none)) { s with heap:=s.heap.update l (Obj.mapSeq fun x=>x++items2),toks:=s.toks }):=
 .of_wp fun prog w A R s h=>by
  obtain⟨hp,g,d,tk,os⟩:=s;obtain⟨hl,hb,h⟩:=h;have f1:=AutoSeq1.idx_int;have f2:=AutoSeq1.sub_tuple_tuple;have f3:=AutoSeq1.sub_list_list;have f4:=AutoSeq1.sub_tuple_list;have f5:=AutoSeq1.sub_list_tuple;have hz':(items++items2).size≤sizeLine+1:=by rw [Array.size_append];exact hs2
  wp_walk using(wpAny_updateSeq hl rfl (hz:=hs1) (_hz':=hz')),AutoSeq1.wpAny_loadPart' hl,AutoSeq1.wpAny_loadPart' hb;exact⟨_,rfl,h⟩
noncomputable def zkn (K:PySem.W.Frag):V→List V→Hp→VK→Prop:=fun x vs H Q=>∃l b xs zs,x= .ref l∧vs=[.ref b]∧H l=some (.lst xs)∧SqT K H b zs∧xs.length+zs.length≤sizeLine∧Q .non (upd H l (.lst (xs++zs)))
theorem zlx:MtM X "list.extend" (zkn X.K):=by
 intro pins s σ H x vs v us Q I rx rv h;obtain⟨l,b,xs,zs,rfl,rfl,hH,hB,hz,q⟩:=h;cases rx;obtain⟨u,rfl,ru⟩:=rv.one;cases ru;obtain⟨z,its,n,r,hl,e⟩:=I.lstM hH;obtain⟨its2,r2,ht,hz2⟩:=I.tuple hB;obtain⟨⟨cls,dd,data,sl⟩,e2,hc,n2,hd⟩:=ht;simp only at hc hd;subst hc hd;have hl2:=r2.length;have hsz:its.toArray.size+its2.toArray.size≤sizeLine:=by rw [List.size_toArray,List.size_toArray];omega
 have hlong:¬(!its.toArray.isEmpty&&Builtin.List.listTooLong (its.toArray.size+its2.toArray.size))=true:=by
  rw [zgP hsz,Bool.and_false];exact Bool.false_ne_true
 refine call_meets F.slot_list_extend ⟨_,e,rfl⟩ F.entry_list_extend (F.args_list_extend_2 _ _)
  (zdV l its.toArray n b its2.toArray n2 dd sl hlong (by rw [List.size_toArray];omega) (by omega)) ⟨e,e2,?_⟩
 refine⟨.non,_,I.lset (its':=its++its2) hH e (by simp) (r.append r2) ?_,rfl,q⟩;rw [List.length_append];omega
noncomputable def zut (K:PySem.W.Frag):V→List V→Hp→VK→Prop:=fun x vs H Q=>∃(z:Str) (b:Addr) (ys:List Str),x= .str z∧vs=[.ref b]∧SqL K H b (ys.map V.str)∧(ys.map (·.length)).sum+ys.length*z.length≤16777216∧Q (.str (Str.join z ys)) H
theorem zsh{ys:List Str}:∀{us:List Value},Vals (ys.map V.str) us→StrsAre us ys:=by
 induction ys with
 |nil=>
  intro us r;cases r;exact .nil
 |cons y ys ih=>
  intro us r;cases r with
  |cons a b=>
   obtain⟨t,rfl⟩:=a;exact .cons y t (ih b)
theorem zss:MtM X "str.join" (zut X.K):=by
 intro pins s σ H x vs v us Q I rx rv h;obtain⟨z,b,ys,rfl,rfl,hB,hz,q⟩:=h;obtain⟨t,rfl⟩:=rx;obtain⟨u,rfl,ru⟩:=rv.one;cases ru;obtain⟨its,r,pl,_⟩:=I.list hB;refine join_list pl.isList (by simpa using zsh r) hz fun t' k=>⟨.str (Str.join z ys),H,I.tok _,⟨t',?_⟩,q⟩;show Value.str (Builtin.Str.glued z ys) t'=_;rw [StrLaws.glued_eq_join]
end
inductive W where
  |non |bl (b:Bool) |int (i:Int) |str (x:Str) |tup (ws:List W) |ref (a:Addr) |scr (ns:List Int)
inductive Ob where
  |lst (ws:List W)
  |dct (kvs:List (List Int×W))
  |ins (C:Addr) (fs:List (Str×W))
noncomputable abbrev Sto:=Addr→Option Ob
noncomputable def put (S:Sto) (a:Addr) (o:Ob):Sto:=fun b=>if b=a then some o else S b
noncomputable def FzL (K:PySem.W.Frag) (H:Hp) (a:Addr) (xs:List V):Prop:=
 (∃o,H a=some (.frz o (.lst xs)))∨
  ∃(o:Obj) (its:Array Value) (n:Nat),K.lookup a=some o∧o.cls= .type "list" ∧o.dict=none∧o.data= .seq its n∧its.size≤sizeLine∧Vals xs its.toList
mutual
inductive Rep (K:PySem.W.Frag) (H:Hp):W→V→Prop
 |non:Rep K H .non .non
 |bl (b:Bool):Rep K H (.bl b) (.bl b)
 |int (i:Int):Rep K H (.int i) (.int i)
 |str (x:Str):Rep K H (.str x) (.str x)
 |ref (a:Addr):Rep K H (.ref a) (.ref a)
 |scr {a:Addr}{ns:List Int}:FzL K H a (ns.map V.int)→Rep K H (.scr ns) (.ref a)
 |tup {a:Addr}{vs:List V}{ws:List W}:H a=some (.tup vs)→Reps K H ws vs→Rep K H (.tup ws) (.ref a)
inductive Reps (K:PySem.W.Frag) (H:Hp):List W→List V→Prop
 |nil:Reps K H [] []
 |cons {w:W}{v:V}{ws:List W}{vs:List V}:Rep K H w v→Reps K H ws vs→Reps K H (w::ws) (v::vs)
end
structure Ext (H:Hp) (S:Sto) (H':Hp) (S':Sto):Prop where
  tup:∀b xs,H b=some (.tup xs)→H' b=some (.tup xs)
  frz:∀b o u,H b=some (.frz o u)→H' b=some (.frz o u)
  fr:∀b o,H b=some o→S b=none→H' b=some o∧S' b=none
  all:∀b o,H b=some o→ ∃o',H' b=some o'
noncomputable def Sub (S S':Sto):Prop:=∀a o,S a=some o→S' a=some o
section
variable {K:PySem.W.Frag}{H H' H1 H2:Hp}{S S' S1 S2:Sto}
theorem zai{a:Addr}{o:Ob}:put S a o a=some o:=by unfold put;rw [if_pos rfl]
theorem zaZ{a b:Addr}{o:Ob}(h:b≠a):put S a o b=S b:=by unfold put;rw [if_neg h]
theorem zaW{a:Addr}{o o':Ob}:put (put S a o) a o'=put S a o':=by funext b;unfold put;split<;>rfl
theorem Ext.refl:Ext H S H S:=⟨fun _ _ h=>h,fun _ _ _ h=>h,fun _ _ h g=>⟨h,g⟩,fun _ o h=>⟨o,h⟩⟩
theorem Ext.trans (a:Ext H S H1 S1) (b:Ext H1 S1 H2 S2):Ext H S H2 S2:=⟨fun c xs h=>b.tup c xs (a.tup c xs h),fun c o u h=>b.frz c o u (a.frz c o u h),
 fun c o h g=>by
  obtain⟨h1,g1⟩:=a.fr c o h g;exact b.fr c o h1 g1,fun c o h=>by
  obtain⟨o1,h1⟩:=a.all c o h;exact b.all c o1 h1⟩
theorem Ext.new{p:Addr}{o:HO}(h:H p=none):Ext H S (upd H p o) S:=
  ⟨fun b xs e=>by rw [zav (zap e h)];exact e,fun b ob u e=>by rw [zav (zap e h)];exact e,
   fun b ob e g=>⟨by rw [zav (zap e h)];exact e,g⟩,fun b ob e=>⟨ob,by rw [zav (zap e h)];exact e⟩⟩
theorem Ext.newS{p:Addr}{o:HO}{ob:Ob}(h:H p=none):Ext H S (upd H p o) (put S p ob):=
  ⟨fun b xs e=>by rw [zav (zap e h)];exact e,fun b ob u e=>by rw [zav (zap e h)];exact e,
   fun b ob e g=>⟨by rw [zav (zap e h)];exact e,by rw [zaZ (zap e h)];exact g⟩,fun b ob e=>⟨ob,by rw [zav (zap e h)];exact e⟩⟩
theorem Ext.mut{p:Addr}{o u:HO}{ob ob0:Ob}(h:H p=some u) (hs:S p=some ob0) (ht:∀xs,u≠ .tup xs) (hf:∀ob q,u≠ .frz ob q):Ext H S (upd H p o) (put S p ob):=
  ⟨fun b xs e=>by rw [zav (zoG e h fun z=>ht xs z.symm)];exact e,fun b ob q e=>by rw [zav (zoG e h fun z=>hf ob q z.symm)];exact e,
   fun b ob e g=>by
     have hb:b≠p:=by rintro rfl;rw [hs]at g;cases g
     exact⟨by rw [zav hb];exact e,by rw [zaZ hb];exact g⟩,fun b ob e=>by
     by_cases hb:b=p
     · subst hb;exact⟨o,zat⟩
     · exact⟨ob,by rw [zav hb];exact e⟩⟩
theorem Ext.lst{p:Addr}{o:HO}{ob ob0:Ob}{xs:List V}(h:H p=some (.lst xs)) (hs:S p=some ob0):Ext H S (upd H p o) (put S p ob):= .mut h hs (fun _ z=>nomatch z) fun _ _ z=>nomatch z
theorem Ext.drop (h:Sub S' S):Ext H S H S':=⟨fun _ _ h=>h,fun _ _ _ h=>h,fun b o e g=>⟨e,by
 cases q:S' b with
 |none=>rfl
 |some z=>rw [h b z q]at g;cases g⟩,fun _ o h=>⟨o,h⟩⟩
theorem Ext.free (e:Ext H S H' S') {p:Addr}(h:H' p=none):H p=none:=by
 cases q:H p with
 |none=>rfl
 |some o=>obtain⟨o',z⟩:=e.all p o q;rw [h]at z;cases z
theorem Ext.fz{a:Addr}{xs:List V}(e:Ext H S H' S') (h:FzL K H a xs):FzL K H' a xs:=by
 rcases h with⟨o,h⟩ |h
 ·exact .inl ⟨o,e.frz _ _ _ h⟩
 ·exact .inr h
theorem FzL.sq{a:Addr}{xs:List V}(h:FzL K H a xs):SqL K H a xs:=by
 rcases h with⟨o,h⟩ |h
 ·exact .inl (.inr ⟨o,h⟩)
 ·exact .inr h
mutual
theorem Rep.ext (e:Ext H S H' S') {w:W}{v:V}:Rep K H w v→Rep K H' w v
 | .non=> .non
 | .bl b=> .bl b
 | .int i=> .int i
 | .str x=> .str x
 | .ref a=> .ref a
 | .scr h=> .scr (e.fz h)
 | .tup h hs=> .tup (e.tup _ _ h) (Reps.ext e hs)
theorem Reps.ext (e:Ext H S H' S') {ws:List W}{vs:List V}:Reps K H ws vs→Reps K H' ws vs
 | .nil=> .nil
 | .cons h hs=> .cons (Rep.ext e h) (Reps.ext e hs)
end
theorem Reps.length:∀{ws:List W}{vs:List V},Reps K H ws vs→ws.length=vs.length
 |_,_, .nil=>rfl
 |_,_, .cons _ hs=>congrArg (· +1) (Reps.length hs)
theorem Reps.get:∀{ws:List W}{vs:List V}{i:Nat}{w:W},Reps K H ws vs→ws[i]? =some w→ ∃v,vs[i]? =some v∧Rep K H w v
 |_,_,_,_, .nil,e=>by simp at e
 |_,_,0,_, .cons h _,e=>by simp at e;subst e;exact⟨_,rfl,h⟩
 |_,_,i+1,w, .cons _ hs,e=>by
  obtain⟨v,h1,h2⟩:=Reps.get (i:=i) (w:=w) hs (by simpa using e);exact⟨v,by simpa using h1,h2⟩
theorem Reps.append:∀{ws us:List W}{vs xs:List V},Reps K H ws vs→Reps K H us xs→Reps K H (ws++us) (vs++xs)
 |_,_,_,_, .nil,h=>h
 |_,_,_,_, .cons r t,h=> .cons r (Reps.append t h)
theorem Reps.take:∀{ws:List W}{vs:List V}(n:Nat),Reps K H ws vs→Reps K H (ws.take n) (vs.take n)
 |_,_,0,_=> .nil
 |_,_,_+1, .nil=> .nil
 |_,_,n+1, .cons r t=> .cons r (Reps.take n t)
theorem Reps.drop:∀{ws:List W}{vs:List V}(n:Nat),Reps K H ws vs→Reps K H (ws.drop n) (vs.drop n)
 |_,_,0,r=>r
 |_,_,_+1, .nil=> .nil
 |_,_,n+1, .cons _ t=>Reps.drop n t
theorem Reps.one{w:W}{v:V}(h:Rep K H w v):Reps K H [w] [v]:= .cons h .nil
theorem Reps.ofInts:∀(ns:List Int),Reps K H (ns.map W.int) (ns.map V.int)
 | []=> .nil
 |n::ns=> .cons (.int n) (Reps.ofInts ns)
end
noncomputable def RepO (K:PySem.W.Frag) (H:Hp) (a:Addr):Ob→Prop
 | .lst ws=>∃vs,H a=some (.lst vs)∧Reps K H ws vs
 | .dct kvs=>∃ps:List (List Key×V),H a=some (.dT ps)∧Paired (fun q p=>p.1=q.1.map Sum.inl∧Rep K H q.2 p.2) kvs ps
 | .ins C fs=>False
noncomputable def RepS (K:PySem.W.Frag) (H:Hp) (S:Sto):Prop:=∀a o,S a=some o→RepO K H a o
section
variable {K:PySem.W.Frag}{H H':Hp}{S S' S0 S0':Sto}{a b p:Addr}{o:Ob}
theorem Sub.refl:Sub S S:=fun _ _ h=>h
theorem Sub.trans{S1 S2 S3:Sto}(h:Sub S1 S2) (g:Sub S2 S3):Sub S1 S3:=fun a o e=>g a o (h a o e)
theorem RepS.sub (h:RepS K H S') (q:Sub S S'):RepS K H S:=fun a o e=>h a o (q a o e)
theorem RepO.some (h:RepO K H a o):∃u,H a=some u:=by
 cases o with
 |lst ws=>obtain⟨vs,e,_⟩:=h;exact⟨_,e⟩
 |dct kvs=>obtain⟨vs,e,_⟩:=h;exact⟨_,e⟩
 |ins C fs=>exact h.elim
theorem RepS.free (h:RepS K H S) (e:H p=none):S p=none:=by
 cases q:S p with
 |none=>rfl
 |some o=>obtain⟨u,z⟩:=(h p o q).some;rw [e]at z;cases z
theorem RepO.keep (e:Ext H S0 H' S0') (k:∀u,H a=Option.some u→H' a=Option.some u) (h:RepO K H a o):RepO K H' a o:=by
 cases o with
 |lst ws=>obtain⟨vs,e1,r⟩:=h;exact⟨vs,k _ e1,r.ext e⟩
 |dct kvs=>obtain⟨vs,e1,r⟩:=h;exact⟨vs,k _ e1,Paired.mapP r fun _ _ z=>⟨z.1,z.2.ext e⟩⟩
 |ins C fs=>exact h.elim
theorem RepS.new{u:HO}(h:RepS K H S) (e:H p=none):RepS K (upd H p u) S:=fun a o q=>
 (h a o q).keep (.new (S:=S) e) fun v z=>by rw [zav (zap z e)];exact z
theorem RepS.put_lst{ws:List W}{vs:List V}(h:RepS K H S) (e:H p=none) (r:Reps K (upd H p (.lst vs)) ws vs):RepS K (upd H p (.lst vs)) (put S p (.lst ws)):=fun a o q=>by
 by_cases ha:a=p
 ·subst ha;rw [zai]at q;cases q;exact⟨vs,zat,r⟩
 ·rw [zaZ ha]at q;exact h.new e a o q
theorem RepS.set_lst{ws0 ws:List W}{vs:List V}(h:RepS K H S) (e:S a=some (.lst ws0)) (r:Reps K H ws vs):Ext H S (upd H a (.lst vs)) (put S a (.lst ws))∧RepS K (upd H a (.lst vs)) (put S a (.lst ws)):=by
 obtain⟨vs0,e0,_⟩:=h a _ e;have x:Ext H S (upd H a (.lst vs)) (put S a (.lst ws)):= .lst e0 e;refine⟨x,fun b o q=>?_⟩;by_cases hb:b=a
 ·subst hb;rw [zai]at q;cases q;exact⟨vs,zat,r.ext x⟩
 ·rw [zaZ hb]at q;exact(h b o q).keep x fun u z=>by rw [zav hb];exact z
end
noncomputable abbrev WSt:=List (Option W)
noncomputable abbrev WK:=W→Sto→Prop
noncomputable abbrev WX:=Str→WSt→Sto→Prop
noncomputable abbrev WE:=WX→WSt→Sto→WK→Prop
noncomputable abbrev WT:=WX→WSt→Sto→(Bool→Sto→Prop)→Prop
noncomputable abbrev WA:=WX→WSt→Sto→(List W→Sto→Prop)→Prop
structure WEnds where
  nx:WSt→Sto→Prop
  rt:WK
  bk:WSt→Sto→Prop:=fun _ _=>False
  ct:WSt→Sto→Prop:=fun _ _=>False
noncomputable abbrev WS:=WX→WEnds→WSt→Sto→Prop
noncomputable abbrev WG:=W→WSt→Sto→(WSt→Sto→Prop)→Prop
noncomputable abbrev WSp:=List W→Sto→WK→(Str→Sto→Prop)→Prop
noncomputable abbrev WI:=WX→WSt→Sto→(List W→(Sto→Prop)→Sto→Prop)→Prop
noncomputable abbrev WL:=WX→WSt→Sto→(List W→Sto→Prop)→Prop
noncomputable def RpO (K:PySem.W.Frag) (H:Hp):Option W→Option V→Prop
 |none,_=>True
 |some w,some v=>Rep K H w v
 |some _,none=>False
noncomputable def RpSt (K:PySem.W.Frag) (H:Hp) (σW:WSt) (σ:St):Prop:=Paired (RpO K H) σW σ
section
variable {K:PySem.W.Frag}{H H':Hp}{S S':Sto}
theorem RpO.ext (e:Ext H S H' S'):∀{w:Option W}{v:Option V},RpO K H w v→RpO K H' w v
 |none,_,_=>trivial
 |some _,some _,h=>Rep.ext e h
 |some _,none,h=>h.elim
theorem RpSt.ext (e:Ext H S H' S') {σW:WSt}{σ:St}(h:RpSt K H σW σ):RpSt K H' σW σ:=Paired.mapP h fun _ _ r=>RpO.ext e r
theorem RpSt.get:∀{σW:WSt}{σ:St}{i:Nat}{w:W},RpSt K H σW σ→σW[i]? =some (some w)→ ∃v,σ[i]? =some (some v)∧Rep K H w v
 |_,_,_,_, .nil,e=>by simp at e
 |_,_,0,_, .cons (b:=b) h _,e=>by
  simp at e;subst e;cases b with
  |none=>exact(show False from h).elim
  |some v=>exact⟨v,rfl,h⟩
 |_,_,i+1,w, .cons _ hs,e=>by
  obtain⟨v,h1,h2⟩:=RpSt.get (i:=i) (w:=w) hs (by simpa using e);exact⟨v,by simpa using h1,h2⟩
theorem RpSt.set{w:W}{v:V}(h:Rep K H w v):∀{σW:WSt}{σ:St}(i:Nat),RpSt K H σW σ→RpSt K H (σW.set i (some w)) (σ.set i (some v))
 |_,_,_, .nil=> .nil
 |_,_,0, .cons _ t=> .cons h t
 |_,_,i+1, .cons q t=> .cons q (RpSt.set h i t)
end
noncomputable def Wish (K:PySem.W.Frag) (H:Hp) (S:Sto) (QW:WK) (Q:VK):Prop:=∀w S' v H',Ext H S H' S'→Rep K H' w v→RepS K H' S'→QW w S'→Q v H'
noncomputable def zuX (K:PySem.W.Frag) (t:WSt→Sto→WK→Prop):TE:=fun σ H Q=>∃σW S QW,RpSt K H σW σ∧RepS K H S∧t σW S QW∧Wish K H S QW Q
noncomputable def zrL (K:PySem.W.Frag) (t:WSt→Sto→(Bool→Sto→Prop)→Prop):TT:=fun σ H Q=>∃σW S QW,RpSt K H σW σ∧RepS K H S∧t σW S QW∧ ∀b S' H',Ext H S H' S'→RepS K H' S'→QW b S'→Q b H'
noncomputable def zvo (K:PySem.W.Frag) (t:WSt→Sto→(List W→Sto→Prop)→Prop):TA:=fun σ H Q=>∃σW S QW,RpSt K H σW σ∧RepS K H S∧t σW S QW∧ ∀ws S' vs H',Ext H S H' S'→Reps K H' ws vs→RepS K H' S'→QW ws S'→Q vs H'
noncomputable def Goes (K:PySem.W.Frag) (H:Hp) (S:Sto) (P:WSt→Sto→Prop) (Q:St→Hp→Prop):Prop:=∀σW S' σ H',Ext H S H' S'→RpSt K H' σW σ→RepS K H' S'→P σW S'→Q σ H'
structure Meets (K:PySem.W.Frag) (H:Hp) (S:Sto) (DW:WEnds) (D:Ends):Prop where
  nx:Goes K H S DW.nx D.nx
  rt:Wish K H S DW.rt D.rt
  bk:Goes K H S DW.bk D.bk
  ct:Goes K H S DW.ct D.ct
noncomputable def ztU (K:PySem.W.Frag) (t:WEnds→WSt→Sto→Prop):TS:=fun D σ H=>∃σW S DW,RpSt K H σW σ∧RepS K H S∧t DW σW S∧Meets K H S DW D
noncomputable def zvh (K:PySem.W.Frag) (t:WG):TG:=fun v σ H Q=>∃w σW S P,Rep K H w v∧RpSt K H σW σ∧RepS K H S∧t w σW S P∧Goes K H S P Q
noncomputable def ItW (K:PySem.W.Frag) (J:It) (ws:List W) (G:Sto→Prop) (H0:Hp) (S0:Sto):Prop:=∀i S H,Ext H0 S0 H S→RepS K H S→G S→
 (∀w,ws[i]? =some w→J.go i H∧ ∀x H',J.yld i H x H'→Ext H S H' S∧RepS K H' S∧Rep K H' w x)∧(i=ws.length→J.stop i H)
noncomputable def zus (K:PySem.W.Frag) (t:WSt→Sto→(List W→(Sto→Prop)→Sto→Prop)→Prop):TI:=fun σ H R=>∃σW S QW,RpSt K H σW σ∧RepS K H S∧t σW S QW∧
 ∀ws G S' J H',Ext H S H' S'→RepS K H' S'→G S'→ItW K J ws G H' S'→QW ws G S'→R J H'
noncomputable def zsW (K:PySem.W.Frag) (t:WSt→Sto→(List W→Sto→Prop)→Prop):TE:=fun σ H Q=>∃σW S QW,RpSt K H σW σ∧RepS K H S∧t σW S QW∧
 ∀ws S' vs a H',Ext H S H' S'→H a=none→H' a=some (.lst vs)→S' a=none→Reps K H' ws vs→RepS K H' S'→QW ws S'→Q (.ref a) H'
noncomputable def zdj (K:PySem.W.Frag) (sp:WSp):Sp:=fun vs H Q _=>∃ws S QW,Reps K H ws vs∧RepS K H S∧sp ws S QW (fun _ _=>False)∧Wish K H S QW Q
structure Hook (X:Cx) (E:WX):Prop where
  no:E=fun _ _ _=>False
  xe:X.xe=fun _ _=>False
  calm:X.calm=true
noncomputable def JE (X:Cx) (e:Expr) (t:WE):Prop:=∀E,Hook X E→PE X e (zuX X.K (t E))
noncomputable def JT (X:Cx) (e:Expr) (t:WT):Prop:=∀E,Hook X E→PT X e (zrL X.K (t E))
noncomputable def JW (X:Cx) (e:Expr) (t:WT):Prop:=∀E,Hook X E→PW X e (zrL X.K (t E))
noncomputable def JA (X:Cx) (es:List Expr) (t:WA):Prop:=∀E,Hook X E→PA X es (zvo X.K (t E))
noncomputable def JS (X:Cx) (st:Stmt) (t:WS):Prop:=∀E,Hook X E→PS X st (ztU X.K (t E))
noncomputable def JSs (X:Cx) (st:List Stmt) (t:WS):Prop:=∀E,Hook X E→PSs X st (ztU X.K (t E))
noncomputable def JG (X:Cx) (tg:Expr) (t:WG):Prop:=∀E,Hook X E→PG X tg (zvh X.K t)
noncomputable def JI (X:Cx) (tg iter:Expr) (t:WI):Prop:=∀E,Hook X E→PI X tg iter (zus X.K (t E))
noncomputable def JL (X:Cx) (e:Expr) (t:WL):Prop:=∀E,Hook X E→PE X e (zsW X.K (t E))
theorem PE.mono{X:Cx}{e:Expr}{t t':TE}(h:PE X e t) (q:∀σ H Q,t' σ H Q→t σ H Q):PE X e t':=fun pins s σ H Q I z=>h pins s σ H Q I (q σ H Q z)
theorem PT.mono{X:Cx}{e:Expr}{t t':TT}(h:PT X e t) (q:∀σ H Q,t' σ H Q→t σ H Q):PT X e t':=fun pins s σ H Q I z=>h pins s σ H Q I (q σ H Q z)
theorem PW.mono{X:Cx}{e:Expr}{t t':TT}(h:PW X e t) (q:∀σ H Q,t' σ H Q→t σ H Q):PW X e t':=fun wh pins s σ H Q I z=>h wh pins s σ H Q I (q σ H Q z)
theorem PA.mono{X:Cx}{e:List Expr}{t t':TA}(h:PA X e t) (q:∀σ H Q,t' σ H Q→t σ H Q):PA X e t':=fun pos pins s σ H Q I z=>h pos pins s σ H Q I (q σ H Q z)
theorem PS.mono{X:Cx}{e:Stmt}{t t':TS}(h:PS X e t) (q:∀D σ H,t' D σ H→t D σ H):PS X e t':=fun pins s σ H D I z=>h pins s σ H D I (q D σ H z)
theorem PSs.mono{X:Cx}{e:List Stmt}{t t':TS}(h:PSs X e t) (q:∀D σ H,t' D σ H→t D σ H):PSs X e t':=fun pins s σ H D I z=>h pins s σ H D I (q D σ H z)
theorem PG.mono{X:Cx}{e:Expr}{t t':TG}(h:PG X e t) (q:∀v σ H Q,t' v σ H Q→t v σ H Q):PG X e t':=fun pins s σ H v u Q I r z=>h pins s σ H v u Q I r (q v σ H Q z)
theorem PI.mono{X:Cx}{tg e:Expr}{t t':TI}(h:PI X tg e t) (q:∀σ H R,t' σ H R→t σ H R):PI X tg e t':=fun pins s σ H R I z=>h pins s σ H R I (q σ H R z)
noncomputable def zaf (i:Nat):WE:=fun _ σ S Q=>match σ[i]? with
 |some (some w)=>Q w S
 |_=>False
noncomputable def wC (w:W):WE:=fun _ _ S Q=>Q w S
section
variable {X:Cx}
theorem jv (i:Nat) {x:Str}{pos:Pos}(hN:X.N[i]? =some x:=by rfl) (hv:Vis X.env.scope x:=by first |exact Or.inl rfl |exact Or.inr (Or.inl rfl) |exact Or.inr (Or.inr rfl)) (hd:(x == ("__debug__" :Str))=false:=by decide)
  (hcd:(x == ("__classdict__" :Str))=false:=by decide):JE X (.Name x pos) (zaf i):=fun E hE=>(ztb hN hv hd hcd).mono fun σ H Q ⟨σW,S,QW,hσ,hS,ht,hQ⟩=>by
 unfold zaf at ht;split at ht
 ·rename_i w e;obtain⟨v,e',r⟩:=hσ.get e;exact⟨v,e',hQ w S v H .refl r hS ht⟩
 ·exact ht.elim
theorem zog{e:Expr}{v:V}{w:W}(h:PE X e (tC v)) (r:∀K H,Rep K H w v):JE X e (wC w):=fun E hE=>h.mono fun σ H Q ⟨σW,S,QW,hσ,hS,ht,hQ⟩=>hQ w S v H .refl (r _ _) hS ht
theorem zad{i j pos}:JE X (.Constant (.int i) j pos) (wC (.int i)):=zog ztK fun _ _=> .int i
theorem zdR{b j pos}:JE X (.Constant (.bool b) j pos) (wC (.bl b)):=zog zwC fun _ _=> .bl b
theorem zfG{j pos}:JE X (.Constant .none j pos) (wC .non):=zog zul fun _ _=> .non
theorem znL{x j pos}:JE X (.Constant (.str x) j pos) (wC (.str x)):=zog zsO fun _ _=> .str x
theorem zea{x:Str}{i:Int}{u:Tok}{pos:Pos}(hg:Gl X x) (hm:X.mg x=some (.int i u)) (hd:(x == ("__debug__" :Str))=false:=by decide):JE X (.Name x pos) (wC (.int i)):=zog (v:= .int i) (zra hg hm ⟨u,rfl⟩ hd) fun _ _=> .int i
end
noncomputable abbrev W2:=W→W→Sto→WK→Prop
noncomputable def wOp (r:W2) (a b:WE):WE:=fun E σ S Q=>a E σ S fun x S1=>b E σ S1 fun y S2=>r x y S2 Q
noncomputable def OpW (K:PySem.W.Frag) (r:R2) (wr:W2):Prop:=∀H x y wx wy S (Q:VK) (QW:WK),Rep K H wx x→Rep K H wy y→RepS K H S→wr wx wy S QW→Wish K H S QW Q→r x y H Q
theorem Wish.from{K:PySem.W.Frag}{H H':Hp}{S S':Sto}{QW:WK}{Q:VK}(h:Wish K H S QW Q) (e:Ext H S H' S'):Wish K H' S' QW Q:=fun w S v H'' e' r hS q=>h w S v H'' (e.trans e') r hS q
theorem Goes.from{K:PySem.W.Frag}{H H':Hp}{S S':Sto}{P:WSt→Sto→Prop}{Q:St→Hp→Prop}(h:Goes K H S P Q) (e:Ext H S H' S'):Goes K H' S' P Q:=fun σW S σ H'' e' r hS q=>h σW S σ H'' (e.trans e') r hS q
theorem Meets.from{K:PySem.W.Frag}{H H':Hp}{S S':Sto}{DW:WEnds}{D:Ends}(h:Meets K H S DW D) (e:Ext H S H' S'):Meets K H' S' DW D:=⟨h.nx.from e,h.rt.from e,h.bk.from e,h.ct.from e⟩
section
variable {X:Cx}{a b:Expr}{pos:Pos}
theorem zfi{K:PySem.W.Frag}{ta tb:WSt→Sto→WK→Prop}{wr:W→W→Sto→WK→Prop}{σ:St}{H:Hp}{Q:VK}{R:V→V→Hp→Prop}
  (h:zuX K (fun σ S Q=>ta σ S fun x S1=>tb σ S1 fun y S2=>wr x y S2 Q) σ H Q)
  (hR:∀H2 x y wx wy S (QW:WK),Rep K H2 wx x→Rep K H2 wy y→RepS K H2 S→wr wx wy S QW→Wish K H2 S QW Q→R x y H2) :
  zuX K ta σ H fun x H1=>zuX K tb σ H1 fun y H2=>R x y H2:=by
 obtain⟨σW,S,QW,hσ,hS,ht,hQ⟩:=h;refine⟨σW,S,_,hσ,hS,ht,fun w1 S1 v1 H1 e1 r1 hS1 h1=>?_⟩;refine⟨σW,S1,_,hσ.ext e1,hS1,h1,fun w2 S2 v2 H2 e2 r2 hS2 h2=>?_⟩;exact hR H2 v1 v2 w1 w2 S2 QW (r1.ext e2) r2 hS2 h2 (hQ.from (e1.trans e2))
theorem zlB{op:Operator}{r:R2}{wr:W2}{ta tb:WE}(ho:OpR X (binaryOp op) r) (hw:OpW X.K r wr) (ha:JE X a ta) (hb:JE X b tb):JE X (.BinOp a op b pos) (wOp wr ta tb):=fun E hE=>
 (zlW ho (ha E hE) (hb E hE)).mono fun σ H Q h=>zfi h fun H2 x y wx wy S QW rx ry hS q hQ=>hw H2 x y wx wy S Q QW rx ry hS q hQ
theorem zmj{op:CmpOp}{r:R2}{wr:W2}{ta tb:WE}(ho:OpR X (compareOp op) r) (hw:OpW X.K r wr) (ha:JE X a ta) (hb:JE X b tb) (hm:behindInMarks op b=false):JE X (.Compare a [op] [b] pos) (wOp wr ta tb):=fun E hE=>
 (zre ho (ha E hE) (hb E hE) hm).mono fun σ H Q h=>zfi h fun H2 x y wx wy S QW rx ry hS q hQ=>hw H2 x y wx wy S Q QW rx ry hS q hQ
end
noncomputable def zbL (S:Sto) (a:Addr) (Q:List W→Prop):Prop:=match S a with
 |some (.lst ws)=>Q ws
 |_=>False
theorem zag{S:Sto}{a:Addr}{Q:List W→Prop}{ws:List W}(h:S a=some (.lst ws)):zbL S a Q=Q ws:=by unfold zbL;rw [h]
theorem zaU{S:Sto}{a:Addr}{Q:List W→Prop}(h:zbL S a Q):∃ws,S a=some (.lst ws)∧Q ws:=by
 unfold zbL at h;split at h
 ·exact⟨_, ‹_›,h⟩
 ·exact h.elim
noncomputable def zqn:W→Sto→(Bool→Sto→Prop)→Prop
 | .non,S,Q=>Q false S
 | .bl b,S,Q=>Q b S
 | .int i,S,Q=>Q (i != 0) S
 | .str x,S,Q=>x.length≤sizeLine∧Q ((x.length:Int) != 0) S
 | .tup ws,S,Q=>Q (!ws.isEmpty) S
 | .ref a,S,Q=>zbL S a fun ws=>Q (!ws.isEmpty) S
 | .scr ns,S,Q=>Q (!ns.isEmpty) S
noncomputable def zie (t:WE):WT:=fun E σ S Q=>t E σ S fun w S'=>zqn w S' Q
noncomputable def wTb (t:WE):WT:=fun E σ S Q=>t E σ S fun w S'=>match w with
 | .bl b=>Q b S'
 |_=>False
noncomputable def zqZ (t u:WT):WT:=fun E σ S Q=>t E σ S fun c S1=>if c=true then u E σ S1 Q else Q false S1
noncomputable def wOr (t u:WT):WT:=fun E σ S Q=>t E σ S fun c S1=>if c=true then Q true S1 else u E σ S1 Q
noncomputable def zpM (t:WT):WT:=fun E σ S Q=>t E σ S fun c S1=>Q (!c) S1
noncomputable def zlp (t u:WE):WE:=fun E σ S Q=>t E σ S fun w S1=>match w with
 | .bl true=>u E σ S1 Q
 | .bl false=>Q (.bl false) S1
 |_=>False
noncomputable def wIf (c:WT) (t u:WE):WE:=fun E σ S Q=>c E σ S fun b S1=>if b=true then t E σ S1 Q else u E σ S1 Q
noncomputable def zcf (c:WT) (t u:WS):WS:=fun E D σ S=>c E σ S fun b S1=>if b=true then t E D σ S1 else u E D σ S1
noncomputable def zaF:WS:=fun _ D σ S=>D.nx σ S
noncomputable def zas (t u:WS):WS:=fun E D σ S=>t E { D with nx:=u E D } σ S
noncomputable def zaX (e:WE):WS:=fun E D σ S=>e E σ S D.rt
noncomputable def zdP (e:WE):WS:=fun E D σ S=>e E σ S fun _ S1=>D.nx σ S1
noncomputable def zks:WS:=fun _ _ _ _=>False
noncomputable def wGN (i:Nat):WG:=fun w σ S Q=>Q (σ.set i (some w)) S
noncomputable def wAsg (e:WE) (g:WG):WS:=fun E D σ S=>e E σ S fun w S1=>g w σ S1 D.nx
noncomputable abbrev WGs:=List W→WSt→Sto→(WSt→Sto→Prop)→Prop
noncomputable def zdp:WGs:=fun ws σ S Q=>match ws with
 | []=>Q σ S
 |_=>False
noncomputable def zaJ (g:WG) (u:WGs):WGs:=fun ws σ S Q=>match ws with
 | []=>False
 |w::r=>g w σ S fun σ' S'=>u r σ' S' Q
noncomputable def wGT (u:WGs):WG:=fun w σ S Q=>match w with
 | .tup ws=>u ws σ S Q
 |_=>False
section
variable {X:Cx}{a b c e:Expr}{pos:Pos}{ta tb:WE}{tc tA tB':WT}{st:Stmt}{rest:List Stmt}{t u:WS}
theorem zqV{K:PySem.W.Frag}{H:Hp}{w:W}{v:V}{S:Sto}{QW:Bool→Sto→Prop}(r:Rep K H w v) (hS:RepS K H S) (h:zqn w S QW):∃k,zvX K v H k∧QW k S:=by
 cases r with
 |non=>exact⟨false,rfl,h⟩
 |bl b=>exact⟨b,rfl,h⟩
 |int i=>exact⟨_,rfl,h⟩
 |str x=>exact⟨_,⟨h.1,rfl⟩,h.2⟩
 |ref a=>
  obtain⟨ws,e,h⟩:=zaU h;obtain⟨vs,e1,r1⟩:=hS a _ e;refine⟨_, .inl ⟨vs, .of e1,rfl⟩,?_⟩;have q:vs.isEmpty=ws.isEmpty:=by cases r1<;>rfl
  rw [q];exact h
 | @scr a ns f=>
  refine⟨_, .inl ⟨_,f.sq,rfl⟩,?_⟩;have q:(ns.map V.int).isEmpty=ns.isEmpty:=by cases ns<;>rfl
  rw [q];exact h
 | @tup a vs ws f hs=>
  refine⟨_, .inr (.inl ⟨vs, .of f,rfl⟩),?_⟩;have q:vs.isEmpty=ws.isEmpty:=by cases hs<;>rfl
  rw [q];exact h
theorem zcv (ha:JE X a ta) (he:∀whole,isTrue a X.env whole=(do let v ←whole;standAt a.pos;holding [v] (truthy v)):=by intro _;rfl):JT X a (zie ta):=fun E hE=>
 (zoJ (ha E hE) he).mono fun σ H Q ⟨σW,S,QW,hσ,hS,ht,hQ⟩=>⟨σW,S,_,hσ,hS,ht,fun w S1 v H1 e1 r1 hS1 h1=>by
  obtain⟨k,hk,q⟩:=zqV r1 hS1 h1;exact⟨k,hk,hQ k S1 H1 e1 hS1 q⟩⟩
theorem zew{op:CmpOp}{r:R2}{wr:W2}(ho:OpR X (compareOp op) r) (hw:OpW X.K r wr) (ha:JE X a ta) (hb:JE X b tb) (hm:behindInMarks op b=false):JT X (.Compare a [op] [b] pos) (wTb (wOp wr ta tb)):=fun E hE=>
 (zrF ho (ha E hE) (hb E hE) hm).mono fun σ H Q ⟨σW,S,QW,hσ,hS,ht,hQ⟩=>by
  refine zfi (Q:=fun v H1=>∃k,v= .bl k∧Q k H1) ⟨σW,S,fun w S'=>match w with
   | .bl b=>QW b S'
   |_=>False,hσ,hS,ht,fun w S1 v H1 e1 r1 hS1 h1=>?_⟩ fun H2 x y wx wy S QW rx ry hS q hQ=>hw H2 x y wx wy S _ QW rx ry hS q hQ
  cases r1 with
  |bl k=>exact⟨k,rfl,hQ k S1 H1 e1 hS1 h1⟩
  |_=>exact h1.elim
theorem zgz (ha:JT X a tA):JT X (.UnaryOp .Not a pos) (zpM tA):=fun E hE=>
 (zte (ha E hE)).mono fun σ H Q ⟨σW,S,QW,hσ,hS,ht,hQ⟩=>⟨σW,S,_,hσ,hS,ht,fun b S1 H1 e1 hS1 h1=>hQ _ S1 H1 e1 hS1 h1⟩
theorem JW.jt (h:JW X a tA):JT X a tA:=fun E hE=>(h E hE).pt
theorem zgK (ha:JT X a tA):JW X (.BoolOp .And [a] pos) tA:=fun E hE=>zqT (ha E hE)
theorem zkv (ha:JT X a tA):JW X (.BoolOp .Or [a] pos) tA:=fun E hE=>zsC (ha E hE)
theorem zkb{rest:List Expr}(ha:JT X a tA) (hb:JW X (.BoolOp .And (b::rest) pos) tB'):JW X (.BoolOp .And (a::b::rest) pos) (zqZ tA tB'):=fun E hE=>
 (zts (ha E hE) (hb E hE)).mono fun σ H Q ⟨σW,S,QW,hσ,hS,ht,hQ⟩=>⟨σW,S,_,hσ,hS,ht,fun b S1 H1 e1 hS1 h1=>by
  cases b with
  |true=>exact⟨σW,S1,_,hσ.ext e1,hS1,h1,fun b S2 H2 e2 hS2 h2=>hQ b S2 H2 (e1.trans e2) hS2 h2⟩
  |false=>exact hQ _ S1 H1 e1 hS1 h1⟩
theorem znJ{rest:List Expr}(ha:JT X a tA) (hb:JW X (.BoolOp .Or (b::rest) pos) tB'):JW X (.BoolOp .Or (a::b::rest) pos) (wOr tA tB'):=fun E hE=>
 (zwr (ha E hE) (hb E hE)).mono fun σ H Q ⟨σW,S,QW,hσ,hS,ht,hQ⟩=>⟨σW,S,_,hσ,hS,ht,fun b S1 H1 e1 hS1 h1=>by
  cases b with
  |false=>exact⟨σW,S1,_,hσ.ext e1,hS1,h1,fun b S2 H2 e2 hS2 h2=>hQ b S2 H2 (e1.trans e2) hS2 h2⟩
  |true=>exact hQ _ S1 H1 e1 hS1 h1⟩
theorem znK{op}(h:JE X a ta):JE X (.BoolOp op [a] pos) ta:=fun E hE=>zuo (h E hE)
theorem zky{rest:List Expr}(ha:JE X a ta) (hb:JE X (.BoolOp .And (b::rest) pos) tb):JE X (.BoolOp .And (a::b::rest) pos) (zlp ta tb):=fun E hE=>
 (zuk (ha E hE) (hb E hE)).mono fun σ H Q ⟨σW,S,QW,hσ,hS,ht,hQ⟩=>⟨σW,S,_,hσ,hS,ht,fun w S1 v H1 e1 r1 hS1 h1=>by
  cases r1 with
  |bl k=>
   refine⟨k,rfl,?_⟩;cases k with
   |true=>exact⟨σW,S1,_,hσ.ext e1,hS1,h1,hQ.from e1⟩
   |false=>exact hQ _ S1 _ H1 e1 (.bl false) hS1 h1
  |_=>exact h1.elim⟩
theorem zwy (hc:JT X c tc) (ha:JE X a ta) (hb:JE X b tb):JE X (.IfExp c a b pos) (wIf tc ta tb):=fun E hE=>
 (zpG (hc E hE) (ha E hE) (hb E hE)).mono fun σ H Q ⟨σW,S,QW,hσ,hS,ht,hQ⟩=>⟨σW,S,_,hσ,hS,ht,fun k S1 H1 e1 hS1 h1=>by
  cases k with
  |true=>exact⟨σW,S1,_,hσ.ext e1,hS1,h1,hQ.from e1⟩
  |false=>exact⟨σW,S1,_,hσ.ext e1,hS1,h1,hQ.from e1⟩⟩
theorem zau:JSs X [] zaF:=fun E hE=>pss_nil.mono fun D σ H ⟨σW,S,DW,hσ,hS,ht,hD⟩=>hD.nx σW S σ H .refl hσ hS ht
theorem zae (h1:JS X st t) (h2:JSs X rest u):JSs X (st::rest) (zas t u):=fun E hE=>
 (zpe (h1 E hE) (h2 E hE)).mono fun D σ H ⟨σW,S,DW,hσ,hS,ht,hD⟩=>
  ⟨σW,S,{ DW with nx:=u E DW },hσ,hS,ht,⟨fun σW' S' σ' H' e r hS' q=>⟨σW',S',DW,r,hS',q,hD.from e⟩,hD.rt,hD.bk,hD.ct⟩⟩
theorem zah (h1:JS X st t):JSs X [st] t:=fun E hE=>zqH (h1 E hE)
theorem zgM:JS X st zks:=fun E hE=>ps_never.mono fun D σ H ⟨σW,S,DW,hσ,hS,ht,hD⟩=>ht
theorem zbT (he:JE X e ta) (hs:swapsWith e none pos.line X.env=pure false:=by rfl):JS X (.Expr e pos) (zdP ta):=fun E hE=>
 (zsq (he E hE) hs).mono fun D σ H ⟨σW,S,DW,hσ,hS,ht,hD⟩=>⟨σW,S,_,hσ,hS,ht,fun w S1 v H1 e1 r1 hS1 h1=>hD.nx σW S1 σ H1 e1 (hσ.ext e1) hS1 h1⟩
theorem zam (he:JE X e ta):JS X (.Return (some e) pos) (zaX ta):=fun E hE=>
 (zti (he E hE)).mono fun D σ H ⟨σW,S,DW,hσ,hS,ht,hD⟩=>⟨σW,S,_,hσ,hS,ht,hD.rt⟩
theorem zaL{a b:List Stmt}(hc:JT X c tc) (ha:JSs X a t) (hb:JSs X b u):JS X (.If c a b pos) (zcf tc t u):=fun E hE=>
 (zvE (hc E hE) (ha E hE) (hb E hE)).mono fun D σ H ⟨σW,S,DW,hσ,hS,ht,hD⟩=>⟨σW,S,_,hσ,hS,ht,fun k S1 H1 e1 hS1 h1=>by
  cases k with
  |true=>exact⟨σW,S1,DW,hσ.ext e1,hS1,h1,hD.from e1⟩
  |false=>exact⟨σW,S1,DW,hσ.ext e1,hS1,h1,hD.from e1⟩⟩
theorem zar{i:Nat}{x:Str}(hN:X.N.Nodup) (hi:X.N[i]? =some x) (hx:Loc X.env.scope x) (hf:X.fn x=true∨X.env.scope.names.lookup x=some .local:=by first |exact .inl rfl |exact .inr rfl |assumption):JG X (.Name x pos) (wGN i):=fun E hE=>
 (zrR hN hi hx hf).mono fun v σ H Q ⟨w,σW,S,P,r,hσ,hS,ht,hP⟩=>hP _ S _ H .refl (hσ.set r i) hS ht
noncomputable def JGs (X:Cx) (tgs:List Expr) (t:WGs):Prop:=∀E,Hook X E→PGs X tgs (fun vs σ H Q=>∃ws σW S P,Reps X.K H ws vs∧RpSt X.K H σW σ∧RepS X.K H S∧t ws σW S P∧Goes X.K H S P Q)
theorem zdN:JGs X [] zdp:=fun E hE pins s σ H vs us Q I r h=>by
 obtain⟨ws,σW,S,P,rs,hσ,hS,ht,hP⟩:=h;unfold zdp at ht;split at ht
 ·cases rs;exact zqG pins s σ H [] us Q I r ⟨rfl,hP σW S σ H .refl hσ hS ht⟩
 ·exact ht.elim
theorem zaV{es:List Expr}{g:WG}{gs:WGs}(h1:JG X e g) (h2:JGs X es gs)
  (hs:(assignEach (e::es) X.env).map (·.2)=assign e X.env::(assignEach es X.env).map (·.2):=by rfl):JGs X (e::es) (zaJ g gs):=fun E hE pins s σ H vs us Q I r h=>by
 obtain⟨ws,σW,S,P,rs,hσ,hS,ht,hP⟩:=h;unfold zaJ at ht;split at ht
 ·exact ht.elim
 ·cases rs with
  |cons r1 r2=>
   refine zoH (h1 E hE) (h2 E hE) hs pins s σ H _ us Q I r ⟨_,_,rfl,⟨_,σW,S,_,r1,hσ,hS,ht,fun σW' S' σ' H' e' rr hS' q=>?_⟩⟩;exact⟨_,σW',S',P,r2.ext e',rr,hS',q,hP.from e'⟩
theorem zfC{es:List Expr}{k n:Nat}{gs:WGs}(h:JGs X es gs) (hlen:∀ws σ S P,gs ws σ S P→ws.length=n)
  (hn:(assignEach es X.env).length=n:=by rfl) (hst:(assignEach es X.env).findIdx? (·.1)=none:=by rfl):JG X (.Tuple es k pos) (wGT gs):=fun E hE=>
 (ztc hE.calm (h E hE) hn hst).mono fun v σ H Q ⟨w,σW,S,P,r,hσ,hS,ht,hP⟩=>by
  cases r with
  |tup f hs=>exact⟨_,_,rfl, .of f,by rw [←hs.length];exact hlen _ _ _ _ ht,⟨_,σW,S,P,hs,hσ,hS,ht,hP⟩⟩
  |_=>exact ht.elim
theorem zqm{tg:Expr}{g:WG}(he:JE X e ta) (hg:JG X tg g) (hs:swapsWithSole [tg] e pos.line X.env=pure false:=by rfl) (hw:swappedStores [tg] e X.env=pure none:=by rfl)
  (h1:(assignEach [tg] X.env).map (·.2)=[assign tg X.env]:=by rfl):JS X (.Assign [tg] e pos) (wAsg ta g):=fun E hE=>
 (ztV (he E hE) (hg E hE) hs hw h1).mono fun D σ H ⟨σW,S,DW,hσ,hS,ht,hD⟩=>⟨σW,S,_,hσ,hS,ht,fun w S1 v H1 e1 r1 hS1 h1=>⟨w,σW,S1,_,r1,hσ.ext e1,hS1,h1,hD.nx.from e1⟩⟩
theorem zan{i:Nat}{x:Str}{pos':Pos}(hN:X.N.Nodup) (hi:X.N[i]? =some x) (hx:Loc X.env.scope x) (he:JE X e ta) (hs:swapsWith e (some (.Name x pos')) pos.line X.env=pure false:=by rfl)
  (hf:X.fn x=true∨X.env.scope.names.lookup x=some .local:=by first |exact .inl rfl |exact .inr rfl |assumption):JS X (.Assign [.Name x pos'] e pos) (wAsg ta (wGN i)):=fun E hE=>
 (zuu hN hi hx (he E hE) hs hf).mono fun D σ H ⟨σW,S,DW,hσ,hS,ht,hD⟩=>⟨σW,S,_,hσ,hS,ht,fun w S1 v H1 e1 r1 hS1 h1=>hD.nx _ S1 _ H1 e1 ((hσ.ext e1).set r1 i) hS1 h1⟩
end
noncomputable def waNil:WA:=fun _ _ S Q=>Q [] S
noncomputable def zab (t:WE) (u:WA):WA:=fun E σ S Q=>t E σ S fun w S1=>u E σ S1 fun ws S2=>Q (w::ws) S2
noncomputable def zbA (t:WA):WE:=fun E σ S Q=>t E σ S fun ws S1=>ws.length≤sizeLine∧Q (.tup ws) S1
noncomputable def zdl (t:WA):WL:=fun E σ S Q=>t E σ S fun ws S1=>ws.length≤sizeLine∧Q ws S1
noncomputable def zcL (t:WL):WE:=fun E σ S Q=>t E σ S fun ws S1=>∀a,S1 a=none→Q (.ref a) (put S1 a (.lst ws))
section
variable {X:Cx}{e:Expr}{es:List Expr}{te:WE}{ta:WA}{tl:WL}{pos:Pos}
theorem zac:JA X [] waNil:=fun E hE=>pa_nil.mono fun σ H Q ⟨σW,S,QW,hσ,hS,ht,hQ⟩=>hQ [] S [] H .refl .nil hS ht
theorem zaa (ha:JE X e te) (hr:JA X es ta) (hs:starEach (e::es) X.env=(false,eval e X.env)::starEach es X.env:=by rfl):JA X (e::es) (zab te ta):=fun E hE=>
 (zcy (ha E hE) (hr E hE) hs).mono fun σ H Q ⟨σW,S,QW,hσ,hS,ht,hQ⟩=>⟨σW,S,_,hσ,hS,ht,fun w S1 v H1 e1 r1 hS1 h1=>⟨σW,S1,_,hσ.ext e1,hS1,h1,fun ws S2 vs H2 e2 r2 hS2 h2=>
  hQ (w::ws) S2 (v::vs) H2 (e1.trans e2) (.cons (r1.ext e2) r2) hS2 h2⟩⟩
theorem zaq{x1}(h:JA X es ta):JE X (.Tuple es x1 pos) (zbA ta):=fun E hE=>
 (zty (h E hE)).mono fun σ H Q ⟨σW,S,QW,hσ,hS,ht,hQ⟩=>⟨σW,S,_,hσ,hS,ht,fun ws S1 vs H1 e1 r1 hS1 h1=>by
  refine⟨by rw [←r1.length];exact h1.1,fun p hp=>hQ (.tup ws) S1 _ _ (e1.trans (.new hp)) (.tup zat (r1.ext (.new (S:=S1) hp))) (hS1.new hp) h1.2⟩⟩
theorem zaO (h:JA X es ta):JL X (.List es pos) (zdl ta):=fun E hE=>
 (zuv (h E hE)).mono fun σ H Q ⟨σW,S,QW,hσ,hS,ht,hQ⟩=>⟨σW,S,_,hσ,hS,ht,fun ws S1 vs H1 e1 r1 hS1 h1=>by
  refine⟨by rw [←r1.length];exact h1.1,fun p hp=>hQ ws S1 vs p _ (e1.trans (.new hp)) (e1.free hp) zat (hS1.free hp) (r1.ext (.new (S:=S1) hp)) (hS1.new hp) h1.2⟩⟩
theorem zaH (h:JL X e tl):JE X e (zcL tl):=fun E hE=>
 (h E hE).mono fun σ H Q ⟨σW,S,QW,hσ,hS,ht,hQ⟩=>⟨σW,S,_,hσ,hS,ht,fun ws S1 vs a H1 e1 fa ea na r1 hS1 h1=>by
  refine hQ (.ref a) (put S1 a (.lst ws)) (.ref a) H1 ⟨e1.tup,e1.frz,fun b o q g=>by
   have hb:b≠a:=by rintro rfl;rw [fa]at q;cases q
   rw [zaZ hb];exact e1.fr b o q g,e1.all⟩ (.ref a) (fun b o q=>?_) (h1 a na)
  by_cases hb:b=a
  ·subst hb;rw [zai]at q;cases q;exact⟨vs,ea,r1⟩
  ·rw [zaZ hb]at q;exact hS1 b o q⟩
end
noncomputable def zao (c:WSp) (t:WA):WE:=fun E σ S Q=>t E σ S fun ws S1=>c ws S1 Q fun cl S2=>E cl σ S2
noncomputable def zcA (n k:Nat) (body:WS):WSp:=fun ws S Q E=>ws.length=k∧body (fun c _ S'=>E c S') { nx:=fun _ S'=>∃S'',Sub S'' S'∧Q .non S'',rt:=fun w S'=>∃S'',Sub S'' S'∧Q w S'' } (ws.map some++List.replicate (n - k) none) S
section
variable {X:Cx}{k:Nat}{f:Addr}{fd:FuncData}{ps:List Str}{c:WSp}{x:Str}{p pos:Pos}{e:Expr}{es:List Expr}{t:WA}
theorem zaj (F:FnOk X.prog X.w X.K X.mg X.base CX0 k f fd ps (zdj X.K c)) (hr:Room k X.A) (hg:Gl X x) (hm:X.mg x=some (.ref f)) (hk:PySem.W.keepIn X.K (.ref f)=true) (hb:Binds X.K fd ps [])
  (ha:JA X (e::es) t) (hdb:(x == ("__debug__" :Str))=false:=by decide) (he:starEach (e::es) X.env=(false,eval e X.env)::starEach es X.env:=by rfl) (hpl:(backTo pos (starEach es X.env)).any (·.1)=false:=by rfl) :
  JE X (.Call (.Name x p) (e::es) [] pos) (zao c t):=fun E hE=>
 (zqE (E:=E0) (dvs:=[]) F hr hg hm hk hb .nil zvr (ha E hE) hdb he hpl).mono fun σ H Q ⟨σW,S,QW,hσ,hS,ht,hQ⟩=>⟨σW,S,_,hσ,hS,ht,fun ws S1 vs H1 e1 r1 hS1 h1=>by
  rw [hE.no]at h1;refine⟨ws,S1,QW,by rw [List.append_nil];exact r1,hS1,h1,hQ.from e1⟩⟩
theorem zmS{K:PySem.W.Frag}{H:Hp}{N:List Str}{ws:List W}{vs:List V}(h:Reps K H ws vs):RpSt K H (ws.map some++List.replicate (N.length - ws.length) none) (zga N vs):=by
 have go:∀{ws:List W}{vs:List V}(m:Nat),Reps K H ws vs→RpSt K H (ws.map some++List.replicate m none) (vs.map some++List.replicate m none):=by
  intro ws
  induction ws with
  |nil=>
   intro vs m h;cases h
   induction m with
   |zero=>exact .nil
   |succ m ih=>exact .cons trivial ih
  |cons w ws ih=>
   intro vs m h;cases h with
   |cons r rs=>exact .cons r (ih m rs)
 unfold zga;rw [←h.length];exact go _ h
theorem zaS{P:Program}{w:World}{K:PySem.W.Frag}{mg:Str→Option Value}{base:Heap}{x qual:Str}{st:Stmt}{f:Addr}{fd:FuncData}{N ps:List Str}{r n k:Nat}{body:WS}(F:Fun K x qual st f fd) (S:FnScope N ps (zak st)) (hn:N.length=n) (hk:ps.length=k)
  (hbody:∀(cdv:Value) (A:Around) (outer:List Env) (s:Shared) (H:Hp) (E:XK),Room r (A.deeper (envOfC qual (zak st) s.heap.objs.size f cdv))→
   JSs (zqD CX0 P w K mg base N qual (zak st) f cdv A outer s H E).nox (zdZ st) body):FnOk P w K mg base CX0 (r+1) f fd ps (zdj K (zcA n k body)):=by
 refine F.ok S (fun vs H Q E h=>?_) fun cdv A outer s H vs Q E hr h=>?_
 ·obtain⟨ws,S,QW,rs,_,h,_⟩:=h;rw [←rs.length,h.1,hk]
 ·obtain⟨ws,S',QW,rs,hS,h,hQ⟩:=h;refine⟨_,hbody cdv A outer s H E hr (fun _ _ _=>False) ⟨rfl,rfl,rfl⟩,?_⟩;refine⟨_,S',{ nx:=fun _ S'=>∃S'',Sub S'' S'∧QW .non S'',rt:=fun w S'=>∃S'',Sub S'' S'∧QW w S'' },zmS (N:=N) rs,hS,by rw [hn,h.1];exact h.2,⟨fun σW S1 σ H1 e1 rr hS1 q=>?_,fun w S1 v H1 e1 rr hS1 q=>?_,fun _ _ _ _ _ _ _ q=>q,fun _ _ _ _ _ _ _ q=>q⟩⟩
  ·obtain⟨S2,sb,q⟩:=q;exact hQ .non S2 .non H1 (e1.trans (.drop sb)) .non (hS1.sub sb) q
  ·obtain⟨S2,sb,q⟩:=q;exact hQ w S2 v H1 (e1.trans (.drop sb)) rr (hS1.sub sb) q
end
noncomputable def zci (C:Int→Int→Prop) (g:Int→Int→W):W2
 | .int i, .int j,S,Q=>C i j∧Q (g i j) S
 |_,_,_,_=>False
noncomputable def zed (g:Int→Int→W):W2
 | .int i, .int j,S,Q=>Q (g i j) S
 |_,_,_,_=>False
theorem zgB{K:PySem.W.Frag}{C:Int→Int→Prop}{g:Int→Int→Int}:OpW K (rI C fun i j=> .int (g i j)) (zci C fun i j=> .int (g i j)):=fun H x y wx wy S Q QW rx ry hS h hQ=>by
 cases rx<;>cases ry<;>first |exact⟨_,_,rfl,rfl,h.1,hQ _ S _ H .refl (.int _) hS h.2⟩ |exact h.elim
theorem zox{K:PySem.W.Frag}{g:Int→Int→Int}:OpW K (rI0 fun i j=> .int (g i j)) (zed fun i j=> .int (g i j)):=fun H x y wx wy S Q QW rx ry hS h hQ=>by
 cases rx<;>cases ry<;>first |exact⟨_,_,rfl,rfl,hQ _ S _ H .refl (.int _) hS h⟩ |exact h.elim
theorem zhf{K:PySem.W.Frag}{g:Int→Int→Bool}:OpW K (rI0 fun i j=> .bl (g i j)) (zed fun i j=> .bl (g i j)):=fun H x y wx wy S Q QW rx ry hS h hQ=>by
 cases rx<;>cases ry<;>first |exact⟨_,_,rfl,rfl,hQ _ S _ H .refl (.bl _) hS h⟩ |exact h.elim
noncomputable def zcK:W2
 | .int i, .int j,S,Q=>Q (.int (i+j)) S
 | .str x, .str y,S,Q=>x.length+y.length≤sizeLine∧Q (.str (x++y)) S
 | .tup xs, .tup ys,S,Q=>xs.length+ys.length≤sizeLine∧Q (.tup (xs++ys)) S
 | .ref a, .ref b,S,Q=>zbL S a fun xs=>zbL S b fun ys=>xs.length+ys.length≤sizeLine∧ ∀p,S p=none→Q (.ref p) (put S p (.lst (xs++ys)))
 |_,_,_,_=>False
section
variable {X:Cx}
theorem Reps.nil_r{K:PySem.W.Frag}{H:Hp}{ws:List W}(h:Reps K H ws []):ws=[]:=by cases h;rfl
theorem op_catT0:OpR X (binaryOp .Add) (fun x y H Q=>∃a b ys,x= .ref a∧y= .ref b∧SqT X.K H a []∧SqT X.K H b ys∧Q (.ref b) H):=by
 intro pins s σ H x y v u Q I rx ry h;obtain⟨a,b,ys,rfl,rfl,ha,hb,q⟩:=h;cases rx;cases ry;obtain⟨its,r1,p1,_⟩:=I.tuple ha;obtain⟨its2,r2,p2,_⟩:=I.tuple hb;cases r1;obtain⟨⟨cls,dd,data,sl⟩,ho,hc,n,hd⟩:=id p1;obtain⟨⟨cls2,dd2,data2,sl2⟩,ho2,hc2,n2,hd2⟩:=id p2;simp only at hc hd hc2 hd2;subst hc hd hc2 hd2;exact concat_meets ⟨_,ho,rfl⟩ ⟨_,ho2,rfl⟩ noFill_tuple_add seq_tuple_add PySem.F.slot_tuple_add PySem.F.entry_tuple_add (PySem.F.args_tuple_add_2 _ _)
   (tuple_addW0 a b _ _ n n2 dd dd2 sl sl2 (by simp)) ⟨ho,ho2,⟨.ref b,H,I,rfl,q⟩⟩
theorem zoc:OpR X (binaryOp .Add) (fun x y H Q=>(rI0 fun i j=> .int (i+j)) x y H Q∨(∃i j,x= .str i∧y= .str j∧i.length+j.length≤sizeLine∧Q (.str (i++j)) H)∨
  (∃a b ys,x= .ref a∧y= .ref b∧SqT X.K H a []∧SqT X.K H b ys∧Q (.ref b) H)∨zsr X.K x y H Q∨zvU x y H Q):=op_add.or (op_add_str.or (op_catT0.or (op_catT.or zkL)))
theorem zrN{K:PySem.W.Frag}:OpW K (fun x y H Q=>(rI0 fun i j=> .int (i+j)) x y H Q∨(∃i j,x= .str i∧y= .str j∧i.length+j.length≤sizeLine∧Q (.str (i++j)) H)∨
  (∃a b ys,x= .ref a∧y= .ref b∧SqT K H a []∧SqT K H b ys∧Q (.ref b) H)∨zsr K x y H Q∨zvU x y H Q) zcK:=fun H x y wx wy S Q QW rx ry hS h hQ=>by
 cases rx with
 |int i=>
  cases ry with
  |int j=>exact .inl ⟨i,j,rfl,rfl,hQ _ S _ H .refl (.int _) hS h⟩
  |_=>exact h.elim
 |str i=>
  cases ry with
  |str j=>exact .inr (.inl ⟨i,j,rfl,rfl,h.1,hQ _ S _ H .refl (.str _) hS h.2⟩)
  |_=>exact h.elim
 | @tup a vs ws f hs=>
  cases ry with
  | @tup b us zs g ks=>
   cases hs with
   |nil=>exact .inr (.inr (.inl ⟨a,b,us,rfl,rfl, .of f, .of g,hQ (.tup zs) S _ H .refl (.tup g ks) hS h.2⟩))
   |cons h1 h2=>
    refine .inr (.inr (.inr (.inl ⟨a,b,_,us,rfl,rfl, .of f, .of g,by simp,?_,fun e=>?_,fun e p hp=>?_⟩)))
    ·rw [←(Reps.cons h1 h2).length,←ks.length];exact h.1
    ·subst e;have e':=ks.nil_r;subst e';have q:=h.2;rw [List.append_nil]at q;exact hQ _ S _ H .refl (.tup f (.cons h1 h2)) hS q
    ·exact hQ _ S _ _ (.new hp) (.tup zat (((Reps.cons h1 h2).append ks).ext (.new (S:=S) hp))) (hS.new hp) h.2
  |_=>exact h.elim
 |ref a=>
  cases ry with
  |ref b=>
   obtain⟨xs,ea,h⟩:=zaU h;obtain⟨ys,eb,h⟩:=zaU h;obtain⟨vs,e1,r1⟩:=hS a _ ea;obtain⟨us,e2,r2⟩:=hS b _ eb;refine .inr (.inr (.inr (.inr ⟨a,b,vs,us,rfl,rfl,e1,e2,by rw [←r1.length,←r2.length];exact h.1,fun p hp=>?_⟩)))
   exact hQ _ _ _ _ (.newS hp) (.ref p) (hS.put_lst hp ((r1.append r2).ext (.new (S:=S) hp))) (h.2 p (hS.free hp))
  |_=>exact h.elim
 |_=>exact h.elim
variable {a b:Expr}{pos:Pos}{ta tb:WE}
theorem zaK (ha:JE X a ta) (hb:JE X b tb):JE X (.BinOp a .Add b pos) (wOp zcK ta tb):=zlB zoc zrN ha hb
theorem zkm (ha:JE X a ta) (hb:JE X b tb):JE X (.BinOp a .Sub b pos) (wOp (zed fun i j=> .int (i - j)) ta tb):=zlB zuA zox ha hb
theorem zpX (ha:JE X a ta) (hb:JE X b tb):JE X (.BinOp a .Mult b pos) (wOp (zci CMul fun i j=> .int (i*j)) ta tb):=zlB zuj zgB ha hb
theorem zbO (ha:JE X a ta) (hb:JE X b tb):JE X (.BinOp a .FloorDiv b pos) (wOp (zci zhb fun i j=> .int (i / j)) ta tb):=zlB zqC zgB ha hb
theorem zbj (ha:JE X a ta) (hb:JE X b tb):JE X (.BinOp a .Mod b pos) (wOp (zci (fun _ j=>0<j) fun i j=> .int (i % j)) ta tb):=zlB ztC zgB ha hb
theorem zsE (ha:JE X a ta) (hb:JE X b tb):JE X (.BinOp a .Pow b pos) (wOp (zci zws fun i j=> .int (i ^ j.toNat)) ta tb):=zlB ztT zgB ha hb
noncomputable def zll (t:WE):WE:=fun E σ S Q=>t E σ S fun w S1=>match w with
 | .int i=>Q (.int (-i)) S1
 |_=>False
theorem zem (ha:JE X a ta):JE X (.UnaryOp .USub a pos) (zll ta):=fun E hE=>
 (zve ztz (ha E hE)).mono fun σ H Q ⟨σW,S,QW,hσ,hS,ht,hQ⟩=>⟨σW,S,_,hσ,hS,ht,fun w S1 v H1 e1 r1 hS1 h1=>by
  cases r1 with
  |int i=>exact⟨i,rfl,hQ _ S1 _ H1 e1 (.int _) hS1 h1⟩
  |_=>exact h1.elim⟩
noncomputable def zwf (t u:WE):WL:=fun E σ S Q=>t E σ S fun x S1=>u E σ S1 fun y S2=>match x,y with
 | .ref a, .ref b=>zbL S2 a fun xs=>zbL S2 b fun ys=>xs.length+ys.length≤sizeLine∧Q (xs++ys) S2
 |_,_=>False
end
noncomputable def zdC (f:W→W→Option Bool):List W→List W→Option Bool
 | [],[]=>some true
 | [],_=>some false
 |_,[]=>some false
 |x::xs,y::ys=>match f x y,zdC f xs ys with
  |some a,some b=>some (a&&b)
  |_,_=>none
noncomputable def eqF (S:Sto):Nat→W→W→Option Bool
 |0,_,_=>none
 |n+1,w,u=>match w,u with
  | .non, .non=>some true
  | .bl a, .bl b=>some (a == b)
  | .int a, .int b=>some (a == b)
  | .str a, .str b=>some (a == b)
  | .tup _, .int _=>some false
  | .int _, .tup _=>some false
  | .tup xs, .tup ys=>zdC (eqF S n) xs ys
  | .ref a, .ref b=>match S a with
   |some (.lst xs)=>match S b with
    |some (.lst ys)=>zdC (eqF S n) xs ys
    |_=>none
   |_=>none
  |_,_=>none
theorem zjS{f:W→W→Option Bool}:∀{xs ys:List W}{b:Bool},zdC f xs ys=some b→
  (∀j,j<xs.length→j<ys.length→ ∃c,f (xs.getD j .non) (ys.getD j .non)=some c)∧
  ((List.range (min xs.length ys.length)).all (fun j=>(f (xs.getD j .non) (ys.getD j .non)).getD true)&&xs.length == ys.length)=b
 | [],[],b,h=>by
  have:true=b:=Option.some.inj h;subst this;exact⟨fun j h=>absurd h (by simp),by simp⟩
 | [],y::ys,b,h=>by
  have:false=b:=Option.some.inj h;subst this;exact⟨fun j h=>absurd h (by simp),by simp⟩
 |x::xs,[],b,h=>by
  have:false=b:=Option.some.inj h;subst this;exact⟨fun j _ h=>absurd h (by simp),by simp⟩
 |x::xs,y::ys,b,h=>by
  unfold zdC at h;split at h
  ·rename_i c d e1 e2;have hb:(c&&d)=b:=Option.some.inj h;obtain⟨h1,h2⟩:=zjS e2;refine⟨fun j j1 j2=>?_,?_⟩
   ·cases j with
    |zero=>exact⟨c,by simpa using e1⟩
    |succ j=>simpa using h1 j (by simpa using j1) (by simpa using j2)
   ·have hm:min (xs.length+1) (ys.length+1)=min xs.length ys.length+1:=by omega
    have hl:(xs.length+1 == ys.length+1)=(xs.length == ys.length):=by simp
    rw [List.length_cons,List.length_cons,hm,List.range_succ_eq_map,List.all_cons,List.all_map,hl];have q:((fun j=>(f ((x::xs).getD j .non) ((y::ys).getD j .non)).getD true)∘Nat.succ)=fun j=>(f (xs.getD j .non) (ys.getD j .non)).getD true:=by
     funext j;simp
    rw [q,Bool.and_assoc,h2];have q0:(f ((x::xs).getD 0 .non) ((y::ys).getD 0 .non)).getD true=c:=by simp [e1]
    rw [q0,hb]
  ·cases h
section
variable {X:Cx}{pins:List (Addr×Obj)}{σ:St}{H:Hp}{s:Shared}{S:Sto}
theorem zgY (I:Inv X pins σ H s):∀(n:Nat) {wx wy:W}{v:V}{b:Bool},Rep X.K H wx v→Rep X.K H wy v→RepS X.K H S→eqF S n wx wy=some b→b=true
 |0,_,_,_,_,_,_,_,h=>by cases h
 |n+1,wx,wy,v,b,rx,ry,hS,h=>by
  have list:∀{ws us:List W}{vs:List V}{b:Bool},Reps X.K H ws vs→Reps X.K H us vs→zdC (eqF S n) ws us=some b→b=true:=by
   intro ws
   induction ws with
   |nil=>
    intro us vs b r1 r2 e;cases r1;cases r2;exact(Option.some.inj e).symm
   |cons w ws ih=>
    intro us vs b r1 r2 e;cases r1 with
    |cons a1 a2=>
     cases r2 with
     |cons c1 c2=>
      unfold zdC at e;split at e
      ·rename_i c d e1 e2;have q1:=zgY I n a1 c1 hS e1;have q2:=ih a2 c2 e2;have:=Option.some.inj e;rw [q1,q2]at this;exact this.symm
      ·cases e
  cases rx with
  |non=>cases ry;exact(Option.some.inj h).symm
  |bl k=>cases ry;have:=Option.some.inj h;simpa using this.symm
  |int k=>cases ry;have:=Option.some.inj h;simpa using this.symm
  |str k=>cases ry;have:=Option.some.inj h;simpa using this.symm
  |ref a=>
   cases ry with
   |ref _=>
    have h':(match S a with
     |some (.lst xs)=>match S a with
      |some (.lst ys)=>zdC (eqF S n) xs ys
      |_=>none
     |_=>none)=some b:=h
    cases e:S a with
    |none=>rw [e]at h';cases h'
    |some o=>
     rw [e]at h';cases o with
     |lst ws=>
      obtain⟨vs,_,r⟩:=hS a _ e;exact list r r h'
     |dct _=>cases h'
     |ins _ _=>cases h'
   |scr _=>cases h
   |tup _ _=>cases h
  |scr f=>cases ry<;>cases h
  |tup f hs=>
   cases ry with
   |ref _=>cases h
   |scr _=>cases h
   |tup g ks=>
    have e:=I.tuple_inj (.of f) (.of g);subst e;exact list hs ks h
theorem ziM{A:Around}:A.in1.units=A.units+1:=rfl
theorem zka (I:Inv X pins σ H s) (hS:RepS X.K H S):∀(n:Nat) {A:Around}{wx wy:W}{x y:V}{u v:Value}{b:Bool},A.units+n<cLine→Rep X.K H wx x→Rep X.K H wy y→RelV x u→RelV y v→eqF S n wx wy=some b→
  SeqAt.EqAt A s u v b∧SeqAt.RcAt A s u v b∧SeqAt.RcNeAt A s u v (!b)
 |0,_,_,_,_,_,_,_,_,_,_,_,_,_,h=>by cases h
 |n+1,A,wx,wy,x,y,u,v,b,hu,rx,ry,ru,rv,h=>by
  have hu0:A.units<cLine:=by omega
  have items:∀{ws zs:List W}{xs ys:List V}{us vs:List Value}{b:Bool},Reps X.K H ws xs→Reps X.K H zs ys→Vals xs us→Vals ys vs→zdC (eqF S n) ws zs=some b→
    (∀j (h1:j<us.toArray.size) (h2:j<vs.toArray.size),SeqAt.EqAt A.in1 s us.toArray[j] vs.toArray[j] ((eqF S n (ws.getD j .non) (zs.getD j .non)).getD true))∧
    ((List.range (min us.toArray.size vs.toArray.size)).all (fun j=>(eqF S n (ws.getD j .non) (zs.getD j .non)).getD true)&&us.toArray.size == vs.toArray.size)=b:=by
   intro ws zs xs ys us vs b r1 r2 q1 q2 e;obtain⟨h1,h2⟩:=zjS e;have l1:=r1.length;have l2:=r2.length;have l3:=q1.length;have l4:=q2.length;refine⟨fun j j1 j2=>?_,?_⟩
   ·rw [List.size_toArray]at j1 j2;obtain⟨c,hc⟩:=h1 j (by omega) (by omega);have jw:j<ws.length:=by omega
    have jz:j<zs.length:=by omega
    obtain⟨x',ex,rx'⟩:=r1.get (List.getElem?_eq_getElem jw);obtain⟨y',ey,ry'⟩:=r2.get (List.getElem?_eq_getElem jz);obtain⟨u',eu,ru'⟩:=q1.get ex;obtain⟨v',ev,rv'⟩:=q2.get ey;have e1:us.toArray[j]=u':=by
     obtain⟨_,e⟩:=List.getElem?_eq_some_iff.mp eu;simpa using e
    have e2:vs.toArray[j]=v':=by
     obtain⟨_,e⟩:=List.getElem?_eq_some_iff.mp ev;simpa using e
    have g1:ws.getD j .non=ws[j]:=by rw [List.getD_eq_getElem?_getD,List.getElem?_eq_getElem jw];rfl
    have g2:zs.getD j .non=zs[j]:=by rw [List.getD_eq_getElem?_getD,List.getElem?_eq_getElem jz];rfl
    rw [e1,e2,hc];rw [g1,g2]at hc;exact(zka I hS n (by rw [ziM];omega) rx' ry' ru' rv' hc).1
   ·rw [List.size_toArray,List.size_toArray,←l3,←l4,←l1,←l2];exact h2
  cases rx with
  |non=>
   cases(show u=Value.none from ru);cases ry with
   |non=>cases(show v=Value.none from rv);cases h;exact⟨.same _, .none_none, .none_none⟩
   |_=>cases h
  |bl k=>
   cases(show u=Value.bool k from ru);cases ry with
   |bl j=>cases(show v=Value.bool j from rv);cases h;exact⟨.bool_bool _ _, .bool_bool _ _, .bool_bool _ _⟩
   |_=>cases h
  |int k=>
   obtain⟨t0,rfl⟩:=ru;cases ry with
   |int j=>obtain⟨t,rfl⟩:=rv;cases h;exact⟨.int_int _ _ _ _, .int_int _ _ _ _, .int_int _ _ _ _⟩
   |tup f hs=>cases(show v=Value.ref _ from rv);cases h;obtain⟨its,_,p,_⟩:=I.tuple (.of f);exact⟨.int_tuple _ _ p hu0, .int_tuple _ _ p hu0, .int_tuple _ _ p hu0⟩
   |_=>cases h
  |str k=>
   obtain⟨t0,rfl⟩:=ru;cases ry with
   |str j=>obtain⟨t,rfl⟩:=rv;cases h;exact⟨.str_str _ _ _ _, .str_str _ _ _ _, .str_str _ _ _ _⟩
   |_=>cases h
  | @tup a xs ws f hs=>
   cases(show u=Value.ref a from ru);obtain⟨its,q1,p,_⟩:=I.tuple (.of f);cases ry with
   |int j=>obtain⟨t,rfl⟩:=rv;cases h;exact⟨.tuple_int _ _ p hu0, .tuple_int _ _ p hu0, .tuple_int _ _ p hu0⟩
   | @tup c ys zs g ks=>
    cases(show v=Value.ref c from rv);obtain⟨its2,q2,p2,_⟩:=I.tuple (.of g);obtain⟨h1,h2⟩:=items hs ks q1 q2 h;have rc:SeqAt.RcAt A s (.ref a) (.ref c) b:=by
     have:=SeqAt.RcAt.tuples p p2 hu0 h1;rw [h2]at this;exact this
    have rn:SeqAt.RcNeAt A s (.ref a) (.ref c) (!b):=by
     have:=SeqAt.RcNeAt.tuples p p2 hu0 h1;rw [h2]at this;exact this
    refine⟨?_,rc,rn⟩;by_cases e:a=c
    ·subst e;have:=zgY I (n+1) (.tup f hs) (.tup g ks) hS h;rw [this];exact .same _
    ·exact .of_refs e rc
   |_=>cases h
  |ref a=>
   cases(show u=Value.ref a from ru);cases ry with
   |ref c=>
    cases(show v=Value.ref c from rv);have h':(match S a with
     |some (.lst xs)=>match S c with
      |some (.lst ys)=>zdC (eqF S n) xs ys
      |_=>none
     |_=>none)=some b:=h
    cases e:S a with
    |none=>rw [e]at h';cases h'
    |some o=>
     rw [e]at h';cases o with
     |dct _=>cases h'
     |ins _ _=>cases h'
     |lst ws=>
      cases e2:S c with
      |none=>rw [e2]at h';cases h'
      |some o2=>
       rw [e2]at h';cases o2 with
       |dct _=>cases h'
       |ins _ _=>cases h'
       |lst zs=>
        obtain⟨xs,f,hs⟩:=hS a _ e;obtain⟨ys,g,ks⟩:=hS c _ e2;obtain⟨its,q1,p,_⟩:=I.list (.of f);obtain⟨its2,q2,p2,_⟩:=I.list (.of g);obtain⟨h1,h2⟩:=items hs ks q1 q2 h';have both:SeqAt.RcAt A s (.ref a) (.ref c) b∧SeqAt.RcNeAt A s (.ref a) (.ref c) (!b):=by
         by_cases hz:its.toArray.size=its2.toArray.size
         ·have t1:=SeqAt.RcAt.lists p.isList p2.isList hz hu0 h1;have t2:=SeqAt.RcNeAt.lists p.isList p2.isList hz hu0 h1;rw [←hz,Nat.min_self,beq_self_eq_true,Bool.and_true]at h2;rw [h2]at t1 t2;exact⟨t1,t2⟩
         ·have hz':(its.toArray.size != its2.toArray.size)=true:=by simpa using hz
          have hz2:(its.toArray.size == its2.toArray.size)=false:=by simpa using hz
          rw [hz2,Bool.and_false]at h2;subst h2;exact⟨.lists_lengths p.isList p2.isList hz' hu0, .lists_lengths p.isList p2.isList hz' hu0⟩
        refine⟨?_,both.1,both.2⟩;by_cases ee:a=c
        ·subst ee;have:=zgY I (n+1) (.ref a) (.ref a) hS h;rw [this];exact .same _
        ·exact .of_refs ee both.1
   |_=>cases h
  |scr f=>cases ry<;>cases h
end
noncomputable def oEq (neg:Bool):W2:=fun x y S Q=>match eqF S 60 x y with
 |some b=>Q (.bl (if neg then !b else b)) S
 |none=>False
noncomputable def zwm (K:PySem.W.Frag) (neg:Bool):R2:=fun x y H Q=>∃wx wy S b,Rep K H wx x∧Rep K H wy y∧RepS K H S∧eqF S 60 wx wy=some b∧Q (.bl (if neg then !b else b)) H
section
variable {X:Cx}
theorem zpS (hu:X.A.units+60<cLine):OpR X (compareOp .Eq) (zwm X.K false):=by
 intro pins s σ H x y v u Q I rx ry h;obtain⟨wx,wy,S,b,r1,r2,hS,e,q⟩:=h;exact(zka I hS 60 hu r1 r2 rx ry e).2.1 _ _ _ _ ⟨.bl b,H,I,rfl,q⟩
theorem zun (hu:X.A.units+60<cLine):OpR X (compareOp .NotEq) (zwm X.K true):=by
 intro pins s σ H x y v u Q I rx ry h;obtain⟨wx,wy,S,b,r1,r2,hS,e,q⟩:=h;exact(zka I hS 60 hu r1 r2 rx ry e).2.2 _ _ _ _ ⟨.bl (!b),H,I,rfl,q⟩
theorem zoe{K:PySem.W.Frag}{neg:Bool}:OpW K (zwm K neg) (oEq neg):=fun H x y wx wy S Q QW rx ry hS h hQ=>by
 unfold oEq at h;split at h
 ·rename_i b e;exact⟨wx,wy,S,b,rx,ry,hS,e,hQ _ S _ H .refl (.bl _) hS h⟩
 ·exact h.elim
variable {a b:Expr}{pos:Pos}{ta tb:WE}
theorem zlG{k:Nat}(hr:Room k X.A) (ha:JE X a ta) (hb:JE X b tb):JE X (.Compare a [.Eq] [b] pos) (wOp (oEq false) ta tb):=zmj (zpS (by have:=hr.units;omega)) zoe ha hb (nomark b)
theorem zcR{k:Nat}(hr:Room k X.A) (ha:JE X a ta) (hb:JE X b tb):JT X (.Compare a [.Eq] [b] pos) (wTb (wOp (oEq false) ta tb)):=zew (zpS (by have:=hr.units;omega)) zoe ha hb (nomark b)
theorem zoR{k:Nat}(hr:Room k X.A) (ha:JE X a ta) (hb:JE X b tb):JT X (.Compare a [.NotEq] [b] pos) (wTb (wOp (oEq true) ta tb)):=zew (zun (by have:=hr.units;omega)) zoe ha hb (nomark b)
noncomputable abbrev oLt:W2:=zed fun i j=> .bl (decide (i<j))
noncomputable abbrev oGt:W2:=zed fun i j=> .bl (decide (j<i))
noncomputable abbrev oGe:W2:=zed fun i j=> .bl (decide (j≤i))
noncomputable def oLe:W2
 | .int i, .int j,S,Q=>Q (.bl (decide (i≤j))) S
 | .str i, .str j,S,Q=>Q (.bl (!decide (j.cps.toList<i.cps.toList))) S
 |_,_,_,_=>False
theorem zui{K:PySem.W.Frag}:OpW K (fun x y H Q=>rI0 (fun i j=> .bl (decide (i≤j))) x y H Q∨(∃i j,x= .str i∧y= .str j∧Q (.bl (!decide (j.cps.toList<i.cps.toList))) H)) oLe:=fun H x y wx wy S Q QW rx ry hS h hQ=>by
 cases rx with
 |int i=>
  cases ry with
  |int j=>exact .inl ⟨i,j,rfl,rfl,hQ _ S _ H .refl (.bl _) hS h⟩
  |_=>exact h.elim
 |str i=>
  cases ry with
  |str j=>exact .inr ⟨i,j,rfl,rfl,hQ _ S _ H .refl (.bl _) hS h⟩
  |_=>exact h.elim
 |_=>exact h.elim
theorem znP (ha:JE X a ta) (hb:JE X b tb):JT X (.Compare a [.Lt] [b] pos) (wTb (wOp oLt ta tb)):=zew zwd zhf ha hb (nomark b)
theorem zgR (ha:JE X a ta) (hb:JE X b tb):JT X (.Compare a [.Gt] [b] pos) (wTb (wOp oGt ta tb)):=zew zvy zhf ha hb (nomark b)
theorem zvS (ha:JE X a ta) (hb:JE X b tb):JT X (.Compare a [.GtE] [b] pos) (wTb (wOp oGe ta tb)):=zew zvj zhf ha hb (nomark b)
theorem zwu (ha:JE X a ta) (hb:JE X b tb):JE X (.Compare a [.LtE] [b] pos) (wOp oLe ta tb):=zmj (op_le.or zme) zui ha hb (nomark b)
noncomputable def oIs (neg:Bool):W2
 | .non, .non,S,Q=>Q (.bl (!neg)) S
 | .bl a, .bl b,S,Q=>Q (.bl (if neg then a != b else a == b)) S
 | .bl _, .non,S,Q=>Q (.bl neg) S
 | .int _, .non,S,Q=>Q (.bl neg) S
 | .str _, .non,S,Q=>Q (.bl neg) S
 | .tup _, .non,S,Q=>Q (.bl neg) S
 | .ref _, .non,S,Q=>Q (.bl neg) S
 |_,_,_,_=>False
theorem zqh:OpR X (compareOp .Is) (fun x y H Q=>(y= .non∧Q (.bl (decide (x= .non))) H)∨ ∃a b,x= .bl a∧y= .bl b∧Q (.bl (a == b)) H):=op_isN.or (by
 intro pins s σ H x y v u Q I rx ry h;obtain⟨a,b,rfl,rfl,q⟩:=h;cases rx;cases ry;exact is_bool ⟨.bl _,H,I,rfl,q⟩)
theorem zof:OpR X (compareOp .IsNot) (fun x y H Q=>(y= .non∧Q (.bl (!decide (x= .non))) H)∨ ∃a b,x= .bl a∧y= .bl b∧Q (.bl (a != b)) H):=op_notN.or (by
 intro pins s σ H x y v u Q I rx ry h;obtain⟨a,b,rfl,rfl,q⟩:=h;cases rx;cases ry;exact isnot_bool ⟨.bl _,H,I,rfl,q⟩)
theorem zqt{K:PySem.W.Frag}:OpW K (fun x y H Q=>(y= .non∧Q (.bl (decide (x= .non))) H)∨ ∃a b,x= .bl a∧y= .bl b∧Q (.bl (a == b)) H) (oIs false):=fun H x y wx wy S Q QW rx ry hS h hQ=>by
 cases ry with
 |non=>cases rx<;>first |exact .inl ⟨rfl,by simpa using hQ _ S _ H .refl (.bl _) hS h⟩ |exact h.elim
 |bl b=>
  cases rx with
  |bl a=>exact .inr ⟨a,b,rfl,rfl,hQ _ S _ H .refl (.bl _) hS h⟩
  |_=>exact h.elim
 |_=>cases rx<;>exact h.elim
theorem znf{K:PySem.W.Frag}:OpW K (fun x y H Q=>(y= .non∧Q (.bl (!decide (x= .non))) H)∨ ∃a b,x= .bl a∧y= .bl b∧Q (.bl (a != b)) H) (oIs true):=fun H x y wx wy S Q QW rx ry hS h hQ=>by
 cases ry with
 |non=>cases rx<;>first |exact .inl ⟨rfl,by simpa using hQ _ S _ H .refl (.bl _) hS h⟩ |exact h.elim
 |bl b=>
  cases rx with
  |bl a=>exact .inr ⟨a,b,rfl,rfl,hQ _ S _ H .refl (.bl _) hS h⟩
  |_=>exact h.elim
 |_=>cases rx<;>exact h.elim
theorem zww (ha:JE X a ta) (hb:JE X b tb):JE X (.Compare a [.Is] [b] pos) (wOp (oIs false) ta tb):=zmj zqh zqt ha hb (nomark b)
theorem ztI (ha:JE X a ta) (hb:JE X b tb):JT X (.Compare a [.Is] [b] pos) (wTb (wOp (oIs false) ta tb)):=zew zqh zqt ha hb (nomark b)
theorem zkI (ha:JE X a ta) (hb:JE X b tb):JT X (.Compare a [.IsNot] [b] pos) (wTb (wOp (oIs true) ta tb)):=zew zof znf ha hb (nomark b)
end
noncomputable def inF (S:Sto) (x:W):List W→Option Bool
 | []=>some false
 |w::ws=>match eqF S 59 w x with
  |some a=>match inF S x ws with
   |some b=>some (a || b)
   |none=>none
  |none=>none
section
variable {X:Cx}{pins:List (Addr×Obj)}{σ:St}{H:Hp}{s:Shared}{S:Sto}
theorem zjt (I:Inv X pins σ H s) (hS:RepS X.K H S):∀(n:Nat) {w w' u:W}{v:V}{b b':Bool},Rep X.K H w v→Rep X.K H w' v→eqF S n w u=some b→eqF S n w' u=some b'→b=b'
 |0,_,_,_,_,_,_,_,_,h,_=>by cases h
 |n+1,w,w',u,v,b,b',r,r',h,h'=>by
  have list:∀{us ws zs:List W}{vs:List V}{b b':Bool},Reps X.K H ws vs→Reps X.K H zs vs→zdC (eqF S n) ws us=some b→zdC (eqF S n) zs us=some b'→b=b':=by
   intro us
   induction us with
   |nil=>
    intro ws zs vs b b' r1 r2 e1 e2;cases r1 with
    |nil=>cases r2;rw [e1]at e2;exact Option.some.inj e2
    |cons _ _=>cases r2 with
     |cons _ _=>have:=Option.some.inj e1;have:=Option.some.inj e2;subst_vars;rfl
   |cons u us ih=>
    intro ws zs vs b b' r1 r2 e1 e2;cases r1 with
    |nil=>cases r2;rw [e1]at e2;exact Option.some.inj e2
    |cons a1 a2=>
     cases r2 with
     |cons c1 c2=>
      unfold zdC at e1 e2;split at e1
      ·rename_i p q f1 f2;split at e2
       ·rename_i p' q' g1 g2;have h1:=zjt I hS n a1 c1 f1 g1;have h2:=ih a2 c2 f2 g2;rw [←Option.some.inj e1,←Option.some.inj e2,h1,h2]
       ·cases e2
      ·cases e1
  have nolist:∀{a:Addr}{vs:List V}{ws:List W},H a=some (.tup vs)→S a=some (.lst ws)→False:=fun f e=>by
   obtain⟨_,g,_⟩:=hS _ _ e;rw [f]at g;cases g
  cases r with
  |non=>cases r';rw [h]at h';exact Option.some.inj h'
  |bl k=>cases r';rw [h]at h';exact Option.some.inj h'
  |int k=>cases r';rw [h]at h';exact Option.some.inj h'
  |str k=>cases r';rw [h]at h';exact Option.some.inj h'
  |scr f=>cases u<;>cases h
  | @tup a vs ws f hs=>
   cases r' with
   | @tup _ us zs g ks=>
    rw [f]at g;cases g;cases u with
    |tup us=>exact list hs ks h h'
    |int _=>have:=Option.some.inj h;have:=Option.some.inj h';subst_vars;rfl
    |_=>cases h
   |scr _=>cases u<;>cases h'
   |ref _=>
    exfalso;cases u with
    |ref c=>
     have h2:(match S a with
      |some (.lst xs)=>match S c with
       |some (.lst ys)=>zdC (eqF S n) xs ys
       |_=>none
      |_=>none)=some b':=h'
     split at h2
     ·exact nolist f ‹_›
     ·cases h2
    |_=>cases h'
  |ref a=>
   cases r' with
   |ref _=>rw [h]at h';exact Option.some.inj h'
   |scr _=>cases u<;>cases h'
   |tup f hs=>
    exfalso;cases u with
    |ref c=>
     have h2:(match S a with
      |some (.lst xs)=>match S c with
       |some (.lst ys)=>zdC (eqF S n) xs ys
       |_=>none
      |_=>none)=some b:=h
     split at h2
     ·exact nolist f ‹_›
     ·cases h2
    |_=>cases h
open Classical in
theorem zpU (I:Inv X pins σ H s) (hS:RepS X.K H S) {A:Around}{ws:List W}{vs:List V}{us:List Value}{wx:W}{x:V}{u:Value}{b:Bool}(hu:A.units+60<cLine) (r:Reps X.K H ws vs) (rv:Vals vs us) (rx:Rep X.K H wx x) (ru:RelV x u) (h:inF S wx ws=some b) :
  ∃e:Value→Bool,(∀y,y∈us.toArray→SeqAt.EqAt A.in1 s y u (e y))∧us.toArray.any e=b:=by
 refine⟨fun y=>decide (∃w v,Rep X.K H w v∧RelV v y∧eqF S 59 w wx=some true),?_,?_⟩
 ·have go:∀{ws:List W}{vs:List V}{us:List Value}{b:Bool},Reps X.K H ws vs→Vals vs us→inF S wx ws=some b→ ∀y∈us,SeqAt.EqAt A.in1 s y u (decide (∃w v,Rep X.K H w v∧RelV v y∧eqF S 59 w wx=some true)):=by
   intro ws
   induction ws with
   |nil=>intro vs us b r rv h y hy;cases r;cases rv;cases hy
   |cons w ws ih=>
    intro vs us b r rv h y hy;cases r with
    |cons r1 r2=>
     cases rv with
     |cons q1 q2=>
      unfold inF at h;split at h
      ·rename_i c e1;split at h
       ·rename_i d e2;rcases List.mem_cons.mp hy with rfl |hy
        ·have ok:=(zka I hS 59 (A:=A.in1) (by rw [ziM];omega) r1 rx q1 ru e1).1;have ec:c=decide (∃w v,Rep X.K H w v∧RelV v y∧eqF S 59 w wx=some true):=by
          cases c with
          |true=>exact(decide_eq_true ⟨w,_,r1,q1,e1⟩).symm
          |false=>
           symm;refine decide_eq_false fun⟨w',v',r',q',e'⟩=>?_;have:=RelV.inj q' q1;subst this;exact absurd (zjt I hS 59 r1 r' e1 e') (by simp)
         rw [←ec];exact ok
        ·exact ih r2 q2 e2 y hy
       ·cases h
      ·cases h
  intro y hy;exact go r rv h y (by simpa using hy)
 ·have go:∀{ws:List W}{vs:List V}{us:List Value}{b:Bool},Reps X.K H ws vs→Vals vs us→inF S wx ws=some b→us.any (fun y=>decide (∃w v,Rep X.K H w v∧RelV v y∧eqF S 59 w wx=some true))=b:=by
   intro ws
   induction ws with
   |nil=>intro vs us b r rv h;cases r;cases rv;exact Option.some.inj h
   |cons w ws ih=>
    intro vs us b r rv h;cases r with
    |cons r1 r2=>
     cases rv with
     | @cons _ _ _ _ q1 q2=>
      rename_i y _;unfold inF at h;split at h
      ·rename_i c e1;split at h
       ·rename_i d e2;have ec:decide (∃w v,Rep X.K H w v∧RelV v y∧eqF S 59 w wx=some true)=c:=by
          cases c with
          |true=>exact decide_eq_true ⟨w,_,r1,q1,e1⟩
          |false=>
           refine decide_eq_false fun⟨w',v',r',q',e'⟩=>?_;have:=RelV.inj q' q1;subst this;exact absurd (zjt I hS 59 r1 r' e1 e') (by simp)
        rw [List.any_cons,ih r2 q2 e2,ec];exact Option.some.inj h
       ·cases h
      ·cases h
  have:=go r rv h;simpa using this
end
noncomputable def oIn (neg:Bool):W2:=fun x y S Q=>match y with
 | .str j=>match x with
  | .str i=>Q (.bl (if neg then !(!(Builtin.Str.occurrences j i 0 j.length 1).isEmpty) else !(Builtin.Str.occurrences j i 0 j.length 1).isEmpty)) S
  |_=>False
 | .tup ws=>match inF S x ws with
  |some b=>Q (.bl (if neg then !b else b)) S
  |none=>False
 | .ref a=>zbL S a fun ws=>match inF S x ws with
  |some b=>Q (.bl (if neg then !b else b)) S
  |none=>False
 |_=>False
noncomputable def zwE (K:PySem.W.Frag) (neg:Bool):R2:=fun x y H Q=>∃wx ws vs S p b,y= .ref p∧(SqL K H p vs∨SqT K H p vs)∧Reps K H ws vs∧Rep K H wx x∧RepS K H S∧inF S wx ws=some b∧Q (.bl (if neg then !b else b)) H
section
variable {X:Cx}{a b:Expr}{pos:Pos}{ta tb:WE}
theorem zmC (hu:X.A.units+60<cLine):OpR X (compareOp .NotIn) (zwE X.K true):=by
 intro pins s σ H x y v u Q I rx ry h;obtain⟨wx,ws,vs,S,p,b,rfl,hq,rs,r,hS,e,q⟩:=h;cases ry;rcases hq with hq |hq
 ·obtain⟨its,rv,p,_⟩:=I.list hq;obtain⟨f,h1,h2⟩:=zpU I hS hu rs rv r rx e;exact SeqAt.notIn_listAt f p.isList h1 (by rw [h2];exact⟨.bl (!b),H,I,rfl,q⟩)
 ·obtain⟨its,rv,p,_⟩:=I.tuple hq;obtain⟨f,h1,h2⟩:=zpU I hS hu rs rv r rx e;exact SeqAt.notIn_tupleAt f p h1 (by rw [h2];exact⟨.bl (!b),H,I,rfl,q⟩)
theorem zlN{K:PySem.W.Frag}{neg:Bool}{H:Hp}{x y:V}{wx wy:W}{S:Sto}{Q:VK}{QW:WK}(rx:Rep K H wx x) (ry:Rep K H wy y) (hS:RepS K H S) (h:oIn neg wx wy S QW) (hQ:Wish K H S QW Q) :
  (∃i j,x= .str i∧y= .str j∧Q (.bl (if neg then !(!(Builtin.Str.occurrences j i 0 j.length 1).isEmpty) else !(Builtin.Str.occurrences j i 0 j.length 1).isEmpty)) H)∨zwE K neg x y H Q:=by
 cases ry with
 |str j=>
  cases rx with
  |str i=>exact .inl ⟨i,j,rfl,rfl,hQ _ S _ H .refl (.bl _) hS h⟩
  |_=>exact h.elim
 |tup f hs=>
  refine .inr ?_;unfold oIn at h;dsimp only at h;split at h
  ·exact⟨wx,_,_,S,_,_,rfl, .inr (.of f),hs,rx,hS, ‹_›,hQ _ S _ H .refl (.bl _) hS h⟩
  ·exact h.elim
 |ref a=>
  refine .inr ?_;obtain⟨ws,e,h⟩:=zaU h;obtain⟨vs,f,hs⟩:=hS a _ e;split at h
  ·exact⟨wx,_,_,S,_,_,rfl, .inl (.of f),hs,rx,hS, ‹_›,hQ _ S _ H .refl (.bl _) hS h⟩
  ·exact h.elim
 |_=>exact h.elim
theorem zpz{k:Nat}(hr:Room k X.A) (ha:JE X a ta) (hb:JE X b tb) (hm:behindInMarks .NotIn b=false:=by with_unfolding_all rfl):JT X (.Compare a [.NotIn] [b] pos) (wTb (wOp (oIn true) ta tb)):=
 zew (op_notin_str.or (zmC (by have:=hr.units;omega))) (fun H x y wx wy S Q QW rx ry hS h hQ=>zlN rx ry hS h hQ) ha hb hm
end
noncomputable def oIx:W2:=fun x y S Q=>match y with
 | .int i=>match x with
  | .tup ws=>match atI ws i with
   |some w=>Q w S
   |none=>False
  | .ref a=>zbL S a fun ws=>match atI ws i with
   |some w=>Q w S
   |none=>False
  | .scr ns=>match atI ns i with
   |some n=>Q (.int n) S
   |none=>False
  | .str x=>x.length≤sizeLine∧match atI x.cps.toList i with
   |some c=>Q (.str ⟨#[c]⟩) S
   |none=>False
  |_=>False
 |_=>False
theorem zjK{K:PySem.W.Frag}{H:Hp}{ws:List W}{vs:List V}{i:Int}{w:W}(r:Reps K H ws vs) (e:atI ws i=some w):∃v,atI vs i=some v∧Rep K H w v:=by
 unfold atI at e⊢;rw [←r.length];cases q:ixN ws.length i with
 |none=>rw [q]at e;cases e
 |some j=>rw [q]at e;exact r.get e
theorem zqN{α β:Type}{f:α→β}{xs:List α}{i:Int}{x:α}(e:atI xs i=some x):atI (xs.map f) i=some (f x):=by
 unfold atI at e⊢;rw [List.length_map];cases q:ixN xs.length i with
 |none=>rw [q]at e;cases e
 |some j=>
  rw [q]at e;show(xs.map f)[j]? =_;rw [List.getElem?_map,show xs[j]? =some x from e];rfl
theorem zsM{K:PySem.W.Frag}:OpW K (rIx K) oIx:=fun H x y wx wy S Q QW rx ry hS h hQ=>by
 cases ry with
 |int i=>
  cases rx with
  |tup f hs=>
   unfold oIx at h;dsimp only at h;split at h
   ·obtain⟨v,ev,r⟩:=zjK hs ‹_›;exact .inr (.inl ⟨_,_,i,v,rfl,rfl, .of f,ev,hQ _ S _ H .refl r hS h⟩)
   ·exact h.elim
  |ref a=>
   obtain⟨ws,e,h⟩:=zaU h;obtain⟨vs,f,hs⟩:=hS a _ e;split at h
   ·obtain⟨v,ev,r⟩:=zjK hs ‹_›;exact .inl ⟨_,_,i,v,rfl,rfl, .of f,ev,hQ _ S _ H .refl r hS h⟩
   ·exact h.elim
  |scr f=>
   unfold oIx at h;dsimp only at h;split at h
   ·exact .inl ⟨_,_,i,_,rfl,rfl,f.sq,zqN ‹_›,hQ _ S _ H .refl (.int _) hS h⟩
   ·exact h.elim
  |str z=>
   unfold oIx at h;dsimp only at h;obtain⟨hz,h⟩:=h;split at h
   ·exact .inr (.inr ⟨z,i,_,rfl,rfl,hz, ‹_›,hQ _ S _ H .refl (.str _) hS h⟩)
   ·exact h.elim
  |_=>exact h.elim
 |_=>exact h.elim
section
variable {X:Cx}{a b e:Expr}{pos p2:Pos}{ta tb te:WE}{lo hi:Option Expr}
theorem zaw (ha:JE X a ta) (hb:JE X b tb) (hs:ziW b:=by intro _ _;rfl):JE X (.Subscript a b pos) (wOp oIx ta tb):=fun E hE=>
 (zta zpV (ha E hE) (hb E hE) hs).mono fun σ H Q h=>zfi h fun H2 x y wx wy S QW rx ry hS q hQ=>zsM H2 x y wx wy S Q QW rx ry hS q hQ
noncomputable abbrev WO:=WX→WSt→Sto→(Option Int→Sto→Prop)→Prop
noncomputable def zvA (K:PySem.W.Frag) (t:WSt→Sto→(Option Int→Sto→Prop)→Prop):TO:=fun σ H Q=>∃σW S QW,RpSt K H σW σ∧RepS K H S∧t σW S QW∧ ∀b S' H',Ext H S H' S'→RepS K H' S'→QW b S'→Q b H'
noncomputable def JO (X:Cx) (e:Option Expr) (t:WO):Prop:=∀E,Hook X E→PO X e (zvA X.K (t E))
noncomputable def woN:WO:=fun _ _ S Q=>Q none S
noncomputable def woS (t:WE):WO:=fun E σ S Q=>t E σ S fun w S1=>match w with
 | .int i=>Q (some i) S1
 |_=>False
theorem PO.mono{X:Cx}{e:Option Expr}{t t':TO}(h:PO X e t) (q:∀σ H Q,t' σ H Q→t σ H Q):PO X e t':=fun pins s σ H Q I z=>h pins s σ H Q I (q σ H Q z)
theorem zaE:JO X none woN:=fun E hE=>po_none.mono fun σ H Q ⟨σW,S,QW,hσ,hS,ht,hQ⟩=>hQ none S H .refl hS ht
theorem zax (h:JE X e te):JO X (some e) (woS te):=fun E hE=>(zrw (h E hE)).mono fun σ H Q ⟨σW,S,QW,hσ,hS,ht,hQ⟩=>⟨σW,S,_,hσ,hS,ht,fun w S1 v H1 e1 r1 hS1 h1=>by
 cases r1 with
 |int i=>exact⟨i,rfl,hQ _ S1 H1 e1 hS1 h1⟩
 |_=>exact h1.elim⟩
noncomputable def zcj {α:Type}(xs:List α) (lo hi:Option Int):List α:=(xs.drop (HT.sIx xs.length 0 lo)).take (HT.sIx xs.length xs.length hi - HT.sIx xs.length 0 lo)
theorem zhi{K:PySem.W.Frag}{H:Hp}{ws:List W}{vs:List V}{lo hi:Option Int}(r:Reps K H ws vs):Reps K H (zcj ws lo hi) (zlV vs lo hi):=by
 unfold zcj zlV;rw [r.length];exact(r.drop _).take _
theorem zbZ{α β:Type}{f:α→β}{xs:List α}{lo hi:Option Int}:zcj (xs.map f) lo hi=(zcj xs lo hi).map f:=by
 unfold zcj;rw [List.length_map,List.map_take,List.map_drop]
theorem zdX{prog:Program}{w:World}{A:Around}{E:Value→Shared→Prop}{s:Shared}{t sl:Addr}{items:Array Value}{vl vu:Value}{lo hi:Option Int}{Q:Value→Shared→Prop}(ht:IsTup s.heap t items) (hs:s.heap.IsSliceOf sl vl vu .none) (pl:IsPart vl lo) (pu:IsPart vu hi)
  (hw:HT.sIx items.size 0 lo=0∧HT.sIx items.size items.size hi=items.size) (h:Q (.ref t) s):wpAny (model prog w) A (getItem (.ref t) (.ref sl)) Q E s:=by
 obtain⟨os,hos,hcs,hds⟩:=id hs;have hTs:s.TypeIs (.ref sl) "slice" :=⟨os,hos,hcs⟩;unfold getItem
 try with_reducible refine wpAny_holding ?_
 first |refine wpAny_bind (wpAny_pure ?_) |skip
 refine wpAny_bind (wpAny_sequenceKey ht.typeIs (by decide) ?_);refine wpAny_bind (wpAny_callSpecial?_slot (name:=Str.ofString "__getitem__") ht.typeIs PyProof.Rows.slot_tuple_getitem
  (wpAny_call_entry PyProof.Rows.slot_tuple_getitem ht.typeIs entry_tuple_getitem ?_ (args_tuple_getitem _ _)))
 show wpAny _ _ (Builtin.Tuple.tupleItemsOf (.ref t) >>= _) _ _ s;refine wpAny_bind (tupleItemsOf_ ht ?_);refine wpAny_bind (wpAny_typeOf hTs ?_);rw [if_pos (by decide)];refine wpAny_bind (HT.sliceApplied_gen hs pl pu ?_);show wpAny _ _ (if(((HT.sIx items.size 0 lo:Nat):Int) == 0&&(1:Int) == 1&&(HT.sIx items.size items.size hi - HT.sIx items.size 0 lo) == items.size)=true then _ else _) _ _ s;rw [hw.1,hw.2,if_pos (by simp)];unfold Builtin.Tuple.tupleIsExact;refine wpAny_bind (wpAny_bind (wpAny_typeOf ht.typeIs (wpAny_pure ?_)));rw [if_pos (by decide)];exact wpAny_bind (wpAny_rule (wpAny_pure ⟨_,rfl,wpAny_pure h⟩))
theorem sl_tupW:SlR X (fun x lo hi H Q=>∃a xs,x= .ref a∧SqT X.K H a xs∧((HT.sIx xs.length 0 lo=0∧HT.sIx xs.length xs.length hi=xs.length)∧Q (.ref a) H∨ ¬(HT.sIx xs.length 0 lo=0∧HT.sIx xs.length xs.length hi=xs.length)∧ ∀p,H p=none→Q (.ref p) (upd H p (.tup (zlV xs lo hi))))):=by
 intro pins s σ H x v vl vu lo hi sl Q I rx hs pl pu h;obtain⟨a,xs,rfl,hx,⟨hw,q⟩ |⟨hw,q⟩⟩:=h
 ·cases rx;obtain⟨its,r,ht,hz⟩:=I.tuple hx;have hlen:its.toArray.size=xs.length:=by rw [List.size_toArray];exact r.length.symm
  refine⟨"tuple",_,PyProof.Rows.slot_tuple_getitem.lookup,ht.typeIs,?_⟩;exact zdX ht hs pl pu (by rw [hlen];exact hw) ⟨.ref a,H,I,rfl,q⟩
 ·exact zum pins s σ H _ v vl vu lo hi sl Q I rx hs pl pu ⟨a,xs,rfl,hx,hw,q⟩
noncomputable def oSl:W→Option Int→Option Int→Sto→WK→Prop
 | .tup ws,lo,hi,S,Q=>Q (.tup (zcj ws lo hi)) S
 | .str z,lo,hi,S,Q=>z.length≤sizeLine∧Q (.str (Txt.slice z lo hi)) S
 | .ref a,lo,hi,S,Q=>zbL S a fun ws=>∀p,S p=none→Q (.ref p) (put S p (.lst (zcj ws lo hi)))
 | .scr ns,lo,hi,S,Q=>∀p,S p=none→Q (.ref p) (put S p (.lst ((zcj ns lo hi).map W.int)))
 |_,_,_,_,_=>False
noncomputable def wSl (t:WE) (l h:WO):WE:=fun E σ S Q=>t E σ S fun x S1=>l E σ S1 fun lo S2=>h E σ S2 fun hi S3=>oSl x lo hi S3 Q
theorem zla{α:Type}{xs:List α}{lo hi:Option Int}(h:HT.sIx xs.length 0 lo=0∧HT.sIx xs.length xs.length hi=xs.length):zcj xs lo hi=xs:=by
 unfold zcj;rw [h.1,h.2,List.drop_zero,Nat.sub_zero,List.take_length]
theorem zcq{tl th:WO}(he:JE X e te) (hl:JO X lo tl) (hh:JO X hi th):JE X (.Subscript e (.Slice lo hi none p2) pos) (wSl te tl th):=fun E hE=>
 (zkU (sl_tupW.or (sl_str.or zod)) (he E hE) (hl E hE) (hh E hE)).mono fun σ H Q ⟨σW,S,QW,hσ,hS,ht,hQ⟩=>
  ⟨σW,S,_,hσ,hS,ht,fun w S1 v H1 e1 r1 hS1 h1=>⟨σW,S1,_,hσ.ext e1,hS1,h1,fun lo S2 H2 e2 hS2 h2=>⟨σW,S2,_,(hσ.ext e1).ext e2,hS2,h2,fun hi S3 H3 e3 hS3 h3=>by
   have hQ':=hQ.from (e1.trans (e2.trans e3));have r3:=(r1.ext e2).ext e3;cases r3 with
   | @tup a vs ws f hs=>
    refine .inl ⟨a,vs,rfl, .of f,?_⟩;by_cases hw:HT.sIx vs.length 0 lo=0∧HT.sIx vs.length vs.length hi=vs.length
    ·refine .inl ⟨hw,hQ' (.tup ws) S3 _ H3 .refl (.tup f hs) hS3 ?_⟩;have:=zla (xs:=ws) (lo:=lo) (hi:=hi) (by rw [hs.length];exact hw);have h3':QW (.tup (zcj ws lo hi)) S3:=h3;rw [this]at h3';exact h3'
    ·exact .inr ⟨hw,fun p hp=>hQ' _ S3 _ _ (.new hp) (.tup zat ((zhi hs).ext (.new (S:=S3) hp))) (hS3.new hp) h3⟩
   |str z=>exact .inr (.inl ⟨z,rfl,h3.1,hQ' _ S3 _ H3 .refl (.str _) hS3 h3.2⟩)
   |ref a=>
    obtain⟨ws,ea,h⟩:=zaU h3;obtain⟨vs,f,hs⟩:=hS3 a _ ea;exact .inr (.inr ⟨a,vs,rfl, .of f,fun p hp=>hQ' _ _ _ _ (.newS hp) (.ref p) (hS3.put_lst hp ((zhi hs).ext (.new (S:=S3) hp))) (h p (hS3.free hp))⟩)
   | @scr a ns f=>
    refine .inr (.inr ⟨a,_,rfl,f.sq,fun p hp=>hQ' _ _ _ _ (.newS hp) (.ref p) (hS3.put_lst hp ?_) (h3 p (hS3.free hp))⟩);have q:zlV (ns.map V.int) lo hi=(zcj ns lo hi).map V.int:=zbZ;rw [q];exact Reps.ofInts _
   |_=>exact h3.elim⟩⟩⟩
noncomputable def zpK (t:WE) (l h:WO):WL:=fun E σ S Q=>t E σ S fun x S1=>l E σ S1 fun lo S2=>h E σ S2 fun hi S3=>match x with
 | .ref a=>zbL S3 a fun ws=>Q (zcj ws lo hi) S3
 | .scr ns=>Q ((zcj ns lo hi).map W.int) S3
 |_=>False
theorem znY{tl th:WO}(he:JE X e te) (hl:JO X lo tl) (hh:JO X hi th):JL X (.Subscript e (.Slice lo hi none p2) pos) (zpK te tl th):=fun E hE=>
 (zkU zod (he E hE) (hl E hE) (hh E hE)).mono fun σ H Q ⟨σW,S,QW,hσ,hS,ht,hQ⟩=>
  ⟨σW,S,_,hσ,hS,ht,fun w S1 v H1 e1 r1 hS1 h1=>⟨σW,S1,_,hσ.ext e1,hS1,h1,fun lo S2 H2 e2 hS2 h2=>⟨σW,S2,_,(hσ.ext e1).ext e2,hS2,h2,fun hi S3 H3 e3 hS3 h3=>by
   have e':=e1.trans (e2.trans e3);have r3:=(r1.ext e2).ext e3;cases r3 with
   |ref a=>
    obtain⟨ws,ea,h⟩:=zaU h3;obtain⟨vs,f,hs⟩:=hS3 a _ ea;exact⟨a,vs,rfl, .of f,fun p hp=>hQ _ S3 _ p _ (e'.trans (.new hp)) (e'.free hp) zat (hS3.free hp) ((zhi hs).ext (.new (S:=S3) hp)) (hS3.new hp) h⟩
   | @scr a ns f=>
    refine⟨a,_,rfl,f.sq,fun p hp=>hQ _ S3 _ p _ (e'.trans (.new hp)) (e'.free hp) zat (hS3.free hp) ?_ (hS3.new hp) h3⟩;have q:zlV (ns.map V.int) lo hi=(zcj ns lo hi).map V.int:=zbZ;rw [q];exact Reps.ofInts _
   |_=>exact h3.elim⟩⟩⟩
end
noncomputable abbrev WF:=List W→Sto→WK→Prop
noncomputable def wB (f:WF) (t:WA):WE:=fun E σ S Q=>t E σ S fun ws S1=>f ws S1 Q
noncomputable def zjv (K:PySem.W.Frag) (r:List V→Hp→VK→Prop) (f:WF):Prop:=∀H vs ws S (Q:VK) (QW:WK),Reps K H ws vs→RepS K H S→f ws S QW→Wish K H S QW Q→r vs H Q
noncomputable def wBL (f:WF) (t:WL):WE:=fun E σ S Q=>t E σ S fun ws S1=>f ws S1 Q
noncomputable def zmn (K:PySem.W.Frag) (r:List V→Hp→VK→Prop) (f:WF):Prop:=∀H a vs ws S (Q:VK) (QW:WK),H a=some (.lst vs)→S a=none→Reps K H ws vs→RepS K H S→f ws S QW→Wish K H S QW Q→r [.ref a] H Q
section
variable {X:Cx}{x:Str}{p pos:Pos}{e:Expr}{es:List Expr}{t:WA}{tl:WL}{id T:String}{r:List V→Hp→VK→Prop}{f:WF}
theorem zpQ (hc:CallR X (.builtin id) r) (hw:zjv X.K r f) (hg:Gl X x) (hm:X.mg x=none) (hv:bootBuiltins x=some (.builtin id)) (ha:JA X (e::es) t) (hn:x≠ "__name__" :=by decide) (hdb:(x == ("__debug__" :Str))=false:=by decide)
  (he:starEach (e::es) X.env=(false,eval e X.env)::starEach es X.env:=by rfl) (hpl:(backTo pos (starEach es X.env)).any (·.1)=false:=by rfl):JE X (.Call (.Name x p) (e::es) [] pos) (wB f t):=fun E hE=>
 (zgC hc hg hm hv (ha E hE) hn hdb he hpl).mono fun σ H Q ⟨σW,S,QW,hσ,hS,ht,hQ⟩=>⟨σW,S,_,hσ,hS,ht,fun ws S1 vs H1 e1 r1 hS1 h1=>hw H1 vs ws S1 Q QW r1 hS1 h1 (hQ.from e1)⟩
theorem zsF (hc:CallR X (.type T) r) (hw:zjv X.K r f) (hg:Gl X x) (hm:X.mg x=none) (hv:bootBuiltins x=some (.type T)) (ha:JA X (e::es) t) (hn:x≠ "__name__" :=by decide) (hdb:(x == ("__debug__" :Str))=false:=by decide)
  (he:starEach (e::es) X.env=(false,eval e X.env)::starEach es X.env:=by rfl) (hpl:(backTo pos (starEach es X.env)).any (·.1)=false:=by rfl):JE X (.Call (.Name x p) (e::es) [] pos) (wB f t):=fun E hE=>
 (zfF hc hg hm hv (ha E hE) hn hdb he hpl).mono fun σ H Q ⟨σW,S,QW,hσ,hS,ht,hQ⟩=>⟨σW,S,_,hσ,hS,ht,fun ws S1 vs H1 e1 r1 hS1 h1=>hw H1 vs ws S1 Q QW r1 hS1 h1 (hQ.from e1)⟩
theorem zsv (hc:CallR X (.builtin id) r) (hw:zmn X.K r f) (hg:Gl X x) (hm:X.mg x=none) (hv:bootBuiltins x=some (.builtin id)) (ha:JL X e tl) (hn:x≠ "__name__" :=by decide) (hdb:(x == ("__debug__" :Str))=false:=by decide)
  (he:starEach [e] X.env=(false,eval e X.env)::starEach [] X.env:=by rfl) (hpl:(backTo pos (starEach [] X.env)).any (·.1)=false:=by rfl):JE X (.Call (.Name x p) [e] [] pos) (wBL f tl):=fun E hE=>
 (zgC hc hg hm hv (zcy (ha E hE) pa_nil he) hn hdb he hpl).mono fun σ H Q ⟨σW,S,QW,hσ,hS,ht,hQ⟩=>⟨σW,S,_,hσ,hS,ht,fun ws S1 vs a H1 e1 fa ea na r1 hS1 h1=>hw H1 a vs ws S1 Q QW ea na r1 hS1 h1 (hQ.from e1)⟩
theorem zqA (hc:CallR X (.type T) r) (hw:zmn X.K r f) (hg:Gl X x) (hm:X.mg x=none) (hv:bootBuiltins x=some (.type T)) (ha:JL X e tl) (hn:x≠ "__name__" :=by decide) (hdb:(x == ("__debug__" :Str))=false:=by decide)
  (he:starEach [e] X.env=(false,eval e X.env)::starEach [] X.env:=by rfl) (hpl:(backTo pos (starEach [] X.env)).any (·.1)=false:=by rfl):JE X (.Call (.Name x p) [e] [] pos) (wBL f tl):=fun E hE=>
 (zfF hc hg hm hv (zcy (ha E hE) pa_nil he) hn hdb he hpl).mono fun σ H Q ⟨σW,S,QW,hσ,hS,ht,hQ⟩=>⟨σW,S,_,hσ,hS,ht,fun ws S1 vs a H1 e1 fa ea na r1 hS1 h1=>hw H1 a vs ws S1 Q QW ea na r1 hS1 h1 (hQ.from e1)⟩
noncomputable def zeE:WF:=fun ws S Q=>match ws with
 | [.tup us]=>Q (.int us.length) S
 | [.ref a]=>zbL S a fun us=>Q (.int us.length) S
 | [.scr ns]=>Q (.int ns.length) S
 | [.str z]=>z.length≤sizeLine∧Q (.int z.length) S
 |_=>False
theorem zoa{K:PySem.W.Frag}:zjv K (fun xs H Q=>(∃p ys,xs=[.ref p]∧(SqL K H p ys∨SqT K H p ys)∧Q (.int ys.length) H)∨ ∃z,xs=[.str z]∧z.length≤sizeLine∧Q (.int z.length) H) zeE:=fun H vs ws S Q QW r hS h hQ=>by
 cases r with
 |nil=>exact h.elim
 |cons r1 r2=>
  cases r2 with
  |cons _ _=>cases r1<;>exact h.elim
  |nil=>
   cases r1 with
   |tup f hs=>exact .inl ⟨_,_,rfl, .inr (.of f),by rw [←hs.length];exact hQ _ S _ H .refl (.int _) hS h⟩
   |ref a=>
    obtain⟨us,e,h⟩:=zaU h;obtain⟨vs,f,hs⟩:=hS a _ e;exact .inl ⟨_,_,rfl, .inl (.of f),by rw [←hs.length];exact hQ _ S _ H .refl (.int _) hS h⟩
   |scr f=>exact .inl ⟨_,_,rfl, .inl f.sq,by rw [List.length_map];exact hQ _ S _ H .refl (.int _) hS h⟩
   |str z=>exact .inr ⟨z,rfl,h.1,hQ _ S _ H .refl (.int _) hS h.2⟩
   |_=>exact h.elim
theorem zbH (hg:Gl X "len") (hm:X.mg "len" =none) (ha:JA X (e::es) t) 
  (he:starEach (e::es) X.env=(false,eval e X.env)::starEach es X.env:=by rfl) (hpl:(backTo pos (starEach es X.env)).any (·.1)=false:=by rfl):JE X (.Call (.Name "len" p) (e::es) [] pos) (wB zeE t):=
 zpQ (call_len_seq.or zhB) zoa hg hm PySem.boot_len ha (by decide) (by decide) he hpl
noncomputable def zdv:WF:=fun ws S Q=>match ws with
 | [.tup us]=>Q (.tup us) S
 | [.ref a]=>zbL S a fun us=>Q (.tup us) S
 |_=>False
theorem zjD{K:PySem.W.Frag}:zjv K (fun xs H Q=>∃p ys,xs=[.ref p]∧((SqL K H p ys∧ ∀l,H l=none→Q (.ref l) (upd H l (.tup ys)))∨(SqT K H p ys∧Q (.ref p) H))) zdv:=fun H vs ws S Q QW r hS h hQ=>by
 cases r with
 |nil=>exact h.elim
 |cons r1 r2=>
  cases r2 with
  |cons _ _=>cases r1<;>exact h.elim
  |nil=>
   cases r1 with
   |tup f hs=>exact⟨_,_,rfl, .inr ⟨.of f,hQ _ S _ H .refl (.tup f hs) hS h⟩⟩
   |ref a=>
    obtain⟨us,e,h⟩:=zaU h;obtain⟨vs,f,hs⟩:=hS a _ e;exact⟨_,_,rfl, .inl ⟨.of f,fun l hl=>hQ _ S _ _ (.new hl) (.tup zat (hs.ext (.new (S:=S) hl))) (hS.new hl) h⟩⟩
   |_=>exact h.elim
noncomputable def zfN:WF:=fun ws S Q=>Q (.tup ws) S
theorem zjF{K:PySem.W.Frag}:zmn K (fun xs H Q=>∃p ys,xs=[.ref p]∧((SqL K H p ys∧ ∀l,H l=none→Q (.ref l) (upd H l (.tup ys)))∨(SqT K H p ys∧Q (.ref p) H))) zfN:=fun H a vs ws S Q QW ea na r hS h hQ=>
 ⟨a,vs,rfl, .inl ⟨.of ea,fun l hl=>hQ _ S _ _ (.new hl) (.tup zat (r.ext (.new (S:=S) hl))) (hS.new hl) h⟩⟩
noncomputable def zfS (t:WE):WL:=fun E σ S Q=>t E σ S fun w S1=>match w with
 | .tup ws=>Q ws S1
 | .ref a=>zbL S1 a fun ws=>Q ws S1
 | .scr ns=>Q (ns.map W.int) S1
 |_=>False
theorem zje{te:WE}(hg:Gl X "list") (hm:X.mg "list" =none) (ha:JE X e te)
  (he:starEach [e] X.env=(false,eval e X.env)::starEach [] X.env:=by rfl) (hpl:(backTo pos (starEach [] X.env)).any (·.1)=false:=by rfl):JL X (.Call (.Name "list" p) [e] [] pos) (zfS te):=fun E hE=>
 (zfF zia hg hm PyProof.Rows.boot_list (zcy (ha E hE) pa_nil he) (by decide) (by decide) he hpl).mono fun σ H Q ⟨σW,S,QW,hσ,hS,ht,hQ⟩=>⟨σW,S,_,hσ,hS,ht,fun w S1 v H1 e1 r1 hS1 h1=>by
  cases r1 with
  |tup f hs=>exact⟨_,_,rfl, .inr (.of f),fun l hl=>hQ _ S1 _ l _ (e1.trans (.new hl)) (e1.free hl) zat (hS1.free hl) (hs.ext (.new (S:=S1) hl)) (hS1.new hl) h1⟩
  |ref a=>
   obtain⟨ws,ea,h⟩:=zaU h1;obtain⟨vs,f,hs⟩:=hS1 a _ ea;exact⟨_,_,rfl, .inl (.of f),fun l hl=>hQ _ S1 _ l _ (e1.trans (.new hl)) (e1.free hl) zat (hS1.free hl) (hs.ext (.new (S:=S1) hl)) (hS1.new hl) h⟩
  |scr f=>exact⟨_,_,rfl, .inl f.sq,fun l hl=>hQ _ S1 _ l _ (e1.trans (.new hl)) (e1.free hl) zat (hS1.free hl) (Reps.ofInts _) (hS1.new hl) h1⟩
  |_=>exact h1.elim⟩
noncomputable def tyW:W→Sto→(String→Prop)→Prop
 | .non,_,Q=>Q "NoneType"
 | .bl _,_,Q=>Q "bool"
 | .int _,_,Q=>Q "int"
 | .str _,_,Q=>Q "str"
 | .tup _,_,Q=>Q "tuple"
 | .ref a,S,Q=>zbL S a fun _=>Q "list"
 | .scr _,_,_=>False
noncomputable def zbF (A B:String):Bool:=A == B || (A == "bool" &&B == "int")
noncomputable def zoI (T:String) (t:WE):WE:=fun E σ S Q=>t E σ S fun w S1=>tyW w S1 fun A=>Q (.bl (zbF A T)) S1
theorem zfr{a:Expr}{ta:WE}{p2:Pos}{T:Str}{T':String}(hg:Gl X "isinstance") (hm:X.mg "isinstance" =none) (hgT:Gl X T) (hmT:X.mg T=none) (hv:bootBuiltins T=some (.type T')) (ha:JE X a ta) (hn:T≠ "__name__") (hd:(T == ("__debug__" :Str))=false)
  (hk:∀A∈ ["NoneType", "bool", "int", "str", "tuple", "list"],PySem.W.kitOne X.K (.type A) (.type T')=some (zbF A T'))
  (he:starEach [a, .Name T p2] X.env=(false,eval a X.env)::starEach [.Name T p2] X.env:=by rfl) (he2:starEach [.Name T p2] X.env=(false,eval (.Name T p2) X.env)::starEach [] X.env:=by rfl) (hpl:(backTo pos (starEach [.Name T p2] X.env)).any (·.1)=false:=by rfl) :
  JE X (.Call (.Name "isinstance" p) [a, .Name T p2] [] pos) (zoI T' ta):=fun E hE=>
 (zgC zpF hg hm PyProof.Rows.boot_isinstance (zcy (ha E hE) (zcy (zso (v:= .ty T') hgT hmT hv rfl hn hd) pa_nil he2) he) (by decide) (by decide) he hpl).mono fun σ H Q ⟨σW,S,QW,hσ,hS,ht,hQ⟩=>⟨σW,S,_,hσ,hS,ht,fun w S1 v H1 e1 r1 hS1 h1=>by
  have fin:∀{t:Value}(A:String),t= .type A→A∈ ["NoneType", "bool", "int", "str", "tuple", "list"]→TyOf X.K H1 v t→QW (.bl (zbF A T')) S1→ ∃x t c b,[v,V.ty T']=[x, .ty c]∧TyOf X.K H1 x t∧PySem.W.kitOne X.K t (.type c)=some b∧Q (.bl b) H1:=fun A e hA ty q=>by
   subst e;exact⟨v,_,T',_,rfl,ty,hk A hA,hQ _ S1 _ H1 e1 (.bl _) hS1 q⟩
  cases r1 with
  |non=>exact fin _ rfl (by simp) .non h1
  |bl b=>exact fin _ rfl (by simp) (.bl b) h1
  |int i=>exact fin _ rfl (by simp) (.int i) h1
  |str z=>exact fin _ rfl (by simp) (.str z) h1
  |tup f hs=>exact fin _ rfl (by simp) (.tup f) h1
  |ref a=>
   obtain⟨ws,ea,h⟩:=zaU h1;obtain⟨vs,f,hs⟩:=hS1 a _ ea;exact fin _ rfl (by simp) (.lst f) h
  |scr f=>exact h1.elim⟩
end
noncomputable abbrev WMf:=W→List W→Sto→WK→Prop
noncomputable def rvL:W→Sto→Prop
 | .ref a,S=>zbL S a fun _=>True
 |_,_=>False
noncomputable def rvS:W→Sto→Prop
 | .str _,_=>True
 |_,_=>False
noncomputable def wM (rv:W→Sto→Prop) (f:WMf) (to:WE) (t:WA):WE:=fun E σ S Q=>to E σ S fun w S1=>rv w S1∧t E σ S1 fun ws S2=>f w ws S2 Q
noncomputable def wML (rv:W→Sto→Prop) (f:WMf) (to:WE) (t:WL):WE:=fun E σ S Q=>to E σ S fun w S1=>rv w S1∧t E σ S1 fun ws S2=>f w ws S2 Q
noncomputable def MtW (K:PySem.W.Frag) (r:V→List V→Hp→VK→Prop) (f:WMf):Prop:=∀H x w vs ws S (Q:VK) (QW:WK),Rep K H w x→Reps K H ws vs→RepS K H S→f w ws S QW→Wish K H S QW Q→r x vs H Q
noncomputable def MtL (K:PySem.W.Frag) (r:V→List V→Hp→VK→Prop) (f:WMf):Prop:=∀H x w a vs ws S (Q:VK) (QW:WK),Rep K H w x→H a=some (.lst vs)→S a=none→Reps K H ws vs→RepS K H S→f w ws S QW→Wish K H S QW Q→r x [.ref a] H Q
noncomputable def ztQ (K:PySem.W.Frag) (T:String) (rv:W→Sto→Prop):Prop:=∀H w v S,Rep K H w v→RepS K H S→rv w S→tyV K T v H
theorem zqq{K:PySem.W.Frag}:ztQ K "list" rvL:=fun H w v S r hS h=>by
 cases r with
 |ref a=>
  obtain⟨ws,e,_⟩:=zaU h;obtain⟨vs,f,_⟩:=hS a _ e;exact .inl ⟨rfl,vs, .of f⟩
 |_=>exact h.elim
theorem zqx{K:PySem.W.Frag}:ztQ K "str" rvS:=fun H w v S r hS h=>by
 cases r with
 |str x=>exact rfl
 |_=>exact h.elim
section
variable {X:Cx}{o e:Expr}{es:List Expr}{to:WE}{t:WA}{tl:WL}{name:Str}{apos cpos:Pos}{id T:String}{r:V→List V→Hp→VK→Prop}{f:WMf}{rv:W→Sto→Prop}
theorem zwG (pa:PlainAttrs T) (slot:Slot T name id) (hty:typeOf (.builtin id)=pure (.type "method_descriptor")) (hrv:ztQ X.K T rv) (hm:MtR X id r) (hw:MtW X.K r f) (ho:JE X o to) (ha:JA X (e::es) t)
  (hbase:attributeBase o name X.env (eval o X.env)=eval o X.env:=by rfl)
  (hfew:((backTo cpos (starEach (e::es) X.env)).all (fun x=> !x.1)&&(backToKw cpos (keywordEach [] X.env)).all (fun x=>x.1.isSome)
   &&decide ((e::es).length+([]:List Keyword).length+(if([]:List Keyword).isEmpty then 0 else 1)<30))=true:=by rfl)
  (hline:(apos.endLine == cpos.line)=true:=by rfl) (hs:starEach (e::es) X.env=(false,eval e X.env)::starEach es X.env:=by rfl) (hplain:(backTo cpos (starEach es X.env)).any (·.1)=false:=by rfl) :
  JE X (.Call (.Attribute o name apos) (e::es) [] cpos) (wM rv f to t):=fun E hE=>
 (zuF pa slot hty hm (ho E hE) (ha E hE) hbase hfew hline hs hplain).mono fun σ H Q ⟨σW,S,QW,hσ,hS,ht,hQ⟩=>⟨σW,S,_,hσ,hS,ht,fun w S1 v H1 e1 r1 hS1 h1=>
  ⟨hrv H1 w v S1 r1 hS1 h1.1,σW,S1,_,hσ.ext e1,hS1,h1.2,fun ws S2 vs H2 e2 r2 hS2 h2=>hw H2 v w vs ws S2 Q QW (r1.ext e2) r2 hS2 h2 (hQ.from (e1.trans e2))⟩⟩
theorem zwj (pa:PlainAttrs T) (slot:Slot T name id) (hty:typeOf (.builtin id)=pure (.type "method_descriptor")) (hrv:ztQ X.K T rv) (hm:MtR X id r) (hw:MtL X.K r f) (ho:JE X o to) (ha:JL X e tl)
  (hbase:attributeBase o name X.env (eval o X.env)=eval o X.env:=by rfl)
  (hfew:((backTo cpos (starEach [e] X.env)).all (fun x=> !x.1)&&(backToKw cpos (keywordEach [] X.env)).all (fun x=>x.1.isSome)
   &&decide ([e].length+([]:List Keyword).length+(if([]:List Keyword).isEmpty then 0 else 1)<30))=true:=by rfl)
  (hline:(apos.endLine == cpos.line)=true:=by rfl) (hs:starEach [e] X.env=(false,eval e X.env)::starEach [] X.env:=by rfl) (hplain:(backTo cpos (starEach [] X.env)).any (·.1)=false:=by rfl) :
  JE X (.Call (.Attribute o name apos) [e] [] cpos) (wML rv f to tl):=fun E hE=>
 (zuF pa slot hty hm (ho E hE) (zcy (ha E hE) pa_nil hs) hbase hfew hline hs hplain).mono fun σ H Q ⟨σW,S,QW,hσ,hS,ht,hQ⟩=>⟨σW,S,_,hσ,hS,ht,fun w S1 v H1 e1 r1 hS1 h1=>
  ⟨hrv H1 w v S1 r1 hS1 h1.1,σW,S1,_,hσ.ext e1,hS1,h1.2,fun ws S2 vs a H2 e2 fa ea na r2 hS2 h2=>hw H2 v w a vs ws S2 Q QW (r1.ext e2) ea na r2 hS2 h2 (hQ.from (e1.trans e2))⟩⟩
theorem zvi (pa:PlainAttrs T) (slot:Slot T name id) (hty:typeOf (.builtin id)=pure (.type "method_descriptor")) (hrv:ztQ X.K T rv) (hm:MtR X id r) (hw:MtW X.K r f) (ho:JE X o to)
  (hbase:attributeBase o name X.env (eval o X.env)=eval o X.env:=by rfl) (hline:(apos.endLine == cpos.line)=true:=by rfl):JE X (.Call (.Attribute o name apos) [] [] cpos) (wM rv f to waNil):=fun E hE=>
 (zsS pa slot hty hm (ho E hE) hbase hline).mono fun σ H Q ⟨σW,S,QW,hσ,hS,ht,hQ⟩=>⟨σW,S,_,hσ,hS,ht,fun w S1 v H1 e1 r1 hS1 h1=>
  ⟨hrv H1 w v S1 r1 hS1 h1.1,hw H1 v w [] [] S1 Q QW r1 .nil hS1 h1.2 (hQ.from e1)⟩⟩
noncomputable def zcu:WMf:=fun w ws S Q=>match w with
 | .ref a=>zbL S a fun xs=>match ws with
  | [y]=>xs.length<sizeLine∧Q .non (put S a (.lst (xs++[y])))
  |_=>False
 |_=>False
theorem zle{K:PySem.W.Frag}:MtW K zns zcu:=fun H x w vs ws S Q QW r rs hS h hQ=>by
 cases r with
 |ref a=>
  obtain⟨xs,ea,h⟩:=zaU h;obtain⟨us,f,hs⟩:=hS a _ ea;cases rs with
  |nil=>exact h.elim
  |cons r1 r2=>
   cases r2 with
   |cons _ _=>exact h.elim
   |nil=>
    obtain⟨e,hS'⟩:=hS.set_lst ea (hs.append (.one r1));exact⟨a,us,_,rfl,rfl,f,by rw [←hs.length];exact h.1,hQ _ _ _ _ e .non hS' h.2⟩
 |_=>exact h.elim
theorem zcd (ho:JE X o to) (ha:JA X (e::es) t)
  (hbase:attributeBase o "append" X.env (eval o X.env)=eval o X.env:=by rfl)
  (hfew:((backTo cpos (starEach (e::es) X.env)).all (fun x=> !x.1)&&(backToKw cpos (keywordEach [] X.env)).all (fun x=>x.1.isSome)
   &&decide ((e::es).length+([]:List Keyword).length+(if([]:List Keyword).isEmpty then 0 else 1)<30))=true:=by rfl)
  (hline:(apos.endLine == cpos.line)=true:=by rfl) (hs:starEach (e::es) X.env=(false,eval e X.env)::starEach es X.env:=by rfl) (hplain:(backTo cpos (starEach es X.env)).any (·.1)=false:=by rfl) :
  JE X (.Call (.Attribute o "append" apos) (e::es) [] cpos) (wM rvL zcu to t):=zwG PySem.F.plainAttrs_list PySem.F.slot_list_append PySem.F.type_list_append zqq zhQ zle ho ha hbase hfew hline hs hplain
noncomputable def zxc:WMf:=fun w ws S Q=>match w with
 | .ref a=>zbL S a fun xs=>match ws with
  | []=>match xs[xs.length - 1]? with
   |some y=>Q y (put S a (.lst xs.dropLast))
   |none=>False
  |_=>False
 |_=>False
noncomputable def zfm:WMf:=fun w ws S Q=>match w with
 | .ref a=>zbL S a fun xs=>match ws with
  | [.tup ys]=>xs.length+ys.length≤sizeLine∧Q .non (put S a (.lst (xs++ys)))
  | [.ref b]=>zbL S b fun ys=>xs.length+ys.length≤sizeLine∧Q .non (put S a (.lst (xs++ys)))
  |_=>False
 |_=>False
theorem zlz{K:PySem.W.Frag}:MtW K (fun x vs H Q=>znT x vs H Q∨zkn K x vs H Q) zfm:=fun H x w vs ws S Q QW r rs hS h hQ=>by
 cases r with
 |ref a=>
  obtain⟨xs,ea,h⟩:=zaU h;obtain⟨us,f,hs⟩:=hS a _ ea;cases rs with
  |nil=>exact h.elim
  |cons r1 r2=>
   cases r2 with
   |cons _ _=>cases r1<;>exact h.elim
   |nil=>
    cases r1 with
    |tup g ks=>
     obtain⟨e,hS'⟩:=hS.set_lst ea (hs.append ks);exact .inr ⟨a,_,us,_,rfl,rfl,f, .of g,by rw [←hs.length,←ks.length];exact h.1,hQ _ _ _ _ e .non hS' h.2⟩
    |ref b=>
     obtain⟨ys,eb,h⟩:=zaU h;obtain⟨zs,g,ks⟩:=hS b _ eb;obtain⟨e,hS'⟩:=hS.set_lst ea (hs.append ks);exact .inl ⟨a,b,us,zs,rfl,rfl,f,g,by rw [←hs.length,←ks.length];exact h.1,hQ _ _ _ _ e .non hS' h.2⟩
    |_=>exact h.elim
 |_=>exact h.elim
theorem zmO (ho:JE X o to) (ha:JA X (e::es) t)
  (hbase:attributeBase o "extend" X.env (eval o X.env)=eval o X.env:=by rfl)
  (hfew:((backTo cpos (starEach (e::es) X.env)).all (fun x=> !x.1)&&(backToKw cpos (keywordEach [] X.env)).all (fun x=>x.1.isSome)
   &&decide ((e::es).length+([]:List Keyword).length+(if([]:List Keyword).isEmpty then 0 else 1)<30))=true:=by rfl)
  (hline:(apos.endLine == cpos.line)=true:=by rfl) (hs:starEach (e::es) X.env=(false,eval e X.env)::starEach es X.env:=by rfl) (hplain:(backTo cpos (starEach es X.env)).any (·.1)=false:=by rfl) :
  JE X (.Call (.Attribute o "extend" apos) (e::es) [] cpos) (wM rvL zfm to t):=zwG PySem.F.plainAttrs_list PySem.F.slot_list_extend PySem.F.type_list_extend zqq (MtR.or zmw zlx) zlz ho ha hbase hfew hline hs hplain
noncomputable def zoV:WMf:=fun w ws S Q=>match w with
 | .ref a=>zbL S a fun xs=>xs.length+ws.length≤sizeLine∧Q .non (put S a (.lst (xs++ws)))
 |_=>False
noncomputable def zeU:List W→Option (List Str)
 | []=>some []
 | .str b::ws=>(zeU ws).map (b:: ·)
 |_=>none
theorem zjX{K:PySem.W.Frag}{H:Hp}:∀{ws:List W}{vs:List V}{bs:List Str},Reps K H ws vs→zeU ws=some bs→vs=bs.map V.str
 | [],_,_, .nil,e=>by have:=Option.some.inj e;subst this;rfl
 |w::ws,_,_, .cons r rs,e=>by
  cases r with
  |str b=>
   have e':(zeU ws).map (b:: ·)=some _:=e;cases q:zeU ws with
   |none=>rw [q]at e';cases e'
   |some cs=>
    rw [q]at e';have:=Option.some.inj e';subst this;rw [List.map_cons,zjX rs q]
  |_=>cases e
noncomputable def ziF:WMf:=fun w ws S Q=>match w with
 | .str z=>match zeU ws with
  |some ys=>(ys.map (·.length)).sum+ys.length*z.length≤16777216∧Q (.str (Str.join z ys)) S
  |none=>False
 |_=>False
theorem zoN{K:PySem.W.Frag}:MtL K (zut K) ziF:=fun H x w a vs ws S Q QW r ea na rs hS h hQ=>by
 cases r with
 |str z=>
  unfold ziF at h;dsimp only at h;split at h
  ·rename_i ys e;have:=zjX rs e;subst this;exact⟨z,a,ys,rfl,rfl, .of ea,h.1,hQ _ S _ H .refl (.str _) hS h.2⟩
  ·exact h.elim
 |_=>exact h.elim
theorem zoz (ho:JE X o to) (ha:JL X e tl)
  (hbase:attributeBase o "join" X.env (eval o X.env)=eval o X.env:=by rfl)
  (hfew:((backTo cpos (starEach [e] X.env)).all (fun x=> !x.1)&&(backToKw cpos (keywordEach [] X.env)).all (fun x=>x.1.isSome)
   &&decide ([e].length+([]:List Keyword).length+(if([]:List Keyword).isEmpty then 0 else 1)<30))=true:=by rfl)
  (hline:(apos.endLine == cpos.line)=true:=by rfl) (hs:starEach [e] X.env=(false,eval e X.env)::starEach [] X.env:=by rfl) (hplain:(backTo cpos (starEach [] X.env)).any (·.1)=false:=by rfl) :
  JE X (.Call (.Attribute o "join" apos) [e] [] cpos) (wML rvS ziF to tl):=zwj PySem.F.plainAttrs_str PySem.F.slot_str_join PySem.F.type_str_join zqx zss zoN ho ha hbase hfew hline hs hplain
noncomputable def zsX:WMf:=fun w ws S Q=>match w with
 | .str z=>match ws with
  | [.str y]=>match Builtin.Str.occurrences z y 0 z.length 1 with
   |i::_=>Q (.int i) S
   | []=>False
  |_=>False
 |_=>False
end
noncomputable def zuO (i:Nat) (g:Int→Int→Int) (e:WE):WS:=fun E D σ S=>match σ[i]? with
 |some (some (.int a))=>e E σ S fun w S1=>match w with
  | .int b=>D.nx (σ.set i (some (.int (g a b)))) S1
  |_=>False
 |_=>False
section
variable {X:Cx}{e:Expr}{te:WE}{pos pos':Pos}
theorem zpT{i:Nat}{x:Str}(hN:X.N.Nodup) (hi:X.N[i]? =some x) (hx:Loc X.env.scope x) (he:JE X e te) (hf:X.fn x=true∨X.env.scope.names.lookup x=some .local:=by first |exact .inl rfl |exact .inr rfl |assumption) :
  JS X (.AugAssign (.Name x pos') .Add e pos) (zuO i (fun a b=>a+b) te):=fun E hE=>
 (zuz hN hi hx (he E hE) ztw hf).mono fun D σ H ⟨σW,S,DW,hσ,hS,ht,hD⟩=>by
  unfold zuO at ht;split at ht
  ·rename_i a ea;obtain⟨v,ev,rv⟩:=hσ.get ea;cases rv;refine⟨_,ev,σW,S,_,hσ,hS,ht,fun w S1 v H1 e1 r1 hS1 h1=>?_⟩;cases r1 with
   |int b=>exact⟨a,b,rfl,rfl,hD.nx _ S1 _ H1 e1 ((hσ.ext e1).set (.int _) i) hS1 h1⟩
   |_=>exact h1.elim
  ·exact ht.elim
end
noncomputable def zmF (c:WT) (b:WS):WS:=fun E D σ S=>∃I:Nat→WSt→Sto→Prop,(∃m,I m σ S)∧ ∀m σ S,I m σ S→c E σ S fun k S1=>if k=true then
 b E { D with nx:=fun σ' S'=>∃m' S'',m'<m∧Sub S'' S'∧I m' σ' S'',ct:=fun σ' S'=>∃m' S'',m'<m∧Sub S'' S'∧I m' σ' S'',bk:=D.nx } σ S1 else D.nx σ S1
section
variable {X:Cx}{c:Expr}{body:List Stmt}{tc:WT}{tb:WS}{pos:Pos}
theorem zkQ (hc:JT X c tc) (hb:JSs X body tb) (hp:PassesOwn (model X.prog X.w) X.A X.env (fun _ _=>False):=by exact PassesOwn.never):JS X (.While c body [] pos) (zmF tc tb):=fun E hE=>
 (zpv (by rw [hE.xe];exact hp) (hc E hE) (hb E hE)).mono fun D σ H ⟨σW,S,DW,hσ,hS,⟨J,⟨n,ht⟩,step⟩,hD⟩=>by
  refine⟨fun m σ1 H1=>∃σW1 S1,Ext H S H1 S1∧RpSt X.K H1 σW1 σ1∧RepS X.K H1 S1∧J m σW1 S1,⟨n,σW,S, .refl,hσ,hS,ht⟩,?_⟩;rintro m σ1 H1 ⟨σW1,S1,e1,hσ1,hS1,h1⟩;refine⟨σW1,S1,_,hσ1,hS1,step m σW1 S1 h1,fun k S2 H2 e2 hS2 h2=>?_⟩;cases k with
  |false=>exact hD.nx σW1 S2 σ1 H2 (e1.trans e2) (hσ1.ext e2) hS2 h2
  |true=>
   rw [if_pos rfl]at h2⊢;refine⟨fun σ' H'=>∃m',m'<m∧ ∃σW1 S1,Ext H S H' S1∧RpSt X.K H' σW1 σ'∧RepS X.K H' S1∧J m' σW1 S1,fun σ' H' n'=>n',σW1,S2,_,hσ1.ext e2,hS2,h2,?_⟩;have e12:=e1.trans e2;have go:Goes X.K H2 S2 (fun σ' S'=>∃m' S'',m'<m∧Sub S'' S'∧J m' σ' S'') (fun σ' H'=>∃m',m'<m∧ ∃σW1 S1,Ext H S H' S1∧RpSt X.K H' σW1 σ'∧RepS X.K H' S1∧J m' σW1 S1):=fun σW3 S3 σ3 H3 e3 hσ3 hS3 ⟨m',S4,hm,sb,q⟩=>
    ⟨m',hm,σW3,S4,(e12.trans e3).trans (.drop sb),hσ3,hS3.sub sb,q⟩
   exact⟨go,hD.rt.from e12,hD.nx.from e12,go⟩
end
noncomputable def forL (g:WG) (b:WS) (E:WX) (D:WEnds) (G:Sto→Prop):List W→WSt→Sto→Prop
 | [],σ,S=>D.nx σ S
 |w::ws,σ,S=>g w σ S fun σ1 S1=>b E { D with nx:=fun σ' S'=>∃S'',Sub S'' S'∧G S''∧forL g b E D G ws σ' S'',ct:=fun σ' S'=>∃S'',Sub S'' S'∧G S''∧forL g b E D G ws σ' S'',bk:=D.nx } σ1 S1
noncomputable def zgy (q:WI) (g:WG) (b:WS):WS:=fun E D σ S=>q E σ S fun ws G S1=>forL g b E D G ws σ S1
section
variable {X:Cx}{tg iter:Expr}{body:List Stmt}{q:WI}{g:WG}{tb:WS}{pos:Pos}
theorem zbM (hi:JI X tg iter q) (hg:JG X tg g) (hb:JSs X body tb) (hp:PassesOwn (model X.prog X.w) X.A X.env (fun _ _=>False):=by exact PassesOwn.never)
  (hs:∀x,foldedSetIterable iter X.env x=pure x:=by intro _;rfl):JS X (.For tg iter body [] pos) (zgy q g tb):=fun E hE=>
 (zth (by rw [hE.xe];exact hp) hE.calm (hi E hE) (hg E hE) (hb E hE) hs).mono fun D σ H ⟨σW,S,DW,hσ,hS,ht,hD⟩=>by
  refine⟨σW,S,_,hσ,hS,ht,fun ws G S1 J H1 e1 hS1 hG1 hJ h1=>?_⟩;refine⟨fun i m σ2 H2=>∃σW2 S2,Ext H1 S1 H2 S2∧RpSt X.K H2 σW2 σ2∧RepS X.K H2 S2∧G S2∧m=ws.length - i∧i≤ws.length∧forL g tb E DW G (ws.drop i) σW2 S2,
   ⟨ws.length,σW,S1, .refl,hσ.ext e1,hS1,hG1,rfl,Nat.zero_le _,h1⟩,?_⟩
  rintro i m σ2 H2 ⟨σW2,S2,e2,hσ2,hS2,hG2,rfl,hi2,h2⟩;obtain⟨ji,js⟩:=hJ i S2 H2 e2 hS2 hG2;by_cases hlt:i<ws.length
  ·obtain⟨jgo,jy⟩:=ji ws[i] (List.getElem?_eq_getElem hlt);refine .inr ⟨jgo,fun σ' H'=>∃σW2 S2,Ext H1 S1 H' S2∧RpSt X.K H' σW2 σ'∧RepS X.K H' S2∧G S2∧ws.length - (i+1)=ws.length - (i+1)∧i+1≤ws.length∧forL g tb E DW G (ws.drop (i+1)) σW2 S2,fun σ' H' z=>⟨_,by omega,z⟩,fun x H3 y3=>?_⟩
   obtain⟨e3,hS3,r3⟩:=jy x H3 y3;rw [List.drop_eq_getElem_cons hlt]at h2;refine⟨_,σW2,S2,_,r3,hσ2.ext e3,hS3,h2,fun σW4 S4 σ4 H4 e4 hσ4 hS4 h4=>?_⟩;have e14:Ext H1 S1 H4 S4:=(e2.trans e3).trans e4;refine⟨σW4,S4,_,hσ4,hS4,h4,?_⟩;have go:Goes X.K H4 S4 (fun σ' S'=>∃S'',Sub S'' S'∧G S''∧forL g tb E DW G (ws.drop (i+1)) σ' S'') (fun σ' H'=>∃σW2 S2,Ext H1 S1 H' S2∧RpSt X.K H' σW2 σ'∧RepS X.K H' S2∧G S2∧ws.length - (i+1)=ws.length - (i+1)∧i+1≤ws.length∧forL g tb E DW G (ws.drop (i+1)) σW2 S2):=
    fun σW5 S5 σ5 H5 e5 hσ5 hS5 ⟨S6,sb,hG6,q⟩=>⟨σW5,S6,(e14.trans e5).trans (.drop sb),hσ5,hS5.sub sb,hG6,rfl,hlt,q⟩
   exact⟨go,hD.rt.from (e1.trans e14),hD.nx.from (e1.trans e14),go⟩
  ·have hl:i=ws.length:=by omega
   rw [List.drop_of_length_le (Nat.le_of_eq hl.symm)]at h2;exact .inl ⟨js hl,hD.nx σW2 S2 σ2 H2 (e1.trans e2) hσ2 hS2 h2⟩
end
section
variable {X:Cx}{tg:Expr}
noncomputable def zxE (K:PySem.W.Frag) (tl:TE):TI:=fun σ H R=>tl σ H fun x H1=>(∃a,x= .ref a∧(∃xs,SqL K H1 a xs)∧R (Itl K a) H1)∨(∃a,x= .ref a∧(∃xs,SqT K H1 a xs)∧R (Itt K a) H1)∨ ∃z,x= .str z∧R (Its z) H1
theorem zuG{l:Expr}{tl:TE}(hl:PE X l tl):PI X tg l (zxE X.K tl):=by
 intro pins s σ H R I h;refine thn (hl pins s σ H _ I h) fun v s1 ⟨x,H1,I1,r1,q1⟩=>?_;have fp:∀b∈ [s1.heap.objs.size],zhr X pins H1 b:=fun b hb=>by
  have e:b=s1.heap.objs.size:=by simpa using hb
  subst e;exact I1.fpOk (Nat.le_refl _) (I1.hok.fresh (Nat.le_refl _))
 rcases q1 with⟨a,e,⟨xs,hq⟩,q⟩ |⟨a,e,⟨xs,hq⟩,q⟩ |⟨z,e,q⟩
 ·subst e;cases r1;obtain⟨its,rv,p,hz⟩:=I1.list hq;refine wpAny_pyIter_list p.isList ?_;exact⟨s1.heap.objs.size,[s1.heap.objs.size],_,_,H1,rfl,I1.kept (t':=s1.toks) fun b o e=>Heap.get?_push_of_some _ e,zmB a _,⟨_,Heap.get?_push_size _ rfl,rfl,rfl⟩,fp,q⟩
 ·subst e;cases r1;obtain⟨its,rv,p,hz⟩:=I1.tuple hq;refine wpAny_pyIter_tuple (show s1.heap.IsTuple a its.toArray from p) ?_;exact⟨s1.heap.objs.size,[s1.heap.objs.size],_,_,H1,rfl,I1.kept (t':=s1.toks) fun b o e=>Heap.get?_push_of_some _ e,zlb a _,⟨_,Heap.get?_push_size _ rfl,rfl,rfl⟩,fp,q⟩
 ·subst e;obtain⟨t,rfl⟩:=r1;cases ha:z.cps.all (· <128)
  ·refine wpAny_pyIter_wide ha ?_;exact⟨s1.heap.objs.size,[s1.heap.objs.size],_,_,H1,rfl,I1.kept (t':=s1.toks) fun b o e=>Heap.get?_push_of_some _ e,
    zkD _ z t "str_iterator" (by decide) (fun A' hA=>Walks.strWide hA _ z t) (fun _ _ _ _ _ st h=>wpAny_pyIter_striter_wide st h),⟨_,Heap.get?_push_size _ rfl,rfl,rfl⟩,fp,q⟩
  ·refine wpAny_pyIter_ascii ha ?_;exact⟨s1.heap.objs.size,[s1.heap.objs.size],_,_,H1,rfl,I1.kept (t':=s1.toks) fun b o e=>Heap.get?_push_of_some _ e,
    zkD _ z t "str_ascii_iterator" (by decide) (fun A' hA=>Walks.strAscii hA _ z t) (fun _ _ _ _ _ st h=>wpAny_pyIter_striter_ascii st h),⟨_,Heap.get?_push_size _ rfl,rfl,rfl⟩,fp,q⟩
noncomputable def zjx (z:Str):List W:=z.cps.toList.map fun c=> .str ⟨#[c]⟩
noncomputable def wIv (t:WE):WI:=fun E σ S Q=>t E σ S fun w S1=>match w with
 | .tup ws=>Q ws (fun _=>True) S1
 | .ref a=>zbL S1 a fun ws=>Q ws (fun S'=>S' a=some (.lst ws)) S1
 | .scr ns=>Q (ns.map W.int) (fun _=>True) S1
 | .str z=>Q (zjx z) (fun _=>True) S1
 |_=>False
theorem zob{K:PySem.W.Frag}{a:Addr}{ws:List W}{G:Sto→Prop}{H0:Hp}{S0:Sto}(h:∀S H,Ext H0 S0 H S→RepS K H S→G S→ ∃vs,SqL K H a vs∧Reps K H ws vs):ItW K (Itl K a) ws G H0 S0:=fun i S H e hS hG=>by
 obtain⟨vs,hq,r⟩:=h S H e hS hG;refine⟨fun w ew=>?_,fun hl=>⟨vs,hq,by rw [←r.length,hl];exact Nat.le_refl _⟩⟩
 obtain⟨v,ev,rv⟩:=r.get ew;refine⟨⟨vs,v,hq,ev⟩,fun x H' ⟨e1,e2⟩=>?_⟩;subst e1;have e3:=e2 vs hq;rw [ev]at e3;cases e3;exact⟨.refl,hS,rv⟩
theorem zue{K:PySem.W.Frag}{a:Addr}{ws:List W}{vs:List V}{H0:Hp}{S0:Sto}(f:H0 a=some (.tup vs)) (r:Reps K H0 ws vs):ItW K (Itt K a) ws (fun _=>True) H0 S0:=fun i S H e hS hG=>by
 have f':=e.tup _ _ f;have r':=r.ext e;refine⟨fun w ew=>?_,fun hl=>⟨vs, .of f',by rw [←r'.length,hl];exact Nat.le_refl _⟩⟩
 obtain⟨v,ev,rv⟩:=r'.get ew;refine⟨⟨vs,v, .of f',ev⟩,fun x H' ⟨e1,e2⟩=>?_⟩;subst e1;have e3:=e2 vs (.of f');rw [ev]at e3;cases e3;exact⟨.refl,hS,rv⟩
theorem ztD{K:PySem.W.Frag}{z:Str}{H0:Hp}{S0:Sto}:ItW K (Its z) (zjx z) (fun _=>True) H0 S0:=fun i S H e hS hG=>by
 unfold zjx;refine⟨fun w ew=>?_,fun hl=>?_⟩
 ·rw [List.getElem?_map]at ew;cases ec:z.cps.toList[i]? with
  |none=>rw [ec]at ew;cases ew
  |some c=>
   rw [ec]at ew;have ew':=Option.some.inj ew;subst ew';have hi:i<z.cps.size:=by
    have:=(List.getElem?_eq_some_iff.mp ec).1;simpa using this
   refine⟨hi,fun x H' ⟨e1,c',e2,e3⟩=>?_⟩;subst e1 e3;have:c'=c:=by
    have q:z.cps.toList[i]? =some c':=by rw [←e2];simp
    rw [ec]at q;exact(Option.some.inj q).symm
   subst this;exact⟨.refl,hS, .str _⟩
 ·show i=z.cps.size;simpa using hl
theorem zbC{l:Expr}{tl:WE}(hl:JE X l tl):JI X tg l (wIv tl):=fun E hE=>
 (zuG (hl E hE)).mono fun σ H R ⟨σW,S,QW,hσ,hS,ht,hR⟩=>⟨σW,S,_,hσ,hS,ht,fun w S1 v H1 e1 r1 hS1 h1=>by
  cases r1 with
  |tup f hs=>exact .inr (.inl ⟨_,rfl,⟨_, .of f⟩,hR _ _ S1 _ H1 e1 hS1 trivial (zue f hs) h1⟩)
  |ref a=>
   obtain⟨ws,ea,h⟩:=zaU h1;obtain⟨vs,f,hs⟩:=hS1 a _ ea;refine .inl ⟨_,rfl,⟨_, .of f⟩,hR _ _ S1 _ H1 e1 hS1 ea (zob fun S2 H2 e2 hS2 g2=>?_) h⟩;obtain⟨vs2,f2,hs2⟩:=hS2 a _ g2;exact⟨vs2, .of f2,hs2⟩
  |scr f=>exact .inl ⟨_,rfl,⟨_,f.sq⟩,hR _ _ S1 _ H1 e1 hS1 trivial (zob fun S2 H2 e2 hS2 g2=>⟨_,(e2.fz f).sq,Reps.ofInts _⟩) h1⟩
  |str z=>exact .inr (.inr ⟨z,rfl,hR _ _ S1 _ H1 e1 hS1 trivial ztD h1⟩)
  |_=>exact h1.elim⟩
noncomputable def zlD (lo:Int) (n:Nat):List W:=(List.range n).map fun(i:Nat)=> .int (lo+(i:Int))
theorem ztZ{K:PySem.W.Frag}{lo:Int}{n:Nat}{H0:Hp}{S0:Sto}:ItW K (Itr lo n) (zlD lo n) (fun _=>True) H0 S0:=fun i S H e hS hG=>by
 unfold zlD;refine⟨fun w ew=>?_,fun hl=>by
  have:i=n:=by simpa using hl
  exact Nat.le_of_eq this.symm⟩
 rw [List.getElem?_map]at ew;by_cases hi:i<n
 ·rw [List.getElem?_range hi]at ew;have ew':=Option.some.inj ew;subst ew';refine⟨hi,fun x H' ⟨e1,e2⟩=>?_⟩;subst e1 e2;exact⟨.refl,hS, .int _⟩
 ·rw [List.getElem?_eq_none (by simpa using hi)]at ew;cases ew
noncomputable def zqL (t:WA):WI:=fun E σ S Q=>t E σ S fun ws S1=>match ws with
 | [.int j]=>(-(2 ^ 62)≤j∧j<2 ^ 62)∧Q (zlD 0 j.toNat) (fun _=>True) S1
 |_=>False
theorem zef{a:Expr}{ta:WA}{p pos:Pos}(hg:Gl X "range") (hm:X.mg "range" =none) (ha:JA X [a] ta) (hs:starEach [a] X.env=[(false,eval a X.env)]:=by rfl):JI X tg (.Call (.Name "range" p) [a] [] pos) (zqL ta):=fun E hE=>
 (zoi hg hm (ha E hE) hs).mono fun σ H R ⟨σW,S,QW,hσ,hS,ht,hR⟩=>⟨σW,S,_,hσ,hS,ht,fun ws S1 vs H1 e1 r1 hS1 h1=>by
  cases r1 with
  |nil=>exact h1.elim
  |cons r2 r3=>
   cases r3 with
   |cons _ _=>cases r2<;>exact h1.elim
   |nil=>
    cases r2 with
    |int j=>exact⟨j,rfl,h1.1.1,h1.1.2,hR _ _ S1 _ H1 e1 hS1 trivial ztZ h1.2⟩
    |_=>exact h1.elim⟩
end
noncomputable def ziQ:WT:=fun _ _ S Q=>Q true S
noncomputable def JTs (X:Cx) (ifs:List Expr) (t:WT):Prop:=∀E,Hook X E→PTs X ifs (zrL X.K (t E))
theorem zcw{X:Cx}:JTs X [] ziQ:=fun E hE pins s σ H Q I ⟨σW,S,QW,hσ,hS,ht,hQ⟩=>zrp pins s σ H Q I (hQ true S H .refl hS ht)
theorem zqP{X:Cx}{c:Expr}{t:WT}(h:JT X c t):JTs X [c] t:=fun E hE=>zsk (h E hE)
noncomputable def zeJ (g:WG) (c:WT) (e:WE) (E:WX) (G:Sto→Prop) (Q:List W→Sto→Prop):List W→List W→WSt→Sto→Prop
 | [],acc,_,S=>Q acc S
 |w::ws,acc,σ,S=>g w σ S fun σ1 S1=>c E σ1 S1 fun b S2=>if b=true then e E σ1 S2 fun y S3=>acc.length<sizeLine∧ ∃S4,Sub S4 S3∧G S4∧zeJ g c e E G Q ws (acc++[y]) σ1 S4
   else ∃S4,Sub S4 S2∧G S4∧zeJ g c e E G Q ws acc σ1 S4
noncomputable def zdG (k:Nat) (fr:List Nat) (q:WI) (g:WG) (c:WT) (e:WE):WL:=fun E σ S Q=>q E σ S fun ws G S1=>zeJ g c e E G Q ws [] (List.replicate k none++fr.map fun j=>(σ[j]?).join) S1
theorem zlA{K:PySem.W.Frag}{H:Hp}{σW:WSt}{σ:St}{k:Nat}{fr:List Nat}(h:RpSt K H σW σ):RpSt K H (List.replicate k none++fr.map fun j=>(σW[j]?).join) (zjN σ k fr):=by
 have one:∀j:Nat,RpO K H (σW[j]?).join (σ[j]?).join:=fun j=>by
  cases e:σW[j]? with
  |none=>exact trivial
  |some w=>
   cases w with
   |none=>exact trivial
   |some w=>
    obtain⟨v,ev,r⟩:=h.get e;rw [ev];exact r
 have go:∀fr:List Nat,RpSt K H (fr.map fun j=>(σW[j]?).join) (zfP σ fr):=by
  intro fr
  induction fr with
  |nil=>exact .nil
  |cons j fr ih=>exact .cons (one j) ih
 unfold zjN
 induction k with
 |zero=>exact go fr
 |succ k ih=>exact .cons trivial ih
section
variable {X:Cx}{scope:Scope}{N:List Str}{k:Nat}{fr:List Nat}{tg iter elt:Expr}{ifs:List Expr}{pos:Pos}{q:WI}{g:WG}{c:WT}{e:WE}
theorem Ext.loose{H H':Hp}(a:∀b xs,H b=some (.tup xs)→H' b=some (.tup xs)) (b:∀c o u,H c=some (.frz o u)→H' c=some (.frz o u)) (d:∀b o,H b=some o→ ∃o',H' b=some o'):Ext H (fun _=>some (.lst [])) H' (fun _=>some (.lst [])):=
 ⟨a,b,(fun _ _ _ g=>nomatch g),d⟩
theorem Ext.over{H H':Hp}{S S':Sto}{l:Addr}{o:HO}(e:Ext H S H' S') (h:H l=none):Ext H S (upd H' l o) S':=
 ⟨fun b xs q=>by rw [zav (zap q h)];exact e.tup b xs q,fun b ob u q=>by rw [zav (zap q h)];exact e.frz b ob u q,fun b ob q z=>by rw [zav (zap q h)];exact e.fr b ob q z,fun b ob q=>by rw [zav (zap q h)];exact e.all b ob q⟩
theorem zhI (hg:∀s₀ H₀ fp pn,JG (zbi X scope N s₀ H₀ fp pn) tg g) (hc:∀s₀ H₀ fp pn,JTs (zbi X scope N s₀ H₀ fp pn) ifs c) (he:∀s₀ H₀ fp pn,JE (zbi X scope N s₀ H₀ fp pn) elt e)
  {E:WX}(hE:Hook X E) (σ:St) (H:Hp) (Q:VK):zsW X.K (zdG k fr q g c e E) σ H Q→zpk X scope N k fr tg ifs elt (zus X.K (q E)) σ H Q:=fun⟨σW,S0,QW,hσ,hS,ht,hQ⟩=>by
  refine⟨σW,S0,_,hσ,hS,ht,fun ws G S1 J H1 e1 hS1 hG1 hJ h1 l hl=>?_⟩;have upl:∀{H':Hp}{vs us:List V}{S':Sto},H' l=some (.lst vs)→S' l=none→RepS X.K H' S'→Ext H' (fun _=>some (.lst [])) (upd H' l (.lst us)) (fun _=>some (.lst []))∧RepS X.K (upd H' l (.lst us)) S':=fun {H' vs us S'} f n hS'=>by
   have x:Ext H' (fun _=>some (.lst [])) (upd H' l (.lst us)) (fun _=>some (.lst [])):= .loose (fun b xs q=>by rw [zav (zoG q f fun z=>nomatch z)];exact q) (fun b o u q=>by rw [zav (zoG q f fun z=>nomatch z)];exact q) fun b o q=>by
    by_cases hb:b=l
    ·subst hb;exact⟨_,zat⟩
    ·exact⟨o,by rw [zav hb];exact q⟩
   refine⟨x,fun a o q=>(hS' a o q).keep x fun u z=>?_⟩;have ha:a≠l:=by rintro rfl;rw [n]at q;cases q
   rw [zav ha];exact z
  refine⟨fun i m σ' H'=>∃σW' S' acc vs,Ext H1 S1 H' S'∧H' l=some (.lst vs)∧S' l=none∧Reps X.K H' acc vs∧RpSt X.K H' σW' σ'∧RepS X.K H' S'∧G S'∧m=ws.length - i∧i≤ws.length∧zeJ g c e E G QW (ws.drop i) acc σW' S',
   ⟨ws.length,_,S1,[],[], .new hl,zat,hS1.free hl, .nil,zlA (hσ.ext (e1.trans (.new (S:=S1) hl))),hS1.new hl,hG1,rfl,Nat.zero_le _,h1⟩,?_⟩
  rintro i m σ' H' ⟨σW',S',acc,vs,e2,f2,n2,ra,hσ2,hS2,hG2,rfl,hi2,h2⟩;obtain⟨ji,js⟩:=hJ i S' H' e2 hS2 hG2;by_cases hlt:i<ws.length
  ·obtain⟨jgo,jy⟩:=ji ws[i] (List.getElem?_eq_getElem hlt);refine .inr ⟨jgo,fun σ'' H''=>∃σW' S' acc vs,Ext H1 S1 H'' S'∧H'' l=some (.lst vs)∧S' l=none∧Reps X.K H'' acc vs∧RpSt X.K H'' σW' σ''∧RepS X.K H'' S'∧G S'∧ws.length - (i+1)=ws.length - (i+1)∧i+1≤ws.length∧zeJ g c e E G QW (ws.drop (i+1)) acc σW' S',
    fun σ'' H'' z=>⟨_,by omega,z⟩,fun x H3 y3=>?_⟩
   obtain⟨e3,hS3,r3⟩:=jy x H3 y3;rw [List.drop_eq_getElem_cons hlt]at h2;intro s₀ H₀ fp pn;have hk:Hook (zbi X scope N s₀ H₀ fp pn) E:=⟨hE.no,rfl,hE.calm⟩;refine⟨_,_,_,hg s₀ H₀ fp pn E hk,hc s₀ H₀ fp pn E hk,he s₀ H₀ fp pn E hk,?_⟩;refine⟨_,σW',S',_,r3,hσ2.ext e3,hS3,h2,fun σW4 S4 σ4 H4 e4 hσ4 hS4 h4=>?_⟩;refine⟨σW4,S4,_,hσ4,hS4,h4,fun b S5 H5 e5 hS5 h5=>?_⟩;have e15:Ext H' S' H5 S5:=(e3.trans e4).trans e5;have hσ5:=hσ4.ext e5;obtain⟨f5,n5⟩:=e15.fr l _ f2 n2;cases b with
   |false=>
    have h5:∃S4,Sub S4 S5∧G S4∧zeJ g c e E G QW (ws.drop (i+1)) acc σW4 S4:=h5;refine zxn ?_;obtain⟨S6,sb,hG6,h6⟩:=h5;have e16:=e15.trans (.drop sb);exact⟨σW4,S6,acc,vs,e2.trans e16,f5,(e16.fr l _ f2 n2).2,ra.ext e15,hσ5,hS5.sub sb,hG6,rfl,hlt,h6⟩
   |true=>
    rw [if_pos rfl]at h5;refine zwT ?_;refine⟨σW4,S5,_,hσ5,hS5,h5,fun y S6 v H6 e6 r6 hS6 h6=>?_⟩;have e17:=e15.trans e6;obtain⟨f6,n6⟩:=e17.fr l _ f2 n2;obtain⟨hz,S7,sb,hG7,h7⟩:=h6;obtain⟨x6,hS6'⟩:=upl (us:=vs++[v]) f6 n6 hS6;have ra6:Reps X.K H6 (acc++[y]) (vs++[v]):=(ra.ext e17).append (.one r6);refine⟨vs,f6,by rw [←ra.length];exact hz,σW4,S7,acc++[y],vs++[v],?_,zat,((e17.trans (.drop sb)).fr l _ f2 n2).2,ra6.ext x6,(hσ5.ext e6).ext x6,hS6'.sub sb,hG7,rfl,hlt,h7⟩
    exact(e2.trans (e17.trans (.drop sb))).over hl
  ·have hll:i=ws.length:=by omega
   rw [List.drop_of_length_le (Nat.le_of_eq hll.symm)]at h2;exact .inl ⟨js hll,hQ acc S' vs l H' (e1.trans e2) (e1.free hl) f2 n2 ra hS2 h2⟩
theorem zdr (S:CompSc X scope N k fr) (hi:JI X tg iter q) (hg:∀s₀ H₀ fp pn,JG (zbi X scope N s₀ H₀ fp pn) tg g) (hc:∀s₀ H₀ fp pn,JTs (zbi X scope N s₀ H₀ fp pn) ifs c) (he:∀s₀ H₀ fp pn,JE (zbi X scope N s₀ H₀ fp pn) elt e)
  (hs:∀x,foldedSetIterable iter X.env x=pure x:=by intro _;rfl):JL X (.ListComp elt [⟨tg,iter,ifs,0⟩] scope pos) (zdG k fr q g c e):=fun E hE=>
 (zrc hE.xe hE.calm S (hi E hE) hs).mono (zhI hg hc he hE)
theorem zgF{i:Nat}{x:Str}{pos' spos:Pos}(hN:X.N.Nodup) (hxi:X.N[i]? =some x) (hxl:Loc X.env.scope x) (S:CompSc X scope N k fr) (hi:JI X tg iter q) (hg:∀s₀ H₀ fp pn,JG (zbi X scope N s₀ H₀ fp pn) tg g) (hc:∀s₀ H₀ fp pn,JTs (zbi X scope N s₀ H₀ fp pn) ifs c) (he:∀s₀ H₀ fp pn,JE (zbi X scope N s₀ H₀ fp pn) elt e)
  (hw:swapsWith (.ListComp elt [⟨tg,iter,ifs,0⟩] scope pos) (some (.Name x pos')) spos.line X.env=pure true:=by rfl) (hf:X.fn x=true∨X.env.scope.names.lookup x=some .local:=by first |exact .inl rfl |exact .inr rfl |assumption)
  (hs:∀x,foldedSetIterable iter X.env x=pure x:=by intro _;rfl):JS X (.Assign [.Name x pos'] (.ListComp elt [⟨tg,iter,ifs,0⟩] scope pos) spos) (wAsg (zcL (zdG k fr q g c e)) (wGN i)):=fun E hE=>
 (zrK hE.xe hE.calm S (hi E hE) hN hxi hxl hw hf hs).mono fun D σ H ⟨σW,S0,DW,hσ,hS,ht,hD⟩=>
  zhI hg hc he hE σ H _ ⟨σW,S0,_,hσ,hS,ht,fun ws S1 vs a H1 e1 fa ea na r1 hS1 h1=>by
   have ex:Ext H S0 H1 (put S1 a (.lst ws)):=⟨e1.tup,e1.frz,fun b o q g=>by
    have hb:b≠a:=by rintro rfl;rw [fa]at q;cases q
    rw [zaZ hb];exact e1.fr b o q g,e1.all⟩
   refine hD.nx _ (put S1 a (.lst ws)) _ H1 ex ((hσ.ext ex).set (.ref a) i) (fun b o q=>?_) (h1 a na);by_cases hb:b=a
   ·subst hb;rw [zai]at q;cases q;exact⟨vs,ea,r1⟩
   ·rw [zaZ hb]at q;exact hS1 b o q⟩
end
noncomputable def SeqIt (k:Bool) (h:Heap) (it a:Addr) (i:Nat):Prop:=if k=true then h.IsListIter it a i else h.IsTupleIter it a i
noncomputable def SeqIs (k:Bool) (h:Heap) (a:Addr) (its:Array Value):Prop:=if k=true then h.IsList a its else h.IsTuple a its
section
variable {k:Bool}{h h':Heap}{it a:Addr}{i:Nat}{its:Array Value}
theorem SeqIt.at (x:SeqIt k h it a i) (e:∀o,h.get? it=some o→h'.get? it=some o):SeqIt k h' it a i:=by
 cases k with
 |true=>exact Heap.IsListIter.at (show h.IsListIter it a i from x) e
 |false=>exact Heap.IsTupleIter.at (show h.IsTupleIter it a i from x) e
theorem SeqIs.at (x:SeqIs k h a its) (e:∀o,h.get? a=some o→h'.get? a=some o):SeqIs k h' a its:=by
 cases k with
 |true=>exact Heap.IsList.at (show h.IsList a its from x) e
 |false=>obtain⟨o,ho,r⟩:=(show h.IsTuple a its from x);exact⟨o,e o ho,r⟩
theorem SeqIt.ob (x:SeqIt k h it a i):∃o vs,h.get? it=some o∧o.data= .fields vs:=by
 cases k with
 |true=>obtain⟨o,ho,_,hd⟩:=(show h.IsListIter it a i from x);exact⟨o,_,ho,hd⟩
 |false=>obtain⟨o,ho,_,hd⟩:=(show h.IsTupleIter it a i from x);exact⟨o,_,ho,hd⟩
end
section
variable {prog:Program}{w:World}{A:Around}{E:Value→Shared→Prop}{s:Shared}
theorem zfT{it t:Addr}{i:Nat}{its:Array Value}{x:Value}{Q:Value→Shared→Prop}(hit:s.heap.IsTupleIter it t i) (ht:s.heap.IsTuple t its) (hx:its[i]? =some x)
  (hQ:∀g,g.IsTupleIter it t (i+1)→Heap.SameBut it s.heap g→Q x { s with heap:=g }):wpAny (model prog w) A (Builtin.SmallTypes.nextOf (.ref it)) Q E s:=by
 obtain⟨o,ho,hc,hd⟩:=id hit;obtain⟨ot,hot,_,nt,hdt⟩:=ht;unfold Builtin.SmallTypes.nextOf;refine wpAny_bind (wpAny_callSpecial?_slot (name:=Str.ofString "__next__") hit.typeIs PySem.F.slot_tuple_iterator_next (wpAny_call_entry PySem.F.slot_tuple_iterator_next hit.typeIs PySem.F.entry_tuple_iterator_next ?_ (PySem.F.args_tuple_iterator_next_1 _)));show wpAny _ _ (field (.ref it) 0 >>= _) _ _ s;refine wpAny_bind (wpAny_field ho hd (x:= .ref t) rfl ?_);show wpAny _ _ (if(Value.ref t == Value.none)=true then _ else _) _ _ s;rw [if_neg (show ¬((Value.ref t == Value.none)=true) from Bool.false_ne_true)];show wpAny _ _ (field (.ref it) 1 >>= _) _ _ s;refine wpAny_bind (wpAny_field ho hd (x:= .int i 0) rfl ?_);show wpAny _ _ (seqItems? (.ref t) >>= _) _ _ s;refine wpAny_bind (wpAny_seqItems hot hdt ?_);simp only[Int.toNat_natCast,hx];refine wpAny_bind (wpAny_setField ho hd (by simp) (wpAny_pure ⟨x,rfl,wpAny_pure (hQ _ ?_ (Heap.SameBut.update ..))⟩));exact⟨_,Heap.get?_update_self _ ho (Obj.isFreed_of_fields (Obj.data_mapFields hd _)),(Obj.cls_mapFields ..).trans hc,by rw [Obj.data_mapFields hd];simp [rawInt]⟩
theorem zgb{it t:Addr}{i:Nat}{its:Array Value}{Q:Value→Shared→Prop}(hh:A.handled=none) (hit:s.heap.IsTupleIter it t i) (ht:s.heap.IsTuple t its) (hx:its[i]? =none)
  (hE:∀g e,Heap.ExtBut it s.heap g→(∃o,g.get? e=some o∧o.cls= .type "StopIteration")→E (.ref e) { s with heap:=g }):wpAny (model prog w) A (Builtin.SmallTypes.nextOf (.ref it)) Q E s:=by
 obtain⟨o,ho,hc,hd⟩:=id hit;obtain⟨ot,hot,_,nt,hdt⟩:=ht;unfold Builtin.SmallTypes.nextOf;refine wpAny_bind (wpAny_callSpecial?_slot (name:=Str.ofString "__next__") hit.typeIs PySem.F.slot_tuple_iterator_next (wpAny_call_entry PySem.F.slot_tuple_iterator_next hit.typeIs PySem.F.entry_tuple_iterator_next ?_ (PySem.F.args_tuple_iterator_next_1 _)));show wpAny _ _ (field (.ref it) 0 >>= _) _ _ s;refine wpAny_bind (wpAny_field ho hd (x:= .ref t) rfl ?_);show wpAny _ _ (if(Value.ref t == Value.none)=true then _ else _) _ _ s;rw [if_neg (show ¬((Value.ref t == Value.none)=true) from Bool.false_ne_true)];show wpAny _ _ (field (.ref it) 1 >>= _) _ _ s;refine wpAny_bind (wpAny_field ho hd (x:= .int i 0) rfl ?_);show wpAny _ _ (seqItems? (.ref t) >>= _) _ _ s;refine wpAny_bind (wpAny_seqItems hot hdt ?_);simp only[Int.toNat_natCast,hx];refine wpAny_bind (wpAny_rule (wpAny_bind (wpAny_setField ho hd (by simp) ?_)));show wpAny _ _ (newExc (.type "StopIteration") [] >>= _) _ _ _;refine wpAny_bind ?_;simp only[newExc,newTuple];refine wpAny_bind (wpAny_newObj_type ?_ (by size_fits));refine wpAny_bind (m:=firstArgMember _ _) (wpAny_of_eq (a:=Value.none) (by first |rfl | (simp only[firstArgMember];rfl)) ?_);refine wpAny_newObj_type ?_ (by size_fits);simp only[raiseNew];refine wpAny_bind (wpAny_handled ?_)
 first |rw [show A.in1.handled=none from hh] |rw [hh]
 refine wpAny_bind (wpAny_pure (wpAny_throw ?_));exact hE _ _ (((Heap.SameBut.update ..).extBut.push _).push _) ⟨_,Heap.get?_push_size _ rfl,rfl⟩
theorem zeq{k:Bool}{it t:Addr}{i:Nat}{its:Array Value}{x:Value}{Q:Value→Shared→Prop}(hit:SeqIt k s.heap it t i) (ht:SeqIs k s.heap t its) (hx:its[i]? =some x)
  (hQ:∀g,SeqIt k g it t (i+1)→Heap.SameBut it s.heap g→Q x { s with heap:=g }):wpAny (model prog w) A (Builtin.SmallTypes.nextOf (.ref it)) Q E s:=by
 cases k with
 |true=>exact wpAny_nextOf_list_item hit ht hx hQ
 |false=>exact zfT hit ht hx hQ
theorem zhg{k:Bool}{it t:Addr}{i:Nat}{its:Array Value}{Q:Value→Shared→Prop}(hh:A.handled=none) (hit:SeqIt k s.heap it t i) (ht:SeqIs k s.heap t its) (hx:its[i]? =none)
  (hE:∀g e,Heap.ExtBut it s.heap g→(∃o,g.get? e=some o∧o.cls= .type "StopIteration")→E (.ref e) { s with heap:=g }):wpAny (model prog w) A (Builtin.SmallTypes.nextOf (.ref it)) Q E s:=by
 cases k with
 |true=>exact wpAny_nextOf_list_end hh hit ht hx hE
 |false=>exact zgb hh hit ht hx hE
theorem zmH{k:Bool}{e it l:Addr}{i:Nat}{its:Array Value}{x old:Value}{Q:Option Value→Shared→Prop}
  (he:IsEnum s.heap e it i old) (hit:SeqIt k s.heap it l i) (hl:SeqIs k s.heap l its) (hx:its[i]? =some x) (hne:e≠it)
  (hQ:∀g,IsEnumOut g e it ((i:Int)+1) x s.heap.objs.size→SeqIt k g it l (i+1)→g.get? s.heap.objs.size=some { cls:= .type "tuple",data:= .seq #[.int i s.toks,x] }→g.objs.size=s.heap.objs.size+1→
   (∀b o,b≠e→b≠it→s.heap.get? b=some o→g.get? b=some o)→Q (some (.ref s.heap.objs.size)) { s with heap:=g,toks:=s.toks+1 }):wpAny (model prog w) A (pyNext (.ref e)) Q E s:=by
 have hT:s.TypeIs (.ref e) "enumerate" :=⟨_,he,rfl⟩;unfold pyNext;refine wpAny_bind (wpAny_attempt (wpAny_callSpecial?_slot (name:=Str.ofString "__next__") hT PySem.F.slot_enumerate_next (wpAny_call_entry PySem.F.slot_enumerate_next hT PySem.F.entry_enumerate_next ?_ (PySem.F.args_enumerate_next_1 _))));obtain⟨hp,g,d,tk,os⟩:=s;show wpAny _ _ (field (.ref e) 2 >>= _) _ _ _;refine wpAny_bind (wpAny_field he rfl (x:= .ref it) rfl ?_);refine wpAny_bind (zeq hit hl hx fun g1 hit1 hs1=>?_);replace hs1:Heap.SameBut it hp g1:=hs1;have he1:IsEnum g1 e it i old:=(hs1.2 e hne).trans he;show wpAny _ _ (field (.ref e) 3 >>= _) _ _ ⟨g1,g,d,tk,os⟩;refine wpAny_bind (wpAny_field he1 rfl (x:=rawInt i) rfl ?_);show wpAny _ _ (field (.ref e) 4 >>= _) _ _ ⟨g1,g,d,tk,os⟩;refine wpAny_bind (wpAny_field he1 rfl (x:= .none) rfl ?_);show wpAny _ _ (mkInt i >>= _) _ _ ⟨g1,g,d,tk,os⟩;refine wpAny_bind (wpAny_mkInt ?_);show wpAny _ _ (setField (.ref e) 3 (rawInt ((i:Int)+1)) >>= _) _ _ ⟨g1,g,d,tk+1,os⟩;refine wpAny_bind (wpAny_setField_rec he1 (by simp) fun g2 he2 hs2=>?_);replace hs2:Heap.SameBut e g1 g2:=hs2;replace he2:IsEnum g2 e it ((i:Int)+1) old:=he2;show wpAny _ _ (setField (.ref e) 4 .none >>= _) _ _ ⟨g2,g,d,tk+1,os⟩;refine wpAny_bind (wpAny_setField_rec he2 (by simp) fun g3 he3 hs3=>?_);replace hs3:Heap.SameBut e g2 g3:=hs3;replace he3:IsEnum g3 e it ((i:Int)+1) old:=he3;show wpAny _ _ (newTuple [.int i tk,x] >>= _) _ _ ⟨g3,g,d,tk+1,os⟩;refine wpAny_bind (wpAny_newTuple ?_);have he4:IsEnum (g3.push { cls:= .type "tuple",data:= .seq #[.int i tk,x] }) e it ((i:Int)+1) old:=Heap.get?_push_of_some _ he3;generalize hg4:g3.push { cls:= .type "tuple",data:= .seq #[.int i tk,x] }=g4 at he4;have hsz:g3.objs.size=hp.objs.size:=by rw [hs3.1,hs2.1,hs1.1]
 have hel:e<hp.objs.size:=Heap.lt_size he;have ht4:g4.get? hp.objs.size=some { cls:= .type "tuple",data:= .seq #[.int i tk,x] }:=by rw [←hg4,←hsz];exact Heap.get?_push_size _ rfl
 have hz4:g4.objs.size=hp.objs.size+1:=by rw [←hg4,Heap.size_push,hsz]
 have hk4:∀b o,b≠e→b≠it→hp.get? b=some o→g4.get? b=some o:=fun b o hbe hbi hb=>by rw [←hg4];exact Heap.get?_push_of_some _ (hs3.extBut b o hbe (hs2.extBut b o hbe (hs1.extBut b o hbi hb)))
 have hit4:SeqIt k g4 it l (i+1):=by rw [←hg4];exact hit1.at fun o ho=>Heap.get?_push_of_some _ (hs3.extBut it o (Ne.symm hne) (hs2.extBut it o (Ne.symm hne) ho))
 show wpAny _ _ (Builtin.SmallTypes.ownedTupleIsFree (.ref e) >>= _) _ _ ⟨g4,g,d,tk+1,os⟩;rw [hsz];clear hg4 he3 hs3 he2 hs2 he1 hs1 hit1 hsz g3 g2 g1;refine wpAny_bind ?_;unfold Builtin.SmallTypes.ownedTupleIsFree;refine wpAny_bind (wpAny_field he4 rfl (x:= .none) rfl (wpAny_pure ?_));simp only[if_true];refine wpAny_bind (wpAny_rule ?_);refine wpAny_bind (wpAny_field he4 rfl (x:=old) rfl ?_);refine wpAny_bind (wpAny_setField_rec he4 (by simp) fun g5 he5 hs5=>?_);replace hs5:Heap.SameBut e g4 g5:=hs5;replace he5:IsEnum g5 e it ((i:Int)+1) x:=he5;show wpAny _ _ (Builtin.SmallTypes.ownedTupleHandOut (.ref e) (.ref hp.objs.size) >>= _) _ _ ⟨g5,g,d,tk+1,os⟩;refine wpAny_bind ?_;unfold Builtin.SmallTypes.ownedTupleHandOut;refine wpAny_bind (wpAny_setField_rec he5 (by simp) fun g6 he6 hs6=>?_);replace hs6:Heap.SameBut e g5 g6:=hs6;replace he6:IsEnumOut g6 e it ((i:Int)+1) x hp.objs.size:=he6;refine wpAny_setField_rec he6 (by simp) fun g7 he7 hs7=>?_;replace hs7:Heap.SameBut e g6 g7:=hs7;replace he7:IsEnumOut g7 e it ((i:Int)+1) x hp.objs.size:=he7;refine wpAny_bind (wpAny_letGo (wpAny_pure ⟨_,rfl,wpAny_pure (hQ g7 he7 ?_ ?_ ?_ ?_)⟩))
 ·exact hit4.at fun o ho=>hs7.extBut it o (Ne.symm hne) (hs6.extBut it o (Ne.symm hne) (hs5.extBut it o (Ne.symm hne) ho))
 ·exact hs7.extBut _ _ (Nat.ne_of_gt hel) (hs6.extBut _ _ (Nat.ne_of_gt hel) (hs5.extBut _ _ (Nat.ne_of_gt hel) ht4))
 ·rw [hs7.1,hs6.1,hs5.1,hz4]
 ·exact fun b o hbe hbi hb=>hs7.extBut b o hbe (hs6.extBut b o hbe (hs5.extBut b o hbe (hk4 b o hbe hbi hb)))
theorem zoo{k:Bool}{e it l:Addr}{i:Nat}{its:Array Value}{old:Value}{Q:Option Value→Shared→Prop}(hh:A.handled=none)
  (he:IsEnum s.heap e it i old) (hit:SeqIt k s.heap it l i) (hl:SeqIs k s.heap l its) (hx:its[i]? =none) (hQ:∀g,Heap.ExtBut it s.heap g→Q none { s with heap:=g }):wpAny (model prog w) A (pyNext (.ref e)) Q E s:=by
 have hT:s.TypeIs (.ref e) "enumerate" :=⟨_,he,rfl⟩;unfold pyNext;refine wpAny_bind (wpAny_attempt (wpAny_callSpecial?_slot (name:=Str.ofString "__next__") hT PySem.F.slot_enumerate_next (wpAny_call_entry PySem.F.slot_enumerate_next hT PySem.F.entry_enumerate_next ?_ (PySem.F.args_enumerate_next_1 _))));show wpAny _ _ (field (.ref e) 2 >>= _) _ _ _;refine wpAny_bind (wpAny_field he rfl (x:= .ref it) rfl ?_);refine wpAny_bind (zhg hh hit hl hx fun g x he' hx'=>?_);obtain⟨o,ho,hc⟩:=hx';refine wpAny_bind (wpAny_isInstance (T:= "StopIteration") (b:=true) ⟨o,ho,hc⟩ isSubtype_stop ?_);exact wpAny_pure (hQ _ he')
end
noncomputable def zdt (k:Bool) (a:Addr):Obj:={ cls:= .type (if k=true then "list_iterator" else "tuple_iterator"),data:= .fields #[.ref a, .int 0 0] }
theorem zgL{k:Bool}{h:Heap}{it a:Addr}(e:h.get? it=some (zdt k a)):SeqIt k h it a 0:=by
 cases k with
 |true=>exact⟨_,e,rfl,rfl⟩
 |false=>exact⟨_,e,rfl,rfl⟩
theorem zeH{k:Bool}{a:Addr}:(zdt k a).isFreed=false:=by cases k<;>rfl
section
variable {prog:Program}{w:World}{A:Around}{E:Value→Shared→Prop}{s:Shared}
theorem zhp{k:Bool}{a:Addr}{its:Array Value}{Q:Value→Shared→Prop}(ha:SeqIs k s.heap a its) (hQ:Q (.ref s.heap.objs.size) { s with heap:=s.heap.push (zdt k a) }):wpAny (model prog w) A (pyIter (.ref a)) Q E s:=by
 cases k with
 |true=>exact wpAny_pyIter_list ha hQ
 |false=>exact wpAny_pyIter_tuple ha hQ
end
theorem SeqIs.push{k:Bool}{h:Heap}{a:Addr}{its:Array Value}(x:SeqIs k h a its) (o:Obj):SeqIs k (h.push o) a its:=x.at fun _ e=>Heap.get?_push_of_some _ e
theorem zlJ{k:Bool}(l:Addr) (its:Array Value) :
  PySem.Meets (Builtin.«enumerate.__new__» ⟨[.type "enumerate", .ref l],[]⟩) (fun _ R s=>SeqIs k s.heap l its∧
   R (.ok (.ret (.ref (s.heap.push (zdt k l)).objs.size))) { s with heap:=(s.heap.push (zdt k l)).push { cls:= .type "enumerate",data:= .fields #[.none, .bool false, .ref s.heap.objs.size,rawInt 0, .none, .none] } }):=
 .of_wp fun prog w A R s h=>by
  obtain⟨hp,g,d,tk,os⟩:=s;obtain⟨hl,h⟩:=h;have hsub:=sub_enumerate;have hL:SeqIs k (Shared.heap ⟨hp,g,d,tk,os⟩) l its:=hl;have fin:∀{A:Around}{E:Value→Shared→Prop}{Q:Value→Shared→Prop},Q (.ref hp.objs.size) ⟨hp.push (zdt k l),g,d,tk,os⟩→wpAny (model prog w) A (pyIter (.ref l)) Q E ⟨hp,g,d,tk,os⟩:=fun q=>zhp hL q
  wp_walk
  refine wpAny_stack_any fun st=>wpAny_pure ?_;split
  ·rename_i c _ _ _ _ _;cases(c == Value.type "enumerate")
   ·wp_walk using fin
    exact⟨_,rfl,h⟩
   ·wp_walk using fin
    exact⟨_,rfl,h⟩
  ·wp_walk using fin
   exact⟨_,rfl,h⟩
section
variable {prog:Program}{w:World}{A:Around}{E:Value→Shared→Prop}{s:Shared}
theorem znl{k:Bool}{l:Addr}{its:Array Value}{Q:Value→Shared→Prop}(hL:SeqIs k s.heap l its)
  (h:∀g,IsEnum g (s.heap.objs.size+1) s.heap.objs.size 0 .none→SeqIt k g s.heap.objs.size l 0→g.objs.size=s.heap.objs.size+2→(∀b o,s.heap.get? b=some o→g.get? b=some o)→Q (.ref (s.heap.objs.size+1)) { s with heap:=g }) :
  wpAny (model prog w) A (call (.type "enumerate") [.ref l]) Q E s:=by
 refine callType_new PySem.F.called_enumerate (by decide) (PySem.F.typeCall_enumerate_1 _) (PySem.F.newCall_enumerate_1 _) (fun obj=>PySem.F.args_object_init_2 obj _) PySem.F.entry_enumerate_new (zlJ (k:=k) l its) ⟨hL,?_⟩;have hz:(s.heap.push (zdt k l)).objs.size=s.heap.objs.size+1:=Heap.size_push ..;show _∧_;rw [hz];have he:IsEnum ((s.heap.push (zdt k l)).push { cls:= .type "enumerate",data:= .fields #[.none, .bool false, .ref s.heap.objs.size,rawInt 0, .none, .none] }) (s.heap.objs.size+1) s.heap.objs.size 0 .none:=by
  have:=Heap.get?_push_size (s.heap.push (zdt k l)) (o:={ cls:= .type "enumerate",data:= .fields #[.none, .bool false, .ref s.heap.objs.size,rawInt 0, .none, .none] }) rfl;rw [hz]at this;exact this
 exact⟨⟨_,he,rfl⟩,h _ he (zgL (Heap.get?_push_of_some _ (Heap.get?_push_size _ zeH))) (by rw [Heap.size_push,hz]) fun b o x=>Heap.get?_push_of_some _ (Heap.get?_push_of_some _ x)⟩
end
section
variable {X:Cx}{pins:List (Addr×Obj)}{σ:St}{H:Hp}{s:Shared}{g:Heap}{fp:List Addr}
theorem Inv.turnNew{p:Addr}{o:HO}{t':Nat}(I:Inv X pins σ H s) (hp:s.heap.objs.size≤p) (k:∀b u,b∉fp→s.heap.get? b=some u→g.get? b=some u) (hf:∀b∈fp,zhr X pins H b) (new:ObjOk X.prog X.w (upd H p o) g p o) :
  Inv X pins σ (upd H p o) { s with heap:=g,toks:=t' }:=by
 have hn:=I.hok.fresh hp;have lt:∀{b u},s.heap.get? b=some u→b≠p:=fun e=>Nat.ne_of_lt (Nat.lt_of_lt_of_le (Heap.lt_size e) hp);have nfp:∀{b u},H b=some u→b∉fp:=fun e z=>by rw [(hf _ z).1]at e;cases e
 refine I.call (g':=s.gens) (d':=s.drawn) (ch:=fp) ⟨fun b u e _ _ hx=>k b u hx e,fun b u e _ _ hx=>⟨u.slots,k b u hx e⟩,fun b u e n _=>by rw [zav (lt e)];exact n,fun b u e hx=>⟨u,k b u hx e⟩,
  fun b xs e=>by rw [zav (zap e hn)];exact e,fun b u xs e=>by rw [zav (zap e hn)];exact e,fun b ps e=>⟨#[],by rw [zav (zap e hn),e];simp⟩⟩ (fun b u e=>?_) I.bare fun b hb=>⟨(hf b hb).2.2.2.1,(hf b hb).2.1,(hf b hb).2.2.2.2.1,(hf b hb).2.2.2.2.2⟩
 by_cases hb:b=p
 ·subst hb;rw [zat]at e;cases e;exact new
 ·rw [zav hb]at e;refine(I.hok b u e).stay (fun c v hc q=>k c v ?_ q) (fun c q=>by rw [zav (zap q hn)];exact q) fun c xs q=>by rw [zav (zap q hn)];exact q
  rcases hc with rfl |hc
  ·exact nfp e
  ·exact nfp hc
theorem Inv.turnedL{t':Nat}(I:Inv X pins σ H s) (k:∀b u,b∉fp→s.heap.get? b=some u→g.get? b=some u) (hf:∀b∈fp,zhr X pins H b):Inv X pins σ H { s with heap:=g,toks:=t' }:=by
 have nfp:∀{b u},H b=some u→b∉fp:=fun e z=>by rw [(hf _ z).1]at e;cases e
 refine I.call (g':=s.gens) (d':=s.drawn) (ch:=fp) ⟨fun b u e _ _ hx=>k b u hx e,fun b u e _ _ hx=>⟨u.slots,k b u hx e⟩,fun b u e n _=>n,fun b u e hx=>⟨u,k b u hx e⟩,
  fun b xs e=>e,fun b u xs e=>e,fun b ps e=>⟨#[],by rw [e];simp⟩⟩ (fun b u e=>?_) I.bare fun b hb=>⟨(hf b hb).2.2.2.1,(hf b hb).2.1,(hf b hb).2.2.2.2.1,(hf b hb).2.2.2.2.2⟩
 refine(I.hok b u e).stay (fun c v hc q=>k c v ?_ q) (fun c q=>q) fun c xs q=>q;rcases hc with rfl |hc
 ·exact nfp e
 ·exact nfp hc
noncomputable def SqK (k:Bool) (K:PySem.W.Frag) (H:Hp) (a:Addr) (xs:List V):Prop:=if k=true then SqL K H a xs else SqT K H a xs
theorem Inv.seq{k:Bool}{a:Addr}{xs:List V}(I:Inv X pins σ H s) (h:SqK k X.K H a xs):∃its:List Value,Vals xs its∧SeqIs k s.heap a its.toArray∧xs.length≤sizeLine:=by
 cases k with
 |true=>obtain⟨its,r,p,z⟩:=I.list h;exact⟨its,r,p.isList,z⟩
 |false=>obtain⟨its,r,p,z⟩:=I.tuple h;exact⟨its,r,p,z⟩
theorem Inv.seq_inj{k:Bool}{a:Addr}{xs ys:List V}(I:Inv X pins σ H s) (h:SqK k X.K H a xs) (h':SqK k X.K H a ys):xs=ys:=by
 cases k with
 |true=>exact I.list_inj h h'
 |false=>exact I.tuple_inj h h'
end
noncomputable def Ite (k:Bool) (K:PySem.W.Frag) (a:Addr):It:=
 ⟨fun i H=>∃xs x,SqK k K H a xs∧xs[i]? =some x,fun i H v H'=>∃p x,H p=none∧v= .ref p∧H'=upd H p (.tup [.int i,x])∧ ∀xs,SqK k K H a xs→xs[i]? =some x,fun i H=>∃xs,SqK k K H a xs∧xs.length≤i⟩
theorem znA{P:Program}{w:World}{K:PySem.W.Frag}{es:List Expr}{x1:Nat}{pos:Pos}(k:Bool) (a e it:Addr) (hne:e≠it):Turn P w K (.Tuple es x1 pos) (Ite k K a) [e,it] e (fun i h=>(∃old,IsEnum h e it (i:Nat) old)∧SeqIt k h it a i) where
  mem:=by simp
  obj:=fun i h ⟨⟨old,he⟩,hit⟩ b hb=>by
    rcases List.mem_cons.mp hb with rfl |hb
    · exact⟨_,he,fun v z=>by cases z⟩
    · have q:b=it:=by simpa using hb
      subst q;obtain⟨o,vs,e,d⟩:=hit.ob;exact⟨o,e,fun v z=>by rw [d]at z;cases z⟩
  keep:=fun i h h' ⟨⟨old,he⟩,hit⟩ kk=>⟨⟨old,kk e (by simp) _ he⟩,hit.at fun o q=>kk it (by simp) o q⟩
  item:=by
    intro X hP hw hK hc i pins s σ H E I hf st hg;subst hP hw hK;obtain⟨xs,x,hq,hx⟩:=hg;obtain⟨⟨old,he⟩,hit⟩:=st;obtain⟨its,rv,p,hz⟩:=I.seq hq;obtain⟨u,hu,ru⟩:=rv.get hx;refine zmH he hit p (x:=u) (by simpa using hu) hne fun g ho hit' ht hz' kk=>⟨_,rfl,?_⟩;refine wpAny_letOwnedTupleGo_enum ho fun g2 he2 hs2=>?_;have hlt:s.heap.objs.size≠e:=Nat.ne_of_gt (Heap.lt_size he);have kk2:∀b o,b∉ [e,it]→s.heap.get? b=some o→g2.get? b=some o:=fun b o hb q=>by
      have h1:b≠e:=fun z=>hb (by simp [z]);have h2:b≠it:=fun z=>hb (by simp [z]);exact(hs2.2 b h1).trans (kk b o h1 h2 q)
    have hn:=I.hok.fresh (Nat.le_refl s.heap.objs.size);have ht2:g2.get? s.heap.objs.size=some { cls:= .type "tuple",data:= .seq #[.int i s.toks,u] }:=(hs2.2 _ hlt).trans ht;refine⟨.ref s.heap.objs.size,upd H s.heap.objs.size (.tup [.int i,x]),I.turnNew (fp:=[e,it]) (t':=s.toks+1) (Nat.le_refl _) kk2 hf ⟨by show 2≤sizeLine;rw [sizeLine_eq];decide,[.int i s.toks,u], .cons ⟨_,rfl⟩ (.cons ru .nil),⟨_,ht2,rfl,_,rfl⟩⟩,rfl,
      ⟨_,x,hn,rfl,rfl,fun ys hy=>by rw [I.seq_inj hy hq];exact hx⟩,⟨⟨u,by simpa using he2⟩,hit'.at fun o q=>(hs2.2 it (Ne.symm hne)).trans q⟩,fun b hb=>?_⟩
    have hb':=(hf b hb).1;have:b≠s.heap.objs.size:=by
      rcases List.mem_cons.mp hb with rfl |hb
      · exact Ne.symm hlt
      · have q:b=it:=by simpa using hb
        subst q;obtain⟨o,vs,e,d⟩:=hit.ob;exact Nat.ne_of_lt (Heap.lt_size e)
    rw [zav this];exact hb'
  done:=by
    intro X hP hw hK hc i pins s σ H E I hf st hg;subst hP hw hK;obtain⟨xs,hq,hx⟩:=hg;obtain⟨⟨old,he⟩,hit⟩:=st;obtain⟨its,rv,p,hz⟩:=I.seq hq;have hl:=rv.length;exact zoo (I.ok.hd hc) he hit p (by simp;omega) fun g eb=>⟨rfl,I.turnedL (fp:=[e,it]) (t':=s.toks) (fun b o hb q=>eb b o (fun z=>hb (by simp [z])) q) hf⟩
  self:=fun A i s Q E ⟨⟨old,he⟩,hit⟩ h=>wpAny_pyIter_enum he h
section
variable {X:Cx}{es:List Expr}{x1:Nat}{tpos:Pos}
noncomputable def zvB (K:PySem.W.Frag) (ta:TA):TI:=fun σ H R=>ta σ H fun vs H1=>∃k a xs,vs=[.ref a]∧SqK k K H1 a xs∧R (Ite k K a) H1
theorem zsu{a:Expr}{ta:TA}{p pos:Pos}(hg:Gl X "enumerate") (hm:X.mg "enumerate" =none) (ha:PA X [a] ta) (hs:starEach [a] X.env=[(false,eval a X.env)]:=by rfl):PI X (.Tuple es x1 tpos) (.Call (.Name "enumerate" p) [a] [] pos) (zvB X.K ta):=by
 intro pins s σ H R I h;refine Call_ (zeN I hg hm boot_enumerate (PyProof.Rows.callWith_type1 (thn (ha pos pins s σ H _ I h) fun us s1 ⟨vs,H1,I1,r1,q1⟩=>?_) hs rfl));obtain⟨k,a,xs,e,hq,q⟩:=q1;subst e;cases r1 with
 |cons r rr=>
  cases rr;cases(show _=Value.ref a from r);obtain⟨its,rv,pl,hz⟩:=I1.seq hq;refine znl pl fun g he hit hz' kk=>wpAny_pyIter_enum he ?_;have I2:Inv X pins σ H1 { s1 with heap:=g }:=I1.kept (t':=s1.toks) kk;refine⟨s1.heap.objs.size+1,[s1.heap.objs.size+1,s1.heap.objs.size],_,_,H1,rfl,I2,znA k a _ _ (Nat.succ_ne_self _),⟨⟨.none,he⟩,hit⟩,fun b hb=>?_,q⟩;have hb':s1.heap.objs.size≤b:=by
   rcases List.mem_cons.mp hb with rfl |hb
   ·exact Nat.le_succ _
   ·have q:b=s1.heap.objs.size:=by simpa using hb
    exact Nat.le_of_eq q.symm
  exact I1.fpOk hb' (I1.hok.fresh hb')
noncomputable def zgm:Nat→List W→List W
 |_,[]=>[]
 |n,w::ws=> .tup [.int n,w]::zgm (n+1) ws
theorem zke:∀{ws:List W}{n i:Nat}{u:W},(zgm n ws)[i]? =some u→ ∃w,ws[i]? =some w∧u= .tup [.int ((n+i:Nat):Int),w]
 | [],_,_,_,h=>by simp [zgm]at h
 |w::ws,n,0,u,h=>by
  simp [zgm]at h;exact⟨w,rfl,by rw [←h];rfl⟩
 |w::ws,n,i+1,u,h=>by
  obtain⟨w',e,q⟩:=zke (ws:=ws) (n:=n+1) (i:=i) (u:=u) (by simpa [zgm]using h);refine⟨w',by simpa using e,?_⟩
  rw [q,show n+1+i=n+(i+1) by omega]
theorem zjR:∀{ws:List W}{n:Nat},(zgm n ws).length=ws.length
 | [],_=>rfl
 |w::ws,n=>by simp [zgm,zjR (ws:=ws)]
theorem zqW{K:PySem.W.Frag}{k:Bool}{a:Addr}{ws:List W}{G:Sto→Prop}{H0:Hp}{S0:Sto}(h:∀S H,Ext H0 S0 H S→RepS K H S→G S→ ∃vs,SqK k K H a vs∧Reps K H ws vs):ItW K (Ite k K a) (zgm 0 ws) G H0 S0:=fun i S H e hS hG=>by
 obtain⟨vs,hq,r⟩:=h S H e hS hG;refine⟨fun u eu=>?_,fun hl=>⟨vs,hq,by rw [←r.length,hl,zjR];exact Nat.le_refl _⟩⟩
 obtain⟨w,ew,rfl⟩:=zke eu;obtain⟨v,ev,rv⟩:=r.get ew;refine⟨⟨vs,v,hq,ev⟩,fun x H' ⟨p,y,hp,e1,e2,e3⟩=>?_⟩;subst e1 e2;have e4:=e3 vs hq;rw [ev]at e4;cases e4;rw [Nat.zero_add];exact⟨.new hp,hS.new hp, .tup zat (.cons (.int _) (.cons (rv.ext (.new (S:=S) hp)) .nil))⟩
noncomputable def zmP:W→Sto→(List W→(Sto→Prop)→Prop)→Prop
 | .tup ws,_,Q=>Q ws fun _=>True
 | .ref a,S,Q=>zbL S a fun ws=>Q ws fun S'=>S' a=some (.lst ws)
 | .scr ns,_,Q=>Q (ns.map W.int) fun _=>True
 |_,_,_=>False
theorem zrv{K:PySem.W.Frag}{H:Hp}{S:Sto}{w:W}{v:V}{Q:List W→(Sto→Prop)→Prop}(r:Rep K H w v) (hS:RepS K H S) (h:zmP w S Q) :
  ∃k a ws G,v= .ref a∧G S∧(∀S' H',Ext H S H' S'→RepS K H' S'→G S'→ ∃vs,SqK k K H' a vs∧Reps K H' ws vs)∧Q ws G:=by
 cases r with
 |tup f hs=>exact⟨false,_,_,_,rfl,trivial,fun S' H' e hS' _=>⟨_, .of (e.tup _ _ f),hs.ext e⟩,h⟩
 |ref a=>
  obtain⟨ws,ea,h⟩:=zaU h;exact⟨true,_,ws,_,rfl,ea,fun S' H' e hS' g=>by
   obtain⟨vs,f,hs⟩:=hS' a _ g;exact⟨vs, .of f,hs⟩,h⟩
 |scr f=>exact⟨true,_,_,_,rfl,trivial,fun S' H' e hS' _=>⟨_,(e.fz f).sq,Reps.ofInts _⟩,h⟩
 |_=>exact h.elim
noncomputable def znR (t:WE):WI:=fun E σ S Q=>t E σ S fun w S1=>zmP w S1 fun ws G=>Q (zgm 0 ws) G S1
theorem zjo{a:Expr}{ta:WE}{p pos:Pos}(hg:Gl X "enumerate") (hm:X.mg "enumerate" =none) (ha:JE X a ta) (hs:starEach [a] X.env=[(false,eval a X.env)]:=by rfl) (hs2:starEach [a] X.env=(false,eval a X.env)::starEach [] X.env:=by rfl):JI X (.Tuple es x1 tpos) (.Call (.Name "enumerate" p) [a] [] pos) (znR ta):=fun E hE=>
 (zsu hg hm (zcy (ha E hE) pa_nil hs2) hs).mono fun σ H R ⟨σW,S,QW,hσ,hS,ht,hR⟩=>⟨σW,S,_,hσ,hS,ht,fun w S1 v H1 e1 r1 hS1 h1=>by
  obtain⟨k,a,ws,G,rfl,hG,hq,h⟩:=zrv r1 hS1 h1;obtain⟨vs,hv,_⟩:=hq S1 H1 .refl hS1 hG;exact⟨k,a,vs,rfl,hv,hR _ _ S1 _ H1 e1 hS1 hG (zqW hq) h⟩⟩
end
section
variable {prog:Program}{w:World}{A:Around}{E:Value→Shared→Prop}{s:Shared}
theorem zpt{k1 k2:Bool}{z TI TO i1 i2 l1 l2:Addr}{n1 n2:Nat}{xs ys:Array Value}{x y a b:Value}{Q:Option Value→Shared→Prop}(D:ZipApart z TI TO i1 i2 l1 l2)
  (hz:IsZip s.heap z TI TO .none) (hTI:IsPair s.heap TI (.ref i1) (.ref i2)) (hTO:IsPair s.heap TO a b) (h1:SeqIt k1 s.heap i1 l1 n1) (h2:SeqIt k2 s.heap i2 l2 n2) (hl1:SeqIs k1 s.heap l1 xs) (hl2:SeqIs k2 s.heap l2 ys) (hx:xs[n1]? =some x) (hy:ys[n2]? =some y)
  (hQ:∀g,IsZip g z TI TO (rawInt s.heap.objs.size)→IsPair g TO x y→SeqIt k1 g i1 l1 (n1+1)→SeqIt k2 g i2 l2 (n2+1)→IsPair g s.heap.objs.size x y→g.objs.size=s.heap.objs.size+1→
   (∀c o,c≠z→c≠TO→c≠i1→c≠i2→s.heap.get? c=some o→g.get? c=some o)→Q (some (.ref s.heap.objs.size)) { s with heap:=g }):wpAny (model prog w) A (pyNext (.ref z)) Q E s:=by
 have hT:s.TypeIs (.ref z) "zip" :=⟨_,hz,rfl⟩;unfold pyNext;refine wpAny_bind (wpAny_attempt (wpAny_callSpecial?_slot (name:=Str.ofString "__next__") hT PySem.F.slot_zip_next (wpAny_call_entry PySem.F.slot_zip_next hT PySem.F.entry_zip_next ?_ (PySem.F.args_zip_next_1 _))));show wpAny _ _ (field (.ref z) 2 >>= _) _ _ _;refine wpAny_bind (wpAny_field hz rfl (x:= .bool false) rfl ?_);show wpAny _ _ (field (.ref z) 3 >>= _) _ _ _;refine wpAny_bind (wpAny_field hz rfl (x:= .ref TI) rfl ?_);refine wpAny_bind (wpAny_seqItems hTI rfl ?_);show wpAny _ _ (Builtin.SmallTypes.ownedTupleIsFree (.ref z) >>= _) _ _ _;refine wpAny_bind ?_;unfold Builtin.SmallTypes.ownedTupleIsFree;refine wpAny_bind (wpAny_field hz rfl (x:= .none) rfl (wpAny_pure ?_));simp only[if_true];refine wpAny_bind (wpAny_rule ?_);refine wpAny_bind (wpAny_field hz rfl (x:= .ref TO) rfl ?_);refine wpAny_bind (wpAny_setField_rec hz (by simp) fun g1 hz1 hs1=>?_);replace hz1:IsZip g1 z TI TO .ellipsis:=hz1;refine wpAny_bind ?_;simp only[List.zipIdx_cons,List.zipIdx_nil,List.forIn_cons,List.forIn_nil];refine wpAny_bind (wpAny_bind (wpAny_onRaise ?_));show wpAny _ _ (Builtin.SmallTypes.nextOf (.ref i1) >>= _) _ _ _;refine wpAny_bind (zeq (h1.at fun o e=>hs1.extBut _ o D.i1z e) (hl1.at fun o e=>hs1.extBut _ o D.l1z e) hx fun g2 h12 hs2=>wpAny_pure ?_);have hTO2:IsPair g2 TO a b:=hs2.extBut _ _ D.TOi1 (hs1.extBut _ _ D.TOz hTO);refine wpAny_bind (wpAny_seqItems hTO2 rfl ?_);refine wpAny_bind (wpAny_updateSeq_pair hTO2 fun g3 hTO3 hs3=>?_);replace hTO3:IsPair g3 TO x b:=hTO3;refine wpAny_bind (wpAny_letGo (wpAny_pure ?_));refine wpAny_bind (wpAny_bind (wpAny_onRaise ?_));show wpAny _ _ (Builtin.SmallTypes.nextOf (.ref i2) >>= _) _ _ _;refine wpAny_bind (zeq (h2.at fun o e=>hs3.extBut _ o D.TOi2.symm (hs2.extBut _ o D.i12.symm (hs1.extBut _ o D.i2z e))) (hl2.at fun o e=>hs3.extBut _ o D.l2TO (hs2.extBut _ o D.l2i1 (hs1.extBut _ o D.l2z e))) hy fun g4 h24 hs4=>wpAny_pure ?_);have hTO4:IsPair g4 TO x b:=hs4.extBut _ _ D.TOi2 hTO3;refine wpAny_bind (wpAny_seqItems hTO4 rfl ?_);refine wpAny_bind (wpAny_updateSeq_pair hTO4 fun g5 hTO5 hs5=>?_);replace hTO5:IsPair g5 TO x y:=hTO5;refine wpAny_bind (wpAny_letGo (wpAny_pure (wpAny_pure ?_)));refine wpAny_bind (wpAny_seqItems hTO5 rfl ?_);refine wpAny_bind (wpAny_newTuple ?_);have hsz:g5.objs.size=s.heap.objs.size:=by rw [hs5.1,hs4.1,hs3.1,hs2.1,hs1.1]
 have hz5:IsZip g5 z TI TO .ellipsis:=hs5.extBut _ _ D.TOz.symm (hs4.extBut _ _ D.i2z.symm (hs3.extBut _ _ D.TOz.symm (hs2.extBut _ _ D.i1z.symm hz1)));have hk5:∀c o,c≠z→c≠TO→c≠i1→c≠i2→s.heap.get? c=some o→g5.get? c=some o:=fun c o c1 c2 c3 c4 e=>hs5.extBut _ _ c2 (hs4.extBut _ _ c4 (hs3.extBut _ _ c2 (hs2.extBut _ _ c3 (hs1.extBut _ _ c1 e))));have h15:SeqIt k1 g5 i1 l1 (n1+1):=h12.at fun o e=>hs5.extBut _ o D.TOi1.symm (hs4.extBut _ o D.i12 (hs3.extBut _ o D.TOi1.symm e));have h25:SeqIt k2 g5 i2 l2 (n2+1):=h24.at fun o e=>hs5.extBut _ o D.TOi2.symm e;have hzlt:z<g5.objs.size:=Heap.lt_size hz5;show wpAny _ _ (Builtin.SmallTypes.ownedTupleHandOut (.ref z) (.ref g5.objs.size) >>= _) _ _ _;refine wpAny_bind ?_;unfold Builtin.SmallTypes.ownedTupleHandOut;have hz6:IsZip (g5.push { cls:= .type "tuple",data:= .seq #[x,y] }) z TI TO .ellipsis:=Heap.get?_push_of_some _ hz5;refine wpAny_bind (wpAny_setField_rec hz6 (by simp) fun g7 hz7 hs7=>?_);replace hz7:IsZip g7 z TI TO (rawInt g5.objs.size):=hz7;refine wpAny_setField_rec hz7 (by simp) fun g8 hz8 hs8=>?_;replace hz8:IsZip g8 z TI TO (rawInt g5.objs.size):=hz8;have up:∀c o,c≠z→g5.get? c=some o→g8.get? c=some o:=fun c o c1 e=>hs8.extBut _ _ c1 (hs7.extBut _ _ c1 (Heap.get?_push_of_some _ e));have hT8:IsPair g8 g5.objs.size x y:=hs8.extBut _ _ (Nat.ne_of_gt hzlt) (hs7.extBut _ _ (Nat.ne_of_gt hzlt) (Heap.get?_push_size _ rfl));have hzz:g8.objs.size=g5.objs.size+1:=by rw [hs8.1,hs7.1,Heap.size_push]
 rw [hsz]at hz8 hT8 hzz;refine wpAny_pure ⟨_,rfl,wpAny_pure ?_⟩;show Q (some (.ref g5.objs.size)) _;rw [hsz];exact hQ g8 hz8 (up _ _ D.TOz hTO5) (h15.at fun o e=>up _ o D.i1z e) (h25.at fun o e=>up _ o D.i2z e) hT8 hzz fun c o c1 c2 c3 c4 e=>up c o c1 (hk5 c o c1 c2 c3 c4 e)
theorem zse{k1 k2:Bool}{z TI TO i1 i2 l1 l2:Addr}{n1 n2:Nat}{xs ys:Array Value}{a b:Value}{Q:Option Value→Shared→Prop}(hh:A.handled=none) (D:ZipApart z TI TO i1 i2 l1 l2)
  (hz:IsZip s.heap z TI TO .none) (hTI:IsPair s.heap TI (.ref i1) (.ref i2)) (hTO:IsPair s.heap TO a b) (h1:SeqIt k1 s.heap i1 l1 n1) (h2:SeqIt k2 s.heap i2 l2 n2) (hl1:SeqIs k1 s.heap l1 xs) (hl2:SeqIs k2 s.heap l2 ys) (hend:xs[n1]? =none∨ys[n2]? =none)
  (hQ:∀g,(∀c o,c≠z→c≠TO→c≠i1→c≠i2→s.heap.get? c=some o→g.get? c=some o)→Q none { s with heap:=g }):wpAny (model prog w) A (pyNext (.ref z)) Q E s:=by
 have hT:s.TypeIs (.ref z) "zip" :=⟨_,hz,rfl⟩;have fin:∀(g:Heap) (e:Addr),(∀c o,c≠z→c≠TO→c≠i1→c≠i2→s.heap.get? c=some o→g.get? c=some o)→(∃o,g.get? e=some o∧o.cls= .type "StopIteration")→
   wpAny (model prog w) A (do if(←isInstance (.ref e) (.type "StopIteration")) then pure none else throw (.ref e)) Q E { s with heap:=g }:=fun g e hk ⟨o,ho,hc⟩=>
  wpAny_bind (wpAny_isInstance (T:= "StopIteration") (b:=true) ⟨o,ho,hc⟩ isSubtype_stop (wpAny_pure (hQ _ hk)))
 unfold pyNext;refine wpAny_bind (wpAny_attempt (wpAny_callSpecial?_slot (name:=Str.ofString "__next__") hT PySem.F.slot_zip_next (wpAny_call_entry PySem.F.slot_zip_next hT PySem.F.entry_zip_next ?_ (PySem.F.args_zip_next_1 _))));show wpAny _ _ (field (.ref z) 2 >>= _) _ _ _;refine wpAny_bind (wpAny_field hz rfl (x:= .bool false) rfl ?_);show wpAny _ _ (field (.ref z) 3 >>= _) _ _ _;refine wpAny_bind (wpAny_field hz rfl (x:= .ref TI) rfl ?_);refine wpAny_bind (wpAny_seqItems hTI rfl ?_);show wpAny _ _ (Builtin.SmallTypes.ownedTupleIsFree (.ref z) >>= _) _ _ _;refine wpAny_bind ?_;unfold Builtin.SmallTypes.ownedTupleIsFree;refine wpAny_bind (wpAny_field hz rfl (x:= .none) rfl (wpAny_pure ?_));simp only[if_true];refine wpAny_bind (wpAny_rule ?_);refine wpAny_bind (wpAny_field hz rfl (x:= .ref TO) rfl ?_);refine wpAny_bind (wpAny_setField_rec hz (by simp) fun g1 hz1 hs1=>?_);replace hz1:IsZip g1 z TI TO .ellipsis:=hz1;refine wpAny_bind ?_;simp only[List.zipIdx_cons,List.zipIdx_nil,List.forIn_cons,List.forIn_nil];refine wpAny_bind (wpAny_bind (wpAny_onRaise ?_));show wpAny _ _ (Builtin.SmallTypes.nextOf (.ref i1) >>= _) _ _ _;cases hx:xs[n1]? with
 |none=>
  refine wpAny_bind (zhg hh (h1.at fun o e=>hs1.extBut _ o D.i1z e) (hl1.at fun o e=>hs1.extBut _ o D.l1z e) hx fun g2 e hs2 he=>?_);obtain⟨oe,hoe,hce⟩:=he;have hz2:IsZip g2 z TI TO .ellipsis:=hs2 _ _ D.i1z.symm hz1;have hez:e≠z:=fun x=>by subst x;rw [hz2]at hoe;cases hoe;simp at hce
  refine wpAny_setField_rec hz2 (by simp) fun g3 _ hs3=>fin g3 e (fun c o c1 _ c3 _ x=>hs3.extBut _ _ c1 (hs2 _ _ c3 (hs1.extBut _ _ c1 x))) ⟨oe,hs3.extBut _ _ hez hoe,hce⟩
 |some x=>
  have hy:ys[n2]? =none:=by rcases hend with h |h;rw [hx]at h;cases h;exact h
  refine wpAny_bind (zeq (h1.at fun o e=>hs1.extBut _ o D.i1z e) (hl1.at fun o e=>hs1.extBut _ o D.l1z e) hx fun g2 h12 hs2=>wpAny_pure ?_);have hTO2:IsPair g2 TO a b:=hs2.extBut _ _ D.TOi1 (hs1.extBut _ _ D.TOz hTO);refine wpAny_bind (wpAny_seqItems hTO2 rfl ?_);refine wpAny_bind (wpAny_updateSeq_pair hTO2 fun g3 hTO3 hs3=>?_);refine wpAny_bind (wpAny_letGo (wpAny_pure ?_));refine wpAny_bind (wpAny_bind (wpAny_onRaise ?_));show wpAny _ _ (Builtin.SmallTypes.nextOf (.ref i2) >>= _) _ _ _;refine wpAny_bind (zhg hh (h2.at fun o e=>hs3.extBut _ o D.TOi2.symm (hs2.extBut _ o D.i12.symm (hs1.extBut _ o D.i2z e))) (hl2.at fun o e=>hs3.extBut _ o D.l2TO (hs2.extBut _ o D.l2i1 (hs1.extBut _ o D.l2z e))) hy fun g4 e hs4 he=>?_);obtain⟨oe,hoe,hce⟩:=he;have hz4:IsZip g4 z TI TO .ellipsis:=hs4 _ _ D.i2z.symm (hs3.extBut _ _ D.TOz.symm (hs2.extBut _ _ D.i1z.symm hz1));have hez:e≠z:=fun x=>by subst x;rw [hz4]at hoe;cases hoe;simp at hce
  refine wpAny_setField_rec hz4 (by simp) fun g5 _ hs5=>fin g5 e (fun c o c1 c2 c3 c4 x=>hs5.extBut _ _ c1 (hs4 _ _ c4 (hs3.extBut _ _ c2 (hs2.extBut _ _ c3 (hs1.extBut _ _ c1 x))))) ⟨oe,hs5.extBut _ _ hez hoe,hce⟩
end
noncomputable abbrev zH1 (k1:Bool) (h:Heap) (l1:Addr):Heap:=h.push (zdt k1 l1)
noncomputable abbrev zH2 (k1 k2:Bool) (h:Heap) (l1 l2:Addr):Heap:=(zH1 k1 h l1).push (zdt k2 l2)
noncomputable abbrev zH3 (k1 k2:Bool) (h:Heap) (l1 l2:Addr):Heap:=(zH2 k1 k2 h l1 l2).push { cls:= .type "tuple",data:= .seq #[.ref h.objs.size, .ref (zH1 k1 h l1).objs.size] }
noncomputable abbrev zH4 (k1 k2:Bool) (h:Heap) (l1 l2:Addr):Heap:=(zH3 k1 k2 h l1 l2).push { cls:= .type "tuple",data:= .seq #[.none, .none] }
noncomputable abbrev zH5 (k1 k2:Bool) (h:Heap) (l1 l2:Addr):Heap:=(zH4 k1 k2 h l1 l2).push { cls:= .type "zip",data:= .fields #[.none, .bool false, .bool false, .ref (zH2 k1 k2 h l1 l2).objs.size, .ref (zH3 k1 k2 h l1 l2).objs.size] }
theorem zlk{k1 k2:Bool}(l1 l2:Addr) (xs ys:Array Value) :
  PySem.Meets (Builtin.«zip.__new__» ⟨[.type "zip", .ref l1, .ref l2],[]⟩) (fun _ R s=>SeqIs k1 s.heap l1 xs∧SeqIs k2 s.heap l2 ys∧R (.ok (.ret (.ref (zH4 k1 k2 s.heap l1 l2).objs.size))) { s with heap:=zH5 k1 k2 s.heap l1 l2 }):=
 .of_wp fun prog w A R s h=>by
  obtain⟨hp,g,d,tk,os⟩:=s;obtain⟨hl1,hl2,h⟩:=h;have hsub:=sub_zip;have f1:∀{A:Around}{E:Value→Shared→Prop}{Q:Value→Shared→Prop},Q (.ref hp.objs.size) ⟨hp.push (zdt k1 l1),g,d,tk,os⟩→wpAny (model prog w) A (pyIter (.ref l1)) Q E ⟨hp,g,d,tk,os⟩:=fun q=>zhp (s:=⟨hp,g,d,tk,os⟩) hl1 q;have f2:∀{A:Around}{E:Value→Shared→Prop}{Q:Value→Shared→Prop},Q (.ref (hp.push (zdt k1 l1)).objs.size) ⟨(hp.push (zdt k1 l1)).push (zdt k2 l2),g,d,tk,os⟩→wpAny (model prog w) A (pyIter (.ref l2)) Q E ⟨hp.push (zdt k1 l1),g,d,tk,os⟩:=fun q=>zhp (s:=⟨hp.push (zdt k1 l1),g,d,tk,os⟩) (hl2.push _) q
  wp_walk using f1,f2
  exact⟨_,rfl,h⟩
section
variable {prog:Program}{w:World}{A:Around}{E:Value→Shared→Prop}{s:Shared}
theorem zor{k1 k2:Bool}{l1 l2:Addr}{xs ys:Array Value}{Q:Value→Shared→Prop}(hl1:SeqIs k1 s.heap l1 xs) (hl2:SeqIs k2 s.heap l2 ys)
  (h:∀g,IsZip g (s.heap.objs.size+4) (s.heap.objs.size+2) (s.heap.objs.size+3) .none→IsPair g (s.heap.objs.size+2) (.ref s.heap.objs.size) (.ref (s.heap.objs.size+1))→
   IsPair g (s.heap.objs.size+3) .none .none→SeqIt k1 g s.heap.objs.size l1 0→SeqIt k2 g (s.heap.objs.size+1) l2 0→g.objs.size=s.heap.objs.size+5→
   (∀c o,s.heap.get? c=some o→g.get? c=some o)→Q (.ref (s.heap.objs.size+4)) { s with heap:=g }):wpAny (model prog w) A (call (.type "zip") [.ref l1, .ref l2]) Q E s:=by
 refine callType_new PySem.F.called_zip (by decide) (PySem.F.typeCall_zip_2 _ _) (PySem.F.newCall_zip_2 _ _) (fun obj=>PySem.F.args_object_init_3 obj _ _) PySem.F.entry_zip_new (zlk (k1:=k1) (k2:=k2) l1 l2 xs ys) ⟨hl1,hl2,?_⟩;have z1:(zH1 k1 s.heap l1).objs.size=s.heap.objs.size+1:=Heap.size_push ..;have z2:(zH2 k1 k2 s.heap l1 l2).objs.size=s.heap.objs.size+2:=by rw [Heap.size_push,z1]
 have z3:(zH3 k1 k2 s.heap l1 l2).objs.size=s.heap.objs.size+3:=by rw [Heap.size_push,z2]
 have z4:(zH4 k1 k2 s.heap l1 l2).objs.size=s.heap.objs.size+4:=by rw [Heap.size_push,z3]
 have z5:(zH5 k1 k2 s.heap l1 l2).objs.size=s.heap.objs.size+5:=by rw [Heap.size_push,z4]
 have g5:(zH5 k1 k2 s.heap l1 l2).get? (zH4 k1 k2 s.heap l1 l2).objs.size=some _:=Heap.get?_push_size _ rfl;have g4:(zH5 k1 k2 s.heap l1 l2).get? (zH3 k1 k2 s.heap l1 l2).objs.size=some _:=Heap.get?_push_of_some _ (Heap.get?_push_size _ rfl);have g3:(zH5 k1 k2 s.heap l1 l2).get? (zH2 k1 k2 s.heap l1 l2).objs.size=some _:=Heap.get?_push_of_some _ (Heap.get?_push_of_some _ (Heap.get?_push_size _ rfl));have g2:(zH5 k1 k2 s.heap l1 l2).get? (zH1 k1 s.heap l1).objs.size=some _:=Heap.get?_push_of_some _ (Heap.get?_push_of_some _ (Heap.get?_push_of_some _ (Heap.get?_push_size _ zeH)));have g1:(zH5 k1 k2 s.heap l1 l2).get? s.heap.objs.size=some _:=Heap.get?_push_of_some _ (Heap.get?_push_of_some _ (Heap.get?_push_of_some _ (Heap.get?_push_of_some _ (Heap.get?_push_size _ zeH))));show _∧_;rw [z2,z3,z4]at g5;rw [z1,z2]at g3;rw [z3]at g4;rw [z1]at g2;rw [z4];exact⟨⟨_,g5,rfl⟩,h _ g5 g3 g4 (zgL g1) (zgL g2) z5 fun c o x=>Heap.get?_push_of_some _ (Heap.get?_push_of_some _ (Heap.get?_push_of_some _ (Heap.get?_push_of_some _ (Heap.get?_push_of_some _ x))))⟩
end
noncomputable def SqZ (k:Bool) (K:PySem.W.Frag) (H:Hp) (a:Addr) (xs:List V):Prop:=if k=true then SqL K H a xs else H a=some (.tup xs)
theorem SqZ.sq{k:Bool}{K:PySem.W.Frag}{H:Hp}{a:Addr}{xs:List V}(h:SqZ k K H a xs):SqK k K H a xs:=by
 cases k with
 |true=>exact h
 |false=>exact .of h
theorem SeqIs.ob{k:Bool}{h:Heap}{a:Addr}{its:Array Value}(x:SeqIs k h a its):∃o n,h.get? a=some o∧o.data= .seq its n∧(k=true→o.cls= .type "list"):=by
 cases k with
 |true=>obtain⟨o,ho,hc,n,hd⟩:=(show h.IsList a its from x);exact⟨o,n,ho,hd,fun _=>hc⟩
 |false=>obtain⟨o,ho,hc,n,hd⟩:=(show h.IsTuple a its from x);exact⟨o,n,ho,hd,fun z=>by cases z⟩
theorem SeqIs.ne_fields{k:Bool}{h:Heap}{a b:Addr}{its:Array Value}{o:Obj}{vs:Array Value}(x:SeqIs k h a its) (e:h.get? b=some o) (d:o.data= .fields vs):a≠b:=fun z=>by
 subst z;obtain⟨o',n,ho,hd,_⟩:=x.ob;rw [ho]at e;cases e;rw [hd]at d;cases d
noncomputable def Itz (k1 k2:Bool) (K:PySem.W.Frag) (a b:Addr):It:=
  ⟨fun i H=>∃xs ys x y,SqZ k1 K H a xs∧SqZ k2 K H b ys∧xs[i]? =some x∧ys[i]? =some y,
   fun i H v H'=>∃p x y,H p=none∧v= .ref p∧H'=upd H p (.tup [x,y])∧(∀xs,SqZ k1 K H a xs→xs[i]? =some x)∧ ∀ys,SqZ k2 K H b ys→ys[i]? =some y,
   fun i H=>∃xs ys,SqZ k1 K H a xs∧SqZ k2 K H b ys∧(xs.length≤i∨ys.length≤i)⟩
structure ZipFar (z TI TO i1 i2:Addr):Prop where
  TIz:TI≠z
  TOz:TO≠z
  i1z:i1≠z
  i2z:i2≠z
  TITO:TI≠TO
  TIi1:TI≠i1
  TIi2:TI≠i2
  TOi1:TO≠i1
  TOi2:TO≠i2
  i12:i1≠i2
noncomputable def ztF (k1 k2:Bool) (z TI TO i1 i2 a b:Addr) (i:Nat) (h:Heap):Prop:=IsZip h z TI TO .none∧IsPair h TI (.ref i1) (.ref i2)∧(∃u v,IsPair h TO u v)∧SeqIt k1 h i1 a i∧SeqIt k2 h i2 b i
section
variable {X:Cx}{pins:List (Addr×Obj)}{σ:St}{H:Hp}{s:Shared}
theorem zhM{k1 k2:Bool}{z TI TO i1 i2 a b:Addr}{i:Nat}{xs ys:List V}(I:Inv X pins σ H s) (hTO:H TO=none) (D:ZipFar z TI TO i1 i2) (st:ztF k1 k2 z TI TO i1 i2 a b i s.heap) (ha:SqZ k1 X.K H a xs) (hb:SqZ k2 X.K H b ys):ZipApart z TI TO i1 i2 a b:=by
 obtain⟨hz,hTI,⟨u,v,hTOo⟩,h1,h2⟩:=st;obtain⟨o1,v1,e1,d1⟩:=h1.ob;obtain⟨o2,v2,e2,d2⟩:=h2.ob;obtain⟨its,_,pa,_⟩:=I.seq ha.sq;obtain⟨its2,_,pb,_⟩:=I.seq hb.sq;have nTO:∀{k:Bool}{c:Addr}{zs:List V}{its:Array Value},SqZ k X.K H c zs→SeqIs k s.heap c its→c≠TO:=fun {k c zs its} hc pc e=>by
  subst e;cases k with
  |false=>rw [show H c=some (.tup zs) from hc]at hTO;cases hTO
  |true=>
   obtain⟨o,n,ho,_,hcl⟩:=pc.ob;rw [hTOo]at ho;cases ho;have:=hcl rfl;simp at this
 exact⟨D.TIz,D.TOz,D.i1z,D.i2z,D.TITO,D.TIi1,D.TIi2,D.TOi1,D.TOi2,D.i12,pa.ne_fields hz rfl,nTO ha pa,pa.ne_fields e1 d1,pa.ne_fields e2 d2,pb.ne_fields hz rfl,nTO hb pb,pb.ne_fields e1 d1,pb.ne_fields e2 d2⟩
end
theorem zoy{P:Program}{w:World}{K:PySem.W.Frag}{es:List Expr}{x1:Nat}{pos:Pos}(k1 k2:Bool) (a b z TI TO i1 i2:Addr) (D:ZipFar z TI TO i1 i2):Turn P w K (.Tuple es x1 pos) (Itz k1 k2 K a b) [z,TI,TO,i1,i2] z (ztF k1 k2 z TI TO i1 i2 a b) where
  mem:=by simp
  obj:=fun i h ⟨hz,hTI,⟨u,v,hTO⟩,h1,h2⟩ c hc=>by
    obtain⟨o1,v1,e1,d1⟩:=h1.ob;obtain⟨o2,v2,e2,d2⟩:=h2.ob;simp only[List.mem_cons,List.not_mem_nil,or_false]at hc;rcases hc with rfl |rfl |rfl |rfl |rfl
    · exact⟨_,hz,fun v z=>by cases z⟩
    · exact⟨_,hTI,fun v z=>by cases z⟩
    · exact⟨_,hTO,fun v z=>by cases z⟩
    · exact⟨_,e1,fun v z=>by rw [d1]at z;cases z⟩
    · exact⟨_,e2,fun v z=>by rw [d2]at z;cases z⟩
  keep:=fun i h h' ⟨hz,hTI,⟨u,v,hTO⟩,h1,h2⟩ kk=>⟨kk z (by simp) _ hz,kk TI (by simp) _ hTI,⟨u,v,kk TO (by simp) _ hTO⟩,h1.at fun o q=>kk i1 (by simp) o q,h2.at fun o q=>kk i2 (by simp) o q⟩
  item:=by
    intro X hP hw hK hc i pins s σ H E I hf st hg;subst hP hw hK;obtain⟨xs,ys,x,y,ha,hb,hx,hy⟩:=hg;have Z:=zhM I (hf TO (by simp)).1 D st ha hb;obtain⟨hz,hTI,⟨c0,d0,hTO⟩,h1,h2⟩:=st;obtain⟨its,rv,pa,_⟩:=I.seq ha.sq;obtain⟨its2,rv2,pb,_⟩:=I.seq hb.sq;obtain⟨u,hu,ru⟩:=rv.get hx;obtain⟨u2,hu2,ru2⟩:=rv2.get hy;refine zpt Z hz hTI hTO h1 h2 pa pb (x:=u) (y:=u2) (by simpa using hu) (by simpa using hu2) fun g hz1 hTO1 h11 h21 hp hz' kk=>⟨_,rfl,?_⟩;refine wpAny_letOwnedTupleGo_zip hz1 fun g2 hz2 hs2=>?_;have hs2':∀c o,c≠z→g.get? c=some o→g2.get? c=some o:=fun c o hc e=>(hs2.2 c hc).trans e;have kk2:∀c o,c∉ [z,TI,TO,i1,i2]→s.heap.get? c=some o→g2.get? c=some o:=fun c o hc q=>by
      simp only[List.mem_cons,List.not_mem_nil,or_false,not_or]at hc;exact hs2' c o hc.1 (kk c o hc.1 hc.2.2.1 hc.2.2.2.1 hc.2.2.2.2 q)
    have hn:=I.hok.fresh (Nat.le_refl s.heap.objs.size);have hpz:s.heap.objs.size≠z:=Nat.ne_of_gt (Heap.lt_size hz);have ht2:g2.get? s.heap.objs.size=some { cls:= .type "tuple",data:= .seq #[u,u2] }:=hs2' _ _ hpz hp;refine⟨.ref s.heap.objs.size,upd H s.heap.objs.size (.tup [x,y]),I.turnNew (fp:=[z,TI,TO,i1,i2]) (t':=s.toks) (Nat.le_refl _) kk2 hf ⟨by show 2≤sizeLine;rw [sizeLine_eq];decide,[u,u2], .cons ru (.cons ru2 .nil),⟨_,ht2,rfl,_,rfl⟩⟩,rfl,
      ⟨_,x,y,hn,rfl,rfl,fun zs hy=>by rw [I.seq_inj hy.sq ha.sq];exact hx,fun zs hy'=>by rw [I.seq_inj hy'.sq hb.sq];exact hy⟩,
      ⟨hz2,hs2' _ _ D.TIz (kk _ _ D.TIz D.TITO D.TIi1 D.TIi2 hTI),⟨u,u2,hs2' _ _ D.TOz hTO1⟩,h11.at fun o q=>hs2' _ o D.i1z q,h21.at fun o q=>hs2' _ o D.i2z q⟩,fun c hc=>?_⟩
    have hlt:∃o,s.heap.get? c=some o:=by
      obtain⟨o1,v1,e1,d1⟩:=h1.ob;obtain⟨o2,v2,e2,d2⟩:=h2.ob;simp only[List.mem_cons,List.not_mem_nil,or_false]at hc;rcases hc with rfl |rfl |rfl |rfl |rfl
      · exact⟨_,hz⟩
      · exact⟨_,hTI⟩
      · exact⟨_,hTO⟩
      · exact⟨_,e1⟩
      · exact⟨_,e2⟩
    obtain⟨o,ho⟩:=hlt;rw [zav (Nat.ne_of_lt (Heap.lt_size ho))];exact(hf c hc).1
  done:=by
    intro X hP hw hK hc i pins s σ H E I hf st hg;subst hP hw hK;obtain⟨xs,ys,ha,hb,hx⟩:=hg;have Z:=zhM I (hf TO (by simp)).1 D st ha hb;obtain⟨hz,hTI,⟨c0,d0,hTO⟩,h1,h2⟩:=st;obtain⟨its,rv,pa,_⟩:=I.seq ha.sq;obtain⟨its2,rv2,pb,_⟩:=I.seq hb.sq;have hl:=rv.length;have hl2:=rv2.length;refine zse (I.ok.hd hc) Z hz hTI hTO h1 h2 pa pb ?_ fun g eb=>⟨rfl,I.turnedL (fp:=[z,TI,TO,i1,i2]) (t':=s.toks) (fun c o hc q=>?_) hf⟩
    · rcases hx with hx |hx
      · exact .inl (by simp;omega)
      · exact .inr (by simp;omega)
    · simp only[List.mem_cons,List.not_mem_nil,or_false,not_or]at hc;exact eb c o hc.1 hc.2.2.1 hc.2.2.2.1 hc.2.2.2.2 q
  self:=fun A i s Q E st h=>wpAny_pyIter_zip st.1 h
section
variable {X:Cx}{es:List Expr}{x1:Nat}{tpos:Pos}
noncomputable def zxq (K:PySem.W.Frag) (ta:TA):TI:=fun σ H R=>ta σ H fun vs H1=>∃k1 k2 a b xs ys,vs=[.ref a, .ref b]∧SqZ k1 K H1 a xs∧SqZ k2 K H1 b ys∧R (Itz k1 k2 K a b) H1
theorem zsL{a b:Expr}{ta:TA}{p pos:Pos}(hg:Gl X "zip") (hm:X.mg "zip" =none) (ha:PA X [a,b] ta) (hs:starEach [a,b] X.env=[(false,eval a X.env),(false,eval b X.env)]:=by rfl) (hs2:starEach [b] X.env=[(false,eval b X.env)]:=by rfl):PI X (.Tuple es x1 tpos) (.Call (.Name "zip" p) [a,b] [] pos) (zxq X.K ta):=by
 intro pins s σ H R I h;refine Call_ (zeN I hg hm boot_zip (PyProof.Rows.callWith_type1 (thn (ha pos pins s σ H _ I h) fun us s1 ⟨vs,H1,I1,r1,q1⟩=>?_) (by rw [hs,hs2]) (by rw [hs2];rfl)));obtain⟨k1,k2,a,b,xs,ys,e,hq1,hq2,q⟩:=q1;subst e;cases r1 with
 |cons r rr=>
  cases rr with
  |cons r' rr=>
   cases rr;cases(show _=Value.ref a from r);cases(show _=Value.ref b from r');obtain⟨its,rv,pl,_⟩:=I1.seq hq1.sq;obtain⟨its2,rv2,pl2,_⟩:=I1.seq hq2.sq;refine zor pl pl2 fun g hz hTI hTO h1 h2 hz' kk=>wpAny_pyIter_zip hz ?_;have I2:Inv X pins σ H1 { s1 with heap:=g }:=I1.kept (t':=s1.toks) kk;have ne:∀(n i j:Nat),i≠j→n+i≠n+j:=fun n i j h e=>h (Nat.add_left_cancel e);have D:ZipFar (s1.heap.objs.size+4) (s1.heap.objs.size+2) (s1.heap.objs.size+3) s1.heap.objs.size (s1.heap.objs.size+1):=
    ⟨ne _ 2 4 (by decide),ne _ 3 4 (by decide),ne _ 0 4 (by decide),ne _ 1 4 (by decide),ne _ 2 3 (by decide),ne _ 2 0 (by decide),ne _ 2 1 (by decide),ne _ 3 0 (by decide),ne _ 3 1 (by decide),ne _ 0 1 (by decide)⟩
   refine⟨_,_,_,_,H1,rfl,I2,zoy k1 k2 a b _ _ _ _ _ D,⟨hz,hTI,⟨_,_,hTO⟩,h1,h2⟩,fun c hc=>?_,q⟩;have hb':s1.heap.objs.size≤c:=by
    simp only[List.mem_cons,List.not_mem_nil,or_false]at hc;rcases hc with rfl |rfl |rfl |rfl |rfl
    ·exact Nat.le_add_right _ _
    ·exact Nat.le_add_right _ _
    ·exact Nat.le_add_right _ _
    ·exact Nat.le_refl _
    ·exact Nat.le_add_right _ _
   exact I1.fpOk hb' (I1.hok.fresh hb')
noncomputable def pairs:List W→List W→List W
 |x::xs,y::ys=> .tup [x,y]::pairs xs ys
 |_,_=>[]
theorem ziA:∀{xs ys:List W}{i:Nat}{u:W},(pairs xs ys)[i]? =some u→ ∃x y,xs[i]? =some x∧ys[i]? =some y∧u= .tup [x,y]
 | [],_,_,_,h=>by simp [pairs]at h
 |_::_,[],_,_,h=>by simp [pairs]at h
 |x::xs,y::ys,0,u,h=>by
  simp [pairs]at h;exact⟨x,y,rfl,rfl,h.symm⟩
 |x::xs,y::ys,i+1,u,h=>by simpa using ziA (xs:=xs) (ys:=ys) (i:=i) (u:=u) (by simpa [pairs]using h)
theorem zhK:∀{xs ys:List W},(pairs xs ys).length=min xs.length ys.length
 | [],_=>by simp [pairs]
 |_::_,[]=>by simp [pairs]
 |x::xs,y::ys=>by simp [pairs,zhK (xs:=xs) (ys:=ys)]
theorem zsY{K:PySem.W.Frag}{k1 k2:Bool}{a b:Addr}{ws us:List W}{G:Sto→Prop}{H0:Hp}{S0:Sto}(h:∀S H,Ext H0 S0 H S→RepS K H S→G S→(∃vs,SqZ k1 K H a vs∧Reps K H ws vs)∧ ∃vs,SqZ k2 K H b vs∧Reps K H us vs):ItW K (Itz k1 k2 K a b) (pairs ws us) G H0 S0:=fun i S H e hS hG=>by
 obtain⟨⟨xs,hq,r⟩,⟨ys,hq2,r2⟩⟩:=h S H e hS hG;refine⟨fun u eu=>?_,fun hl=>⟨xs,ys,hq,hq2,?_⟩⟩
 ·obtain⟨x,y,ex,ey,rfl⟩:=ziA eu;obtain⟨v,ev,rv⟩:=r.get ex;obtain⟨v2,ev2,rv2⟩:=r2.get ey;refine⟨⟨xs,ys,v,v2,hq,hq2,ev,ev2⟩,fun x H' ⟨p,y1,y2,hp,e1,e2,e3,e4⟩=>?_⟩;subst e1 e2;have f1:=e3 xs hq;have f2:=e4 ys hq2;rw [ev]at f1;cases f1;rw [ev2]at f2;cases f2;exact⟨.new hp,hS.new hp, .tup zat (.cons (rv.ext (.new (S:=S) hp)) (.cons (rv2.ext (.new (S:=S) hp)) .nil))⟩
 ·rw [zhK]at hl;rw [←r.length,←r2.length];omega
theorem zjO{K:PySem.W.Frag}{H:Hp}{S:Sto}{w:W}{v:V}{Q:List W→(Sto→Prop)→Prop}(r:Rep K H w v) (hS:RepS K H S) (h:zmP w S Q) :
  ∃k a ws G,v= .ref a∧G S∧(∀S' H',Ext H S H' S'→RepS K H' S'→G S'→ ∃vs,SqZ k K H' a vs∧Reps K H' ws vs)∧Q ws G:=by
 cases r with
 |tup f hs=>exact⟨false,_,_,_,rfl,trivial,fun S' H' e hS' _=>⟨_,e.tup _ _ f,hs.ext e⟩,h⟩
 |ref a=>
  obtain⟨ws,ea,h⟩:=zaU h;exact⟨true,_,ws,_,rfl,ea,fun S' H' e hS' g=>by
   obtain⟨vs,f,hs⟩:=hS' a _ g;exact⟨vs, .of f,hs⟩,h⟩
 |scr f=>exact⟨true,_,_,_,rfl,trivial,fun S' H' e hS' _=>⟨_,(e.fz f).sq,Reps.ofInts _⟩,h⟩
 |_=>exact h.elim
noncomputable def zuT (t u:WE):WI:=fun E σ S Q=>t E σ S fun x S1=>u E σ S1 fun y S2=>zmP x S2 fun xs G=>zmP y S2 fun ys G'=>Q (pairs xs ys) (fun S'=>G S'∧G' S') S2
theorem zpW{a b:Expr}{ta tb:WE}{p pos:Pos}(hg:Gl X "zip") (hm:X.mg "zip" =none) (ha:JE X a ta) (hb:JE X b tb) (hs:starEach [a,b] X.env=[(false,eval a X.env),(false,eval b X.env)]:=by rfl) (hs2:starEach [b] X.env=[(false,eval b X.env)]:=by rfl)
  (h3:starEach [a,b] X.env=(false,eval a X.env)::starEach [b] X.env:=by rfl) (h4:starEach [b] X.env=(false,eval b X.env)::starEach [] X.env:=by rfl):JI X (.Tuple es x1 tpos) (.Call (.Name "zip" p) [a,b] [] pos) (zuT ta tb):=fun E hE=>
 (zsL hg hm (zcy (ha E hE) (zcy (hb E hE) pa_nil h4) h3) hs hs2).mono fun σ H R ⟨σW,S,QW,hσ,hS,ht,hR⟩=>⟨σW,S,_,hσ,hS,ht,fun x S1 v H1 e1 r1 hS1 h1=>⟨σW,S1,_,hσ.ext e1,hS1,h1,fun y S2 v2 H2 e2 r2 hS2 h2=>by
  obtain⟨k1,a,ws,G,rfl,hG,hq,h⟩:=zjO (r1.ext e2) hS2 h2;obtain⟨k2,b,us,G',rfl,hG',hq',h⟩:=zjO r2 hS2 h;obtain⟨vs,hv,_⟩:=hq S2 H2 .refl hS2 hG;obtain⟨vs',hv',_⟩:=hq' S2 H2 .refl hS2 hG';exact⟨k1,k2,a,b,vs,vs',rfl,hv,hv',hR _ _ S2 _ H2 (e1.trans e2) hS2 ⟨hG,hG'⟩ (zsY fun S' H' e hS' g=>⟨hq S' H' e hS' g.1,hq' S' H' e hS' g.2⟩) h⟩⟩⟩
end
section
noncomputable def zuc (hi:Int) (n:Nat):List W:=(List.range n).map fun(i:Nat)=> .int (hi - (i:Int))
noncomputable def zxb (t:WA):WI:=fun E σ S Q=>t E σ S fun ws S1=>match ws with
 | [.int i, .int j, .int c]=>c= -1∧(-(2 ^ 62)≤i∧i<2 ^ 62∧ -(2 ^ 62)≤j∧j<2 ^ 62)∧Q (zuc i (i - j).toNat) (fun _=>True) S1
 |_=>False
end
section
variable {X:Cx}{e:Expr}{es:List Expr}{t:WA}{p pos:Pos}
noncomputable def zsy:WF:=fun ws S Q=>match ws with
 | [.int i]=>Q (.int i) S
 | [.bl b]=>Q (.int (if b then 1 else 0)) S
 |_=>False
theorem znQ{K:PySem.W.Frag}:zjv K (fun xs H Q=>(∃i,xs=[.int i]∧Q (.int i) H)∨ ∃k,xs=[.bl k]∧Q (.int (if k then 1 else 0)) H) zsy:=fun H vs ws S Q QW r hS h hQ=>by
 cases r with
 |nil=>exact h.elim
 |cons r1 r2=>
  cases r2 with
  |cons _ _=>cases r1<;>exact h.elim
  |nil=>
   cases r1 with
   |int i=>exact .inl ⟨i,rfl,hQ _ S _ H .refl (.int _) hS h⟩
   |bl b=>exact .inr ⟨b,rfl,hQ _ S _ H .refl (.int _) hS h⟩
   |_=>exact h.elim
theorem znd (hg:Gl X "int") (hm:X.mg "int" =none) (ha:JA X (e::es) t)
  (he:starEach (e::es) X.env=(false,eval e X.env)::starEach es X.env:=by rfl) (hpl:(backTo pos (starEach es X.env)).any (·.1)=false:=by rfl):JE X (.Call (.Name "int" p) (e::es) [] pos) (wB zsy t):=
 zsF zmN znQ hg hm PyProof.Rows.boot_int ha (by decide) (by decide) he hpl
noncomputable def zvw:WF:=fun ws S Q=>match ws with
 | [.int i, .int j]=>Q (.int (if j > i then j else i)) S
 |_=>False
noncomputable def ziG:WF:=fun ws S Q=>match ws with
 | [.int i, .int j]=>Q (.int (if j<i then j else i)) S
 |_=>False
theorem zli{K:PySem.W.Frag}:zjv K (fun xs H Q=>∃i j,xs=[.int i, .int j]∧Q (.int (if j<i then j else i)) H) ziG:=fun H vs ws S Q QW r hS h hQ=>by
 unfold ziG at h;split at h
 ·cases r with
  |cons r1 r2=>cases r2 with
   |cons r2 r3=>cases r3;cases r1;cases r2;exact⟨_,_,rfl,hQ _ S _ H .refl (.int _) hS h⟩
 ·exact h.elim
theorem zny{id:String}{r:List V→Hp→VK→Prop}{f:WF}{x:Str}(hc:X.calm=true→CallR X (.builtin id) r) (hw:zjv X.K r f) (hg:Gl X x) (hm:X.mg x=none) (hv:bootBuiltins x=some (.builtin id)) (ha:JA X (e::es) t) (hn:x≠ "__name__" :=by decide) (hdb:(x == ("__debug__" :Str))=false:=by decide)
  (he:starEach (e::es) X.env=(false,eval e X.env)::starEach es X.env:=by rfl) (hpl:(backTo pos (starEach es X.env)).any (·.1)=false:=by rfl):JE X (.Call (.Name x p) (e::es) [] pos) (wB f t):=fun E hE=>zpQ (hc hE.calm) hw hg hm hv ha hn hdb he hpl E hE
theorem zms (hg:Gl X "min") (hm:X.mg "min" =none) (ha:JA X (e::es) t)
  (he:starEach (e::es) X.env=(false,eval e X.env)::starEach es X.env:=by rfl) (hpl:(backTo pos (starEach es X.env)).any (·.1)=false:=by rfl):JE X (.Call (.Name "min" p) (e::es) [] pos) (wB ziG t):=zny znh zli hg hm PyProof.Rows.boot_min ha (by decide) (by decide) he hpl
theorem zhz{tl:WL}(hg:Gl X "tuple") (hm:X.mg "tuple" =none) (ha:JL X e tl)
  (he:starEach [e] X.env=(false,eval e X.env)::starEach [] X.env:=by rfl) (hpl:(backTo pos (starEach [] X.env)).any (·.1)=false:=by rfl):JE X (.Call (.Name "tuple" p) [e] [] pos) (wBL zfN tl):=zqA zel zjF hg hm PyProof.Rows.boot_tuple ha (by decide) (by decide) he hpl
theorem zdF (hg:Gl X "tuple") (hm:X.mg "tuple" =none) (ha:JA X (e::es) t)
  (he:starEach (e::es) X.env=(false,eval e X.env)::starEach es X.env:=by rfl) (hpl:(backTo pos (starEach es X.env)).any (·.1)=false:=by rfl):JE X (.Call (.Name "tuple" p) (e::es) [] pos) (wB zdv t):=zsF zel zjD hg hm PyProof.Rows.boot_tuple ha (by decide) (by decide) he hpl
end
theorem zrX{K:PySem.W.Frag}:∀T∈ ["int", "bool", "str", "tuple", "list"],∀A∈ ["NoneType", "bool", "int", "str", "tuple", "list"],PySem.W.kitOne K (.type A) (.type T)=some (zbF A T):=by
 intro T hT A hA;simp only[List.mem_cons,List.not_mem_nil,or_false]at hT hA;rcases hT with rfl |rfl |rfl |rfl |rfl<;>rcases hA with rfl |rfl |rfl |rfl |rfl |rfl<;>rfl
theorem gl0:∀(ws:List W) (σ:WSt) (S:Sto) (P:WSt→Sto→Prop),zdp ws σ S P→ws.length=0:=fun ws σ S P h=>by
 cases ws with
 |nil=>rfl
 |cons _ _=>exact h.elim
theorem glS{i n:Nat}{u:WGs}(h:∀(ws:List W) (σ:WSt) (S:Sto) (P:WSt→Sto→Prop),u ws σ S P→ws.length=n):∀(ws:List W) (σ:WSt) (S:Sto) (P:WSt→Sto→Prop),zaJ (wGN i) u ws σ S P→ws.length=n+1:=fun ws σ S P q=>by
 cases ws with
 |nil=>exact q.elim
 |cons w ws=>exact congrArg (· +1) (h _ _ _ _ q)
noncomputable def zbe:WSp:=fun _ _ _ _=>False
theorem zud{P:Program}{w:World}{K:PySem.W.Frag}{mg:Str→Option Value}{base:Heap}{f:Addr}{fd:FuncData}{ps:List Str}{k:Nat}:FnOk P w K mg base CX0 k f fd ps (zdj K zbe):=
 ⟨fun vs H Q E ⟨_,_,_,_,_,h,_⟩=>h.elim,fun A outer s H args us vs Q E _ _ _ _ ⟨_,_,_,_,_,h,_⟩=>h.elim⟩
section
variable {X:Cx}{a b:Expr}{pos:Pos}{ta tb:WE}{la lb:WL}
noncomputable def zqw (t:WL) (u:WE):WE:=fun E σ S Q=>t E σ S fun ws S1=>u E σ S1 fun y S2=>match y with
 | .int i=>match atI ws i with
  |some w=>Q w S2
  |none=>False
 |_=>False
theorem zkM (ha:JL X a la) (hb:JE X b tb) (hs:ziW b:=by intro _ _;rfl):JE X (.Subscript a b pos) (zqw la tb):=fun E hE=>
 (zta zpV (ha E hE) (hb E hE) hs).mono fun σ H Q ⟨σW,S,QW,hσ,hS,ht,hQ⟩=>⟨σW,S,_,hσ,hS,ht,fun ws S1 vs p H1 e1 fp ep np r1 hS1 h1=>⟨σW,S1,_,hσ.ext e1,hS1,h1,fun y S2 v2 H2 e2 r2 hS2 h2=>by
  cases r2 with
  |int i=>
   dsimp only at h2;split at h2
   ·obtain⟨v,ev,r⟩:=zjK (r1.ext e2) ‹_›;exact .inl ⟨p,vs,i,v,rfl,rfl, .of (e2.fr p _ ep np).1,ev,hQ _ S2 _ H2 (e1.trans e2) r hS2 h2⟩
   ·exact h2.elim
  |_=>exact h2.elim⟩⟩
noncomputable def zrb (t:WE) (u:WL):WL:=fun E σ S Q=>t E σ S fun x S1=>u E σ S1 fun ys S2=>match x with
 | .ref a=>zbL S2 a fun xs=>xs.length+ys.length≤sizeLine∧Q (xs++ys) S2
 |_=>False
noncomputable def zin (t u:WL):WL:=fun E σ S Q=>t E σ S fun xs S1=>u E σ S1 fun ys S2=>xs.length+ys.length≤sizeLine∧Q (xs++ys) S2
noncomputable def zom (t:WL) (u:WE):WL:=fun E σ S Q=>t E σ S fun xs S1=>u E σ S1 fun y S2=>match y with
 | .ref a=>zbL S2 a fun ys=>xs.length+ys.length≤sizeLine∧Q (xs++ys) S2
 |_=>False
theorem zru (ha:JE X a ta) (hb:JL X b lb):JL X (.BinOp a .Add b pos) (zrb ta lb):=fun E hE=>
 (zlW zkL (ha E hE) (hb E hE)).mono fun σ H Q ⟨σW,S,QW,hσ,hS,ht,hQ⟩=>⟨σW,S,_,hσ,hS,ht,fun w1 S1 v1 H1 e1 r1 hS1 h1=>⟨σW,S1,_,hσ.ext e1,hS1,h1,fun ys S2 us q H2 e2 fq eq nq r2 hS2 h2=>by
  cases r1 with
  |ref p=>
   obtain⟨xs,ea,h⟩:=zaU h2;obtain⟨vs,f1,q1⟩:=hS2 p _ ea;exact⟨p,q,vs,us,rfl,rfl,f1,eq,by rw [←q1.length,←r2.length];exact h.1,fun p hp=>hQ _ S2 _ p _ ((e1.trans e2).trans (.new hp)) ((e1.trans e2).free hp) zat (hS2.free hp) ((q1.append r2).ext (.new (S:=S2) hp)) (hS2.new hp) h.2⟩
  |_=>exact h2.elim⟩⟩
theorem zfy (ha:JL X a la) (hb:JL X b lb):JL X (.BinOp a .Add b pos) (zin la lb):=fun E hE=>
 (zlW zkL (ha E hE) (hb E hE)).mono fun σ H Q ⟨σW,S,QW,hσ,hS,ht,hQ⟩=>⟨σW,S,_,hσ,hS,ht,fun xs S1 vs p H1 e1 fp ep np r1 hS1 h1=>⟨σW,S1,_,hσ.ext e1,hS1,h1,fun ys S2 us q H2 e2 fq eq nq r2 hS2 h2=>
  ⟨p,q,vs,us,rfl,rfl,(e2.fr p _ ep np).1,eq,by rw [←r1.length,←r2.length];exact h2.1,fun z hz=>hQ _ S2 _ z _ ((e1.trans e2).trans (.new hz)) ((e1.trans e2).free hz) zat (hS2.free hz) (((r1.ext e2).append r2).ext (.new (S:=S2) hz)) (hS2.new hz) h2.2⟩⟩⟩
theorem zqK (ha:JL X a la) (hb:JE X b tb):JL X (.BinOp a .Add b pos) (zom la tb):=fun E hE=>
 (zlW zkL (ha E hE) (hb E hE)).mono fun σ H Q ⟨σW,S,QW,hσ,hS,ht,hQ⟩=>⟨σW,S,_,hσ,hS,ht,fun xs S1 vs p H1 e1 fp ep np r1 hS1 h1=>⟨σW,S1,_,hσ.ext e1,hS1,h1,fun y S2 v2 H2 e2 r2 hS2 h2=>by
  cases r2 with
  |ref q=>
   obtain⟨ys,ea,h⟩:=zaU h2;obtain⟨us,f2,q2⟩:=hS2 q _ ea;exact⟨p,q,vs,us,rfl,rfl,(e2.fr p _ ep np).1,f2,by rw [←r1.length,←q2.length];exact h.1,fun z hz=>hQ _ S2 _ z _ ((e1.trans e2).trans (.new hz)) ((e1.trans e2).free hz) zat (hS2.free hz) (((r1.ext e2).append q2).ext (.new (S:=S2) hz)) (hS2.new hz) h.2⟩
  |_=>exact h2.elim⟩⟩
noncomputable def zpd (t:WL) (u:WE):WL:=fun E σ S Q=>t E σ S fun xs S1=>u E σ S1 fun y S2=>match y with
 | .int k=>(-(2 ^ 63)≤k∧k<2 ^ 63∧xs.length*k.toNat≤sizeLine)∧Q (List.replicate k.toNat xs).flatten S2
 |_=>False
theorem Reps.rep{K:PySem.W.Frag}{H:Hp}{ws:List W}{vs:List V}(h:Reps K H ws vs):∀k:Nat,Reps K H (List.replicate k ws).flatten (List.replicate k vs).flatten
 |0=> .nil
 |k+1=>by
  rw [List.replicate_succ,List.replicate_succ,List.flatten_cons,List.flatten_cons];exact h.append (Reps.rep h k)
theorem zsH (ha:JL X a la) (hb:JE X b tb):JL X (.BinOp a .Mult b pos) (zpd la tb):=fun E hE=>
 (zlW zuy (ha E hE) (hb E hE)).mono fun σ H Q ⟨σW,S,QW,hσ,hS,ht,hQ⟩=>⟨σW,S,_,hσ,hS,ht,fun xs S1 vs p H1 e1 fp ep np r1 hS1 h1=>⟨σW,S1,_,hσ.ext e1,hS1,h1,fun y S2 v2 H2 e2 r2 hS2 h2=>by
  cases r2 with
  |int k=>
   obtain⟨⟨k1,k2,k3⟩,h⟩:=h2;exact⟨p,k,vs,rfl,rfl,(e2.fr p _ ep np).1,k1,k2,by rw [←r1.length];exact k3,fun z hz=>hQ _ S2 _ z _ ((e1.trans e2).trans (.new hz)) ((e1.trans e2).free hz) zat (hS2.free hz) (((r1.ext e2).rep k.toNat).ext (.new (S:=S2) hz)) (hS2.new hz) h⟩
  |_=>exact h2.elim⟩⟩
end
theorem zpI{K:PySem.W.Frag}{H:Hp}{a:Addr}{ns:List Int}{c:WSp}{E:XK}(hO:zuY H) (hS:SqL K H a (ns.map V.int)) (h:c [.scr ns] (fun _=>none) (fun w _=>w= .bl true) (fun _ _=>False)):zdj K c [.ref a] H (fun v _=>v= .bl true) E:=by
 have fz:FzL K H a (ns.map V.int):=by
  rcases hS with(hS |⟨o,hS⟩) |hS
  ·rcases hO a with z |⟨o,xs,z⟩
   ·rw [hS]at z;cases z
   ·rw [hS]at z;cases z
  ·exact .inl ⟨o,hS⟩
  ·exact .inr hS
 refine⟨[.scr ns],fun _=>none,_, .one (.scr fz),(fun a o e=>by cases e),h,fun w S v H' e r hS' q=>?_⟩
 subst q;cases r;rfl
section
noncomputable def zvl:W2
 | .tup xs, .int k,S,Q=>(xs≠ []∧ -(2 ^ 63)≤k∧k<2 ^ 63∧xs.length*k.toNat≤sizeLine)∧Q (.tup (List.replicate k.toNat xs).flatten) S
 |_,_,_,_=>False
end
noncomputable def zeV (kvs:List (List Int×W)) (k:List Int):Option W:=(kvs.find? fun kv=>decide (kv.1=k)).map (·.2)
noncomputable def zsa (kvs:List (List Int×W)) (k:List Int) (v:W):List (List Int×W):=
 if(kvs.any fun kv=>decide (kv.1=k))=true then kvs.map (fun kv=>if kv.1=k then(kv.1,v) else kv) else kvs++[(k,v)]
noncomputable def zbI:List W→Option (List Int)
 | []=>some []
 | .int i::ws=>(zbI ws).map (i:: ·)
 |_=>none
noncomputable def znm:W→Option (List Int)
 | .tup ws=>zbI ws
 |_=>none
noncomputable def zpD (S:Sto) (a:Addr) (P:List (List Int×W)→Prop):Prop:=match S a with
 |some (.dct kvs)=>P kvs
 |_=>False
theorem zrJ{S:Sto}{a:Addr}{P:List (List Int×W)→Prop}(h:zpD S a P):∃kvs,S a=some (.dct kvs)∧P kvs:=by
 unfold zpD at h;split at h
 ·exact⟨_, ‹_›,h⟩
 ·exact h.elim
theorem zja{S:Sto}{a:Addr}{kvs:List (List Int×W)}{P:List (List Int×W)→Prop}(e:S a=some (.dct kvs)):zpD S a P=P kvs:=by unfold zpD;rw [e]
section
variable {K:PySem.W.Frag}{H:Hp}
noncomputable abbrev RepD (K:PySem.W.Frag) (H:Hp):List (List Int×W)→List (List Key×V)→Prop:=Paired fun q p=>p.1=q.1.map Sum.inl∧Rep K H q.2 p.2
theorem zhe:∀{a b:List Int},a.map (Sum.inl:Int→Key)=b.map Sum.inl→a=b
 | [],[],_=>rfl
 | [],_::_,h=>by simp at h
 |_::_,[],h=>by simp at h
 |x::xs,y::ys,h=>by
  simp only[List.map_cons,List.cons.injEq,Sum.inl.injEq]at h;rw [h.1,zhe h.2]
theorem RepD.val{kvs:List (List Int×W)}{ps:List (List Key×V)}(r:RepD K H kvs ps) (k:List Int):(∀w,zeV kvs k=some w→ ∃v,zkx ps (k.map Sum.inl)=some v∧Rep K H w v)∧(zeV kvs k=none→zkx ps (k.map Sum.inl)=none):=by
 induction r with
 |nil=>exact⟨fun w h=>by simp [zeV]at h,fun _=>rfl⟩
 | @cons q p kvs ps h t ih=>
  by_cases hk:q.1=k
  ·have e:p.1=k.map Sum.inl:=by rw [h.1,hk]
   rw [zfe e];have ew:zeV (q::kvs) k=some q.2:=by simp [zeV,List.find?_cons,hk]
   rw [ew];exact⟨fun w z=>by cases z;exact⟨_,rfl,h.2⟩,fun z=>by cases z⟩
  ·have e:¬p.1=k.map Sum.inl:=by rw [h.1];exact fun z=>hk (zhe z)
   rw [zfb e];have ew:zeV (q::kvs) k=zeV kvs k:=by simp [zeV,List.find?_cons,hk]
   rw [ew];exact ih
theorem RepD.any{kvs:List (List Int×W)}{ps:List (List Key×V)}(r:RepD K H kvs ps) (k:List Int):(ps.any fun kv=>decide (kv.1=k.map Sum.inl))=kvs.any fun kv=>decide (kv.1=k):=by
 induction r with
 |nil=>rfl
 | @cons q p kvs ps h t ih=>
  rw [List.any_cons,List.any_cons,ih];congr 1;apply decide_eq_decide.mpr;rw [h.1];exact⟨zhe,fun z=>by rw [z]⟩
theorem RepD.put{kvs:List (List Int×W)}{ps:List (List Key×V)}(r:RepD K H kvs ps) (k:List Int) {w:W}{v:V}(rw':Rep K H w v):RepD K H (zsa kvs k w) (zmq ps (k.map Sum.inl) v):=by
 unfold zsa zmq;rw [r.any k];split
 ·rename_i hany;clear hany
  induction r with
  |nil=>exact .nil
  | @cons q p kvs ps h t ih=>
   rw [List.map_cons,List.map_cons];refine .cons ?_ ih;by_cases hk:q.1=k
   ·rw [if_pos hk,if_pos (by rw [h.1,hk])];exact⟨h.1,rw'⟩
   ·rw [if_neg hk,if_neg (by rw [h.1];exact fun z=>hk (zhe z))];exact h
 ·rename_i hany;clear hany
  induction r with
  |nil=>exact .cons ⟨rfl,rw'⟩ .nil
  |cons h t ih=>exact .cons h ih
theorem RepD.length{kvs:List (List Int×W)}{ps:List (List Key×V)}(r:RepD K H kvs ps):kvs.length=ps.length:=Paired.length r
theorem zgo:∀{ws:List W}{vs:List V}{k:List Int},Reps K H ws vs→zbI ws=some k→vs=(k.map (Sum.inl:Int→Key)).map kV
 | [],_,_, .nil,e=>by cases e;rfl
 |w::ws,_,k, .cons r rs,e=>by
  cases r with
  |int i=>
   cases q:zbI ws with
   |none=>simp [zbI,q]at e
   |some ks=>
    simp only[zbI,q,Option.map_some,Option.some.injEq]at e;subst e;rw [zgo rs q];rfl
  |_=>simp [zbI]at e
theorem zkd{w:W}{v:V}{k:List Int}(r:Rep K H w v) (e:znm w=some k):∃b,v= .ref b∧H b=some (.tup ((k.map (Sum.inl:Int→Key)).map kV)):=by
 cases r with
 |tup f hs=>exact⟨_,rfl,by rw [f,zgo hs e]⟩
 |_=>simp [znm]at e
theorem zqS{S:Sto}{a:Addr}{kvs:List (List Int×W)}{y:V}{wy:W}{k:List Int}(hS:RepS K H S) (e:S a=some (.dct kvs)) (ry:Rep K H wy y) (ek:znm wy=some k):∃o,DGet H a y o∧(zeV kvs k=none→o=none)∧ ∀w,zeV kvs k=some w→ ∃v,o=some v∧Rep K H w v:=by
 obtain⟨ps,e1,r⟩:=hS a _ e;obtain⟨b,rfl,eb⟩:=zkd ry ek;have rv:=RepD.val r k;exact⟨zkx ps (k.map Sum.inl), .t e1 eb,rv.2,rv.1⟩
end
noncomputable def zuD (neg:Bool):W2:=fun y x S Q=>match x with
 | .ref a=>match znm y with
  |some k=>zpD S a fun kvs=>Q (.bl (if neg then !(zeV kvs k).isSome else(zeV kvs k).isSome)) S
  |none=>False
 |_=>False
noncomputable def zvb:W2:=fun x y S Q=>match x with
 | .ref a=>match znm y with
  |some k=>zpD S a fun kvs=>match zeV kvs k with
   |some w=>Q w S
   |none=>False
  |none=>False
 |_=>False
section
variable {X:Cx}{a b o:Expr}{pos:Pos}{ta tb:WE}
noncomputable def zwI (neg:Bool):R2:=fun y x H Q=>∃a o,x= .ref a∧DGet H a y o∧Q (.bl (if neg then !o.isSome else o.isSome)) H
theorem zuE (hu:X.A.units+1<cLine):OpR X (compareOp .In) (zwI false):=by
 intro pins s σ H x y v u Q I rx ry h;obtain⟨a,o,rfl,g,q⟩:=h;cases ry;exact zxw hu I g rx fun s3 I3=>⟨.bl o.isSome,H,I3,rfl,q⟩
theorem zrI{K:PySem.W.Frag}{neg:Bool}:OpW K (zwI neg) (zuD neg):=fun H x y wx wy S Q QW rx ry hS h hQ=>by
 unfold zuD at h;split at h
 ·split at h
  ·rename_i k ek;obtain⟨kvs,ea,h⟩:=zrJ h;cases ry;obtain⟨o,g,g0,g1⟩:=zqS hS ea rx ek;have eo:o.isSome=(zeV kvs k).isSome:=by
    cases q:zeV kvs k with
    |none=>rw [g0 q];rfl
    |some w=>obtain⟨v,ev,_⟩:=g1 w q;rw [ev];rfl
   exact⟨_,o,rfl,g,by rw [eo];exact hQ _ S _ H .refl (.bl _) hS h⟩
  ·exact h.elim
 ·exact h.elim
theorem zuM{k:Nat}(hr:Room k X.A) (ha:JE X a ta) (hb:JE X b tb) (hm:behindInMarks .In b=false:=by with_unfolding_all rfl):JT X (.Compare a [.In] [b] pos) (wTb (wOp (zuD false) ta tb)):=
 zew (zuE (by have:=hr.units;omega)) zrI ha hb hm
end
section
variable {X:Cx}{o e:Expr}{to:WE}{tl:WL}{apos cpos p pos:Pos}
noncomputable def zqu:V→List V→Hp→VK→Prop:=fun x vs H Q=>∃z:Str,x= .str z∧vs=[]∧z.length≤5592405∧Q (.str (Txt.upper z)) H
theorem zpn:MtR X "str.upper" zqu:=by
 intro pins s σ H x vs v us Q I rx rv h;obtain⟨z,rfl,rfl,hz,q⟩:=h;obtain⟨t,rfl⟩:=rx;cases rv;exact SCL.upper hz fun _=>⟨.str (Txt.upper z),H,I.tok _,⟨_,rfl⟩,q⟩
noncomputable def zkY:WMf:=fun w ws S Q=>match w,ws with
 | .str z,[]=>z.length≤5592405∧Q (.str (Txt.upper z)) S
 |_,_=>False
theorem znO{K:PySem.W.Frag}:MtW K zqu zkY:=fun H x w vs ws S Q QW r rs hS h hQ=>by
 cases r with
 |str z=>
  cases rs with
  |nil=>exact⟨z,rfl,rfl,h.1,hQ _ S _ H .refl (.str _) hS h.2⟩
  |cons _ _=>exact h.elim
 |_=>exact h.elim
theorem zoU (ho:JE X o to) (hbase:attributeBase o "upper" X.env (eval o X.env)=eval o X.env:=by rfl) (hline:(apos.endLine == cpos.line)=true:=by rfl):JE X (.Call (.Attribute o "upper" apos) [] [] cpos) (wM rvS zkY to waNil):=
 zvi PySem.F.plainAttrs_str PySem.F.slot_str_upper PySem.F.type_str_upper zqx zpn znO ho hbase hline
theorem zfj:∀(ns:List Int) (n:Nat),n≤ns.length→preSum (fun i=>ns.getD i 0) n=(ns.take n).sum
 |ns,0,_=>by simp [preSum]
 |ns,n+1,h=>by
  rw [preSum,zfj ns n (by omega),List.take_succ,List.sum_append];congr 1;rw [List.getD_eq_getElem?_getD,List.getElem?_eq_getElem (by omega)];simp
theorem znw (hc:X.calm=true):CallR X (.builtin "sum") (fun xs H Q=>∃(p:Addr) (ns:List Int),xs=[.ref p]∧SqL X.K H p (ns.map V.int)∧Q (.int ns.sum) H):=by
 intro pins s σ H xs us Q I r h;obtain⟨p,ns,rfl,hq,q⟩:=h;obtain⟨u,rfl,rx⟩:=zgW r;cases rx;obtain⟨its,r',pl,hz⟩:=I.list hq;have hlen:ns.length=its.length:=by have:=r'.length;rw [List.length_map]at this;exact this
 have hp:p<s.heap.objs.size:=by obtain⟨o,n,e,_⟩:=pl;exact Heap.lt_size e
 have hd:X.A.in1.handled=none:=I.ok.hd hc;have get:∀(i:Nat) (v:Value),its.toArray[i]? =some v→ ∃t,v= .int (ns.getD i 0) t:=fun i v e=>by
  have e':its[i]? =some v:=by simpa using e
  have hi:i<ns.length:=by rw [hlen];exact(List.getElem?_eq_some_iff.mp e').1
  obtain⟨u,hu,ru⟩:=r'.get (i:=i) (x:= .int (ns.getD i 0)) (by rw [List.getElem?_map,List.getElem?_eq_getElem hi,List.getD_eq_getElem?_getD,List.getElem?_eq_getElem hi];rfl);rw [e']at hu;cases hu;exact ru
 refine call_sum_walkG (wpAny_pyIter_list pl.isList ?_);refine⟨s.heap.objs.size,_,_,_,_,_,fun i=>ns.getD i 0,rfl,Walks.list hd _ p (Nat.ne_of_lt hp) its.toArray,⟨⟨_,Heap.get?_push_size _ rfl,rfl,rfl⟩,pl.isList.push _⟩,?_,fun i v hP=>get i v hP,fun h' tk t' hk=>?_⟩
 ·intro b hb;have hsz:∀o:Obj,(s.heap.push o).objs.size=s.heap.objs.size+1:=fun o=>Heap.size_push ..;simp only[List.mem_cons,List.not_mem_nil,or_false]at hb;show b<(s.heap.push _).objs.size;rw [hsz];rcases hb with rfl |rfl
  ·exact Nat.lt_succ_self _
  ·exact Nat.lt_succ_of_lt hp
 ·have e:preSum (fun i=>ns.getD i 0) its.toArray.size=ns.sum:=by
   rw [List.size_toArray,←hlen,zfj ns _ (Nat.le_refl _),List.take_length]
  have I1:Inv X pins σ H { s with heap:=h',toks:=tk }:=I.kept fun b o e=>hk b o (fun z=>by
   have z':b=s.heap.objs.size:=by simpa using z
   rw [z']at e;exact absurd (Heap.lt_size e) (Nat.lt_irrefl _)) (Heap.get?_push_of_some _ e)
  exact⟨.int _,H,I1,⟨t',by rw [e]⟩,q⟩
noncomputable def znU:WF:=fun ws S Q=>match zbI ws with
 |some ns=>Q (.int ns.sum) S
 |none=>False
theorem zfv{K:PySem.W.Frag}{H:Hp}:∀{ws:List W}{vs:List V}{ns:List Int},Reps K H ws vs→zbI ws=some ns→vs=ns.map V.int
 | [],_,_, .nil,e=>by cases e;rfl
 |w::ws,_,ns, .cons r rs,e=>by
  cases r with
  |int i=>
   cases q:zbI ws with
   |none=>simp [zbI,q]at e
   |some ks=>
    simp only[zbI,q,Option.map_some,Option.some.injEq]at e;subst e;rw [zfv rs q];rfl
  |_=>simp [zbI]at e
theorem zmm{K:PySem.W.Frag}:zmn K (fun xs H Q=>∃(p:Addr) (ns:List Int),xs=[.ref p]∧SqL K H p (ns.map V.int)∧Q (.int ns.sum) H) znU:=fun H a vs ws S Q QW ea na r hS h hQ=>by
 unfold znU at h;split at h
 ·rename_i ns e;have:=zfv r e;subst this;exact⟨a,ns,rfl, .of ea,hQ _ S _ H .refl (.int _) hS h⟩
 ·exact h.elim
theorem zsn (hg:Gl X "sum") (hm:X.mg "sum" =none) (ha:JL X e tl)
  (he:starEach [e] X.env=(false,eval e X.env)::starEach [] X.env:=by rfl) (hpl:(backTo pos (starEach [] X.env)).any (·.1)=false:=by rfl):JE X (.Call (.Name "sum" p) [e] [] pos) (wBL znU tl):=fun E hE=>
 zsv (znw hE.calm) zmm hg hm PyProof.Rows.boot_sum ha (by decide) (by decide) he hpl E hE
end
theorem zlR:typeLookup (.type "list") "keys" =pure none:=by rw [typeLookup_type,builtinLookup_eq_fast];kernel_rfl
theorem zhD:entryFor table "dict.update.loop" =some Builtin.«dict.update.loop» :=entryFor_of_tree (by kernel_rfl)
theorem zee:plainId "dict.update.loop" =true:=by decide +kernel
section
variable {prog:Program}{w:World}{A:Around}{E:Value→Shared→Prop}{s:Shared}
theorem zgZ{a:Addr}{o:Obj}{xs:Array Value}{k:Nat}{name:Str}{Q:Option Value→Shared→Prop}
  (hx : s.heap.get? a = some o) (hc : o.cls = .type "list") (hdat : o.data = .seq xs k) (hd : o.dict = none) (hmiss : typeLookup (.type "list") name = pure none) (hname : (["__module__", "__name__", "__qualname__", "__doc__", "__annotations__"] : List Str).contains name = false) (hA : A.handled = none)
  (h:∀h' tk,(∀b o,s.heap.get? b=some o→h'.get? b=some o)→Q none { s with heap:=h',toks:=tk }) (hsz:name.length+100≤sizeLine:=by size_fits) :
  wpAny (model prog w) A (getAttr? (.ref a) name) Q E s:=by
 obtain⟨c,dct,dat,sl⟩:=o;simp only at hc hdat hd;subst hc hdat hd;obtain⟨hp,g,d,tk,os⟩:=s;have hT:∀tk',(⟨hp,g,d,tk',os⟩:Shared).TypeIs (.ref a) "list" :=fun _=>⟨_,hx,rfl⟩;have f1:=sub_AttributeError;have f3:=F.slot_list_getattribute.lookup;have f4:=F.slot_list_getattribute.bind (.ref a);have f5:=am_list_getattr_none;unfold getAttr? getAttrBy? getAttrBy
 repeat (any_goals (first |assumption |exact hT _ | ((with_reducible show wpAny _ _ (call (Value.builtin "list.__getattribute__") _ _) _ _ _);refine call_meets F.slot_list_getattribute (hT _) am_entry_list_getattribute (F.args_list_getattribute_2 _ _) (meets_getattribute_miss_list a xs k sl name _ hmiss hname hsz) ⟨hx,hA,fun h' tk' e hx'=>?_⟩) |wp_step))
 obtain⟨t',u',he⟩:=hx'.there;have hTe:∀tk',(⟨h',g,d,tk',os⟩:Shared).TypeIs (.ref e) "AttributeError" :=fun _=>⟨_,he,rfl⟩;show wpAny _ _ (getattributeRaised _ _ _ _ _ _ _) _ _ _;unfold getattributeRaised
 repeat (any_goals (first |assumption |exact hTe _ |wp_step))
 exact h h' tk' hx'.keeps
end
section
variable {prog:Program}{w:World}{A:Around}{R:Result→Shared→Prop}{I l d:Addr}{items:Array Value}
noncomputable def zqB (xs:List (List Key×Addr×Value)) (ps:List (List Key×Addr)):List (List Key×Addr×Value):=ps.foldl (fun xs p=>storedH xs p.1 p.2 (.bool true)) xs
theorem zlg (hu:(tupleKind (zbg prog w)).room A.in1) (hh:A.in1.handled=none) (hne:l≠I) (hdI:d≠I) (hdl:d≠l) (h0:Heap) (hd0:h0.get? d=none) (hI0:h0.get? I=none) (ps:List (List Key×Addr)) (hps:ps.length=items.size)
  (hp:∀(i:Nat) (p:List Key×Addr) (v:Value),ps[i]? =some p→items[i]? =some v→ ∃(t:Addr) (o:Obj) (n:Nat),v= .ref t∧h0.get? t=some o∧o.cls= .type "tuple" ∧o.data= .seq #[.ref p.2, .bool true] n)
  (hk:∀p∈ps,(tupleKind (zbg prog w)).is h0 p.1 p.2) :
  ∀(k i:Nat) (s:Shared) (xs:List (List Key×Addr×Value)),items.size - i=k→i≤items.size→s.heap.IsListIter I l i→s.heap.IsList l items→(∀b o,h0.get? b=some o→s.heap.get? b=some o)→s.heap.DictOfH (tupleKind (zbg prog w)) d xs→xs.length+(items.size - i)≤sizeLine→
  (∀h' tk,(∀b o,h0.get? b=some o→h'.get? b=some o)→h'.DictOfH (tupleKind (zbg prog w)) d (zqB xs (ps.drop i))→R (.ok (.ret .none)) { s with heap:=h',toks:=tk })→
  codeAny (model prog w) A (.builtin "dict.update.loop" ⟨[.ref d, .ref I,rawInt i, .none],[]⟩) R s:=by
 have W:=Walks.list (prog:=prog) (w:=w) (A:=A.in1) hh I l hne items;intro k
 induction k with
 |zero=>
  intro i s xs hki hi hit hl hold hd hsz hR;have hin:i=items.size:=by omega
  subst hin;refine codeAny_builtin zhD ?_;rw [Around.under_plainId zee _];show wpAny _ A.in1 (pyNext (.ref I) >>= _) _ _ s;refine wpAny_bind (W.done s _ _ ⟨hit,hl⟩ fun h' tk hk'=>?_);have hd':h'.DictOfH (tupleKind (zbg prog w)) d xs:=by
   obtain⟨q,es,ep,q1,q2,q3,q4,q5,q6⟩:=hd;refine⟨q,es,ep,hk' d q (fun z=>hdI (List.mem_singleton.mp z)) q1,q2,q3,q4,fun x hx=>?_,q6⟩;obtain⟨ob,its,m,k1,k2,k3,k4⟩:=q5 x hx;refine⟨ob,its,m,hk' _ _ (fun z=>?_) k1,k2,k3,k4⟩;obtain⟨oi,hi1,hi2,_⟩:=hit;rw [List.mem_singleton.mp z,hi1]at k1;cases k1;rw [k2]at hi2;exact absurd hi2 (by decide)
  show wpAny _ A.in1 (Builtin.Dict.addKeywords d [] >>= _) _ _ _;refine wpAny_bind (wpAny_pure (wpAny_pure (hR h' tk (fun b o e=>hk' b o (fun z=>by rw [List.mem_singleton.mp z,hI0]at e;cases e) (hold b o e)) ?_)))
  rw [List.drop_of_length_le (by omega)];exact hd'
 |succ k ih=>
  intro i s xs hki hi hit hl hold hd hsz hR;have hlt:i<items.size:=by omega
  refine codeAny_builtin zhD ?_;rw [Around.under_plainId zee _];show wpAny _ A.in1 (pyNext (.ref I) >>= _) _ _ s;refine wpAny_bind (W.item i s _ _ hlt ⟨hit,hl⟩ fun v h' tk hP hst' hk'=>?_);obtain⟨p,hpi⟩:∃p,ps[i]? =some p:=⟨ps[i],List.getElem?_eq_getElem (by omega)⟩;obtain⟨t,o,n,rfl,ho,hc,hdat⟩:=hp i p v hpi hP;have ho':=hk' t o (fun z=>by rw [List.mem_singleton.mp z]at ho;rw [hI0]at ho;cases ho) (hold t o ho)
  have hkey:(tupleKind (zbg prog w)).is h' p.1 p.2:=by
   obtain⟨ob,its,m,k1,k2,k3,k4⟩:=hk p (List.mem_of_getElem? hpi);exact⟨ob,its,m,hk' _ _ (fun z=>by rw [List.mem_singleton.mp z]at k1;rw [hI0]at k1;cases k1) (hold _ _ k1),k2,k3,k4⟩
  have hd':h'.DictOfH (tupleKind (zbg prog w)) d xs:=by
   obtain⟨q,es,ep,q1,q2,q3,q4,q5,q6⟩:=hd;refine⟨q,es,ep,hk' d q (fun z=>hdI (List.mem_singleton.mp z)) q1,q2,q3,q4,fun x hx=>?_,q6⟩;obtain⟨ob,its,m,k1,k2,k3,k4⟩:=q5 x hx;refine⟨ob,its,m,hk' _ _ (fun z=>?_) k1,k2,k3,k4⟩;obtain⟨oi,hi1,hi2,_⟩:=hit;rw [List.mem_singleton.mp z,hi1]at k1;cases k1;rw [k2]at hi2;exact absurd hi2 (by decide)
  show wpAny _ A.in1 (holding [.ref t] _ >>= _) _ _ _;refine wpAny_bind (wpAny_holding ?_);refine wpAny_bind (wpAny_tryCatch ?_);unfold Builtin.Dict.pairItems;refine wpAny_bind (wpAny_typeOf (T:= "tuple") ⟨o,ho',hc⟩ ?_);rw [if_pos (by decide)];refine wpAny_bind (wpAny_seqItems ho' hdat ?_);refine wpAny_pure ?_;show wpAny _ A.in1 (holding [.ref p.2, .bool true] (dictSet d (.ref p.2) (.bool true))) _ _ _;refine wpAny_holding (wpAny_dictSet_heap (hsz:=by omega) hu hkey hd' fun h2 hd2 hs2=>?_)
  refine wpAny_pure ⟨plainId_quiet zee _,?_⟩;have ei:((i:Int)+1)=((i+1:Nat):Int):=by omega
  rw [ei];have hln:(storedH xs p.1 p.2 (Value.bool true)).length≤xs.length+1:=by
   unfold storedH;split<;>simp
  have hst2:=W.frame (i+1) h' h2 hst' fun b hb o e=>by
   have hbd:b≠d:=by
    rcases List.mem_cons.mp hb with z |z
    ·rw [z];exact Ne.symm hdI
    ·rw [List.mem_singleton.mp z];exact Ne.symm hdl
   exact(hs2.2 b hbd).trans e
  refine ih (i+1) _ _ (by omega) (by omega) hst2.1 hst2.2 (fun b o e=>?_) hd2 (by omega) fun h3 tk3 old3 hd3=>?_
  ·have hbd:b≠d:=fun z=>by rw [z,hd0]at e;cases e
   have hbI:b∉ [I]:=fun z=>by rw [List.mem_singleton.mp z,hI0]at e;cases e
   exact(hs2.2 b hbd).trans (hk' b o hbI (hold b o e))
  ·refine hR h3 tk3 old3 ?_;have ed:ps.drop i=p::ps.drop (i+1):=by
    have hi':i<ps.length:=by omega
    rw [List.drop_eq_getElem_cons hi'];rw [List.getElem?_eq_getElem hi']at hpi;cases hpi;rfl
   rw [ed];exact hd3
end
section
variable {X:Cx}{e:Expr}{p pos:Pos}{tl:WL}
noncomputable def zkq (H:Hp) (q:List Key) (v:V):Prop:=∃t b,v= .ref t∧H t=some (.tup [.ref b, .bl true])∧H b=some (.tup (q.map kV))
noncomputable def zlr (qs:List (List Key)):List (List Key×V):=qs.foldl (fun kvs q=>zmq kvs q (.bl true)) []
theorem zhH:∀(qs:List (List Key)) (kvs:List (List Key×V)),(qs.foldl (fun kvs q=>zmq kvs q (V.bl true)) kvs).length≤kvs.length+qs.length
 | [],kvs=>by simp
 |q::qs,kvs=>by
  have h1:=ziU kvs q (V.bl true);have h2:=zhH qs (zmq kvs q (.bl true));rw [List.foldl_cons,List.length_cons];omega
theorem KT.fold{H:Hp}:∀(ps:List (List Key×Addr)) {kvs:List (List Key×V)}{xs:List (List Key×Addr×Value)},KT H kvs xs→(∀p∈ps,H p.2=some (.tup (p.1.map kV)))→KT H ((ps.map fun p=>p.1).foldl (fun kvs q=>zmq kvs q (.bl true)) kvs) (zqB xs ps)
 | [],_,_,r,_=>r
 |p::ps,kvs,xs,r,h=>by
  rw [List.map_cons,List.foldl_cons];exact KT.fold ps (r.put p.1 (h p List.mem_cons_self) rfl) fun p' hp'=>h p' (List.mem_cons_of_mem _ hp')
theorem zkO{P:Program}{w:World}{H:Hp}{h:Heap}(ok:HOk P w H h):∀{qs:List (List Key)}{vs:List V}{its:List Value},Paired (zkq H) qs vs→Vals vs its→ ∃ps:List (List Key×Addr),(ps.map fun p=>p.1)=qs∧
  (∀(i:Nat) (p:List Key×Addr) (v:Value),ps[i]? =some p→its[i]? =some v→ ∃(t:Addr) (o:Obj) (n:Nat),v= .ref t∧h.get? t=some o∧o.cls= .type "tuple" ∧o.data= .seq #[.ref p.2, .bool true] n)∧ ∀p∈ps,H p.2=some (.tup (p.1.map kV))
 |_,_,_, .nil, .nil=>⟨[],rfl,(fun i p v h=>by simp at h),fun _ h=>nomatch h⟩
 |_,_,_, .cons (a:=q) hq hs, .cons hv hvs=>by
  obtain⟨ps,e,h1,h2⟩:=zkO ok hs hvs;obtain⟨t,b,rfl,ht,hb⟩:=hq;refine⟨(q,b)::ps,by rw [List.map_cons,e],fun i p v hp hv'=>?_,fun p hp=>?_⟩
  ·cases i with
   |zero=>
    simp only[List.getElem?_cons_zero,Option.some.injEq]at hp hv';subst hp hv';obtain⟨_,its,r,o,g1,g2,n,g3⟩:=(show ObjOk P w H h t (.tup [.ref b, .bl true]) from ok t _ ht);cases r with
    |cons r1 r2=>
     cases r2 with
     |cons r3 r4=>
      cases r4;cases r1;cases r3;exact⟨t,o,n,hv,g1,g2,by simpa using g3⟩
   |succ i=>
    simp only[List.getElem?_cons_succ]at hp hv';exact h1 i p v hp hv'
  ·rcases List.mem_cons.mp hp with rfl |hp
   ·exact hb
   ·exact h2 p hp
theorem zlu (hc:X.calm=true) (hu:X.A.units+2<cLine):CallR X (.type "dict") (fun xs H Q=>∃(l:Addr) (vs:List V) (qs:List (List Key)),xs=[.ref l]∧SqL X.K H l vs∧Paired (zkq H) qs vs∧qs.length≤sizeLine∧ ∀d,H d=none→Q (.ref d) (upd H d (.dT (zlr qs)))):=by
 intro pins s σ H xs us Q I r h;obtain⟨l,vs,qs,rfl,hq,hp,hlen,q⟩:=h;obtain⟨u,rfl,rx⟩:=zgW r;cases rx;obtain⟨its,r',pl,hz⟩:=I.list hq;have hd:X.A.in1.handled=none:=I.ok.hd hc;have hl:l<s.heap.objs.size:=by obtain⟨o,n,e,_⟩:=pl;exact Heap.lt_size e
 refine callType_codes (Q₁:=fun obj s₁=>obj= .ref s.heap.objs.size∧s₁={ s with heap:=s.heap.push { cls:= .type "dict",data:= .dict #[] } }) F.kt_called_dict (F.kt_typeCall_dict_1 _) F.entry_dict_init (kt_code_dict_new _ ⟨rfl,rfl⟩) ?_;rintro obj s₁ ⟨rfl,rfl⟩;have hT:({ s with heap:=s.heap.push { cls:= .type "dict",data:= .dict #[] } }:Shared).TypeIs (.ref s.heap.objs.size) "dict" :=⟨_,Heap.get?_push_size _ rfl,rfl⟩;refine⟨hT,F.args_dict_init_2 _ _,?_⟩;unfold Builtin.«dict.__init__»;refine wpAny_bind ?_;unfold Builtin.Dict.selfAndRest;refine wpAny_bind (wpAny_notOrdered_dict hT ?_);show wpAny _ _ (pure (s.heap.objs.size,[Value.ref l])) _ _ _;refine wpAny_pure ?_;show wpAny _ _ (Builtin.Dict.updateFrom "dict.__init__" s.heap.objs.size (.ref l) [] .none) _ _ _;unfold Builtin.Dict.updateFrom;obtain⟨ol,nl,hol,hcl,hdl,hnl⟩:=pl;have hol1:=Heap.get?_push_of_some { cls:= .type "dict",data:= .dict #[] } hol;obtain⟨ps,eqs,hps,hks⟩:=zkO I.hok hp r';have hplen:ps.length=its.toArray.size:=by
  have h1:=congrArg List.length eqs;have h2:=Paired.length hp;have h3:=r'.length;rw [List.length_map]at h1;rw [List.size_toArray];omega
 refine wpAny_bind (wpAny_typeOf (T:= "list") ⟨ol,hol1,hcl⟩ ?_);dsimp only;rw [if_pos (by decide)];refine wpAny_bind (zgZ hol1 hcl hnl hdl zlR (by decide +kernel) hd fun h1 tk1 kp1=>?_);rw [if_pos (show(none:Option Value).isNone=true from rfl)];refine wpAny_bind (wpAny_rule ?_);have hl1:h1.IsList l its.toArray:=⟨ol,kp1 _ _ hol1,hcl,nl,hnl⟩;refine wpAny_bind (wpAny_pyIter_list hl1 ?_);refine wpAny_pure ⟨plainId_quiet zee _,?_⟩;have hd1:h1.get? s.heap.objs.size=some { cls:= .type "dict",data:= .dict #[] }:=kp1 _ _ (Heap.get?_push_size _ rfl);have hdlt:=Heap.lt_size hd1;have hI0:s.heap.get? h1.objs.size=none:=by
  cases z:s.heap.get? h1.objs.size with
  |none=>rfl
  |some ob=>exact absurd (Heap.lt_size (kp1 _ _ (Heap.get?_push_of_some _ z))) (Nat.lt_irrefl _)
 have hd0:s.heap.get? s.heap.objs.size=none:=by
  cases z:s.heap.get? s.heap.objs.size with
  |none=>rfl
  |some ob=>exact absurd (Heap.lt_size z) (Nat.lt_irrefl _)
 refine zlg (A:=X.A.in1) (I:=h1.objs.size) (l:=l) (d:=s.heap.objs.size) (items:=its.toArray) ?_ hd (Nat.ne_of_lt (Nat.lt_trans hl hdlt)) (Nat.ne_of_lt hdlt) (Nat.ne_of_gt hl) s.heap hd0 hI0 ps hplen (fun i p v h1 h2=>hps i p v h1 (by simpa using h2)) (fun p hp=>znr I.hok (hks p hp)) _ 0 _ [] rfl (Nat.zero_le _) ?_ ?_ ?_ ?_ ?_ fun h' tk' old' hd'=>?_
 ·exact tupleKind_room_in1 (A:=X.A.in1) (show X.A.in1.units+1<cLine from by have:X.A.in1.units=X.A.units+1:=rfl;omega)
 ·exact⟨_,Heap.get?_push_size _ rfl,rfl,rfl⟩
 ·exact hl1.push _
 ·exact fun b o e=>Heap.get?_push_of_some _ (kp1 _ _ (Heap.get?_push_of_some _ e))
 ·refine⟨_, #[],0,Heap.get?_push_of_some _ hd1,?_,rfl,rfl,(fun x hx=>nomatch hx),List.nodup_nil⟩
  first |exact⟨rfl,rfl⟩ |exact rfl |exact .inl rfl | (unfold Obj.ExactDict;simp)
 ·rw [List.length_nil,←hplen];have h1:=congrArg List.length eqs;rw [List.length_map]at h1;omega
 ·rw [List.drop_zero]at hd';obtain⟨o',es,ep,g1,g2,g3,g4,g5,g6⟩:=hd';have hl0:=zhH qs [];have kt:KT H (zlr qs) (zqB [] ps):=by
   have:=KT.fold ps (show KT H [] [] from .nil) hks;rw [eqs]at this;exact this
  refine⟨rfl, .ref s.heap.objs.size,_,I.laid (t':=tk') (o:= .dT (zlr qs)) old' (Nat.le_refl _) ⟨?_,?_,_,kt.keeps fun b ys eb=>?_,o',es,ep,g1,g2,g3,g4,g6⟩,rfl,q _ (I.hok.fresh (Nat.le_refl _))⟩
  ·simp only[List.length_nil,Nat.zero_add]at hl0;exact Nat.le_trans hl0 hlen
  ·have:=I.big;exact beq_eq_false_iff_ne.mpr (Nat.ne_of_gt this)
  ·rw [zav (zap eb (I.hok.fresh (Nat.le_refl _)))];exact eb
noncomputable def zdH:List W→Option (List (List Int))
 | []=>some []
 | .tup [k, .bl true]::ws=>match znm k,zdH ws with
  |some q,some qs=>some (q::qs)
  |_,_=>none
 |_=>none
noncomputable def zgd (qs:List (List Int)):List (List Int×W):=qs.foldl (fun kvs k=>zsa kvs k (.bl true)) []
noncomputable def zid:WF:=fun ws S Q=>match zdH ws with
 |some qs=>qs.length≤1000000∧ ∀a,S a=none→Q (.ref a) (put S a (.dct (zgd qs)))
 |none=>False
theorem zim{K:PySem.W.Frag}{H:Hp}:∀{ws:List W}{vs:List V}{qs:List (List Int)},Reps K H ws vs→zdH ws=some qs→Paired (zkq H) (qs.map fun q=>q.map Sum.inl) vs
 | [],_,_, .nil,e=>by
  simp only[zdH,Option.some.injEq]at e;subst e;exact .nil
 |w::ws,_,qs, .cons r rs,e=>by
  cases w with
  |tup us=>
   rcases us with _ |⟨k,_ |⟨b,_ |⟨x,us⟩⟩⟩
   ·simp [zdH]at e
   ·simp [zdH]at e
   ·cases b with
    |bl b=>
     cases b with
     |true=>
      simp only[zdH]at e;cases e1:znm k with
      |none=>rw [e1]at e;simp at e
      |some q=>
       cases e2:zdH ws with
       |none=>rw [e1,e2]at e;simp at e
       |some qs'=>
        rw [e1,e2]at e;simp only[Option.some.injEq]at e;subst e;cases r with
        | @tup t vs' _ ft hs=>
         cases hs with
         |cons r1 r2=>
          cases r2 with
          |cons r3 r4=>
           cases r4;cases r3;obtain⟨b,rfl,eb⟩:=zkd r1 e1;exact .cons ⟨t,b,rfl,ft,eb⟩ (zim rs e2)
     |false=>simp [zdH]at e
    |_=>simp [zdH]at e
   ·cases b<;>simp [zdH]at e
  |_=>simp [zdH]at e
theorem ziH{K:PySem.W.Frag}{H:Hp}:∀(qs:List (List Int)) {kvs:List (List Int×W)}{ps:List (List Key×V)},RepD K H kvs ps→RepD K H (qs.foldl (fun kvs k=>zsa kvs k (.bl true)) kvs) ((qs.map fun q=>q.map Sum.inl).foldl (fun kvs q=>zmq kvs q (.bl true)) ps)
 | [],_,_,r=>r
 |q::qs,_,_,r=>by
  rw [List.map_cons,List.foldl_cons,List.foldl_cons];exact ziH qs (r.put q (.bl true))
theorem zly{K:PySem.W.Frag}:zmn K (fun xs H Q=>∃(l:Addr) (vs:List V) (qs:List (List Key)),xs=[.ref l]∧SqL K H l vs∧Paired (zkq H) qs vs∧qs.length≤sizeLine∧ ∀d,H d=none→Q (.ref d) (upd H d (.dT (zlr qs)))) zid:=fun H a vs ws S Q QW ea na r hS h hQ=>by
 unfold zid at h;split at h
 ·rename_i qs e;have hp:=zim r e;refine⟨a,vs,_,rfl, .of ea,hp,?_,fun d hd=>?_⟩
  ·rw [List.length_map,sizeLine_eq];omega
  ·have rd:RepD K H (zgd qs) (zlr (qs.map fun q=>q.map Sum.inl)):=ziH qs (show RepD K H [] [] from .nil);have x:Ext H S (upd H d (.dT (zlr (qs.map fun q=>q.map Sum.inl)))) (put S d (.dct (zgd qs))):= .newS hd;refine hQ (.ref d) (put S d (.dct (zgd qs))) (.ref d) _ x (.ref d) (fun b o q=>?_) (h.2 d (hS.free hd));by_cases hb:b=d
   ·subst hb;rw [zai]at q;cases q;exact⟨_,zat,Paired.mapP rd fun _ _ z=>⟨z.1,z.2.ext x⟩⟩
   ·rw [zaZ hb]at q;exact hS.new hd b o q
 ·exact h.elim
theorem zpo{k:Nat}(hr:Room k X.A) (hg:Gl X "dict") (hm:X.mg "dict" =none) (ha:JL X e tl)
  (he:starEach [e] X.env=(false,eval e X.env)::starEach [] X.env:=by rfl) (hpl:(backTo pos (starEach [] X.env)).any (·.1)=false:=by rfl):JE X (.Call (.Name "dict" p) [e] [] pos) (wBL zid tl):=fun E hE=>
 zqA (zlu hE.calm (by have:=hr.units;omega)) zly hg hm PyProof.Rows.boot_dict ha (by decide) (by decide) he hpl E hE
theorem _root_.pz{a b:Prop}(h:a→b) (g:b→a):a=b:=propext ⟨h,g⟩
theorem zpE{ws:List W}{S:Sto}{Q:WK}:(zid ws S Q)=(match zdH ws with
 |some qs=>qs.length≤1000000∧ ∀a,S a=none→Q (.ref a) (put S a (.dct (zgd qs)))
 |none=>False):=pz id id
theorem ziE:∀ps:List (List Int),zdH (ps.map fun p=>W.tup [.tup (p.map W.int), .bl true])=some ps
 | []=>rfl
 |p::ps=>by
  have e:znm (.tup (p.map W.int))=some p:=by
   show zbI (p.map W.int)=some p
   induction p with
   |nil=>rfl
   |cons i p ih=>rw [List.map_cons,zbI,ih];rfl
  rw [List.map_cons,zdH,e,ziE ps]
theorem zow (kvs:List (List Int×W)) (q k:List Int) (v:W):(zeV (zsa kvs q v) k).isSome=(decide (k=q) || (zeV kvs k).isSome):=by
 have e:∀kvs:List (List Int×W),(zeV kvs k).isSome=kvs.any fun kv=>decide (kv.1=k):=fun kvs=>by
  unfold zeV;rw [Option.isSome_map]
  induction kvs with
  |nil=>rfl
  |cons a kvs ih=>
   rw [List.find?_cons,List.any_cons];cases decide (a.1=k) with
   |true=>rfl
   |false=>simpa using ih
 rw [e,e];unfold zsa;split
 ·rename_i h;have:(kvs.map fun kv=>if kv.1=q then(kv.1,v) else kv).any (fun kv=>decide (kv.1=k))=kvs.any fun kv=>decide (kv.1=k):=by
   rw [List.any_map];congr 1;funext kv;simp only[Function.comp];split<;>rfl
  rw [this];by_cases hk:k=q
  ·subst hk;rw [h];simp
  ·rw [decide_eq_false hk,Bool.false_or]
 ·rw [List.any_append];simp only[List.any_cons,List.any_nil,Bool.or_false];rw [Bool.or_comm];congr 1;apply decide_eq_decide.mpr;exact eq_comm
theorem zku:∀(qs:List (List Int)) (kvs:List (List Int×W)) (k:List Int),(zeV (qs.foldl (fun kvs k=>zsa kvs k (.bl true)) kvs) k).isSome=(decide (k∈qs) || (zeV kvs k).isSome)
 | [],kvs,k=>by simp
 |q::qs,kvs,k=>by
  rw [List.foldl_cons,zku qs,zow,←Bool.or_assoc];congr 1;rw [Bool.eq_iff_iff];simp only[Bool.or_eq_true,decide_eq_true_eq,List.mem_cons];exact or_comm
theorem zil (qs:List (List Int)) (k:List Int):(zeV (zgd qs) k).isSome=decide (k∈qs):=by
 unfold zgd;rw [zku];simp [zeV]
end
theorem zlO:typeLookup (.type "list_reverseiterator") "__len__" =pure none:=by rw [typeLookup_type,builtinLookup_eq_fast];kernel_rfl
theorem zpi:typeLookup (.type "list_reverseiterator") "__length_hint__" =pure (some (.builtin "list_reverseiterator.__length_hint__")):=by rw [typeLookup_type,builtinLookup_eq_fast];kernel_rfl
section
variable {prog:Program}{w:World}{A:Around}{E:Value→Shared→Prop}{s:Shared}
theorem zlM{R:Result→Shared→Prop}{I l:Addr}{items:Array Value}(hh:A.in1.handled=none) (hne:l≠I) (hit:s.heap.IsRevIter I l ((items.size:Int) - 1)) (hl:s.heap.IsList l items) (hz:items.size≤sizeLine) (S:Addr) (res:Value) (c₀:Nat) (hS:s.heap.get? S=some { cls:= .type "list",data:= .seq #[] c₀ }) (hSI:S≠I) (hSl:S≠l)
  (hR:∀h' tk acc' c',(∀b o,b≠S→b≠I→s.heap.get? b=some o→h'.get? b=some o)→h'.get? S=some { cls:= .type "list",dict:=none,data:= .seq acc' c',slots:= #[] }→
   ItemsOf (fun i v=>items[items.size - 1 - i]? =some v) acc' items.size→R (.ok (.ret res)) { s with heap:=h',toks:=tk }) :
  wpAny (model prog w) A.in1 (Builtin.List.listExtendWith (.ref S) (.ref I) res)
   (fun fin s'=>match fin with | .done f=>R (.ok f) s' | .again c'=>c'.quiet=true∧codeAny (model prog w) A c' R s') (fun e s'=>R (.error e) s') s:=by
 have hSf:S∉ [I,l]:=fun hm=>by
  rcases List.mem_cons.mp hm with z |z
  ·exact hSI z
  ·exact hSl (List.mem_singleton.mp z)
 have W:=(Walks.listRev (prog:=prog) (w:=w) (A:=A.in1) hh I l hne items).toS;have hT:=hit.typeIs;have h1:Builtin.List.listSameRef (.ref S) (.ref I)=false:=by simp [Builtin.List.listSameRef,hSI]
 unfold Builtin.List.listExtendWith;refine wpAny_bind (wpAny_typeOf hT ?_);rw [if_neg (by rw [h1];decide)];refine wpAny_bind (wpAny_pyIter_revIter hit ?_);refine wpAny_bind (wpAny_holding ?_);unfold Builtin.List.listLengthHint;refine wpAny_bind (wpAny_specialOf hT zlO ?_);show wpAny _ A.in1 (specialOf (Value.ref I) (Str.ofString "__length_hint__") >>= _) _ _ _;refine wpAny_bind (wpAny_specialOf hT zpi ?_);generalize hid:("list_reverseiterator.__length_hint__" :String)=id0
 wp_delta
 rw [show splitId id0=some ("list_reverseiterator", "__length_hint__") from by subst hid;decide +kernel]
 subst hid;refine wpAny_bind (wpAny_isInstance (b:=true) hT (by rw [isSubtype_type];kernel_rfl) ?_);refine wpAny_pure ?_;rw [if_neg (by decide)];refine wpAny_pure ⟨plainId_quiet F.plain_extend_loop _,codeAny_extend_loopS W hz _ hSf _ items.size 0 _ _ _ rfl (Nat.zero_le _) ?_ hS (ItemsOf.nil _) fun s' acc' c' hm hS' hacc=>?_⟩
 ·exact⟨Nat.zero_le _,by simpa using hit,hl⟩
 ·rw [Moved.eq_with hm];refine hR s'.heap s'.toks acc' c' (fun b o hb hbI e=>hm.heap b o (fun hmem=>?_) e) hS' hacc;rcases List.mem_cons.mp hmem with z |z
  ·exact hb z
  ·exact hbI (List.mem_singleton.mp z)
theorem zho{R:Result→Shared→Prop}{I l:Addr}{items:Array Value}(hh:A.in1.handled=none) (hne:l≠I) (hit:s.heap.IsRevIter I l ((items.size:Int) - 1)) (hl:s.heap.IsList l items) (hz:items.size≤sizeLine) (S:Addr) (hS:s.heap.get? S=some { cls:= .type "list",data:= .seq #[] }) (hSI:S≠I) (hSl:S≠l)
  (hR:∀h' tk acc' c',(∀b o,b≠S→b≠I→s.heap.get? b=some o→h'.get? b=some o)→h'.get? S=some { cls:= .type "list",dict:=none,data:= .seq acc' c',slots:= #[] }→
   ItemsOf (fun i v=>items[items.size - 1 - i]? =some v) acc' items.size→R (.ok (.ret .none)) { s with heap:=h',toks:=tk }) :
  wpAny (model prog w) A.in1 (Builtin.«list.__init__» ⟨[.ref S, .ref I],[]⟩)
   (fun fin s'=>match fin with | .done f=>R (.ok f) s' | .again c'=>c'.quiet=true∧codeAny (model prog w) A c' R s') (fun e s'=>R (.error e) s') s:=by
 show wpAny _ _ (do let old ←Builtin.List.listItems (.ref S);Builtin.List.listUpdate (.ref S) (fun _=> #[]);letGo old.toList.reverse;Builtin.List.listExtendWith (.ref S) (.ref I) .none) _ _ s;refine wpAny_bind ?_;unfold Builtin.List.listItems;refine wpAny_bind (wpAny_seqItems hS rfl (wpAny_pure ?_));show wpAny _ _ (updateSeq S (fun _=> #[]) >>= fun _=>letGo (#[]:Array Value).toList.reverse >>= fun _=>Builtin.List.listExtendWith (.ref S) (.ref I) .none) _ _ s;refine wpAny_bind (wpAny_updateSeq hS rfl ?_);have hS₂:=Heap.get?_update_self (Obj.mapSeq (fun _=>(#[]:Array Value))) hS rfl;have oth:∀b o,b≠S→s.heap.get? b=some o→(s.heap.update S (Obj.mapSeq (fun _=>(#[]:Array Value)))).get? b=some o:=
  fun b o hb e=>(Heap.get?_update_other _ _ (Ne.symm hb)).trans e
 refine wpAny_bind (wpAny_letGo ?_);exact zlM hh hne (hit.at fun o e=>oth I o (Ne.symm hSI) e) (hl.at fun o e=>oth l o (Ne.symm hSl) e) hz S .none _ hS₂ hSI hSl fun h' tk acc' c' hk hS' hacc=>
  hR h' tk acc' c' (fun b o hb hbI e=>hk b o hb hbI (oth b o hb e)) hS' hacc
theorem zgN{I l:Addr}{items:Array Value}{Q:Value→Shared→Prop}(hh:A.handled=none) (hne:l≠I) (hit:s.heap.IsRevIter I l ((items.size:Int) - 1)) (hl:s.heap.IsList l items) (hz:items.size≤sizeLine)
  (hQ:∀h' tk acc' c',(∀b o,b≠I→s.heap.get? b=some o→h'.get? b=some o)→h'.get? s.heap.objs.size=some { cls:= .type "list",dict:=none,data:= .seq acc' c',slots:= #[] }→
   ItemsOf (fun i v=>items[items.size - 1 - i]? =some v) acc' items.size→Q (.ref s.heap.objs.size) { s with heap:=h',toks:=tk }) :
  wpAny (model prog w) A (call (.type "list") [.ref I]) Q E s:=by
 have hIlt:I<s.heap.objs.size:=by obtain⟨o,e,_⟩:=hit;exact Heap.lt_size e
 have hllt:l<s.heap.objs.size:=by obtain⟨o,e,_⟩:=hl;exact Heap.lt_size e
 refine callType_codes (Q₁:=fun obj s₁=>obj= .ref s.heap.objs.size∧s₁={ s with heap:=s.heap.push { cls:= .type "list",data:= .seq #[] } }) F.called_list (F.typeCall_list_1 _) F.entry_list_init
  (code_list_new _ ⟨rfl,rfl⟩) fun obj s₁ h₁=>?_
 obtain⟨rfl,rfl⟩:=h₁;have hS:(s.heap.push { cls:= .type "list",data:= .seq #[] }).get? s.heap.objs.size=some { cls:= .type "list",data:= .seq #[] }:=Heap.get?_push_size _ rfl;refine⟨⟨_,hS,rfl⟩,F.args_list_init_2 _ _,zho (A:=A.in1) hh hne (hit.at fun o e=>Heap.get?_push_of_some _ e) (hl.push _) hz _ hS (Nat.ne_of_gt hIlt) (Nat.ne_of_gt hllt) fun h' tk acc' c' hk hS' hacc=>?_⟩;exact⟨rfl,hQ h' tk acc' c' (fun b o hb e=>hk b o (Nat.ne_of_lt (Heap.lt_size e)) hb (Heap.get?_push_of_some _ e)) hS' hacc⟩
end
theorem Vals.rev:∀{vs:List V}{us:List Value},Vals vs us→Vals vs.reverse us.reverse
 |_,_, .nil=> .nil
 |_,_, .cons a b=>by
  rw [List.reverse_cons,List.reverse_cons];exact(Vals.rev b).append (.cons a .nil)
theorem zlY{items acc:Array Value}(h:ItemsOf (fun i v=>items[items.size - 1 - i]? =some v) acc items.size):acc.toList=items.toList.reverse:=by
 apply List.ext_getElem?;intro i;obtain⟨hs,hi⟩:=h;by_cases hlt:i<items.size
 ·have hlt':i<acc.size:=by omega
  have e:=hi i acc[i] (Array.getElem?_eq_getElem hlt');rw [Array.getElem?_toList,Array.getElem?_eq_getElem hlt',List.getElem?_reverse (by simpa using hlt)];simpa using e.symm
 ·rw [List.getElem?_eq_none (by simp;omega),List.getElem?_eq_none (by simp;omega)]
section
variable {X:Cx}{a:Expr}{p pos p2 pos2:Pos}
noncomputable def zoS (K:PySem.W.Frag) (ta:TE):TE:=fun σ H Q=>ta σ H fun v H1=>∃l vs,v= .ref l∧SqL K H1 l vs∧ ∀q,H1 q=none→Q (.ref q) (upd H1 q (.lst vs.reverse))
theorem zlE{ta:TE}(hc:X.calm=true) (hg:Gl X "list") (hm:X.mg "list" =none) (hg2:Gl X "reversed") (hm2:X.mg "reversed" =none) (ha:PE X a ta)
  (he:starEach [.Call (.Name "reversed" p2) [a] [] pos2] X.env=[(false,eval (.Call (.Name "reversed" p2) [a] [] pos2) X.env)]:=by rfl) (hs:starEach [a] X.env=[(false,eval a X.env)]:=by rfl):PE X (.Call (.Name "list" p) [.Call (.Name "reversed" p2) [a] [] pos2] [] pos) (zoS X.K ta):=by
 intro pins s σ H Q I h;refine wpAny_Call_Name_kw (zeN I hg hm PyProof.Rows.boot_list (PyProof.Rows.callWith_type1 ?_ he rfl));rw [he];show wpAny _ _ (spliced ((false,eval _ X.env)::backTo pos [])) _ _ s;refine Calls.spliced_cons ?_;refine wpAny_Call_Name_kw (zeN I hg2 hm2 PyProof.Rows.boot_reversed (PyProof.Rows.callWith_type1 (thn (zcy ha pa_nil hs pos2 pins s σ H (fun vs H1=>match vs with
  | [v]=>∃l vs,v= .ref l∧SqL X.K H1 l vs∧ ∀q,H1 q=none→Q (.ref q) (upd H1 q (.lst vs.reverse))
  |_=>False) I h) fun us s1 ⟨vs,H1,I1,r1,q1⟩=>?_) hs rfl))
 match vs,q1 with
 | [v],q1=>
  obtain⟨l,xs,rfl,hq,q⟩:=q1;obtain⟨u,rfl,rx⟩:=zgW r1;cases rx;obtain⟨its,r',pl,hz⟩:=I1.list hq;have hlen:=r'.length;have hl:s1.heap.IsList l its.toArray:=pl.isList;have hllt:l<s1.heap.objs.size:=by obtain⟨o,e,_⟩:=hl;exact Heap.lt_size e
  refine PySem.call_reversed_list hl (Calls.spliced_nil ?_);refine zgN (items:=its.toArray) (I1.ok.hd hc) (Nat.ne_of_lt hllt) ⟨_,Heap.get?_push_size _ rfl,rfl,rfl⟩ (hl.push _) (by rw [List.size_toArray];omega) fun h' tk acc c' kp e it=>?_;have ea:=zlY it;have hsz:s1.heap.objs.size≤(s1.heap.push (revObj l ((its.toArray.size:Int) - 1))).objs.size:=by rw [Heap.size_push];exact Nat.le_succ _
  have kp':∀b u,s1.heap.get? b=some u→h'.get? b=some u:=fun b u eu=>kp b u (Nat.ne_of_lt (Heap.lt_size eu)) (Heap.get?_push_of_some _ eu);have rv:Vals xs.reverse acc.toList:=by rw [ea];exact Vals.rev r'
  refine⟨.ref _,_,I1.laid (t':=tk) (o:= .lst xs.reverse) kp' hsz ⟨?_,acc.toList,c',rv,by simpa using e⟩,rfl,q _ (I1.hok.fresh hsz)⟩
  rw [List.length_reverse];exact hz
noncomputable def zcY (t:WE):WL:=fun E σ S Q=>t E σ S fun w S1=>match w with
 | .ref l=>zbL S1 l fun ws=>Q ws.reverse S1
 |_=>False
theorem Reps.rev{K:PySem.W.Frag}{H:Hp}:∀{ws:List W}{vs:List V},Reps K H ws vs→Reps K H ws.reverse vs.reverse
 |_,_, .nil=> .nil
 |_,_, .cons a b=>by
  rw [List.reverse_cons,List.reverse_cons];exact(Reps.rev b).append (.cons a .nil)
theorem zfJ{te:WE}(hg:Gl X "list") (hm:X.mg "list" =none) (hg2:Gl X "reversed") (hm2:X.mg "reversed" =none) (ha:JE X a te)
  (he:starEach [.Call (.Name "reversed" p2) [a] [] pos2] X.env=[(false,eval (.Call (.Name "reversed" p2) [a] [] pos2) X.env)]:=by rfl) (hs:starEach [a] X.env=[(false,eval a X.env)]:=by rfl):JL X (.Call (.Name "list" p) [.Call (.Name "reversed" p2) [a] [] pos2] [] pos) (zcY te):=fun E hE=>
 (zlE hE.calm hg hm hg2 hm2 (ha E hE) he hs).mono fun σ H Q ⟨σW,S,QW,hσ,hS,ht,hQ⟩=>⟨σW,S,_,hσ,hS,ht,fun w S1 v H1 e1 r1 hS1 h1=>by
  cases r1 with
  |ref a=>
   obtain⟨us,e,h⟩:=zaU h1;obtain⟨vs,f,hs⟩:=hS1 a _ e;exact⟨a,vs,rfl, .of f,fun l hl=>hQ _ S1 _ l _ (e1.trans (.new hl)) (e1.free hl) zat (hS1.free hl) (hs.rev.ext (.new (S:=S1) hl)) (hS1.new hl) h⟩
  |_=>exact h1.elim⟩
end
section
variable {E:WX}{σ:WSt}{S:Sto}{QA:List W→Sto→Prop}
theorem zfu{t:WE}:(zcY t E σ S QA)=(t E σ S fun w S1=>match w with
 | .ref l=>zbL S1 l fun ws=>QA ws.reverse S1
 |_=>False):=pz id id
end
theorem zrn{X:Cx}{b:List Stmt}{h₀:ExceptHandler}{hs:List ExceptHandler}{pos:Pos}{t:WS}(h:JSs X b t):JS X (.Try b (h₀::hs) [] [] pos) t:=fun E hE pins s σ H D I z=>
 wpAny_Try_except (wpAny_mono (h E hE pins s σ H D I z) (fun f s1 q=>by
  cases f with
  |next=>exact wpAny_execs_nil q
  |ret v=>exact q
  |brk=>exact q
  |cont=>exact q) fun e s1 q=>by rw [hE.xe]at q;exact q.elim)
inductive Tr where
  |bl (n:Int)
  |nd (s:Str) (ts:List Tr)
noncomputable def Tr.kids:Tr→List Tr
 | .bl _=>[]
 | .nd _ ts=>ts
mutual
noncomputable def Tr.weight:Tr→Nat
 | .bl _=>1
 | .nd _ ts=>1+wts ts
noncomputable def wts:List Tr→Nat
 | []=>0
 |t::ts=>t.weight+wts ts
end
mutual
noncomputable def Tr.depth:Tr→Nat
 | .bl _=>1
 | .nd _ ts=>1+dts ts
noncomputable def dts:List Tr→Nat
 | []=>0
 |t::ts=>max t.depth (dts ts)
end
theorem zlX:wts []=0:=by unfold wts;rfl
theorem zdA (t:Tr) (ts:List Tr):wts (t::ts)=t.weight+wts ts:=by
 conv=>lhs;unfold wts
theorem zdz:∀(ts us:List Tr),wts (ts++us)=wts ts+wts us
 | [],us=>by
  show wts us=wts []+wts us;rw [zlX];omega
 |t::ts,us=>by
  show wts (t::(ts++us))=_;rw [zdA,zdA,zdz ts us];omega
theorem zjr:dts []=0:=by unfold dts;rfl
theorem zex (t:Tr) (ts:List Tr):dts (t::ts)=max t.depth (dts ts):=by
 conv=>lhs;unfold dts
theorem zcZ (t:Tr):t.weight=1+wts t.kids:=by
 cases t with
 |bl n=>
  show Tr.weight (.bl n)=1+wts [];unfold Tr.weight wts;rfl
 |nd s ts=>
  show Tr.weight (.nd s ts)=1+wts ts
  conv=>lhs;unfold Tr.weight
theorem zdw (t:Tr):t.depth=1+dts t.kids:=by
 cases t with
 |bl n=>
  show Tr.depth (.bl n)=1+dts [];unfold Tr.depth dts;rfl
 |nd s ts=>
  show Tr.depth (.nd s ts)=1+dts ts
  conv=>lhs;unfold Tr.depth
theorem zeK (t:Tr):1≤t.weight:=by rw [zcZ];omega
theorem zbK (t:Tr):1≤t.depth:=by rw [zdw];omega
theorem zgi:∀(ts us:List Tr),dts (ts++us)=max (dts ts) (dts us)
 | [],us=>by
  show dts us=max (dts []) (dts us);rw [zjr];omega
 |t::ts,us=>by
  show dts (t::(ts++us))=_;rw [zex,zex,zgi ts us];exact(Nat.max_assoc _ _ _).symm
theorem zcJ:∀(ts:List Tr),ts.length≤wts ts
 | []=>Nat.zero_le _
 |t::ts=>by
  have:=zcJ ts;have:=zeK t;rw [zdA,List.length_cons];omega
theorem zdM{t:Tr}:∀{ts:List Tr},t∈ts→t.weight≤wts ts
 | [],h=>by cases h
 |u::ts,h=>by
  rw [zdA];rcases List.mem_cons.mp h with e |h
  ·rw [e];omega
  ·have:=zdM h;omega
theorem zkX:∀{ts:List Tr},ts≠ []→dts ts=1+dts (ts.flatMap Tr.kids)
 | [],h=>absurd rfl h
 | [t],_=>by
  rw [List.flatMap_cons,List.flatMap_nil,List.append_nil,zex,zjr,zdw];omega
 |t::u::r,_=>by
  have ih:=zkX (ts:=u::r) (by simp);have e:(t::u::r).flatMap Tr.kids=t.kids++(u::r).flatMap Tr.kids:=List.flatMap_cons ..;rw [zex,ih,e,zgi,zdw];omega
theorem zkh:∀(ts:List Tr),wts (ts.flatMap Tr.kids)+ts.length=wts ts
 | []=>by rw [List.flatMap_nil,zlX];rfl
 |t::ts=>by
  have ih:=zkh ts;rw [List.flatMap_cons,zdz,zdA,List.length_cons,zcZ];omega
mutual
theorem zdn:∀t:Tr,t.depth≤t.weight
 | .bl n=>by unfold Tr.depth Tr.weight;exact Nat.le_refl _
 | .nd s ts=>by
  have:=zgn ts;rw [zdw,zcZ];show 1+dts ts≤1+wts ts;omega
theorem zgn:∀ts:List Tr,dts ts≤wts ts
 | []=>by rw [zjr];exact Nat.zero_le _
 |t::ts=>by
  have:=zdn t;have:=zgn ts;rw [zex,zdA];omega
end
mutual
noncomputable def enc:Tr→W
 | .bl n=> .int n
 | .nd s ts=> .tup (.str s::encs ts)
noncomputable def encs:List Tr→List W
 | []=>[]
 |t::ts=>enc t::encs ts
end
theorem zaG:∀ts:List Tr,encs ts=ts.map enc
 | []=>by simp [encs]
 |t::ts=>by simp [encs,zaG ts]
theorem zbh (ts:List Tr):(encs ts).length=ts.length:=by rw [zaG,List.length_map]
noncomputable def zaM (p:List Int):W:= .tup (p.map W.int)
theorem zjb:zbF "int" "int" =true:=by decide +kernel
theorem zhE:zbF "int" "bool" =false:=by decide +kernel
theorem zjs:zbF "int" "str" =false:=by decide +kernel
theorem zgE:zbF "int" "tuple" =false:=by decide +kernel
theorem zit:zbF "int" "list" =false:=by decide +kernel
theorem zhw:zbF "bool" "int" =true:=by decide +kernel
theorem zhl:zbF "bool" "bool" =true:=by decide +kernel
theorem ziJ:zbF "bool" "str" =false:=by decide +kernel
theorem zgc:zbF "bool" "tuple" =false:=by decide +kernel
theorem zgS:zbF "bool" "list" =false:=by decide +kernel
theorem zjH:zbF "str" "int" =false:=by decide +kernel
theorem zhN:zbF "str" "bool" =false:=by decide +kernel
theorem ziP:zbF "str" "str" =true:=by decide +kernel
theorem zhj:zbF "str" "tuple" =false:=by decide +kernel
theorem zhT:zbF "str" "list" =false:=by decide +kernel
theorem zgJ:zbF "tuple" "int" =false:=by decide +kernel
theorem zfZ:zbF "tuple" "bool" =false:=by decide +kernel
theorem zgU:zbF "tuple" "str" =false:=by decide +kernel
theorem sub_tuple_tuple:zbF "tuple" "tuple" =true:=by decide +kernel
theorem sub_tuple_list:zbF "tuple" "list" =false:=by decide +kernel
theorem zhy:zbF "list" "int" =false:=by decide +kernel
theorem zhk:zbF "list" "bool" =false:=by decide +kernel
theorem zib:zbF "list" "str" =false:=by decide +kernel
theorem sub_list_tuple:zbF "list" "tuple" =false:=by decide +kernel
theorem sub_list_list:zbF "list" "list" =true:=by decide +kernel
section
variable {α:Type}{x:α}{xs:List α}
theorem zkA (n:Nat):zcj xs (some (n:Int)) none=xs.drop n:=by
 unfold zcj;rw [HT.sIx_nat,HT.sIx_none];by_cases h:n≤xs.length
 ·rw [Nat.min_eq_left h,List.take_of_length_le (by rw [List.length_drop];omega)]
 ·rw [Nat.min_eq_right (by omega),List.drop_of_length_le (Nat.le_refl _),List.drop_of_length_le (by omega),List.take_nil]
theorem zkH (n:Nat):zcj xs none (some (n:Int))=xs.take n:=by
 unfold zcj;rw [HT.sIx_nat,HT.sIx_none,List.drop_zero,Nat.sub_zero];by_cases h:n≤xs.length
 ·rw [Nat.min_eq_left h]
 ·rw [Nat.min_eq_right (by omega),List.take_length,List.take_of_length_le (by omega)]
theorem zrQ (n m:Nat):zcj xs (some (n:Int)) (some (m:Int))=(xs.drop n).take (m - n):=by
 unfold zcj;rw [HT.sIx_nat,HT.sIx_nat];by_cases h:n≤xs.length
 ·rw [Nat.min_eq_left h];by_cases h2:m≤xs.length
  ·rw [Nat.min_eq_left h2]
  ·rw [Nat.min_eq_right (by omega),List.take_of_length_le (by rw [List.length_drop];omega),List.take_of_length_le (by rw [List.length_drop];omega)]
 ·rw [Nat.min_eq_right (show xs.length≤n by omega),List.drop_of_length_le (Nat.le_refl _),List.drop_of_length_le (show xs.length≤n by omega),List.take_nil,List.take_nil]
theorem zrZ:zcj (x::xs) (some 1) none=xs:=by rw [show(1:Int)=((1:Nat):Int) from rfl,zkA];rfl
theorem zmg{n d k:Nat}(h:0<k):HT.sIx n d (some (-(k:Int)))=n - k:=by
 show(if(-(k:Int))<0 then(-(k:Int)+(n:Int)).toNat else min (-(k:Int)).toNat n)=n - k;rw [if_pos (by omega)];omega
theorem ziT (k:Nat) (h:0<k):zcj xs none (some (-(k:Int)))=xs.take (xs.length - k):=by
 unfold zcj;rw [zmg h,HT.sIx_none,List.drop_zero,Nat.sub_zero]
theorem zmK (k:Nat) (h:0<k):zcj xs (some (-(k:Int))) none=xs.drop (xs.length - k):=by
 unfold zcj;rw [zmg h,HT.sIx_none,List.take_of_length_le (by rw [List.length_drop];omega)]
theorem zca{n:Nat}:atI xs (n:Int)=xs[n]? :=by
 unfold atI ixN;rw [if_pos (by omega)];by_cases h:n<xs.length
 ·rw [if_pos (by omega)];simp
 ·rw [if_neg (by omega)];simp;omega
theorem zgD:atI (x::xs) 0=some x:=zca (n:=0)
end
section
variable {S S':Sto}{a b:Addr}{o:Ob}{Q:List W→Prop}{ws:List W}
theorem zjW{u:Ob}(h:b≠a):put (put S a o) b u=put (put S b u) a o:=by
 funext c;unfold put;by_cases h1:c=b
 ·rw [if_pos h1,if_pos h1,if_neg (by rw [h1];exact h)]
 ·rw [if_neg h1,if_neg h1]
theorem zkB{u o':Ob}(h:b≠a):put (put (put S a o) b u) a o'=put (put S a o') b u:=by rw [zjW h,zaW,zjW h]
theorem zei:zbL (put S a (.lst ws)) a Q=Q ws:=zag zai
theorem zde (h:put S a o b=none):S b=none∧b≠a:=by
 have hb:b≠a:=by rintro rfl;rw [zai]at h;cases h
 rw [zaZ hb]at h;exact⟨h,hb⟩
theorem zqM{u:Ob}(h:S a=some u) (n:S b=none):a≠b:=by rintro rfl;rw [h]at n;cases n
theorem Sub.put (h:Sub S S') (n:S a=none):Sub S (L2.put S' a o):=fun b u e=>by rw [zaZ (zqM e n)];exact h b u e
theorem Sub.put2{u:Ob}(h:Sub S S'):Sub (L2.put S a u) (L2.put S' a u):=fun b w e=>by
 by_cases hb:b=a
 ·subst hb;rw [zai]at e⊢;exact e
 ·rw [zaZ hb]at e⊢;exact h b w e
end
theorem zux (S:Sto) (a b:Int):eqF S 60 (.int a) (.int b)=some (a == b):=by have h:eqF S 60 (.int a) (.int b)=some (a == b):=rfl;exact h
theorem zuP (S:Sto) (a b:Str):eqF S 60 (.str a) (.str b)=some (a == b):=by have h:eqF S 60 (.str a) (.str b)=some (a == b):=rfl;exact h
theorem ztW (S:Sto) (a b:Bool):eqF S 60 (.bl a) (.bl b)=some (a == b):=by have h:eqF S 60 (.bl a) (.bl b)=some (a == b):=rfl;exact h
theorem zal{n:Nat}(h:n≤16777216):n≤sizeLine:=by rw [sizeLine_eq];exact h
theorem zct{n:Nat}(h:n<16777216):n<sizeLine:=by rw [sizeLine_eq];exact h
section
variable {S:Sto}{Q:WK}{QB:Bool→Sto→Prop}{QS:List W→(Sto→Prop)→Prop}{QT:String→Prop}
theorem zey{a:Addr}{o:Ob}(h:S a=some o):put S a o=S:=by
 funext b;unfold put;split
 ·rename_i e;rw [e,h]
 ·rfl
theorem zpg{b:Bool}:zqn (.bl b) S QB=QB b S:=pz id id
theorem znG{i:Int}:zqn (.int i) S QB=QB (i != 0) S:=pz id id
theorem zmZ{ws:List W}:zqn (.tup ws) S QB=QB (!ws.isEmpty) S:=pz id id
theorem zmI{a:Addr}:zqn (.ref a) S QB=zbL S a fun ws=>QB (!ws.isEmpty) S:=pz id id
theorem zmx:zqn .non S QB=QB false S:=pz id id
theorem znt{ws:List W}:zmP (.tup ws) S QS=QS ws fun _=>True:=pz id id
theorem zhR{a:Addr}:zmP (.ref a) S QS=zbL S a fun ws=>QS ws fun S'=>S' a=some (.lst ws):=pz id id
theorem zqJ{b:Bool}:tyW (.bl b) S QT=QT "bool" :=pz id id
theorem zpJ{i:Int}:tyW (.int i) S QT=QT "int" :=pz id id
theorem zpf{i:Str}:tyW (.str i) S QT=QT "str" :=pz id id
theorem zoj{i:List W}:tyW (.tup i) S QT=QT "tuple" :=pz id id
theorem zoD:tyW .non S QT=QT "NoneType" :=pz id id
theorem zpm{a:Addr}:tyW (.ref a) S QT=zbL S a fun _=>QT "list" :=pz id id
theorem zmt{i j:Int}:zcK (.int i) (.int j) S Q=Q (.int (i+j)) S:=pz id id
theorem zmM{i j:Str}:zcK (.str i) (.str j) S Q=(i.length+j.length≤sizeLine∧Q (.str (i++j)) S):=pz id id
theorem zfB{i j:List W}:zcK (.tup i) (.tup j) S Q=(i.length+j.length≤sizeLine∧Q (.tup (i++j)) S):=pz id id
theorem zmL{a b:Addr}:zcK (.ref a) (.ref b) S Q=zbL S a fun xs=>zbL S b fun ys=>xs.length+ys.length≤sizeLine∧ ∀p,S p=none→Q (.ref p) (put S p (.lst (xs++ys))):=pz id id
theorem zvf{C:Int→Int→Prop}{g:Int→Int→W}{i j:Int}:zci C g (.int i) (.int j) S Q=(C i j∧Q (g i j) S):=pz id id
theorem ztX{g:Int→Int→W}{i j:Int}:zed g (.int i) (.int j) S Q=Q (g i j) S:=pz id id
theorem zps{i j:Int}:oLe (.int i) (.int j) S Q=Q (.bl (decide (i≤j))) S:=pz id id
theorem zpr{i j:Str}:oLe (.str i) (.str j) S Q=Q (.bl (!decide (j.cps.toList<i.cps.toList))) S:=pz id id
theorem zmT{us:List W}:zeE [.tup us] S Q=Q (.int us.length) S:=pz id id
theorem zmY{a:Addr}:zeE [.ref a] S Q=zbL S a fun us=>Q (.int us.length) S:=pz id id
theorem znx{ns:List Int}:zeE [.scr ns] S Q=Q (.int ns.length) S:=pz id id
theorem zmQ{z:Str}:zeE [.str z] S Q=(z.length≤sizeLine∧Q (.int z.length) S):=pz id id
theorem zpp{ws:List W}{i:Int}:oIx (.tup ws) (.int i) S Q=match atI ws i with
 |some w=>Q w S
 |none=>False:=pz id id
theorem zpj{a:Addr}{i:Int}:oIx (.ref a) (.int i) S Q=zbL S a fun ws=>match atI ws i with
 |some w=>Q w S
 |none=>False:=pz id id
theorem zpx{ns:List Int}{i:Int}:oIx (.scr ns) (.int i) S Q=match atI ns i with
 |some n=>Q (.int n) S
 |none=>False:=pz id id
theorem zoY{x:Str}{i:Int}:oIx (.str x) (.int i) S Q=(x.length≤sizeLine∧match atI x.cps.toList i with
 |some c=>Q (.str ⟨#[c]⟩) S
 |none=>False):=pz id id
theorem zol{ws:List W}{lo hi:Option Int}:oSl (.tup ws) lo hi S Q=Q (.tup (zcj ws lo hi)) S:=pz id id
theorem zpH{z:Str}{lo hi:Option Int}:oSl (.str z) lo hi S Q=(z.length≤sizeLine∧Q (.str (Txt.slice z lo hi)) S):=pz id id
theorem zpa{a:Addr}{lo hi:Option Int}:oSl (.ref a) lo hi S Q=zbL S a fun ws=>∀p,S p=none→Q (.ref p) (put S p (.lst (zcj ws lo hi))):=pz id id
theorem zpb{ns:List Int}{lo hi:Option Int}:oSl (.scr ns) lo hi S Q= ∀p,S p=none→Q (.ref p) (put S p (.lst ((zcj ns lo hi).map W.int))):=pz id id
theorem zjI{us:List W}:zdv [.tup us] S Q=Q (.tup us) S:=pz id id
theorem zjc{a:Addr}:zdv [.ref a] S Q=zbL S a fun us=>Q (.tup us) S:=pz id id
theorem zoX{a:Addr}{y:W}:zcu (.ref a) [y] S Q=zbL S a fun xs=>xs.length<sizeLine∧Q .non (put S a (.lst (xs++[y]))):=pz id id
theorem zwa{a:Addr}:zxc (.ref a) [] S Q=zbL S a fun xs=>match xs[xs.length - 1]? with
 |some y=>Q y (put S a (.lst xs.dropLast))
 |none=>False:=pz id id
theorem zhJ{a:Addr}{ys:List W}:zfm (.ref a) [.tup ys] S Q=zbL S a fun xs=>xs.length+ys.length≤sizeLine∧Q .non (put S a (.lst (xs++ys))):=pz id id
theorem ziI{a b:Addr}:zfm (.ref a) [.ref b] S Q=zbL S a fun xs=>zbL S b fun ys=>xs.length+ys.length≤sizeLine∧Q .non (put S a (.lst (xs++ys))):=pz id id
theorem zlU{a:Addr}{ws:List W}:zoV (.ref a) ws S Q=zbL S a fun xs=>xs.length+ws.length≤sizeLine∧Q .non (put S a (.lst (xs++ws))):=pz id id
theorem zvF{a:Addr}:rvL (.ref a) S=zbL S a fun _=>True:=pz id id
theorem zvR{x:Str}:rvS (.str x) S=True:=pz id id
theorem zpC{b:Bool}:zsy [.bl b] S Q=Q (.int (if b then 1 else 0)) S:=pz id id
theorem znV{i:Int}:zsy [.int i] S Q=Q (.int i) S:=pz id id
theorem ztx{i j:Int}:zvw [.int i, .int j] S Q=Q (.int (if j > i then j else i)) S:=pz id id
theorem zsD{i j:Int}:ziG [.int i, .int j] S Q=Q (.int (if j<i then j else i)) S:=pz id id
theorem zuH{z:Str}{ws:List W}:ziF (.str z) ws S Q=match zeU ws with
 |some ys=>(ys.map (·.length)).sum+ys.length*z.length≤16777216∧Q (.str (Str.join z ys)) S
 |none=>False:=pz id id
theorem zqO{z y:Str}:zsX (.str z) [.str y] S Q=match Builtin.Str.occurrences z y 0 z.length 1 with
 |i::_=>Q (.int i) S
 | []=>False:=pz id id
theorem zov{neg:Bool}:oIs neg .non .non S Q=Q (.bl (!neg)) S:=pz id id
theorem zsj{neg a b:Bool}:oIs neg (.bl a) (.bl b) S Q=Q (.bl (if neg then a != b else a == b)) S:=pz id id
theorem zsc{neg a:Bool}:oIs neg (.bl a) .non S Q=Q (.bl neg) S:=pz id id
theorem zrs{neg:Bool}{ws:List W}:oIs neg (.tup ws) .non S Q=Q (.bl neg) S:=pz id id
theorem zrP{neg:Bool}{a:Addr}:oIs neg (.ref a) .non S Q=Q (.bl neg) S:=pz id id
theorem zsp{neg:Bool}{a:Int}:oIs neg (.int a) .non S Q=Q (.bl neg) S:=pz id id
theorem zoF{neg:Bool}{x:W}{ws:List W}:oIn neg x (.tup ws) S Q=match inF S x ws with
 |some b=>Q (.bl (if neg then !b else b)) S
 |none=>False:=pz id id
theorem zon{neg:Bool}{x:W}{a:Addr}:oIn neg x (.ref a) S Q=zbL S a fun ws=>match inF S x ws with
 |some b=>Q (.bl (if neg then !b else b)) S
 |none=>False:=pz id id
theorem zoC{neg:Bool}{i j:Str}:oIn neg (.str i) (.str j) S Q=Q (.bl (if neg then !(!(Builtin.Str.occurrences j i 0 j.length 1).isEmpty) else !(Builtin.Str.occurrences j i 0 j.length 1).isEmpty)) S:=pz id id
end
theorem ziS{g:WG}{b:WS}{E:WX}{D:WEnds}{G:Sto→Prop}(I:List W→WSt→Sto→Prop)
  (step:∀w ws σ S (N:WSt→Sto→Prop),I (w::ws) σ S→(∀σ' S' S'',Sub S'' S'→G S''→I ws σ' S''→N σ' S')→g w σ S fun σ1 S1=>b E { D with nx:=N,ct:=N,bk:=D.nx } σ1 S1)
  (done:∀σ S,I [] σ S→D.nx σ S):∀(ws:List W) (σ:WSt) (S:Sto),I ws σ S→forL g b E D G ws σ S
 | [],σ,S,h=>done σ S h
 |w::ws,σ,S,h=>step w ws σ S _ h fun σ' S' S'' sb hG hI=>⟨S'',sb,hG,ziS I step done ws σ' S'' hI⟩
section
variable {E:WX}{σ:WSt}{S:Sto}{Q:WK}{QB:Bool→Sto→Prop}{QA:List W→Sto→Prop}{QI:List W→(Sto→Prop)→Sto→Prop}{QO:Option Int→Sto→Prop}{P:WSt→Sto→Prop}{D:WEnds}{w x y:W}{ws:List W}{EX:Str→Sto→Prop}
theorem zur{i:Nat}:(zaf i E σ S Q)=(match σ[i]? with
 |some (some w)=>Q w S
 |_=>False):=pz id id
theorem zxF{w:W}:(wC w E σ S Q)=(Q w S):=pz id id
theorem zvn{r:W2}{a b:WE}:(wOp r a b E σ S Q)=(a E σ S fun x S1=>b E σ S1 fun y S2=>r x y S2 Q):=pz id id
theorem zsJ{t:WE}:(zie t E σ S QB)=(t E σ S fun w S'=>zqn w S' QB):=pz id id
theorem zwD{t:WE}:(wTb t E σ S QB)=(t E σ S fun w S'=>match w with
 | .bl b=>QB b S'
 |_=>False):=pz id id
theorem ztr{t u:WT}:(zqZ t u E σ S QB)=(t E σ S fun c S1=>if c=true then u E σ S1 QB else QB false S1):=pz id id
theorem zvO{t u:WT}:(wOr t u E σ S QB)=(t E σ S fun c S1=>if c=true then QB true S1 else u E σ S1 QB):=pz id id
theorem ztJ{t:WT}:(zpM t E σ S QB)=(t E σ S fun c S1=>QB (!c) S1):=pz id id
theorem zqR{t u:WE}:(zlp t u E σ S Q)=(t E σ S fun w S1=>match w with
 | .bl true=>u E σ S1 Q
 | .bl false=>Q (.bl false) S1
 |_=>False):=pz id id
theorem zvv{c:WT}{t u:WE}:(wIf c t u E σ S Q)=(c E σ S fun b S1=>if b=true then t E σ S1 Q else u E σ S1 Q):=pz id id
theorem zuh{c:WT}{t u:WS}:(zcf c t u E D σ S)=(c E σ S fun b S1=>if b=true then t E D σ S1 else u E D σ S1):=pz id id
theorem zrt:(zaF  E D σ S)=(D.nx σ S):=pz id id
theorem zuC{t u:WS}:(zas t u E D σ S)=(t E { D with nx:=u E D } σ S):=pz id id
theorem zua{e:WE}:(zaX e E D σ S)=(e E σ S D.rt):=pz id id
theorem zrO{e:WE}:(zdP e E D σ S)=(e E σ S fun _ S1=>D.nx σ S1):=pz id id
theorem zoQ{i:Nat}:(wGN i w σ S P)=(P (σ.set i (some w)) S):=pz id id
theorem zsU{e:WE}{g:WG}:(wAsg e g E D σ S)=(e E σ S fun w S1=>g w σ S1 D.nx):=pz id id
theorem zst:(zdp  ws σ S P)=(match ws with
 | []=>P σ S
 |_=>False):=pz id id
theorem zou{g:WG}{u:WGs}:(zaJ g u ws σ S P)=(match ws with
 | []=>False
 |w::r=>g w σ S fun σ' S'=>u r σ' S' P):=pz id id
theorem zwq{u:WGs}:(wGT u w σ S P)=(match w with
 | .tup ws=>u ws σ S P
 |_=>False):=pz id id
theorem zqI:(waNil  E σ S QA)=(QA [] S):=pz id id
theorem zoE{t:WE}{u:WA}:(zab t u E σ S QA)=(t E σ S fun w S1=>u E σ S1 fun ws S2=>QA (w::ws) S2):=pz id id
theorem ztd{t:WA}:(zbA t E σ S Q)=(t E σ S fun ws S1=>ws.length≤sizeLine∧Q (.tup ws) S1):=pz id id
theorem zuB{t:WA}:(zdl t E σ S QA)=(t E σ S fun ws S1=>ws.length≤sizeLine∧QA ws S1):=pz id id
theorem zub{t:WL}:(zcL t E σ S Q)=(t E σ S fun ws S1=>∀a,S1 a=none→Q (.ref a) (put S1 a (.lst ws))):=pz id id
theorem zry{c:WSp}{t:WA}:(zao c t E σ S Q)=(t E σ S fun ws S1=>c ws S1 Q fun cl S2=>E cl σ S2):=pz id id
theorem zgg{n k:Nat}{body:WS}:(zcA n k body ws S Q EX)=(ws.length=k∧body (fun c _ S'=>EX c S') { nx:=fun _ S'=>∃S'',Sub S'' S'∧Q .non S'',rt:=fun w S'=>∃S'',Sub S'' S'∧Q w S'' } (ws.map some++List.replicate (n - k) none) S):=pz id id
theorem ztt{t:WE}:(zll t E σ S Q)=(t E σ S fun w S1=>match w with
 | .int i=>Q (.int (-i)) S1
 |_=>False):=pz id id
theorem zvH{t u:WE}:(zwf t u E σ S QA)=(t E σ S fun x S1=>u E σ S1 fun y S2=>match x,y with
 | .ref a, .ref b=>zbL S2 a fun xs=>zbL S2 b fun ys=>xs.length+ys.length≤sizeLine∧QA (xs++ys) S2
 |_,_=>False):=pz id id
theorem zvN{neg:Bool}:(oEq neg x y S Q)=(match eqF S 60 x y with
 |some b=>Q (.bl (if neg then !b else b)) S
 |none=>False):=pz id id
theorem zvJ:(woN  E σ S QO)=(QO none S):=pz id id
theorem zvZ{t:WE}:(woS t E σ S QO)=(t E σ S fun w S1=>match w with
 | .int i=>QO (some i) S1
 |_=>False):=pz id id
theorem zvc{t:WE}{l h:WO}:(wSl t l h E σ S Q)=(t E σ S fun x S1=>l E σ S1 fun lo S2=>h E σ S2 fun hi S3=>oSl x lo hi S3 Q):=pz id id
theorem zxH{f:WF}{t:WA}:(wB f t E σ S Q)=(t E σ S fun ws S1=>f ws S1 Q):=pz id id
theorem zvx{f:WF}{t:WL}:(wBL f t E σ S Q)=(t E σ S fun ws S1=>f ws S1 Q):=pz id id
theorem zng:(zfN  ws S Q)=(Q (.tup ws) S):=pz id id
theorem znS{t:WE}:(zfS t E σ S QA)=(t E σ S fun w S1=>match w with
 | .tup ws=>QA ws S1
 | .ref a=>zbL S1 a fun ws=>QA ws S1
 | .scr ns=>QA (ns.map W.int) S1
 |_=>False):=pz id id
theorem ztR{T:String}{t:WE}:(zoI T t E σ S Q)=(t E σ S fun w S1=>tyW w S1 fun A=>Q (.bl (zbF A T)) S1):=pz id id
theorem zxh{rv:W→Sto→Prop}{f:WMf}{to:WE}{t:WA}:(wM rv f to t E σ S Q)=(to E σ S fun w S1=>rv w S1∧t E σ S1 fun ws S2=>f w ws S2 Q):=pz id id
theorem zvm{rv:W→Sto→Prop}{f:WMf}{to:WE}{t:WL}:(wML rv f to t E σ S Q)=(to E σ S fun w S1=>rv w S1∧t E σ S1 fun ws S2=>f w ws S2 Q):=pz id id
theorem ztH{i:Nat}{g:Int→Int→Int}{e:WE}:(zuO i g e E D σ S)=(match σ[i]? with
 |some (some (.int a))=>e E σ S fun w S1=>match w with
  | .int b=>D.nx (σ.set i (some (.int (g a b)))) S1
  |_=>False
 |_=>False):=pz id id
theorem zuI{q:WI}{g:WG}{b:WS}:(zgy q g b E D σ S)=(q E σ S fun ws G S1=>forL g b E D G ws σ S1):=pz id id
theorem zwA{t:WE}:(wIv t E σ S QI)=(t E σ S fun w S1=>match w with
 | .tup ws=>QI ws (fun _=>True) S1
 | .ref a=>zbL S1 a fun ws=>QI ws (fun S'=>S' a=some (.lst ws)) S1
 | .scr ns=>QI (ns.map W.int) (fun _=>True) S1
 | .str z=>QI (zjx z) (fun _=>True) S1
 |_=>False):=pz id id
theorem ztY{t:WA}:(zqL t E σ S QI)=(t E σ S fun ws S1=>match ws with
 | [.int j]=>(-(2 ^ 62)≤j∧j<2 ^ 62)∧QI (zlD 0 j.toNat) (fun _=>True) S1
 |_=>False):=pz id id
theorem zsK:(ziQ  E σ S QB)=(QB true S):=pz id id
theorem zqF{k:Nat}{fr:List Nat}{q:WI}{g:WG}{c:WT}{e:WE}:(zdG k fr q g c e E σ S QA)=(q E σ S fun ws G S1=>zeJ g c e E G QA ws [] (List.replicate k none++fr.map fun j=>(σ[j]?).join) S1):=pz id id
theorem zsb{t:WE}:(znR t E σ S QI)=(t E σ S fun w S1=>zmP w S1 fun ws G=>QI (zgm 0 ws) G S1):=pz id id
theorem zug{t u:WE}:(zuT t u E σ S QI)=(t E σ S fun x S1=>u E σ S1 fun y S2=>zmP x S2 fun xs G=>zmP y S2 fun ys G'=>QI (pairs xs ys) (fun S'=>G S'∧G' S') S2):=pz id id
theorem zsf{t:WE}{l h:WO}:(zpK t l h E σ S QA)=(t E σ S fun x S1=>l E σ S1 fun lo S2=>h E σ S2 fun hi S3=>match x with
 | .ref a=>zbL S3 a fun ws=>QA (zcj ws lo hi) S3
 | .scr ns=>QA ((zcj ns lo hi).map W.int) S3
 |_=>False):=pz id id
theorem ztB{t:WL}{u:WE}:(zqw t u E σ S Q)=(t E σ S fun ws S1=>u E σ S1 fun y S2=>match y with
 | .int i=>match atI ws i with
  |some w=>Q w S2
  |none=>False
 |_=>False):=pz id id
theorem zrz{t:WE}{u:WL}:(zrb t u E σ S QA)=(t E σ S fun x S1=>u E σ S1 fun ys S2=>match x with
 | .ref a=>zbL S2 a fun xs=>xs.length+ys.length≤sizeLine∧QA (xs++ys) S2
 |_=>False):=pz id id
theorem zrS{t u:WL}:(zin t u E σ S QA)=(t E σ S fun xs S1=>u E σ S1 fun ys S2=>xs.length+ys.length≤sizeLine∧QA (xs++ys) S2):=pz id id
theorem zrA{t:WL}{u:WE}:(zom t u E σ S QA)=(t E σ S fun xs S1=>u E σ S1 fun y S2=>match y with
 | .ref a=>zbL S2 a fun ys=>xs.length+ys.length≤sizeLine∧QA (xs++ys) S2
 |_=>False):=pz id id
theorem zrT{t:WL}{u:WE}:(zpd t u E σ S QA)=(t E σ S fun xs S1=>u E σ S1 fun y S2=>match y with
 | .int k=>(-(2 ^ 63)≤k∧k<2 ^ 63∧xs.length*k.toNat≤sizeLine)∧QA (List.replicate k.toNat xs).flatten S2
 |_=>False):=pz id id
end
section
variable {S:Sto}{Q:WK}
theorem ztO{xs:List W}{k:Int}:zvl (.tup xs) (.int k) S Q=((xs≠ []∧ -(2 ^ 63)≤k∧k<2 ^ 63∧xs.length*k.toNat≤sizeLine)∧Q (.tup (List.replicate k.toNat xs).flatten) S):=pz id id
theorem zwl{neg:Bool}{y:W}{a:Addr}:zuD neg y (.ref a) S Q=(match znm y with
 |some k=>zpD S a fun kvs=>Q (.bl (if neg then !(zeV kvs k).isSome else(zeV kvs k).isSome)) S
 |none=>False):=pz id id
theorem ztl{y:W}{a:Addr}:zvb (.ref a) y S Q=(match znm y with
 |some k=>zpD S a fun kvs=>match zeV kvs k with
  |some w=>Q w S
  |none=>False
 |none=>False):=pz id id
theorem zrB{ws:List W}:(znU ws S Q)=(match zbI ws with
 |some ns=>Q (.int ns.sum) S
 |none=>False):=pz id id
theorem zrG{z:Str}:zkY (.str z) [] S Q=(z.length≤5592405∧Q (.str (Txt.upper z)) S):=pz id id
theorem zeI:∀p:List Int,zbI (p.map W.int)=some p
 | []=>rfl
 |i::p=>by rw [List.map_cons,zbI,zeI p];rfl
theorem zvQ (p:List Int):znm (zaM p)=some p:=zeI p
theorem zpA{a:Addr}{kvs:List (List Int×W)}{P:List (List Int×W)→Prop}:zpD (put S a (.dct kvs)) a P=P kvs:=zja zai
end
end L2
end
section
def L2.wZ (d:String):Lean.MacroM (Lean.TSyntax `tactic):=do
  let a:Array Lean.Term:=(("L2.zur L2.zxF L2.zvn L2.zsJ L2.zwD L2.ztr L2.zvO L2.ztJ L2.zqR L2.zvv L2.zuh L2.zrt L2.zuC L2.zua L2.zrO L2.zoQ L2.zsU L2.zst L2.zou L2.zwq L2.zqI L2.zoE L2.ztd L2.zuB L2.zub L2.zry L2.zgg L2.ztt L2.zvN L2.zvJ L2.zvZ L2.zvc L2.zxH L2.zvx L2.zng L2.znS L2.ztR L2.zxh L2.zvm L2.ztH L2.zuI L2.zwA L2.ztY L2.zsK L2.zqF L2.zsb L2.zug L2.zsf L2.ztB L2.zrz L2.zrS L2.zrA L2.zrT L2.ztO L2.zwl L2.ztl L2.zrB L2.zpE L2.zrG L2.zvQ L2.zpA L2.zei L2.zaW L2.zux L2.zuP L2.ztW L2.zrZ L2.zgD L2.zjb L2.zhE L2.zjs L2.zgE L2.zit L2.zhw L2.zhl L2.ziJ L2.zgc L2.zgS L2.zjH L2.zhN L2.ziP L2.zhj L2.zhT L2.zgJ L2.zfZ L2.zgU L2.sub_tuple_tuple L2.sub_tuple_list L2.zhy L2.zhk L2.zib L2.sub_list_tuple L2.sub_list_list L2.zpg L2.znG L2.zmZ L2.zmI L2.zmx L2.znt L2.zhR L2.zqJ L2.zpJ L2.zpf L2.zoj L2.zoD L2.zpm L2.zmt L2.zmM L2.zfB L2.zmL L2.zvf L2.ztX L2.zps L2.zpr L2.zmT L2.zmY L2.znx L2.zmQ L2.zpp L2.zpj L2.zpx L2.zoY L2.zol L2.zpH L2.zpa L2.zpb L2.zjI L2.zjc L2.zoX L2.zwa L2.zhJ L2.ziI L2.zlU L2.zvF L2.zvR L2.zpC L2.znV L2.ztx L2.zsD L2.zuH L2.zqO L2.zov L2.zsj L2.zsc L2.zrs L2.zrP L2.zsp L2.zoF L2.zon L2.zoC List.map_cons List.map_nil List.length_cons List.length_nil List.cons_append List.nil_append List.append_nil List.replicate List.getElem?_cons_zero List.getElem?_cons_succ List.getElem?_nil List.set_cons_zero List.set_cons_succ Nat.reduceAdd Nat.reduceSub true_and and_true if_true if_false Bool.false_eq_true reduceIte Bool.not_true Bool.not_false Option.join_some Option.join_none decide_eq_true_eq and_self".splitOn " ").filter (· != d)).toArray.map fun s=>Lean.mkIdent s.toName
  `(tactic| simp only [$[$a:term],*])
local macro_rules | `(tactic| walk_at "wp") => L2.wZ ""
section
namespace L2
open PySem PySem.Spec PyProof.Rows
noncomputable def zbQ:Nat→WSp
 |0=>zbe
 |r+1=>zcA 1 1 (zas (zcf (zie (zoI "int" (zaf 0))) (zaX (zbA waNil)) zaF)
  (zaX (wSl (zaf 0) (woS (wC (.int 1))) woN)))
noncomputable def zch (r:Nat) (self:WSp):WS:=(zdP (wM rvL zfm (zaf 1) (zab (zao (zbQ r) (zab (zaf 2) waNil)) waNil)))
noncomputable def zbw:Nat→WSp
 |0=>zbe
 |r+1=>zcA 3 1 (zas (wAsg (zcL (zdl waNil)) (wGN 1))
  (zas (zgy (wIv (zaf 0)) (wGN 2) (zch r zbe))
  (zaX (zaf 1))))
noncomputable def zeT (r:Nat) (self:WSp):WS:=(zas (zuO 1 (fun a b=>a+b) (wB zeE (zab (zaf 3) waNil)))
  (zas (zuO 2 (fun a b=>a+b) (wC (.int 1)))
  (zas (zcf (wOr (wTb (wOp oGt (zaf 1) (wC (.int 400)))) (wTb (wOp oGt (zaf 2) (wC (.int 40))))) (zaX (wC (.bl false))) zaF)
  (wAsg (zao (zbw r) (zab (zaf 3) waNil)) (wGN 3)))))
noncomputable def zcU:Nat→WSp
 |0=>zbe
 |r+1=>zcA 4 1 (zas (wAsg (wC (.int 0)) (wGN 1))
  (zas (wAsg (wC (.int 0)) (wGN 2))
  (zas (wAsg (zcL (zdl (zab (zaf 0) waNil))) (wGN 3))
  (zas (zmF (zie (zaf 3)) (zeT r zbe))
  (zaX (wC (.bl true)))))))
noncomputable def zbN (r:Nat) (self:WSp):WS:=(zdP (zao self (zab (zaf 4) (zab (wOp zcK (zaf 1) (zbA (zab (zaf 3) waNil))) (zab (zaf 2) waNil)))))
noncomputable def zaD:Nat→WSp
 |0=>zbe
 |r+1=>zcA 5 3 (zas (zdP (wM rvL zcu (zaf 2) (zab (zaf 1) waNil)))
  (zgy (znR (zao (zbQ r) (zab (zaf 0) waNil))) (wGT (zaJ (wGN 3) (zaJ (wGN 4) zdp))) (zbN r (zaD r))))
noncomputable def zek:Nat→WSp
 |0=>zbe
 |r+1=>zcA 2 1 (zas (wAsg (zcL (zdl waNil)) (wGN 1))
  (zas (zdP (zao (zaD r) (zab (zaf 0) (zab (zbA waNil) (zab (zaf 1) waNil)))))
  (zaX (zaf 1))))
noncomputable def zbm:Nat→WSp
 |0=>zbe
 |r+1=>zcA 3 2 (zas (wAsg (zao (zbQ r) (zab (zaf 0) waNil)) (wGN 2))
  (zas (zcf (wOr (wTb (wOp oLt (zaf 1) (wC (.int 0)))) (wTb (wOp oGe (zaf 1) (wB zeE (zab (zaf 2) waNil))))) zks zaF)
  (zaX (wOp oIx (zaf 2) (zaf 1)))))
noncomputable def zhh (r:Nat) (self:WSp):WS:=(wAsg (zao (zbm r) (zab (zaf 2) (zab (zaf 3) waNil))) (wGN 2))
noncomputable def ziy:Nat→WSp
 |0=>zbe
 |r+1=>zcA 4 2 (zas (wAsg (zaf 0) (wGN 2))
  (zas (zgy (wIv (zaf 1)) (wGN 3) (zhh r zbe))
  (zaX (zaf 2))))
noncomputable def zeY (r:Nat) (self:WSp):WE:=(zaf 0)
noncomputable def zbx:Nat→WSp
 |0=>zbe
 |r+1=>zcA 1 1 (zaX (zcL (zdG 1 [0] (wIv (zao (zek r) (zab (zaf 0) waNil))) (wGN 0) (zie (zoI "int" (zao (ziy r) (zab (zaf 1) (zab (zaf 0) waNil))))) (zeY r zbe))))
noncomputable def zgl (r:Nat) (self:WSp):WE:=(zao self (zab (zaf 0) (zab (zaf 1) waNil)))
noncomputable def zda:Nat→WSp
 |0=>zbe
 |r+1=>zcA 2 2 (zas (zcf (zie (zoI "int" (zaf 0))) (zaX (wOp oIx (zaf 1) (zaf 0))) zaF)
  (zaX (wOp zcK (zbA (zab (wOp oIx (zaf 0) (wC (.int 0))) waNil)) (wBL zfN (zdG 1 [1] (wIv (wSl (zaf 0) (woS (wC (.int 1))) woN)) (wGN 0) ziQ (zgl r (zda r)))))))
noncomputable def zbr:Nat→WSp
 |0=>zbe
 |r+1=>zcA 2 2 (zaX (zlp (wOp (oEq false) (wOp oIx (zaf 0) (wC (.int 0))) (wOp oIx (zaf 1) (wC (.int 0)))) (wOp (oEq false) (wB zeE (zab (zaf 0) waNil)) (wB zeE (zab (zaf 1) waNil)))))
noncomputable def zbJ (r:Nat) (self:WSp):WS:=(zcf (zpM (zie (zao self (zab (zaf 3) (zab (zaf 4) (zab (zaf 2) waNil)))))) (zaX (wC (.bl false))) zaF)
noncomputable def zay:Nat→WSp
 |0=>zbe
 |r+1=>zcA 5 3 (zas (zcf (zie (zoI "int" (zaf 0))) (zas (zdP (wM rvL zcu (zaf 2) (zab (zaf 1) waNil)))
  (zaX (wC (.bl true)))) zaF)
  (zas (zcf (zpM (zie (zao (zbr r) (zab (zaf 0) (zab (zaf 1) waNil))))) (zaX (wC (.bl false))) zaF)
  (zas (zgy (zuT (wSl (zaf 0) (woS (wC (.int 1))) woN) (wSl (zaf 1) (woS (wC (.int 1))) woN)) (wGT (zaJ (wGN 3) (zaJ (wGN 4) zdp))) (zbJ r (zay r)))
  (zaX (wC (.bl true))))))
noncomputable def zcP:Nat→WSp
 |0=>zbe
 |r+1=>zcA 3 2 (zas (wAsg (zcL (zdl waNil)) (wGN 2))
  (zas (zcf (zie (zao (zay r) (zab (zaf 0) (zab (zaf 1) (zab (zaf 2) waNil))))) (zaX (zaf 2)) zaF)
  (zaX (wC .non))))
noncomputable def zdJ (r:Nat) (self:WSp):WS:=(zcf (wTb (wOp (oEq false) (wOp oIx (zaf 2) (wC (.int 0))) (zaf 1))) (zaX (zaf 2)) zaF)
noncomputable def zbE:Nat→WSp
 |0=>zbe
 |r+1=>zcA 3 2 (zas (zgy (wIv (zaf 0)) (wGN 2) (zdJ r zbe))
  (zaX (wC .non)))
noncomputable def zaP:Nat→WSp
 |0=>zbe
 |r+1=>zcA 1 1 (zas (zcf (zpM (zie (zao (zcU r) (zab (zaf 0) waNil)))) zks zaF)
  (zaX (zaf 0)))
noncomputable def zdL (r:Nat) (self:WSp):WE:=(zao self (zab (zaf 1) (zab (zaf 0) (zab (zaf 2) waNil))))
noncomputable def zbl:Nat→WSp
 |0=>zbe
 |r+1=>zcA 5 3 (zas (wAsg (zcL (zdG 1 [0,2] (wIv (wSl (zaf 1) (woS (wC (.int 1))) woN)) (wGN 0) ziQ (zdL r (zbl r)))) (wGN 3))
  (zas (wAsg (zao (zbE r) (zab (zaf 0) (zab (wOp oIx (zaf 1) (wC (.int 0))) waNil))) (wGN 4))
  (zas (zcf (wTb (wOp (oIs false) (zaf 4) (wC .non))) (zaX (wOp zcK (zbA (zab (wOp oIx (zaf 1) (wC (.int 0))) waNil)) (wB zdv (zab (zaf 3) waNil)))) zaF)
  (zaX (zao (zda r) (zab (wOp oIx (zaf 4) (zaf 2)) (zab (zaf 3) waNil)))))))
noncomputable def zdd:Nat→WSp
 |0=>zbe
 |r+1=>zcA 2 2 (zaX (zao (zaP r) (zab (zao (zbl r) (zab (zaf 0) (zab (zaf 1) (zab (wC (.int 1)) waNil)))) waNil)))
noncomputable def zeS:Nat→WSp
 |0=>zbe
 |r+1=>zcA 2 2 (zaX (zao (zaP r) (zab (zao (zbl r) (zab (zaf 0) (zab (zaf 1) (zab (wC (.int 2)) waNil)))) waNil)))
noncomputable def zds (r:Nat) (self:WSp):WE:=(zbA (zab (zaf 0) waNil))
noncomputable def zbn:Nat→WSp
 |0=>zbe
 |r+1=>zcA 3 2 (zas (wAsg (zao (zbE r) (zab (zaf 0) (zab (wOp oIx (zaf 1) (wC (.int 0))) waNil))) (wGN 2))
  (zas (zcf (wTb (wOp (oIs false) (zaf 2) (wC .non))) (zaX (zcL (zdG 1 [] (zqL (zab (wOp (zed fun i j=> .int (i - j)) (wB zeE (zab (zaf 1) waNil)) (wC (.int 1))) waNil)) (wGN 0) ziQ (zds r zbe)))) zaF)
  (zaX (zao (zbx r) (zab (wOp oIx (zaf 2) (wC (.int 1))) waNil)))))
noncomputable def zdk (r:Nat) (self:WSp):WS:=(zcf (wTb (wOp (oIs true) (zao (zcP r) (zab (wOp oIx (zaf 2) (wC (.int 1))) (zab (zaf 1) waNil))) (wC .non))) (zaX (zaf 2)) zaF)
noncomputable def zbf:Nat→WSp
 |0=>zbe
 |r+1=>zcA 3 2 (zas (zgy (wIv (zaf 0)) (wGN 2) (zdk r zbe))
  (zaX (wC .non)))
noncomputable def zcs (r:Nat) (self:WSp):WS:=(zdP (zao self (zab (zaf 0) (zab (zaf 6) (zab (wOp zcK (zaf 2) (zbA (zab (zaf 5) waNil))) (zab (zaf 3) waNil))))))
noncomputable def zbb:Nat→WSp
 |0=>zbe
 |r+1=>zcA 7 4 (zas (wAsg (zao (zbf r) (zab (zaf 0) (zab (zaf 1) waNil))) (wGN 4))
  (zas (zcf (wTb (wOp (oIs true) (zaf 4) (wC .non))) (zdP (wM rvL zcu (zaf 3) (zab (zbA (zab (zaf 2) (zab (wOp oIx (zaf 4) (wC (.int 0))) waNil))) waNil))) zaF)
  (zgy (znR (wSl (zaf 1) (woS (wC (.int 1))) woN)) (wGT (zaJ (wGN 5) (zaJ (wGN 6) zdp))) (zcs r (zbb r)))))
noncomputable def zbP:Nat→WSp
 |0=>zbe
 |r+1=>zcA 3 2 (zas (wAsg (zcL (zdl waNil)) (wGN 2))
  (zas (zdP (zao (zbb r) (zab (zaf 0) (zab (zaf 1) (zab (zbA waNil) (zab (zaf 2) waNil))))))
  (zaX (zaf 2))))
noncomputable def zeo (r:Nat) (self:WSp):WE:=(wOp oIx (zaf 0) (wC (.int 0)))
noncomputable def zcx:Nat→WSp
 |0=>zbe
 |r+1=>zcA 1 1 (zaX (zcL (zdG 1 [] (wIv (zaf 0)) (wGN 0) ziQ (zeo r zbe))))
noncomputable def zce:Nat→WSp
 |0=>zbe
 |r+1=>zcA 3 2 (zas (wAsg (zao (zbf r) (zab (zaf 0) (zab (zaf 1) waNil))) (wGN 2))
  (zaX (wOp zcK (zbA (zab (wOp oIx (zaf 2) (wC (.int 0))) waNil)) (wB zdv (zab (zao (zcP r) (zab (wOp oIx (zaf 2) (wC (.int 1))) (zab (zaf 1) waNil))) waNil)))))
noncomputable def zbY (r:Nat) (self:WSp):WS:=(zdP (wM rvL zcu (zaf 5) (zab (zao self (zab (zaf 0) (zab (zaf 7) (zab (wOp zcK (zaf 2) (zaf 6)) (zab (zaf 3) waNil))))) waNil)))
noncomputable def zaI:Nat→WSp
 |0=>zbe
 |r+1=>zcA 8 4 (zas (wAsg (wIf (wTb (wOp (zuD false) (zaf 2) (zaf 3))) (zao (zce r) (zab (zaf 0) (zab (zaf 1) waNil))) (zaf 1)) (wGN 4))
  (zas (wAsg (zcL (zdl waNil)) (wGN 5))
  (zas (zgy (zuT (zao (zbn r) (zab (zaf 0) (zab (zaf 4) waNil))) (wSl (zaf 4) (woS (wC (.int 1))) woN)) (wGT (zaJ (wGN 6) (zaJ (wGN 7) zdp))) (zbY r (zaI r)))
  (zaX (wOp zcK (zbA (zab (wOp oIx (zaf 4) (wC (.int 0))) waNil)) (wB zdv (zab (zaf 5) waNil)))))))
noncomputable def zeR (r:Nat) (self:WSp):WE:=(zbA (zab (zaf 0) (zab (wC (.bl true)) waNil)))
noncomputable def zcM:Nat→WSp
 |0=>zbe
 |r+1=>zcA 3 3 (zaX (zao (zaI r) (zab (zaf 0) (zab (zaf 1) (zab (zbA waNil) (zab (wBL zid (zdG 1 [] (wIv (zaf 2)) (wGN 0) ziQ (zeR r zbe))) waNil))))))
noncomputable def zgA (r:Nat) (self:WSp):WS:=(zcf (wTb (wOp (oIn true) (zaf 4) (zaf 3))) zks zaF)
noncomputable def zeD:Nat→WSp
 |0=>zbe
 |r+1=>zcA 5 3 (zas (wAsg (zao (zcx r) (zab (zao (zbP r) (zab (zaf 0) (zab (zaf 1) waNil))) waNil)) (wGN 3))
  (zas (zgy (wIv (zaf 2)) (wGN 4) (zgA r zbe))
  (zaX (zao (zcM r) (zab (zaf 0) (zab (zaf 1) (zab (zaf 2) waNil)))))))
noncomputable def zdq (r:Nat) (self:WSp):WS:=(zas (zcf (wTb (wOp (oEq true) (zao (zdd r) (zab (zaf 0) (zab (zaf 3) waNil))) (zaf 2))) (zaX (wC (.bl false))) zaF)
  (wAsg (zao (zeS r) (zab (zaf 0) (zab (zaf 3) waNil))) (wGN 2)))
noncomputable def zcW:Nat→WSp
 |0=>zbe
 |r+1=>zcA 4 2 (zas (wAsg (zao (zaP r) (zab (wOp oIx (zaf 1) (wC (.int 0))) waNil)) (wGN 2))
  (zas (zgy (wIv (wOp oIx (zaf 1) (wC (.int 1)))) (wGN 3) (zdq r zbe))
  (zaX (wC (.bl true)))))
noncomputable def zcN:Nat→WSp
 |0=>zbe
 |r+1=>zcA 2 2 (zaX (zao (zcW r) (zab (zaf 0) (zab (zaf 1) waNil))))
noncomputable def zjj (r:Nat):WS:=(zaX (zao (zeS r) (zab (zaf 0) (zab (wOp oIx (wOp oIx (zaf 1) (wC (.int 1))) (zll (wC (.int 1)))) waNil))))
noncomputable def zjn (r:Nat) (T:WS):WS:=(zas (zcf (zpM (zie (wOp oIx (zaf 1) (wC (.int 1))))) (zaX (wOp oIx (zaf 1) (wC (.int 0)))) zaF) T)
noncomputable def zlK:Nat→WSp
 |0=>zbe
 |r+1=>zcA 2 2 (zjn r (zjj r))
noncomputable def zaA:Nat→WSp
 |0=>zbe
 |r+1=>zcA 2 2 (zas (zcf (wTb (wOp oLt (zaf 1) (wB zeE (zab (zaf 0) waNil)))) (zaX (wOp oIx (zaf 0) (zaf 1))) zaF)
  (zaX (wC (.int 0))))
noncomputable def zdK (r:Nat) (self:WSp):WE:=(wOp oIx (zaf 1) (wOp (zci (fun _ j=>0<j) fun i j=> .int (i % j)) (wOp zcK (wOp oIx (zaf 2) (zaf 0)) (wOp (zci CMul fun i j=> .int (i*j)) (zaf 3) (wB zsy (zab (wOp (oEq false) (zaf 0) (zaf 4)) waNil)))) (wC (.int 26))))
noncomputable def zdI (r:Nat) (self:WSp):WS:=(zas (wAsg (wML rvS ziF (wC (.str "")) (zdG 1 [3,5,6,7] (zqL (zab (wB zeE (zab (zaf 5) waNil)) waNil)) (wGN 0) ziQ (zdK r zbe))) (wGN 9))
  (zas (zcf (zie (zaf 2)) (wAsg (wOp zcK (wM rvS zkY (wOp oIx (zaf 9) (wC (.int 0))) waNil) (wSl (zaf 9) (woS (wC (.int 1))) woN)) (wGN 9)) zaF)
  (zdP (wM rvL zcu (zaf 8) (zab (zaf 9) waNil)))))
noncomputable def zcI (r:Nat) (self:WSp):WS:=(zas (zdP (wM rvL zcu (zaf 5) (zab (wOp (zci (fun _ j=>0<j) fun i j=> .int (i % j)) (zaf 4) (wC (.int 26))) waNil)))
  (wAsg (wOp (zci zhb fun i j=> .int (i / j)) (zaf 4) (wC (.int 26))) (wGN 4)))
noncomputable def zaY:Nat→WSp
 |0=>zbe
 |r+1=>zcA 10 3 (zas (wAsg (wC (.str "abcdefghijklmnopqrstuvwxyz")) (wGN 3))
  (zas (wAsg (wOp (zci (fun _ j=>0<j) fun i j=> .int (i % j)) (zaf 1) (wOp (zci zws fun i j=> .int (i ^ j.toNat)) (wC (.int 26)) (wC (.int 8)))) (wGN 4))
  (zas (wAsg (zcL (zdl waNil)) (wGN 5))
  (zas (zgy (zqL (zab (wOp zcK (wC (.int 1)) (wOp (zci (fun _ j=>0<j) fun i j=> .int (i % j)) (zaf 0) (wC (.int 8)))) waNil)) (wGN 6) (zcI r zbe))
  (zas (wAsg (wOp (zci (fun _ j=>0<j) fun i j=> .int (i % j)) (wOp (zci zhb fun i j=> .int (i / j)) (zaf 0) (wC (.int 8))) (wB zeE (zab (zaf 5) waNil))) (wGN 7))
  (zas (wAsg (zcL (zdl waNil)) (wGN 8))
  (zas (zgy (zqL (zab (wC (.int 6)) waNil)) (wGN 6) (zdI r zbe))
  (zas (zcf (zqZ (wTb (wOp (oEq false) (wOp (zci (fun _ j=>0<j) fun i j=> .int (i % j)) (wOp (zci zhb fun i j=> .int (i / j)) (zaf 0) (wC (.int 64))) (wC (.int 2))) (wC (.int 1)))) (zpM (zie (zaf 2)))) (wAsg (zcL (zin (zpK (zaf 8) woN (woS (wC (.int 3)))) (zdl (zab (wOp oIx (zaf 8) (wC (.int 2))) (zab (wOp oIx (zaf 8) (wC (.int 2))) (zab (wOp oIx (zaf 8) (wC (.int 5))) waNil)))))) (wGN 8)) zaF)
  (zaX (zaf 8))))))))))
noncomputable def zcG (r:Nat) (self:WSp):WE:=(zao self (zab (zaf 0) waNil))
noncomputable def zaz:Nat→WSp
 |0=>zbe
 |r+1=>zcA 1 1 (zas (zcf (zie (zoI "int" (zaf 0))) (zaX (wC (.int 1))) zaF)
  (zaX (wBL znU (zdG 1 [] (wIv (wSl (zaf 0) (woS (wC (.int 1))) woN)) (wGN 0) ziQ (zcG r (zaz r))))))
noncomputable def zdo (r:Nat) (self:WSp):WE:=(zao self (zab (zaf 0) (zab (zaf 1) waNil)))
noncomputable def zaQ:Nat→WSp
 |0=>zbe
 |r+1=>zcA 2 2 (zas (zcf (zie (zoI "int" (zaf 0))) (zaX (wOp oIx (zaf 1) (zaf 0))) zaF)
  (zaX (wOp zcK (wSl (zaf 0) woN (woS (wC (.int 1)))) (wBL zfN (zdG 1 [1] (wIv (wSl (zaf 0) (woS (wC (.int 1))) woN)) (wGN 0) ziQ (zdo r (zaQ r)))))))
noncomputable def zbU:Nat→WSp
 |0=>zbe
 |r+1=>zcA 3 3 (zas (zcf (zqZ (wTb (wOp oGt (zaf 1) (wC (.int 0)))) (wTb (wOp oGt (wOp (zci (fun _ j=>0<j) fun i j=> .int (i % j)) (zaf 0) (wC (.int 4))) (wC (.int 0))))) (zaX (wOp (zci (fun _ j=>0<j) fun i j=> .int (i % j)) (wOp (zci zhb fun i j=> .int (i / j)) (zaf 0) (wC (.int 4))) (zaf 1))) zaF)
  (zaX (zbA (zab (wOp oIx (zaf 2) (zqw (zdl (zab (wC (.int 2)) (zab (wC (.int 5)) waNil))) (wOp (zci (fun _ j=>0<j) fun i j=> .int (i % j)) (wOp (zci zhb fun i j=> .int (i / j)) (zaf 0) (wC (.int 4))) (wC (.int 2))))) waNil))))
noncomputable def zcc:Nat→WSp
 |0=>zbe
 |r+1=>zcA 6 3 (zas (wAsg (zao (zbU r) (zab (wOp (zci zhb fun i j=> .int (i / j)) (zaf 0) (wC (.int 7))) (zab (zaf 1) (zab (zaf 2) waNil)))) (wGN 3))
  (zas (wAsg (zao (zbU r) (zab (wOp (zci zhb fun i j=> .int (i / j)) (zaf 0) (wC (.int 700))) (zab (zaf 1) (zab (zaf 2) waNil)))) (wGN 4))
  (zas (wAsg (wOp (zci (fun _ j=>0<j) fun i j=> .int (i % j)) (zaf 0) (wC (.int 7))) (wGN 5))
  (zas (zcf (wTb (wOp (oEq false) (zaf 5) (wC (.int 0)))) (zaX (zaf 3)) zaF)
  (zas (zcf (wOr (wTb (wOp (oEq false) (zaf 5) (wC (.int 1)))) (wTb (wOp (oEq false) (zaf 1) (wC (.int 0))))) (zaX (zbA (zab (wOp oIx (zaf 2) (wC (.int 3))) (zab (zaf 3) waNil)))) zaF)
  (zas (zcf (wTb (wOp (oEq false) (zaf 5) (wC (.int 2)))) (zaX (zbA (zab (wOp oIx (zaf 2) (wC (.int 4))) (zab (zaf 3) (zab (zaf 4) waNil))))) zaF)
  (zas (zcf (wTb (wOp (oEq false) (zaf 5) (wC (.int 3)))) (zaX (zbA (zab (wOp oIx (zaf 2) (wC (.int 4))) (zab (zaf 3) (zab (zaf 3) waNil))))) zaF)
  (zas (zcf (wTb (wOp (oEq false) (zaf 5) (wC (.int 4)))) (zaX (zbA (zab (wOp oIx (zaf 2) (wC (.int 4))) (zab (zbA (zab (wOp oIx (zaf 2) (wC (.int 3))) (zab (zaf 3) waNil))) (zab (zaf 4) waNil))))) zaF)
  (zas (zcf (wTb (wOp (oEq false) (zaf 5) (wC (.int 5)))) (zaX (zbA (zab (wOp oIx (zaf 2) (wC (.int 0))) (zab (zaf 3) waNil)))) zaF)
  (zaX (zbA (zab (wOp oIx (zaf 2) (wC (.int 1))) (zab (zaf 3) (zab (zaf 4) waNil))))))))))))))
noncomputable def zcb:Nat→WSp
 |0=>zbe
 |r+1=>zcA 4 4 (zas (zcf (wTb (wOp (oEq false) (zaf 0) (wC (.int 0)))) (zaX (zcL (zdl (zab (zbA (zab (zaf 1) (zab (wC (.int 0)) waNil))) waNil)))) zaF)
  (zas (zcf (wTb (wOp (oEq false) (zaf 0) (wC (.int 1)))) (zaX (zcL (zdl (zab (zbA (zab (zaf 1) (zab (wC (.int 0)) (zab (wC (.int 1)) waNil)))) waNil)))) zaF)
  (zas (zcf (wTb (wOp (oEq false) (zaf 0) (wC (.int 2)))) (zaX (zcL (zdl (zab (zbA (zab (zaf 1) (zab (zbA (zab (zaf 2) waNil)) waNil))) (zab (zbA (zab (zaf 1) (zab (zbA (zab (zaf 3) (zab (wC (.int 0)) waNil))) waNil))) waNil))))) zaF)
  (zas (zcf (wTb (wOp (oEq false) (zaf 0) (wC (.int 3)))) (zaX (zcL (zdl (zab (zbA (zab (zaf 1) (zab (zbA (zab (zaf 2) waNil)) (zab (wC (.int 0)) waNil)))) (zab (zbA (zab (zaf 1) (zab (zbA (zab (zaf 3) (zab (wC (.int 0)) waNil))) (zab (wC (.int 1)) waNil)))) waNil))))) zaF)
  (zas (zcf (wTb (wOp (oEq false) (zaf 0) (wC (.int 4)))) (zaX (zcL (zdl (zab (zbA (zab (zaf 1) (zab (zbA (zab (zaf 3) (zab (zbA (zab (zaf 3) (zab (wC (.int 0)) waNil))) waNil))) (zab (wC (.int 1)) (zab (wC (.int 2)) waNil))))) (zab (zbA (zab (zaf 1) (zab (zbA (zab (zaf 3) (zab (zbA (zab (zaf 2) waNil)) waNil))) (zab (wC (.int 0)) (zab (wC (.int 1)) waNil))))) waNil))))) zaF)
  (zaX (zcL (zdl (zab (zbA (zab (zaf 1) waNil)) waNil)))))))))
noncomputable def zdc (r:Nat) (self:WSp):WS:=(zas (wAsg (zao (zcc r) (zab (zao (zaA r) (zab (zaf 0) (zab (wOp zcK (wOp zcK (wOp zcK (zaf 1) (wC (.int 2))) (wOp (zci CMul fun i j=> .int (i*j)) (wC (.int 2)) (zaf 5))) (zaf 7)) waNil))) (zab (zao (zaz r) (zab (zaf 8) waNil)) (zab (zaf 2) waNil)))) (wGN 9))
  (zdP (wM rvL zcu (zaf 4) (zab (zbA (zab (wOp oIx (zaf 3) (wB zeE (zab (zaf 4) waNil))) (zab (zaf 8) (zab (zaf 9) waNil)))) waNil))))
noncomputable def zeC (r:Nat) (self:WSp):WS:=(zas (wAsg (zao (zcb r) (zab (wOp (zci (fun _ j=>0<j) fun i j=> .int (i % j)) (zao (zaA r) (zab (zaf 0) (zab (wOp zcK (zaf 1) (zaf 5)) waNil))) (wC (.int 6))) (zab (wOp oIx (zaf 2) (zaf 5)) (zab (wOp oIx (zaf 2) (wC (.int 2))) (zab (wOp oIx (zaf 2) (wC (.int 3))) waNil))))) (wGN 6))
  (zgy (znR (zaf 6)) (wGT (zaJ (wGN 7) (zaJ (wGN 8) zdp))) (zdc r zbe)))
noncomputable def zbR:Nat→WSp
 |0=>zbe
 |r+1=>zcA 10 4 (zas (wAsg (zcL (zdl waNil)) (wGN 4))
  (zas (zgy (zqL (zab (wC (.int 2)) waNil)) (wGN 5) (zeC r zbe))
  (zaX (zaf 4))))
noncomputable def zet (r:Nat) (self:WSp):WS:=(wAsg (zcL (zin (zpK (zaf 4) woN (woS (zll (wC (.int 2))))) (zdl (zab (zbA (zab (zll (wC (.int 1))) (zab (wC (.int 0)) (zab (wOp oIx (zaf 2) (wC (.int 4))) (zab (wSl (zaf 4) (woS (zll (wC (.int 2)))) woN) waNil))))) waNil)))) (wGN 4))
noncomputable def zer (r:Nat) (self:WSp):WS:=(zas (wAsg (wOp (zci (fun _ j=>0<j) fun i j=> .int (i % j)) (zaf 6) (wC (.int 8))) (wGN 7))
  (zas (wAsg (zqw (zdl (zab (wC (.int 0)) (zab (wC (.int 0)) (zab (wC (.int 1)) (zab (wC (.int 2)) waNil))))) (wB ziG (zab (zaf 7) (zab (wC (.int 3)) waNil)))) (wGN 8))
  (zas (wAsg (zbA (zab (zll (wC (.int 1))) (zab (wC (.int 0)) (zab (wOp oIx (zaf 2) (zqw (zdl (zab (wC (.int 2)) (zab (wC (.int 5)) (zab (wC (.int 3)) (zab (wC (.int 4)) waNil))))) (wB ziG (zab (zaf 7) (zab (wC (.int 3)) waNil))))) waNil)))) (wGN 9))
  (zas (zcf (wTb (wOp oGt (zaf 7) (wC (.int 3)))) (zas (wAsg (wOp (zci (fun _ j=>0<j) fun i j=> .int (i % j)) (wOp (zci zhb fun i j=> .int (i / j)) (zaf 6) (wC (.int 8))) (wB zeE (zab (zaf 1) waNil))) (wGN 10))
  (zas (wAsg (zao (zaz r) (zab (wOp oIx (wOp oIx (zaf 1) (zaf 10)) (wC (.int 1))) waNil)) (wGN 8))
  (zas (wAsg (zbA (zab (zaf 10) (zab (wOp (zci (fun _ j=>0<j) fun i j=> .int (i % j)) (wOp (zci zhb fun i j=> .int (i / j)) (zaf 6) (wC (.int 64))) (wC (.int 8))) (zab (wC (.str "")) waNil)))) (wGN 9))
  (wAsg (wOp zcK (zaf 5) (wC (.int 1))) (wGN 5))))) zaF)
  (zcf (zqZ (wTb (wOp oGt (zaf 3) (wC (.int 0)))) (wTb (wOp oLt (zaf 5) (wC (.int 5))))) (zas (wAsg (wOp (zed fun i j=> .int (i - j)) (zaf 3) (wC (.int 1))) (wGN 3))
  (zas (wAsg (zcL (zom (zpd (zdl (zab (zbA (zab (zll (wC (.int 1))) (zab (wC (.int 0)) (zab (wOp oIx (zaf 2) (wC (.int 2))) (zab (zcL (zdl waNil)) waNil))))) waNil)) (wOp (zed fun i j=> .int (i - j)) (zaf 8) (wB zeE (zab (zaf 4) waNil)))) (zaf 4))) (wGN 4))
  (zas (wAsg (wOp (zed fun i j=> .int (i - j)) (wB zeE (zab (zaf 4) waNil)) (zaf 8)) (wGN 11))
  (wAsg (zcL (zin (zpK (zaf 4) woN (woS (zaf 11))) (zdl (zab (wOp zcK (zaf 9) (zbA (zab (wSl (zaf 4) (woS (zaf 11)) woN) waNil))) waNil)))) (wGN 4))))) zaF)))))
noncomputable def zbB:Nat→WSp
 |0=>zbe
 |r+1=>zcA 12 4 (zas (wAsg (zcL (zdl waNil)) (wGN 4))
  (zas (wAsg (wC (.int 0)) (wGN 5))
  (zas (zgy (wIv (zaf 0)) (wGN 6) (zer r zbe))
  (zas (zmF (wTb (wOp oGt (wB zeE (zab (zaf 4) waNil)) (wC (.int 1)))) (zet r zbe))
  (zaX (zqw (zrb (zaf 4) (zdl (zab (zbA (zab (zll (wC (.int 1))) (zab (wC (.int 0)) (zab (wOp oIx (zaf 2) (wC (.int 5))) (zab (zcL (zdl waNil)) waNil))))) waNil))) (wC (.int 0))))))))
noncomputable def zeP (r:Nat) (self:WSp):WE:=(zao self (zab (zaf 0) (zab (zaf 1) (zab (zaf 2) waNil))))
noncomputable def zbD:Nat→WSp
 |0=>zbe
 |r+1=>zcA 8 3 (zas (wAsg (zaf 0) (wGT (zaJ (wGN 3) (zaJ (wGN 4) (zaJ (wGN 5) (zaJ (wGN 6) zdp))))))
  (zas (wAsg (zcL (zdG 1 [1,2] (wIv (zaf 6)) (wGN 0) ziQ (zeP r (zbD r)))) (wGN 7))
  (zas (zcf (wTb (wOp oLt (zaf 3) (wC (.int 0)))) (zaX (wOp zcK (zbA (zab (zaf 5) waNil)) (wB zdv (zab (zaf 7) waNil)))) zaF)
  (zas (zcf (wTb (wOp (oEq false) (wOp (zci (fun _ j=>0<j) fun i j=> .int (i % j)) (wOp (zci zhb fun i j=> .int (i / j)) (zaf 4) (zaf 2)) (wC (.int 2))) (wC (.int 1)))) (zaX (wOp zcK (zbA (zab (wOp oIx (wOp oIx (zaf 1) (zaf 3)) (wC (.int 0))) waNil)) (wB zdv (zab (zaf 7) waNil)))) zaF)
  (zaX (zao (zaQ r) (zab (wOp oIx (wOp oIx (zaf 1) (zaf 3)) (wC (.int 1))) (zab (zaf 7) waNil))))))))
noncomputable def zeu (r:Nat) (self:WSp):WS:=(zcf (wTb (wOp (oEq false) (wOp oIx (zaf 4) (wC (.int 0))) (wOp oIx (zaf 1) (wC (.int 0))))) (zaX (zao (zaQ r) (zab (wOp oIx (zaf 4) (zaf 2)) (zab (zaf 3) waNil)))) zaF)
noncomputable def zeA (r:Nat) (self:WSp):WE:=(zao self (zab (zaf 1) (zab (zaf 0) (zab (zaf 2) waNil))))
noncomputable def zaC:Nat→WSp
 |0=>zbe
 |r+1=>zcA 5 3 (zas (wAsg (zcL (zdG 1 [0,2] (wIv (wSl (zaf 1) (woS (wC (.int 1))) woN)) (wGN 0) ziQ (zeA r (zaC r)))) (wGN 3))
  (zas (zgy (wIv (zaf 0)) (wGN 4) (zeu r zbe))
  (zaX (wOp zcK (wSl (zaf 1) woN (woS (wC (.int 1)))) (wB zdv (zab (zaf 3) waNil))))))
noncomputable def zck (r:Nat):WS:=(zaX (zbA (zab (zaf 1) (zab (zaf 4) waNil))))
noncomputable def zej (r:Nat) (self:WSp):WE:=(wOp oIx (zaf 0) (wC (.int 0)))
noncomputable def zbq (r:Nat):WS:=(wAsg (wOp zcK (zaf 6) (wB zeE (zab (zaf 9) waNil))) (wGN 6))
noncomputable def zbu (r:Nat) (T:WS):WS:=(zas (wAsg (zao (zaC r) (zab (zaf 0) (zab (wOp oIx (zaf 4) (zll (wC (.int 1)))) (zab (wC (.int 2)) waNil)))) (wGN 5)) T)
noncomputable def zbv (r:Nat) (T:WS):WS:=(zas (zdP (wM rvL zcu (zaf 4) (zab (zao (zeD r) (zab (zaf 0) (zab (zaf 5) (zab (zaf 9) waNil)))) waNil))) T)
noncomputable def zbs (r:Nat) (T:WS):WS:=(zas (wAsg (wSl (zaf 9) woN (woS (wOp zcK (wC (.int 1)) (wB zsy (zab (zlp (wOp (oEq false) (wOp (zci (fun _ j=>0<j) fun i j=> .int (i % j)) (wOp (zci zhb fun i j=> .int (i / j)) (zaf 7) (wC (.int 4096))) (wC (.int 2))) (wC (.int 1))) (wOp oLe (wOp zcK (zaf 6) (wC (.int 2))) (zaf 3))) waNil))))) (wGN 9)) T)
noncomputable def zby (r:Nat) (T:WS):WS:=(zas (wAsg (zcL (zdl (zab (wOp oIx (zaf 8) (wOp (zci (fun _ j=>0<j) fun i j=> .int (i % j)) (zaf 7) (wB zeE (zab (zaf 8) waNil)))) (zab (wOp oIx (zaf 8) (wOp (zci (fun _ j=>0<j) fun i j=> .int (i % j)) (wOp (zci zhb fun i j=> .int (i / j)) (zaf 7) (wC (.int 64))) (wB zeE (zab (zaf 8) waNil)))) waNil)))) (wGN 9)) T)
noncomputable def zbW (r:Nat):WS:=(zcf (zqZ (wTb (wOp oGt (wB zeE (zab (zaf 8) waNil)) (wC (.int 0)))) (wTb (wOp oLt (zaf 6) (zaf 3)))) (zby r (zbs r (zbv r (zbu r (zbq r))))) zaF)
noncomputable def zbt (r:Nat) (T:WS):WS:=(zas (wAsg (zcL (zdG 1 [] (wIv (zao (zbP r) (zab (zaf 0) (zab (zaf 5) waNil)))) (wGN 0) ziQ (zej r zbe))) (wGN 8)) T)
noncomputable def zbX (r:Nat) (self:WSp):WS:=(zbt r (zbW r))
noncomputable def zcl (r:Nat) (T:WS):WS:=(zas (zgy (wIv (zaf 2)) (wGN 7) (zbX r zbe)) T)
noncomputable def zco (r:Nat) (T:WS):WS:=(zas (wAsg (wC (.int 0)) (wGN 6)) T)
noncomputable def zcp (r:Nat) (T:WS):WS:=(zas (wAsg (zaf 1) (wGN 5)) T)
noncomputable def zcn (r:Nat) (T:WS):WS:=(zas (wAsg (zcL (zdl waNil)) (wGN 4)) T)
noncomputable def zcz:Nat→WSp
 |0=>zbe
 |r+1=>zcA 10 4 (zcn r (zcp r (zco r (zcl r (zck r)))))
noncomputable def zcg (r:Nat) (self:WSp):WS:=(zas (zcf (wTb (wOp (oEq true) (zao (zaC r) (zab (zaf 0) (zab (zaf 3) (zab (wC (.int 1)) waNil)))) (zaf 2))) (zaX (wC (.bl false))) zaF)
  (wAsg (zao (zaC r) (zab (zaf 0) (zab (zaf 3) (zab (wC (.int 2)) waNil)))) (wGN 2)))
noncomputable def zbp:Nat→WSp
 |0=>zbe
 |r+1=>zcA 4 2 (zas (wAsg (wOp oIx (zaf 1) (wC (.int 0))) (wGN 2))
  (zas (zgy (wIv (wOp oIx (zaf 1) (wC (.int 1)))) (wGN 3) (zcg r zbe))
  (zaX (wC (.bl true)))))
noncomputable def zaN:Nat→WSp
 |0=>zbe
 |r+1=>zcA 6 3 (zas (wAsg (zaf 0) (wGT (zaJ (wGN 3) (zaJ (wGN 4) zdp))))
  (zas (wAsg (wOp (zci (fun _ j=>0<j) fun i j=> .int (i % j)) (wOp (zci zhb fun i j=> .int (i / j)) (zaf 1) (wC (.int 5))) (wOp zcK (wB zeE (zab (zaf 4) waNil)) (wC (.int 1)))) (wGN 5))
  (zas (zcf (wTb (wOp (oEq false) (wOp (zci (fun _ j=>0<j) fun i j=> .int (i % j)) (zaf 1) (wC (.int 5))) (wC (.int 0)))) (zaX (zbA (zab (zaf 3) (zab (wOp zcK (wSl (zaf 4) woN (woS (zaf 5))) (wSl (zaf 4) (woS (wOp zcK (zaf 5) (wC (.int 1)))) woN)) waNil)))) zaF)
  (zas (zcf (wTb (wOp (oEq false) (wOp (zci (fun _ j=>0<j) fun i j=> .int (i % j)) (zaf 1) (wC (.int 5))) (wC (.int 1)))) (zaX (zbA (zab (zaf 3) (zab (wOp zcK (wOp zcK (wSl (zaf 4) woN (woS (zaf 5))) (wSl (zaf 4) (woS (zaf 5)) (woS (wOp zcK (zaf 5) (wC (.int 1)))))) (wSl (zaf 4) (woS (zaf 5)) woN)) waNil)))) zaF)
  (zas (zcf (wTb (wOp (oEq false) (wOp (zci (fun _ j=>0<j) fun i j=> .int (i % j)) (zaf 1) (wC (.int 5))) (wC (.int 2)))) (zaX (zbA (zab (zaf 3) (zab (zcL (zin (zin (zpK (zaf 4) woN (woS (zaf 5))) (zcY (wSl (zaf 4) (woS (zaf 5)) (woS (wOp zcK (zaf 5) (wC (.int 2))))))) (zpK (zaf 4) (woS (wOp zcK (zaf 5) (wC (.int 2)))) woN))) waNil)))) zaF)
  (zas (zcf (wTb (wOp (oEq false) (wOp (zci (fun _ j=>0<j) fun i j=> .int (i % j)) (zaf 1) (wC (.int 5))) (wC (.int 3)))) (zaX (zbA (zab (zbA (zab (wOp oIx (zaf 2) (wC (.int 3))) (zab (zaf 3) waNil))) (zab (zcL (zfS (zaf 4))) waNil)))) zaF)
  (zaX (zbA (zab (zaf 3) (zab (zcL (zfS (zaf 4))) waNil))))))))))
noncomputable def zcE (r:Nat):WS:=(zaX (zlp (wOp (oIs false) (zao (zcN r) (zab (zaf 3) (zab (zaf 5) waNil))) (wC (.bl true))) (zlp (wOp (oEq false) (zao (zlK r) (zab (zaf 3) (zab (zaf 5) waNil))) (zaf 9)) (wOp (oEq false) (zao (zlK r) (zab (zaf 3) (zab (zbA (zab (zaf 4) (zab (zcL (zdl waNil)) waNil))) waNil))) (zaf 4)))))
noncomputable def zcB (r:Nat) (T:WS):WS:=(zas (zcf (wTb (wOp oGt (wB zeE (zab (wOp oIx (zaf 5) (wC (.int 1))) waNil)) (wC (.int 0)))) (wAsg (zao (zaC r) (zab (zaf 3) (zab (wOp oIx (wOp oIx (zaf 5) (wC (.int 1))) (zll (wC (.int 1)))) (zab (wC (.int 2)) waNil)))) (wGN 9)) zaF) T)
noncomputable def zcF (r:Nat) (T:WS):WS:=(zas (wAsg (zaf 4) (wGN 9)) T)
noncomputable def zdf (r:Nat) (T:WS):WS:=(zas (zcf (wOr (zpM (zie (zoI "bool" (zaf 8)))) (wOr (wTb (wOp (oEq true) (zaf 8) (zao (zbp r) (zab (zaf 3) (zab (zaf 6) waNil))))) (wTb (wOp (oEq true) (zaf 7) (zaf 6))))) (zaX (wC (.bl false))) zaF) T)
noncomputable def zdi (r:Nat) (T:WS):WS:=(zas (wAsg (zao (zcN r) (zab (zaf 3) (zab (zaf 7) waNil))) (wGN 8)) T)
noncomputable def zdh (r:Nat) (T:WS):WS:=(zas (wAsg (zbA (zab (wOp oIx (zaf 6) (wC (.int 0))) (zab (zcL (zfS (wOp oIx (zaf 6) (wC (.int 1))))) waNil))) (wGN 7)) T)
noncomputable def zdg (r:Nat) (T:WS):WS:=(zas (wAsg (zao (zaN r) (zab (zaf 5) (zab (zao (zaA r) (zab (zaf 0) (zab (wC (.int 14)) waNil))) (zab (zaf 1) waNil)))) (wGN 6)) T)
noncomputable def zdb (r:Nat) (T:WS):WS:=(zas (wAsg (zao (zcz r) (zab (zaf 3) (zab (zaf 4) (zab (wSl (zaf 0) (woS (wC (.int 10))) (woS (wC (.int 14)))) (zab (wC (.int 4)) waNil))))) (wGN 5)) T)
noncomputable def zdO (r:Nat) (T:WS):WS:=(zas (wAsg (zao (zbD r) (zab (zao (zbB r) (zab (wSl (zaf 0) (woS (wC (.int 17))) woN) (zab (zaf 3) (zab (zaf 1) (zab (wC (.int 6)) waNil))))) (zab (zaf 3) (zab (wC (.int 8)) waNil)))) (wGN 4)) T)
noncomputable def zdY (r:Nat) (T:WS):WS:=(zas (wAsg (zao (zbR r) (zab (zaf 0) (zab (wC (.int 4)) (zab (zaf 1) (zab (zaf 2) waNil))))) (wGN 3)) T)
noncomputable def zeb (r:Nat) (T:WS):WS:=(zas (wAsg (zao (zaY r) (zab (zao (zaA r) (zab (zaf 0) (zab (wC (.int 2)) waNil))) (zab (zao (zaA r) (zab (zaf 0) (zab (wC (.int 3)) waNil))) (zab (wC (.bl true)) waNil)))) (wGN 2)) T)
noncomputable def zdS (r:Nat) (T:WS):WS:=(zas (wAsg (zao (zaY r) (zab (zao (zaA r) (zab (zaf 0) (zab (wC (.int 0)) waNil))) (zab (zao (zaA r) (zab (zaf 0) (zab (wC (.int 1)) waNil))) (zab (wC (.bl false)) waNil)))) (wGN 1)) T)
noncomputable def zcQ:Nat→WSp
 |0=>zbe
 |r+1=>zcA 10 1 (zdS r (zeb r (zdY r (zdO r (zdb r (zdg r (zdh r (zdi r (zdf r (zcF r (zcB r (zcE r))))))))))))
theorem zeZ{r:Nat}{t:Tr}{S:Sto}{Q:WK}{E:Str→Sto→Prop}(h:Q (.tup (encs t.kids)) S):zbQ (r+1) [enc t] S Q E:=by
 rw [zbQ];cases t with
 |bl n=>
  simp only[enc];walk_at "wp";exact⟨Nat.zero_le _,S, .refl,h⟩
 |nd s ts=>
  simp only[enc];walk_at "wp";exact⟨S, .refl,h⟩
mutual
noncomputable def Tr.pl (p:List Int):Tr→List (List Int)
 | .bl _=>[p]
 | .nd _ ts=>p::pls p 0 ts
noncomputable def pls (p:List Int) (i:Nat):List Tr→List (List Int)
 | []=>[]
 |t::ts=>t.pl (p++[(i:Int)])++pls p (i+1) ts
end
mutual
theorem zpY:∀(t:Tr) (p:List Int),(t.pl p).length=t.weight
 | .bl _,p=>by simp [Tr.pl,Tr.weight]
 | .nd _ ts,p=>by simp [Tr.pl,Tr.weight,znc ts p 0];omega
theorem znc:∀(ts:List Tr) (p:List Int) (i:Nat),(pls p i ts).length=wts ts
 | [],p,i=>by simp [pls,wts]
 |t::ts,p,i=>by simp [pls,wts,zpY t,znc ts p (i+1)]
end
theorem zkV{p:List Int}{i:Int}{S:Sto}{Q:WK}:zcK (zaM p) (.tup [.int i]) S Q=(p.length+1≤sizeLine∧Q (zaM (p++[i])) S):=by
 unfold zaM;rw [zfB];simp
mutual
theorem zhP:∀(t:Tr) {r:Nat}{p:List Int}{a:Addr}{xs:List W}{S:Sto}{Q:WK}{E:Str→Sto→Prop},t.depth≤r→S a=some (.lst xs)→xs.length+t.weight≤1000000→p.length+t.depth≤1000000→
  Q .non (put S a (.lst (xs++(t.pl p).map zaM)))→zaD (r+1) [enc t,zaM p, .ref a] S Q E
 | .bl n,r,p,a,xs,S,Q,E,hr,ha,hx,hp,h=>by
  obtain⟨r,rfl⟩:∃r',r=r'+1:=⟨r - 1,by simp [Tr.depth]at hr;omega⟩
  rw [zaD];walk_at "wp";simp only[zag ha,true_and];simp [Tr.weight]at hx;refine⟨zct (by omega),?_⟩;refine zeZ ?_;simp only[Tr.kids,encs,zgm,forL];simp only[Tr.pl,List.map_cons,List.map_nil]at h;exact⟨_, .refl,h⟩
 | .nd s ts,r,p,a,xs,S,Q,E,hr,ha,hx,hp,h=>by
  simp only[Tr.depth]at hr hp;simp only[Tr.weight]at hx;obtain⟨r,rfl⟩:∃r',r=r'+1:=⟨r - 1,by omega⟩
  rw [zaD];walk_at "wp";simp only[zag ha,true_and];refine⟨zct (by omega),?_⟩;refine zeZ ?_;dsimp only[Tr.kids];refine zge ts (xs:=xs++[zaM p]) (by omega) zai (by simp;omega) (by omega) fun x y=>?_;rw [zaW];refine⟨_, .refl,?_⟩;simpa [Tr.pl,List.append_assoc]using h
theorem zge:∀(ts:List Tr) {r:Nat}{p:List Int}{i:Nat}{a:Addr}{xs:List W}{S:Sto}{E:WX}{D:WEnds}{t0 x y:Option W},dts ts≤r→S a=some (.lst xs)→xs.length+wts ts≤1000000→p.length+1+dts ts≤1000000→
  (∀x y,D.nx [t0,some (zaM p),some (.ref a),x,y] (put S a (.lst (xs++(pls p i ts).map zaM))))→
  forL (wGT (zaJ (wGN 3) (zaJ (wGN 4) zdp))) (zbN (r+1) (zaD (r+1))) E D (fun _=>True) (zgm i (encs ts)) [t0,some (zaM p),some (.ref a),x,y] S
 | [],r,p,i,a,xs,S,E,D,t0,x,y,hr,ha,hx,hp,h=>by
  simp only[encs,zgm,forL];have:=h x y;simp only[pls,List.map_nil,List.append_nil,zey ha]at this;exact this
 |t::ts,r,p,i,a,xs,S,E,D,t0,x,y,hr,ha,hx,hp,h=>by
  simp only[dts]at hr hp;simp only[wts]at hx;simp only[encs,zgm,forL,zbN];walk_at "wp";rw [zkV];refine⟨zal (by omega),zal (by omega),zhP t (p:=p++[(i:Int)]) (by omega) ha (by omega) (by simp;omega) ?_⟩;refine⟨_, .refl,zge ts (by omega) zai (by simp [zpY];omega) (by omega) fun x y=>?_⟩;rw [zaW];simpa [pls,List.append_assoc]using h x y
end
theorem zmf{t:Tr}{r:Nat}{S:Sto}{Q:WK}{E:Str→Sto→Prop}(hr:t.depth+1≤r) (hw:t.weight≤100000) (hd:t.depth≤100000) (h:∀a,S a=none→Q (.ref a) (put S a (.lst ((t.pl []).map zaM)))):zek (r+1) [enc t] S Q E:=by
 obtain⟨r,rfl⟩:∃r',r=r'+1:=⟨r - 1,by omega⟩
 rw [zek];walk_at "wp";refine⟨Nat.zero_le _,fun a ha=>⟨Nat.zero_le _,zhP t (p:=[]) (xs:=[]) (by omega) zai (by simp;omega) (by simp;omega) ?_⟩⟩;rw [zaW,List.nil_append];exact⟨_, .refl,h a ha⟩
noncomputable def Tr.at:Tr→List Int→Option Tr
 |t,[]=>some t
 | .bl _,_::_=>none
 | .nd _ ts,i::p=>if i<0 then none else match ts[i.toNat]? with
  |some u=>u.at p
  |none=>none
theorem ziV{t u:Tr}{i:Int}{r:Nat}{S:Sto}{Q:WK}{E:Str→Sto→Prop}(hi:0≤i) (hu:t.kids[i.toNat]? =some u) (h:Q (enc u) S):zbm (r+2) [enc t, .int i] S Q E:=by
 rw [zbm];walk_at "wp";refine zeZ ?_;have hl:i.toNat<t.kids.length:=(List.getElem?_eq_some_iff.mp hu).1;walk_at "wp";rw [zbh];rw [if_neg (by omega),if_neg (by omega)];have e:atI (encs t.kids) i=some (enc u):=by
  have q:=zca (xs:=encs t.kids) (n:=i.toNat);rw [Int.toNat_of_nonneg hi]at q;rw [q,zaG,List.getElem?_map,hu];rfl
 rw [e];exact⟨S, .refl,h⟩
theorem zjA{p:List Int}:∀{t u:Tr}{r:Nat}{S:Sto}{E:WX}{D:WEnds}{x y z:Option W},t.at p=some u→(∀z,D.nx [x,y,some (enc u),z] S)→
  forL (wGN 3) (zhh (r+2) zbe) E D (fun _=>True) (p.map W.int) [x,y,some (enc t),z] S:=by
 induction p with
 |nil=>
  intro t u r S E D x y z e h;unfold Tr.at at e;cases e;exact h z
 |cons i p ih=>
  intro t u r S E D x y z e h;cases t with
  |bl n=>cases e
  |nd s ts=>
   unfold Tr.at at e;split at e
   ·cases e
   ·rename_i hi;split at e
    ·rename_i v ev;simp only[List.map_cons,forL,zhh];walk_at "wp";refine ziV (t:= .nd s ts) (u:=v) (by omega) ev ⟨S, .refl,?_⟩;exact ih e h
    ·cases e
theorem zrV{t u:Tr}{p:List Int}{r:Nat}{S:Sto}{Q:WK}{E:Str→Sto→Prop}(e:t.at p=some u) (h:Q (enc u) S):ziy (r+3) [enc t,zaM p] S Q E:=by
 rw [ziy];walk_at "wp";unfold zaM;dsimp only;exact zjA e fun z=>⟨S, .refl,h⟩
noncomputable def Low (c:Nat):Prop:=97≤c∧c≤122
noncomputable def zdQ (x:Str):Prop:=1≤x.cps.toList.length∧x.cps.toList.length≤8∧ ∀c∈x.cps.toList,Low c
noncomputable def zdm (x:Str):Prop:=∃c r,x.cps.toList=c::r∧65≤c∧c≤90∧r.length≤7∧ ∀d∈r,Low d
theorem zrM:(Str.ofString "abcdefghijklmnopqrstuvwxyz").cps.toList=List.range' 97 26:=by decide +kernel
theorem ztE:(Str.ofString "abcdefghijklmnopqrstuvwxyz").length=26:=by decide +kernel
theorem ziz:∀cs:List Nat,(Str.join (Str.ofString "") (cs.map fun c=>(⟨#[c]⟩:Str))).cps.toList=cs
 | []=>rfl
 | [c]=>rfl
 |c::d::r=>by
  have ih:=ziz (d::r);show((⟨#[c]⟩:Str)++Str.ofString "" ++Str.join (Str.ofString "") ((d::r).map fun c=>(⟨#[c]⟩:Str))).cps.toList=_;show(#[c]++(Str.ofString "").cps++(Str.join (Str.ofString "") ((d::r).map fun c=>(⟨#[c]⟩:Str))).cps).toList=_;rw [Array.toList_append,Array.toList_append,ih];rfl
theorem zoO (cs:List Nat):((cs.map fun c=>(⟨#[c]⟩:Str)).map (·.length)).sum=cs.length:=by
 induction cs with
 |nil=>rfl
 |cons c r ih=>
  rw [List.map_cons,List.map_cons,List.sum_cons,ih,List.length_cons];show 1+r.length=r.length+1;omega
theorem zfO:∀cs:List Nat,zeU (cs.map fun c=>W.str ⟨#[c]⟩)=some (cs.map fun c=>(⟨#[c]⟩:Str))
 | []=>rfl
 |c::cs=>by rw [List.map_cons,zeU,zfO cs];rfl
theorem zmE (cs:List Nat) (h:cs.length≤1000):(List.map (fun x=>x.length) (cs.map fun c=>(⟨#[c]⟩:Str))).sum+(cs.map fun c=>(⟨#[c]⟩:Str)).length*(Str.ofString "").length≤16777216:=by
 have e:=zoO cs;have z:(Str.ofString "").length=0:=by decide +kernel
 rw [e,z];omega
theorem zkl{lo:Int}{n:Nat}:(zlD lo n).length=n:=by simp [zlD]
theorem znD{α:Type}{xs:List α}(n:Int) (h:xs≠ []):∃(i:Nat) (x:α),xs[i]? =some x∧atI xs (n % (xs.length:Int))=some x:=by
 have hp:0<xs.length:=List.length_pos_iff.mpr h;have h0:0≤n % (xs.length:Int):=Int.emod_nonneg _ (by omega);have h1:n % (xs.length:Int)<(xs.length:Int):=Int.emod_lt_of_pos _ (by omega);have hlt:(n % (xs.length:Int)).toNat<xs.length:=by omega
 refine⟨(n % (xs.length:Int)).toNat,xs[(n % (xs.length:Int)).toNat],List.getElem?_eq_getElem hlt,?_⟩;have e:=zmA (xs:=xs) (j:=(n % (xs.length:Int)).toNat) (v:=xs[(n % (xs.length:Int)).toNat]) (List.getElem?_eq_getElem hlt);rw [Int.toNat_of_nonneg h0]at e;exact e
theorem zfo (ts us:List Tr):encs (ts++us)=encs ts++encs us:=by rw [zaG,zaG,zaG,List.map_append]
mutual
noncomputable def Tr.plt (p:List Int):Tr→List (List Int×Tr)
 | .bl n=>[(p, .bl n)]
 | .nd s ts=>(p, .nd s ts)::zgr p 0 ts
noncomputable def zgr (p:List Int) (i:Nat):List Tr→List (List Int×Tr)
 | []=>[]
 |t::ts=>t.plt (p++[(i:Int)])++zgr p (i+1) ts
end
mutual
theorem zmb:∀(t:Tr) (p:List Int),(t.plt p).map (·.1)=t.pl p
 | .bl _,p=>by simp [Tr.plt,Tr.pl]
 | .nd _ ts,p=>by simp [Tr.plt,Tr.pl,zko ts p 0]
theorem zko:∀(ts:List Tr) (p:List Int) (i:Nat),(zgr p i ts).map (·.1)=pls p i ts
 | [],p,i=>by simp [zgr,pls]
 |t::ts,p,i=>by simp [zgr,pls,zmb t,zko ts p (i+1)]
end
mutual
theorem zju:∀(t:Tr) (p:List Int),(t.plt p).length=t.weight
 | .bl _,p=>by simp [Tr.plt,Tr.weight]
 | .nd _ ts,p=>by simp [Tr.plt,Tr.weight,zkR ts p 0];omega
theorem zkR:∀(ts:List Tr) (p:List Int) (i:Nat),(zgr p i ts).length=wts ts
 | [],p,i=>by simp [zgr,wts]
 |t::ts,p,i=>by simp [zgr,wts,zju t,zkR ts p (i+1)]
end
theorem zmJ{s:Str}{ts:List Tr}{i:Nat}{q:List Int}{u:Tr}(h:ts[i]? =some u):(Tr.nd s ts).at ((i:Int)::q)=u.at q:=by
 rw [Tr.at,if_neg (by omega)];simp [h]
mutual
theorem zkj:∀(t:Tr) (p q:List Int) (u:Tr),(q,u)∈t.plt p→ ∃r,q=p++r∧t.at r=some u∧r.length<t.depth
 | .bl n,p,q,u,h=>by
  simp only[Tr.plt,List.mem_singleton,Prod.mk.injEq]at h;obtain⟨rfl,rfl⟩:=h;exact⟨[],by simp,by simp [Tr.at],by simp [Tr.depth]⟩
 | .nd s ts,p,q,u,h=>by
  simp only[Tr.plt,List.mem_cons,Prod.mk.injEq]at h;rcases h with⟨rfl,rfl⟩ |h
  ·exact⟨[],by simp,by simp [Tr.at],by simp [Tr.depth];omega⟩
  ·obtain⟨j,v,r,h1,h2,h3,h4⟩:=znW ts p 0 q u h;refine⟨(j:Int)::r,by rw [h2];simp,by rw [zmJ h1];exact h3,by simp [Tr.depth];omega⟩
theorem znW:∀(ts:List Tr) (p:List Int) (i:Nat) (q:List Int) (u:Tr),(q,u)∈zgr p i ts→ ∃(j:Nat) (v:Tr) (r:List Int),ts[j]? =some v∧q=p++[((i+j:Nat):Int)]++r∧v.at r=some u∧r.length<dts ts
 | [],p,i,q,u,h=>by simp [zgr]at h
 |t::ts,p,i,q,u,h=>by
  simp only[zgr,List.mem_append]at h;rcases h with h |h
  ·obtain⟨r,h1,h2,h3⟩:=zkj t _ q u h;exact⟨0,t,r,rfl,by simpa using h1,h2,by simp [dts];omega⟩
  ·obtain⟨j,v,r,h1,h2,h3,h4⟩:=znW ts p (i+1) q u h;refine⟨j+1,v,r,by simpa using h1,?_,h3,by simp [dts];omega⟩
   rw [h2,show i+1+j=i+(j+1) by omega]
end
theorem keep{S:Sto}{a p:Addr}{o x:Ob}(f:S a=some o) (h:S p=none):put S p x a=some o:=by rw [zaZ (zqM f h)];exact f
theorem zcH{u:Tr}:∀{ts:List Tr},u∈ts→u.depth≤dts ts
 |t::ts,h=>by
  rcases List.mem_cons.mp h with rfl |h
  ·simp [dts];omega
  ·have:=zcH h;simp [dts];omega
theorem zbd{α:Type}{g:WG}{e:WE}{E:WX}{G:Sto→Prop}{Q:List W→Sto→Prop}{S:Sto}(I:WSt→Prop) (k f:α→W) (hG:G S):∀(xs:List α) (acc:List W) (σ:WSt),I σ→acc.length+xs.length≤1000000→
  (∀x∈xs,∀σ (R:WSt→W→Sto→Prop),I σ→(∀σ1 S3,I σ1→Sub S S3→R σ1 (f x) S3)→g (k x) σ S fun σ1 S1=>e E σ1 S1 fun y S3=>R σ1 y S3)→
  Q (acc++xs.map f) S→zeJ g ziQ e E G Q (xs.map k) acc σ S
 | [],acc,σ,hI,hl,step,hQ=>by simpa [zeJ]using hQ
 |x::xs,acc,σ,hI,hl,step,hQ=>by
  simp only[List.map_cons,zeJ,ziQ,if_true];simp only[List.length_cons]at hl;refine step x List.mem_cons_self σ _ hI fun σ1 S3 hI1 sb=>⟨zct (by omega),S,sb,hG,zbd I k f hG xs (acc++[f x]) σ1 hI1 (by simp;omega) (fun y hy=>step y (List.mem_cons_of_mem _ hy)) ?_⟩;simpa using hQ
theorem zfM{α:Type}{g:WG}{c:WT}{e:WE}{E:WX}{G:Sto→Prop}{Q:List W→Sto→Prop}{S:Sto}(I:WSt→Prop) (k f:α→W) (P:α→Bool) (hG:G S):∀(xs:List α) (acc:List W) (σ:WSt),I σ→acc.length+xs.length≤1000000→
  (∀x∈xs,∀σ (R1:WSt→W→Sto→Prop) (R0:WSt→Sto→Prop),I σ→(P x=true→ ∀σ1 S3,I σ1→Sub S S3→R1 σ1 (f x) S3)→(P x=false→ ∀σ1 S3,I σ1→Sub S S3→R0 σ1 S3)→
   g (k x) σ S fun σ1 S1=>c E σ1 S1 fun b S2=>if b=true then e E σ1 S2 fun y S3=>R1 σ1 y S3 else R0 σ1 S2)→
  Q (acc++(xs.filter P).map f) S→zeJ g c e E G Q (xs.map k) acc σ S
 | [],acc,σ,hI,hl,step,hQ=>by simpa [zeJ]using hQ
 |x::xs,acc,σ,hI,hl,step,hQ=>by
  simp only[List.map_cons,zeJ];simp only[List.length_cons]at hl;refine step x List.mem_cons_self σ _ _ hI (fun hp σ1 S3 hI1 sb=>⟨zct (by omega),S,sb,hG,zfM I k f P hG xs (acc++[f x]) σ1 hI1 (by simp;omega) (fun y hy=>step y (List.mem_cons_of_mem _ hy)) ?_⟩)
   fun hp σ1 S3 hI1 sb=>⟨S,sb,hG,zfM I k f P hG xs acc σ1 hI1 (by omega) (fun y hy=>step y (List.mem_cons_of_mem _ hy)) ?_⟩
  ·rw [List.filter_cons_of_pos hp]at hQ;simpa using hQ
  ·rw [List.filter_cons_of_neg (by rw [hp];simp)]at hQ;exact hQ
noncomputable def Tr.isBl:Tr→Bool
 | .bl _=>true
 | .nd _ _=>false
noncomputable def Tr.num:Tr→Int
 | .bl n=>n
 | .nd _ _=>0
noncomputable def Tr.bls (t:Tr):List (List Int×Tr):=(t.plt []).filter fun x=>x.2.isBl
theorem znI{t:Tr}{x:List Int×Tr}(h:x∈t.bls):t.at x.1=some x.2∧x.2= .bl x.2.num∧x.1.length<t.depth:=by
 obtain⟨h1,h2⟩:=List.mem_filter.mp h;obtain⟨r,h3,h4,h5⟩:=zkj t [] x.1 x.2 h1;simp at h3;subst h3;refine⟨h4,?_,h5⟩;obtain⟨p,u⟩:=x;cases u with
 |bl n=>rfl
 |nd s ts=>simp [Tr.isBl]at h2
theorem zsd (t:Tr):t.bls.length≤t.weight:=by
 unfold Tr.bls;exact Nat.le_trans (List.length_filter_le ..) (by rw [zju];exact Nat.le_refl _)
theorem zlh{t:Tr}{r:Nat}{S:Sto}{Q:WK}{E:Str→Sto→Prop}(hr:t.depth+4≤r) (hw:t.weight≤90000) (h:∀a,S a=none→Q (.ref a) (put S a (.lst (t.bls.map fun x=>zaM x.1)))):zbx (r+1) [enc t] S Q E:=by
 have hd:=zdn t;obtain⟨r,rfl⟩:∃r',r=r'+3:=⟨r - 3,by omega⟩
 rw [zbx];walk_at "wp";refine zmf (by omega) (by omega) (by omega) fun a ha=>?_;walk_at "wp";rw [←zmb,List.map_map];refine zfM (fun σ=>∃x,σ=[x,some (enc t)]) (fun x=>zaM x.1) (fun x=>zaM x.1) (fun x=>x.2.isBl) ?_ (t.plt []) [] _ ⟨none,rfl⟩ (by simp [zju];omega) (fun x hx σ R1 R0 hI h1 h0=>?_) ?_
 ·exact zai
 ·obtain⟨y,rfl⟩:=hI;obtain⟨q,h3,h4,h5⟩:=zkj t [] x.1 x.2 hx;simp at h3;subst h3;walk_at "wp";refine zrV h4 ?_;obtain⟨p,u⟩:=x;cases u with
  |bl n=>
   simp only[enc];walk_at "wp";exact h1 rfl _ _ ⟨_,rfl⟩ .refl
  |nd s ts=>
   simp only[enc];walk_at "wp";exact h0 rfl _ _ ⟨_,rfl⟩ .refl
 ·rw [List.nil_append];intro b hb;obtain⟨hb1,hb2⟩:=zde hb;exact⟨_, .put2 (.put .refl ha),h b hb1⟩
mutual
noncomputable def Tr.fill (us:List Tr):Tr→Tr
 | .bl n=>us.getD n.toNat (.bl n)
 | .nd s ts=> .nd s (fills us ts)
noncomputable def fills (us:List Tr):List Tr→List Tr
 | []=>[]
 |t::ts=>t.fill us::fills us ts
end
mutual
noncomputable def Tr.fits (m:Nat):Tr→Prop
 | .bl n=>0≤n∧n<m
 | .nd _ ts=>fitss m ts
noncomputable def fitss (m:Nat):List Tr→Prop
 | []=>True
 |t::ts=>t.fits m∧fitss m ts
end
theorem zfw (us:List Tr):∀ts:List Tr,fills us ts=ts.map (Tr.fill us)
 | []=>by simp [fills]
 |t::ts=>by simp [fills,zfw us ts]
theorem zfH{m:Nat}{t:Tr}:∀{ts:List Tr},fitss m ts→t∈ts→t.fits m
 |u::ts,h,hm=>by
  simp only[fitss]at h;rcases List.mem_cons.mp hm with rfl |hm
  ·exact h.1
  ·exact zfH h.2 hm
theorem zhV{us:List Tr}{a:Addr}:∀(d:Nat) {t:Tr}{r:Nat}{S:Sto}{Q:WK}{E:Str→Sto→Prop},t.depth≤d→d≤r+1→S a=some (.lst (encs us))→t.fits us.length→t.weight≤90000→Q (enc (t.fill us)) S→zda (r+1) [enc t, .ref a] S Q E
 |0,t,r,S,Q,E,hd,hr,ha,hf,hw,h=>by have:=zbK t;omega
 |d+1, .bl n,r,S,Q,E,hd,hr,ha,hf,hw,h=>by
  simp only[Tr.fits]at hf;simp only[Tr.fill]at h;rw [zda];simp only[enc];walk_at "wp";have e:atI (encs us) n=some (enc (us.getD n.toNat (.bl n))):=by
   have q:=zca (xs:=encs us) (n:=n.toNat);rw [Int.toNat_of_nonneg hf.1]at q;rw [q,zaG,List.getElem?_map,List.getD_eq_getElem?_getD,List.getElem?_eq_getElem (by omega)];rfl
  rw [zag ha,e];exact⟨S, .refl,h⟩
 |d+1, .nd s ts,r,S,Q,E,hd,hr,ha,hf,hw,h=>by
  simp only[Tr.fits]at hf;simp only[Tr.fill]at h;simp only[Tr.depth]at hd;simp only[Tr.weight]at hw;have hk:=zcJ ts;rw [zda];simp only[enc]at h⊢;walk_at "wp";refine⟨zal (by decide),?_⟩;rw [zaG];refine zbd (fun σ=>∃x,σ=[x,some (.ref a)]) enc (fun t=>enc (t.fill us)) trivial ts [] _ ⟨none,rfl⟩ (by simp;omega) (fun x hx σ R hI hR=>?_) ?_
  ·obtain⟨y,rfl⟩:=hI;have hdx:=zcH hx;have hwx:=zdM hx;have:=zbK x;obtain⟨r,rfl⟩:∃r',r=r'+1:=⟨r - 1,by omega⟩
   simp only[zgl];walk_at "wp";exact zhV d (t:=x) (r:=r) (by omega) (by omega) ha (zfH hf hx) (by omega) (hR _ _ ⟨_,rfl⟩ .refl)
  ·rw [List.nil_append];refine⟨zal (by simp;omega),S, .refl,?_⟩;have e:encs (fills us ts)=ts.map fun t=>enc (t.fill us):=by rw [zaG,zfw,List.map_map];rfl
   rw [e]at h;exact h
theorem zsz (t:Tr):t.at []=some t:=by cases t<;>rfl
theorem zvV{s:Str}{ts:List Tr}{i:Int}{p:List Int}{u:Tr}(h:(Tr.nd s ts).at (i::p)=some u):∃v,0≤i∧ts[i.toNat]? =some v∧v.at p=some u:=by
 unfold Tr.at at h;split at h
 ·cases h
 ·split at h
  ·exact⟨_,by omega, ‹_›,h⟩
  ·cases h
theorem zqj:∀(q:List Int) {D t:Tr}(r:List Int),D.at q=some t→D.at (q++r)=t.at r
 | [],D,t,r,h=>by rw [zsz]at h;cases h;rfl
 |i::q, .bl n,t,r,h=>by cases h
 |i::q, .nd s ts,t,r,h=>by
  obtain⟨v,h0,h1,h2⟩:=zvV h;rw [List.cons_append];have e:(i:Int)=((i.toNat:Nat):Int):=(Int.toNat_of_nonneg h0).symm;rw [e,zmJ h1];exact zqj q r h2
mutual
noncomputable def Tr.same:Tr→Tr→Bool
 | .bl n, .bl m=>n == m
 | .nd s ts, .nd z us=>s == z&&zeX ts us
 |_,_=>false
noncomputable def zeX:List Tr→List Tr→Bool
 | [],[]=>true
 |t::ts,u::us=>t.same u&&zeX ts us
 |_,_=>false
end
mutual
theorem zkW:∀(t u:Tr),t.same u=true↔t=u
 | .bl n, .bl m=>by simp [Tr.same]
 | .nd s ts, .nd z us=>by simp [Tr.same,zic ts us]
 | .bl n, .nd z us=>by simp [Tr.same]
 | .nd s ts, .bl m=>by simp [Tr.same]
theorem zic:∀(ts us:List Tr),zeX ts us=true↔ts=us
 | [],[]=>by simp [zeX]
 |t::ts,u::us=>by simp [zeX,zkW t u,zic ts us]
 | [],u::us=>by simp [zeX]
 |t::ts,[]=>by simp [zeX]
end
theorem zeB (t:Tr):t.same t=true:=(zkW t t).mpr rfl
theorem zpO{S:Sto}{n:Nat}{xs ys:List W}:eqF S (n+1) (.tup xs) (.tup ys)=zdC (eqF S n) xs ys:=Eq.trans (b:=zdC (eqF S n) xs ys) rfl rfl
theorem zup{S:Sto}{n:Nat}{x y:Str}:eqF S (n+1) (.str x) (.str y)=some (x == y):=Eq.trans (b:=some (x == y)) rfl rfl
theorem zqz{S:Sto}{n:Nat}{x y:Int}:eqF S (n+1) (.int x) (.int y)=some (x == y):=Eq.trans (b:=some (x == y)) rfl rfl
theorem ztA{S:Sto}{n:Nat}{x:Int}{ys:List W}:eqF S (n+1) (.int x) (.tup ys)=some false:=Eq.trans (b:=some false) rfl rfl
theorem zsT{S:Sto}{n:Nat}{x:Int}{ys:List W}:eqF S (n+1) (.tup ys) (.int x)=some false:=Eq.trans (b:=some false) rfl rfl
mutual
theorem zlm{S:Sto}:∀(n:Nat) (t u:Tr),t.depth<n→eqF S n (enc t) (enc u)=some (t.same u)
 |0,t,u,h=>by omega
 |n+1, .bl k, .bl m,h=>by simp only[enc,zqz,Tr.same]
 |n+1, .nd s ts, .nd z us,h=>by
  simp only[Tr.depth]at h;obtain⟨n,rfl⟩:∃m,n=m+1:=⟨n - 1,by omega⟩
  simp only[enc,zpO,zdC,zup,Tr.same];rw [zqp (n+1) ts us (by omega)]
 |n+1, .bl k, .nd z us,h=>by simp only[enc,ztA,Tr.same]
 |n+1, .nd s ts, .bl m,h=>by simp only[enc,zsT,Tr.same]
theorem zqp{S:Sto}:∀(n:Nat) (ts us:List Tr),dts ts<n→zdC (eqF S n) (encs ts) (encs us)=some (zeX ts us)
 |n,[],[],h=>by simp only[encs,zdC,zeX]
 |n,[],u::us,h=>by simp only[encs,zdC,zeX]
 |n,t::ts,[],h=>by simp only[encs,zdC,zeX]
 |n,t::ts,u::us,h=>by
  simp only[dts]at h;simp only[encs,zdC,zeX,zlm n t u (by omega),zqp n ts us (by omega)]
end
theorem zld (n:Int):n % 2=0∨n % 2=1:=by omega
theorem ziq (j:Int) (m:Nat):zlD j (m+1)= .int j::zlD (j+1) m:=by
 unfold zlD;rw [List.range_succ_eq_map,List.map_cons,List.map_map];congr 1
 ·simp
 ·apply List.map_congr_left;intro i _;simp only[Function.comp,W.int.injEq];omega
theorem zhF{α:Type}{xs:List α}{i:Int}(h0:0≤i) (h1:i<xs.length):∃x,atI xs i=some x∧x∈xs:=by
 have q:=zca (xs:=xs) (n:=i.toNat);rw [Int.toNat_of_nonneg h0,List.getElem?_eq_getElem (by omega)]at q;exact⟨_,q,List.getElem_mem ..⟩
theorem zqU{ss:List Str}{i:Int}(h0:0≤i) (h1:i<ss.length):∃x,atI (ss.map W.str) i=some (.str x)∧x∈ss:=by
 obtain⟨w,h,m⟩:=zhF (xs:=ss.map W.str) h0 (by simpa using h1);obtain⟨x,hx,rfl⟩:=List.mem_map.mp m;exact⟨x,h,hx⟩
theorem zmv{g:WG}{b:WS}{E:WX}{D:WEnds}(I:Nat→WSt→Sto→Prop) (n:Nat)
  (step:∀i,i<n→ ∀σ S (N:WSt→Sto→Prop),I i σ S→(∀σ' S' S'',Sub S'' S'→I (i+1) σ' S''→N σ' S')→g (.int i) σ S fun σ1 S1=>b E { D with nx:=N,ct:=N,bk:=D.nx } σ1 S1)
  (done:∀σ S,I n σ S→D.nx σ S) {σ:WSt}{S:Sto}(h:I 0 σ S):forL g b E D (fun _=>True) (zlD 0 n) σ S:=by
 refine ziS (fun ws σ S=>∃i,i≤n∧ws=zlD (i:Int) (n - i)∧I i σ S) ?_ ?_ _ _ _ ⟨0,Nat.zero_le _,rfl,h⟩
 ·rintro w ws σ S N ⟨i,hi,e,hI⟩ hN;obtain⟨m,hm⟩:∃m,n - i=m+1:=by
   rcases Nat.eq_zero_or_pos (n - i) with z |z
   ·rw [z]at e;cases e
   ·exact⟨n - i - 1,by omega⟩
  rw [hm,ziq]at e;cases e;exact step i (by omega) σ S N hI fun σ' S' S'' sb h'=>hN σ' S' S'' sb trivial ⟨i+1,by omega,by rw [show n - (i+1)=m by omega];push_cast;rfl,h'⟩
 ·rintro σ S ⟨i,hi,e,hI⟩;have:n - i=0:=by
   rcases Nat.eq_zero_or_pos (n - i) with z |z
   ·exact z
   ·obtain⟨m,hm⟩:∃m,n - i=m+1:=⟨n - i - 1,by omega⟩
    rw [hm,ziq]at e;cases e
  rw [show i=n by omega]at hI
  exact done σ S hI
mutual
theorem zgv{us:List Tr}{k:Nat}(hk:1≤k) (hu:∀u∈us,u.depth≤k):∀t:Tr,(t.fill us).depth≤t.depth+k
 | .bl n=>by
  simp only[Tr.fill,Tr.depth];rw [List.getD_eq_getElem?_getD];cases e:us[n.toNat]? with
  |none=>simp [Tr.depth]
  |some u=>
   have:=hu u (List.mem_of_getElem? e);simp only[Option.getD_some];omega
 | .nd s ts=>by
  have:=zfx hk hu ts;simp only[Tr.fill,Tr.depth];omega
theorem zfx{us:List Tr}{k:Nat}(hk:1≤k) (hu:∀u∈us,u.depth≤k):∀ts:List Tr,dts (fills us ts)≤dts ts+k
 | []=>by simp [fills,dts]
 |t::ts=>by
  have:=zgv hk hu t;have:=zfx hk hu ts;simp only[fills,dts];omega
end
theorem zkZ{k:Nat}:∀{ts:List Tr},(∀t∈ts,t.depth≤k)→dts ts≤k
 | [],_=>by simp [dts]
 |t::ts,h=>by
  have:=h t List.mem_cons_self;have:=zkZ (ts:=ts) fun u hu=>h u (List.mem_cons_of_mem _ hu);simp only[dts];omega
theorem zcm{g:WG}{b:WS}{E:WX}{D:WEnds}{G:Sto→Prop}{w:W}{ws:List W}{σ:WSt}{S:Sto}(h:∀N:WSt→Sto→Prop,(∀σ S S',Sub S' S→G S'→forL g b E D G ws σ S'→N σ S)→g w σ S fun σ1 S1=>b E { D with nx:=N,ct:=N,bk:=D.nx } σ1 S1):forL g b E D G (w::ws) σ S:=h _ fun σ S S' a c d=>⟨S',a,c,d⟩
mutual
noncomputable def Tr.mt:Tr→Tr→Option (List Tr)
 | .bl _,t=>some [t]
 | .nd s ls, .nd z us=>if s == z&&ls.length == us.length then mts ls us else none
 | .nd _ _, .bl _=>none
noncomputable def mts:List Tr→List Tr→Option (List Tr)
 | [],_=>some []
 |_::_,[]=>some []
 |l::ls,u::us=>match l.mt u with
  |none=>none
  |some xs=>match mts ls us with
   |none=>none
   |some ys=>some (xs++ys)
end
theorem ztq{s z:Str}{ls us:List Tr}{r:Nat}{S:Sto}{Q:WK}{E:Str→Sto→Prop}(h:Q (.bl (s == z&&ls.length == us.length)) S):zbr (r+1) [enc (.nd s ls),enc (.nd z us)] S Q E:=by
 rw [zbr];simp only[enc];walk_at "wp";cases e:s == z with
 |false=>
  rw [e]at h;exact⟨_, .refl,h⟩
 |true=>
  rw [e]at h;walk_at "wp";refine⟨_, .refl,?_⟩;have:(((encs ls).length+1:Nat):Int)=((encs us).length+1:Nat)↔ls.length=us.length:=by rw [zbh,zbh];omega
  have e2:((((encs ls).length+1:Nat):Int) == ((encs us).length+1:Nat))=(ls.length == us.length):=by
   rw [Bool.eq_iff_iff,beq_iff_eq,beq_iff_eq];exact this
  rw [e2];simpa using h
mutual
theorem zqd:∀(l t:Tr) (ys:List Tr),l.mt t=some ys→ys.length≤l.weight
 | .bl _,t,ys,h=>by simp only[Tr.mt,Option.some.injEq]at h;subst h;simp [Tr.weight]
 | .nd s ls, .nd z us,ys,h=>by
  simp only[Tr.mt]at h;split at h
  ·have:=zmh ls us ys h;simp only[Tr.weight];omega
  ·cases h
 | .nd _ _, .bl _,ys,h=>by simp [Tr.mt]at h
theorem zmh:∀(ls us ys:List Tr),mts ls us=some ys→ys.length≤wts ls
 | [],us,ys,h=>by simp only[mts,Option.some.injEq]at h;subst h;simp
 |l::ls,[],ys,h=>by simp only[mts,Option.some.injEq]at h;subst h;simp
 |l::ls,u::us,ys,h=>by
  simp only[mts]at h;split at h
  ·cases h
  ·rename_i xs e1;split at h
   ·cases h
   ·rename_i zs e2;cases h;have:=zqd l u xs e1;have:=zmh ls us zs e2;simp only[List.length_append,wts];omega
end
theorem zfX{r:Nat}{a:Addr}{E:WX}{D:WEnds}{x0 x1:Option W}:∀(ls us:List Tr)
  (one:∀l∈ls,∀{t:Tr}{S:Sto}{xs:List W}{Q:WK}{E:Str→Sto→Prop},t.fits 0→S a=some (.lst xs)→xs.length+l.weight≤100000→(∀ys,l.mt t=some ys→Q (.bl true) (put S a (.lst (xs++encs ys))))→(l.mt t=none→ ∀ys,Q (.bl false) (put S a (.lst (xs++ys))))→zay r [enc l,enc t, .ref a] S Q E)
  {S:Sto}{xs:List W}{x3 x4:Option W},fitss 0 us→S a=some (.lst xs)→xs.length+wts ls≤100000→
  (∀ys x3 x4,mts ls us=some ys→D.nx [x0,x1,some (.ref a),x3,x4] (put S a (.lst (xs++encs ys))))→(mts ls us=none→ ∀ys,D.rt (.bl false) (put S a (.lst (xs++ys))))→
  forL (wGT (zaJ (wGN 3) (zaJ (wGN 4) zdp))) (zbJ r (zay r)) E D (fun _=>True) (pairs (encs ls) (encs us)) [x0,x1,some (.ref a),x3,x4] S
 | [],us,one,S,xs,x3,x4,hf,ha,hl,h1,h0=>by
  have q:=h1 [] x3 x4 (by simp [mts]);simp only[encs,List.append_nil,zey ha]at q;simpa [encs,pairs,forL]using q
 |l::ls,[],one,S,xs,x3,x4,hf,ha,hl,h1,h0=>by
  have q:=h1 [] x3 x4 (by simp [mts]);simp only[encs,List.append_nil,zey ha]at q;simpa [encs,pairs,forL]using q
 |l::ls,u::us,one,S,xs,x3,x4,hf,ha,hl,h1,h0=>by
  simp only[fitss]at hf;simp only[wts]at hl;simp only[encs,pairs];refine zcm fun N hN=>?_;simp only[zbJ];walk_at "wp";refine one l List.mem_cons_self hf.1 ha (by omega) (fun ys e=>?_) fun e ys=>?_
  ·walk_at "wp";have hyl:=zqd l u ys e;refine hN _ _ _ .refl trivial (zfX ls us (fun l' hl'=>one l' (List.mem_cons_of_mem _ hl')) hf.2 zai (by rw [List.length_append,zbh];omega) (fun zs x3 x4 e2=>?_) fun e2 zs=>?_)
   ·rw [zaW,List.append_assoc,←zfo];exact h1 _ _ _ (by simp only[mts,e,e2])
   ·rw [zaW,List.append_assoc];exact h0 (by simp only[mts,e,e2]) _
  ·walk_at "wp";exact h0 (by simp only[mts,e]) ys
theorem zkP{a:Addr}:∀(d:Nat) {l t:Tr}{r:Nat}{S:Sto}{xs:List W}{Q:WK}{E:Str→Sto→Prop},l.depth≤d→d≤r→t.fits 0→S a=some (.lst xs)→xs.length+l.weight≤100000→
  (∀ys,l.mt t=some ys→Q (.bl true) (put S a (.lst (xs++encs ys))))→(l.mt t=none→ ∀ys,Q (.bl false) (put S a (.lst (xs++ys))))→zay (r+1) [enc l,enc t, .ref a] S Q E
 |0,l,t,r,S,xs,Q,E,hd,hr,hf,ha,hl,h1,h0=>by have:=zbK l;omega
 |d+1, .bl n,t,r,S,xs,Q,E,hd,hr,hf,ha,hl,h1,h0=>by
  have hw:=zeK (.bl n);rw [zay];simp only[enc];walk_at "wp";simp only[zag ha,true_and];refine⟨zct (by omega),_, .refl,?_⟩;have:=h1 [t] (by simp [Tr.mt]);simpa only[encs]using this
 |d+1, .nd s ls, .bl n,r,S,xs,Q,E,hd,hr,hf,ha,hl,h1,h0=>by
  simp only[Tr.fits]at hf;omega
 |d+1, .nd s ls, .nd z us,r,S,xs,Q,E,hd,hr,hf,ha,hl,h1,h0=>by
  simp only[Tr.fits]at hf;simp only[Tr.depth]at hd;simp only[Tr.weight]at hl;obtain⟨r,rfl⟩:∃r',r=r'+1:=⟨r - 1,by omega⟩
  have en:∀s ts,enc (.nd s ts)= .tup (.str s::encs ts):=fun s ts=>by simp [enc]
  rw [zay];walk_at "wp";rw [en,en];walk_at "wp";rw [←en,←en];refine ztq ?_;rw [en,en];walk_at "wp";simp only[Tr.mt]at h1 h0;cases e:(s == z&&ls.length == us.length) with
  |false=>
   rw [e]at h0;have:=h0 (by simp) [];rw [List.append_nil,zey ha]at this;exact⟨_, .refl,this⟩
  |true=>
   rw [e]at h0 h1;simp only[if_true]at h0 h1;walk_at "wp";refine zfX ls us (fun l hl' {t S xs Q E} f1 f2 f3 f4 f5=>zkP d (by have:=zcH hl';omega) (by omega) f1 f2 f3 f4 f5) hf ha (by omega) (fun ys x3 x4 e=>?_) fun e ys=>?_
   ·walk_at "wp";exact⟨_, .refl,h1 ys e⟩
   ·exact⟨_, .refl,h0 e ys⟩
theorem zgf{l t:Tr}{r:Nat}{S:Sto}{Q:WK}{E:Str→Sto→Prop}(hr:l.depth<r) (hf:t.fits 0) (hw:l.weight≤90000) (h1:∀ys,l.mt t=some ys→ ∀a,S a=none→Q (.ref a) (put S a (.lst (encs ys)))) (h0:l.mt t=none→Q .non S):zcP (r+1) [enc l,enc t] S Q E:=by
 obtain⟨r,rfl⟩:∃r',r=r'+1:=⟨r - 1,by omega⟩
 rw [zcP];walk_at "wp";refine⟨Nat.zero_le _,fun a ha=>zkP l.depth (Nat.le_refl _) (by omega) hf zai (by simpa using(by omega:l.weight≤100000)) (fun ys e=>?_) fun e ys=>?_⟩
 ·walk_at "wp";exact⟨_, .refl,h1 ys e a ha⟩
 ·walk_at "wp";exact⟨_, .put .refl ha,h0 e⟩
mutual
theorem ziD:∀(l t:Tr) (ys:List Tr),l.mt t=some ys→wts ys≤t.weight
 | .bl _,t,ys,h=>by simp only[Tr.mt,Option.some.injEq]at h;subst h;simp [wts]
 | .nd s ls, .nd z us,ys,h=>by
  simp only[Tr.mt]at h;split at h
  ·have:=zgt ls us ys h;simp only[Tr.weight];omega
  ·cases h
 | .nd _ _, .bl _,ys,h=>by simp [Tr.mt]at h
theorem zgt:∀(ls us ys:List Tr),mts ls us=some ys→wts ys≤wts us
 | [],us,ys,h=>by simp only[mts,Option.some.injEq]at h;subst h;simp [wts]
 |l::ls,[],ys,h=>by simp only[mts,Option.some.injEq]at h;subst h;simp [wts]
 |l::ls,u::us,ys,h=>by
  simp only[mts]at h;split at h
  ·cases h
  ·rename_i xs e1;split at h
   ·cases h
   ·rename_i zs e2;cases h;have:=ziD l u xs e1;have:=zgt ls us zs e2;simp only[zdz,wts];omega
end
noncomputable def zpZ (c:Nat):Bool:=decide (97≤c)&&decide (c≤122)
noncomputable def small (xs:List Nat):Bool:=xs.all zpZ
theorem zkS (x:Str):(Txt.slice x (some 1) none).cps.toList=x.cps.toList.drop 1:=by
 rw [zmy];unfold zuW;rw [HT.sIx_none];have ez:HT.sIx x.cps.toList.length 0 (some 1)=min 1 x.cps.toList.length:=HT.sIx_nat x.cps.toList.length 0 1;rw [ez];by_cases h:1≤x.cps.toList.length
 ·rw [Nat.min_eq_left h,List.take_of_length_le (by rw [List.length_drop];exact Nat.le_refl _)]
 ·have:x.cps.toList=[]:=List.eq_nil_of_length_eq_zero (by omega);rw [this];rfl
theorem ziZ (x:Str):x.length=x.cps.toList.length:=by simp [Str.length]
theorem zrY{t:Tr}{x:List Int×Tr}(h:x∈t.plt []):t.at x.1=some x.2∧x.1.length<t.depth:=by
 obtain⟨q,h3,h4,h5⟩:=zkj t [] x.1 x.2 h;simp at h3;subst h3;exact⟨h4,h5⟩
theorem zep{α:Type}{g:WG}{b:WS}{E:WX}{D:WEnds}{G:Sto→Prop}{S:Sto}(hG:G S) (I:WSt→Prop) (key:α→W) (f:α→Option W):∀(xs:List α) (σ:WSt),I σ→
  (∀x∈xs,∀σ (N:WSt→Sto→Prop),I σ→(f x=none→ ∀σ' S',I σ'→Sub S S'→N σ' S')→(∀w,f x=some w→ ∀S',Sub S S'→D.rt w S')→g (key x) σ S fun σ1 S1=>b E { D with nx:=N,ct:=N,bk:=D.nx } σ1 S1)→
  (xs.findSome? f=none→ ∀σ,I σ→D.nx σ S)→(∀w,xs.findSome? f=some w→ ∀S',Sub S S'→D.rt w S')→forL g b E D G (xs.map key) σ S
 | [],σ,hI,step,done,ret=>by
  have:=done rfl σ hI;simpa [forL]using this
 |x::xs,σ,hI,step,done,ret=>by
  rw [List.map_cons];refine zcm fun N hN=>?_;refine step x List.mem_cons_self σ N hI (fun e σ' S' hI' sb=>?_) fun w e S' sb=>ret w (by rw [List.findSome?_cons,e]) S' sb;refine hN _ _ S sb hG (zep hG I key f xs σ' hI' (fun y hy=>step y (List.mem_cons_of_mem _ hy)) (fun e2=>done (by rw [List.findSome?_cons,e];exact e2)) fun w e2=>ret w (by rw [List.findSome?_cons,e];exact e2))
noncomputable abbrev Tn:=Str×Tr×Tr
noncomputable def zbc (t:Tn):W:= .tup [.str t.1,enc t.2.1,enc t.2.2]
noncomputable def Tn0:Tn:=("", .bl 0, .bl 0)
noncomputable def lf (ts:List Tn) (j:Nat):Tr:=(ts.getD j Tn0).2.1
theorem zlC (n:Nat):zlD 0 n=(List.range n).map fun(i:Nat)=>W.int i:=by
 unfold zlD;apply List.map_congr_left;intro i _;simp
theorem zgp{r:Nat}{a b:Addr}{ps:List W}{E:WX}{D:WEnds}{x0:Option W}(hba:b≠a):∀(ts:List Tr) {S:Sto}{us:List Tr}{x2:Option W},S a=some (.lst (encs us))→S b=some (.lst ps)→us.length+wts ts≤200000→
  (∀x2,D.nx [x0,some (.ref a),x2] (put S a (.lst (encs (us++ts.flatMap Tr.kids)))))→
  forL (wGN 2) (zch (r+1) zbe) E D (fun S'=>S' b=some (.lst ps)) (encs ts) [x0,some (.ref a),x2] S
 | [],S,us,x2,ha,hb,hl,h=>by
  have:=h x2;simp only[List.flatMap_nil,List.append_nil,zey ha]at this;simpa [encs,forL]using this
 |t::ts,S,us,x2,ha,hb,hl,h=>by
  simp only[wts]at hl;have hk:=zcJ t.kids;have hw:=zcZ t;simp only[encs];refine zcm fun N hN=>?_;simp only[zch];walk_at "wp";simp only[zag ha,true_and];refine zeZ ?_;walk_at "wp";rw [zag ha];refine⟨zal (by rw [zbh,zbh];omega),hN _ _ _ .refl (by rw [zaZ hba];exact hb) ?_⟩;rw [←zfo];refine zgp hba ts zai (by rw [zaZ hba];exact hb) (by rw [List.length_append];omega) fun x2=>?_;rw [zaW];have:=h x2;rw [List.flatMap_cons,←List.append_assoc]at this;exact this
theorem zjq{ts:List Tr}{b:Addr}{r:Nat}{S:Sto}{Q:WK}{E:Str→Sto→Prop}(hb:S b=some (.lst (encs ts))) (hw:wts ts≤100000) (h:∀a,S a=none→Q (.ref a) (put S a (.lst (encs (ts.flatMap Tr.kids))))):zbw (r+2) [.ref b] S Q E:=by
 rw [zbw];walk_at "wp";refine⟨Nat.zero_le _,fun a ha=>?_⟩;have hba:=zqM hb ha;rw [zag (keep hb ha)];refine zgp (us:=[]) hba ts (by simp [zai,encs]) (keep hb ha) (by simpa using(by omega:wts ts≤200000)) fun x2=>?_;rw [zaW];walk_at "wp";exact⟨_, .refl,h a ha⟩
noncomputable def Tr.small (t:Tr):Bool:=decide (t.weight≤400)&&decide (t.depth≤40)
theorem zeL{t:Tr}{r:Nat}{S:Sto}{Q:WK}{E:Str→Sto→Prop}(hw:t.weight≤90000) (h:Q (.bl t.small) S):zcU (r+3) [enc t] S Q E:=by
 rw [zcU];walk_at "wp";refine⟨zal (by decide),fun a ha=>?_⟩;refine⟨fun m σ S'=>∃(ts:List Tr) (k d:Nat) (b:Addr),m=wts ts∧k+wts ts=t.weight∧d+dts ts=t.depth∧k≤400∧d≤40∧S b=none∧S'=put S b (.lst (encs ts))∧σ=[some (enc t),some (.int k),some (.int d),some (.ref b)],⟨_,[t],0,0,a,rfl,by simp [wts],by simp [dts],by decide,by decide,ha,by simp [encs],rfl⟩,?_⟩
 rintro m σ S' ⟨ts,k,d,b,rfl,hwt,hk,hk4,hd4,hb,rfl,rfl⟩;walk_at "wp";cases ts with
 |nil=>
  simp only[encs,List.isEmpty_nil];walk_at "wp";simp only[dts,wts,Nat.add_zero]at hk hwt;have e:t.small=true:=by unfold Tr.small;rw [decide_eq_true (by omega),decide_eq_true (by omega)];rfl
  rw [e]at h;exact⟨_, .put .refl hb,h⟩
 |cons u us=>
  have hne:(encs (u::us)).isEmpty=false:=by simp [encs]
  rw [hne];have hfl:=zkh (u::us);have hdf:=zkX (ts:=u::us) (by simp);have hlw:=zcJ (u::us);simp only[zeT];walk_at "wp";rw [zbh];have no:400<t.weight∨40<t.depth→ ∃S'',Sub S'' (put S b (Ob.lst (encs (u::us))))∧Q (W.bl false) S'':=fun z=>by
   have e:t.small=false:=by
    unfold Tr.small;rcases z with z |z
    ·rw [decide_eq_false (by omega)];rfl
    ·rw [decide_eq_false (p:=t.depth≤40) (by omega),Bool.and_false]
   rw [e]at h;exact⟨_, .put .refl hb,h⟩
  split
  ·exact no (.inl (by omega))
  ·split
   ·exact no (.inr (by omega))
   ·refine zjq zai (by omega) fun c hc=>?_;obtain⟨hc1,hc2⟩:=zde hc;refine⟨wts ((u::us).flatMap Tr.kids),put S c (.lst (encs ((u::us).flatMap Tr.kids))),by simp only[List.length_cons]at hfl;omega, .put2 (.put .refl hb),_,k+(u::us).length,d+1,c,rfl,by omega,by omega,by omega,by omega,hc1,rfl,?_⟩
    push_cast
    rfl
theorem zdT{ns:List Int}{k:Int}{r:Nat}{S:Sto}{Q:WK}{E:Str→Sto→Prop}(h0:0≤k) (h:∀n:Int,Q (.int n) S):zaA (r+1) [.scr ns, .int k] S Q E:=by
 rw [zaA];walk_at "wp";split
 ·obtain⟨x,e,_⟩:=zhF (xs:=ns) (i:=k) h0 (by omega);rw [e];exact⟨S, .refl,h _⟩
 ·exact⟨S, .refl,h _⟩
noncomputable def lt (rs:List Int) (pos:Int) (k j:Nat):Nat:=97+((rs.getD j 0+(k:Int)*(if(0+(j:Int) == pos)=true then 1 else 0)) % 26).toNat
noncomputable def zev (rs:List Int) (pos:Int) (k:Nat):List Nat:=(List.range rs.length).map (lt rs pos k)
noncomputable def wd0 (rs:List Int) (pos:Int) (k:Nat):Str:=Str.join (Str.ofString "") ((zev rs pos k).map fun c=>(⟨#[c]⟩:Str))
noncomputable def wd1 (rs:List Int) (pos:Int) (k:Nat):Str:=Txt.upper ⟨#[lt rs pos k 0]⟩++Txt.slice (wd0 rs pos k) (some 1) none
noncomputable def wd (great:Bool) (rs:List Int) (pos:Int) (k:Nat):Str:=if great then wd1 rs pos k else wd0 rs pos k
theorem zgh (rs:List Int) (pos:Int) (k j:Nat):Low (lt rs pos k j):=by
 have h0:=Int.emod_nonneg (rs.getD j 0+(k:Int)*(if(0+(j:Int) == pos)=true then 1 else 0)) (show(26:Int)≠0 by decide)
 have h1:=Int.emod_lt_of_pos (rs.getD j 0+(k:Int)*(if(0+(j:Int) == pos)=true then 1 else 0)) (show(0:Int)<26 by decide)
 unfold lt Low;omega
theorem zuq{n:Int}(h0:0≤n) (h1:n<26):atI (Str.ofString "abcdefghijklmnopqrstuvwxyz").cps.toList n=some (97+n.toNat):=by
 have e:=zca (xs:=(Str.ofString "abcdefghijklmnopqrstuvwxyz").cps.toList) (n:=n.toNat);rw [Int.toNat_of_nonneg h0]at e;rw [e,zrM,List.getElem?_range' (by omega)];simp
theorem zfh (rs:List Int) (pos:Int) (k:Nat):(wd0 rs pos k).cps.toList=zev rs pos k:=ziz _
theorem zfp (rs:List Int) (pos:Int) (k:Nat):(zev rs pos k).length=rs.length:=by simp [zev]
theorem zhu{rs:List Int}{pos:Int}{k c:Nat}(h:c∈zev rs pos k):Low c:=by
 obtain⟨j,_,rfl⟩:=List.mem_map.mp h;exact zgh rs pos k j
theorem zlv{rs:List Int}(pos:Int) (k:Nat) (h:1≤rs.length):zev rs pos k=lt rs pos k 0::(zev rs pos k).drop 1:=by
 unfold zev;obtain⟨n,hn⟩:∃n,rs.length=n+1:=⟨rs.length - 1,by omega⟩
 rw [hn,List.range_succ_eq_map];simp
theorem ziw{c:Nat}(h:Low c):Txt.upper ⟨#[c]⟩=⟨#[c - 32]⟩:=by
 unfold Low at h;rw [PySem.W.KOpn.upper_one (by omega),if_pos h]
theorem zkt{rs:List Int}(pos:Int) (k:Nat):(wd1 rs pos k).cps.toList=(lt rs pos k 0 - 32)::(zev rs pos k).drop 1:=by
 unfold wd1;rw [ziw (zgh _ _ _ _)];show((#[lt rs pos k 0 - 32]:Array Nat)++(Txt.slice (wd0 rs pos k) (some 1) none).cps).toList=_;rw [Array.toList_append,zkS,zfh];rfl
structure Base (rs:List Int) (pos:Int):Prop where
  l1:1≤rs.length
  l8:rs.length≤8
  p0:0≤pos
  p1:pos<rs.length
theorem zjU{rs:List Int}{pos:Int}(b:Base rs pos) (k:Nat):zdQ (wd0 rs pos k):=by
 unfold zdQ;rw [zfh,zfp];exact⟨b.l1,b.l8,fun c hc=>zhu hc⟩
theorem znz{rs:List Int}{pos:Int}(b:Base rs pos) (k:Nat):zdm (wd1 rs pos k):=by
 have:=zgh rs pos k 0;have hl:=b.l8;unfold Low at this;refine⟨_,_,zkt pos k,by omega,by omega,by rw [List.length_drop,zfp];omega,fun d hd=>zhu (List.mem_of_mem_drop hd)⟩
theorem zvt{rs:List Int}{pos:Int}(b:Base rs pos) {k m:Nat}(hk:k<26) (hm:m<26) (h:k≠m):lt rs pos k pos.toNat≠lt rs pos m pos.toNat:=by
 have p0:=b.p0;have e:(0+((pos.toNat:Nat):Int) == pos)=true:=by rw [beq_iff_eq];omega
 unfold lt;rw [e,if_pos rfl];omega
theorem ztg{great:Bool}{rs:List Int}{pos:Int}(b:Base rs pos) {k m:Nat}(hk:k<26) (hm:m<26) (h:k≠m):wd great rs pos k≠wd great rs pos m:=by
 have hn:=zvt b hk hm h;have p0:=b.p0;have p1:=b.p1;intro e;have e':=congrArg (fun x:Str=>x.cps.toList) e;cases great with
 |false=>
  simp only[wd,Bool.false_eq_true,if_false,zfh]at e';have e2:=congrArg (fun l=>l[pos.toNat]?) e';simp only[zev,List.getElem?_map,List.getElem?_range (show pos.toNat<rs.length by omega),Option.map_some,Option.some.injEq]at e2
  exact hn e2
 |true=>
  simp only[wd,if_true,zkt]at e';have e2:=congrArg (fun l=>l[pos.toNat]?) e';cases hp:pos.toNat with
  |zero=>
   rw [hp]at hn;have h1:=zgh rs pos k 0;have h2:=zgh rs pos m 0;unfold Low at h1 h2;simp only[hp,List.getElem?_cons_zero,Option.some.injEq]at e2;omega
  |succ n=>
   rw [hp]at hn;simp only[hp,List.getElem?_cons_succ,List.getElem?_drop,zev,List.getElem?_map]at e2;rw [show 1+n=n+1 by omega,List.getElem?_range (show n+1<rs.length by omega)]at e2
   simp only[Option.map_some,Option.some.injEq]at e2;exact hn e2
noncomputable def zjk (great:Bool) (ws:List Str):Prop:=∃rs pos,Base rs pos∧(ws=(List.range 6).map (wd great rs pos)∨(great=false∧ws=[wd0 rs pos 0,wd0 rs pos 1,wd0 rs pos 2,wd0 rs pos 2,wd0 rs pos 2,wd0 rs pos 5]))
structure Signs (w0 w1 w2 w3 w4 w5:Str):Prop where
  ok:∀x∈ [w0,w1,w2,w3,w4,w5],zdQ x
  n0:∀x∈ [w1,w2,w3,w4,w5],w0≠x
  n1:∀x∈ [w2,w3,w4,w5],w1≠x
  n5:∀x∈ [w2,w3,w4],w5≠x
theorem zjC{ws:List Str}(h:zjk false ws):∃w0 w1 w2 w3 w4 w5,ws=[w0,w1,w2,w3,w4,w5]∧Signs w0 w1 w2 w3 w4 w5:=by
 obtain⟨rs,pos,b,h⟩:=h;have hs:=fun k=>zjU b k;have hn:∀k m:Nat,k<26→m<26→k≠m→wd0 rs pos k≠wd0 rs pos m:=fun k m h1 h2 h3=>ztg (great:=false) b h1 h2 h3;rcases h with rfl |⟨_,rfl⟩
 ·refine⟨_,_,_,_,_,_,rfl,⟨?_,?_,?_,?_⟩⟩
  ·simp only[List.mem_cons,List.not_mem_nil,or_false,forall_eq_or_imp,forall_eq];exact⟨hs 0,hs 1,hs 2,hs 3,hs 4,hs 5⟩
  ·simp only[List.mem_cons,List.not_mem_nil,or_false,forall_eq_or_imp,forall_eq];exact⟨hn 0 1 (by decide) (by decide) (by decide),hn 0 2 (by decide) (by decide) (by decide),hn 0 3 (by decide) (by decide) (by decide),hn 0 4 (by decide) (by decide) (by decide),hn 0 5 (by decide) (by decide) (by decide)⟩
  ·simp only[List.mem_cons,List.not_mem_nil,or_false,forall_eq_or_imp,forall_eq];exact⟨hn 1 2 (by decide) (by decide) (by decide),hn 1 3 (by decide) (by decide) (by decide),hn 1 4 (by decide) (by decide) (by decide),hn 1 5 (by decide) (by decide) (by decide)⟩
  ·simp only[List.mem_cons,List.not_mem_nil,or_false,forall_eq_or_imp,forall_eq];exact⟨hn 5 2 (by decide) (by decide) (by decide),hn 5 3 (by decide) (by decide) (by decide),hn 5 4 (by decide) (by decide) (by decide)⟩
 ·refine⟨_,_,_,_,_,_,rfl,⟨?_,?_,?_,?_⟩⟩
  ·simp only[List.mem_cons,List.not_mem_nil,or_false,forall_eq_or_imp,forall_eq];exact⟨hs 0,hs 1,hs 2,hs 2,hs 2,hs 5⟩
  ·simp only[List.mem_cons,List.not_mem_nil,or_false,forall_eq_or_imp,forall_eq];exact⟨hn 0 1 (by decide) (by decide) (by decide),hn 0 2 (by decide) (by decide) (by decide),hn 0 2 (by decide) (by decide) (by decide),hn 0 2 (by decide) (by decide) (by decide),hn 0 5 (by decide) (by decide) (by decide)⟩
  ·simp only[List.mem_cons,List.not_mem_nil,or_false,forall_eq_or_imp,forall_eq];exact⟨hn 1 2 (by decide) (by decide) (by decide),hn 1 2 (by decide) (by decide) (by decide),hn 1 2 (by decide) (by decide) (by decide),hn 1 5 (by decide) (by decide) (by decide)⟩
  ·simp only[List.mem_cons,List.not_mem_nil,or_false,forall_eq_or_imp,forall_eq];exact⟨hn 5 2 (by decide) (by decide) (by decide),hn 5 2 (by decide) (by decide) (by decide),hn 5 2 (by decide) (by decide) (by decide)⟩
structure Titles (ts:List Str):Prop where
  len:ts.length=6
  ok:∀x∈ts,zdm x
  nd:ts.Nodup
theorem zeW{ws:List Str}(h:zjk true ws):Titles ws:=by
 obtain⟨rs,pos,b,h⟩:=h;rcases h with rfl |⟨e,_⟩
 ·refine⟨by simp,fun x hx=>?_,?_⟩
  ·obtain⟨k,_,rfl⟩:=List.mem_map.mp hx;exact znz b k
  ·rw [List.Nodup,List.pairwise_map];refine List.Pairwise.imp_of_mem (fun {a c} ha hc hne=>?_) (List.nodup_range (n:=6));have ha:=List.mem_range.mp ha;have hc:=List.mem_range.mp hc;exact ztg b (by omega) (by omega) hne
 ·cases e
theorem zhv:∀(ws:List W) {rs:List Int}{sp:Int}{a:Addr}{r:Nat}{S:Sto}{E:WX}{D:WEnds}{x0 x1 x2 x3 x6 x7 x8 x9:Option W},S a=some (.lst (rs.map W.int))→rs.length+ws.length≤1000→
  (∀(rs':List Int) sp' x6',rs'.length=rs.length+ws.length→D.nx [x0,x1,x2,x3,some (.int sp'),some (.ref a),x6',x7,x8,x9] (put S a (.lst (rs'.map W.int))))→
  forL (wGN 6) (zcI r zbe) E D (fun _=>True) ws [x0,x1,x2,x3,some (.int sp),some (.ref a),x6,x7,x8,x9] S
 | [],rs,sp,a,r,S,E,D,x0,x1,x2,x3,x6,x7,x8,x9,ha,hl,h=>by
  simp only[forL];have:=h rs sp x6 (by simp);rw [zey ha]at this;exact this
 |w::ws,rs,sp,a,r,S,E,D,x0,x1,x2,x3,x6,x7,x8,x9,ha,hl,h=>by
  simp only[forL,zcI];walk_at "wp";simp only[List.length_cons]at hl h;simp only[zag ha,true_and];refine⟨by decide,zct (by simp;omega),⟨by decide,by decide⟩,_, .refl,?_⟩
  refine zhv (r:=r) ws (rs:=rs++[sp % 26]) (by rw [zai];simp) (by simp;omega) fun rs' sp' x6' h1=>?_;rw [zaW];exact h rs' sp' x6' (by simp at h1;omega)
theorem zlQ{c:Prop} [Decidable c] {a b:Prop}(h1:c→a) (h2:¬c→b):if c then a else b:=by split<;>simp_all
theorem zkC{A T:WS}{E:WX}{D:WEnds}{σ:WSt}{S:Sto}(h:∀T',T'=T→zas A T' E D σ S):zas A T E D σ S:=h T rfl
theorem zkw{one two:Int}{great:Bool}{r:Nat}{S:Sto}{Q:WK}{E:Str→Sto→Prop}(h:∀(a:Addr) (ws:List Str),S a=none→zjk great ws→Q (.ref a) (put S a (.lst (ws.map W.str)))):zaY (r+1) [.int one, .int two, .bl great] S Q E:=by
 rw [zaY];walk_at "wp";have o0:0≤one % 8:=Int.emod_nonneg _ (by decide);have o1:one % 8<8:=Int.emod_lt_of_pos _ (by decide);refine⟨⟨by decide,by decide,by decide⟩,by decide,Nat.zero_le _,fun a ha=>⟨by decide,⟨by omega,by omega⟩,?_⟩⟩
 refine zhv _ (rs:=[]) zai (by simp [zkl];omega) fun rs sp x6 hl=>?_;rw [zaW];simp only[List.length_nil,zkl,Nat.zero_add]at hl;have hl':(rs.length:Int)=1+one % 8:=by rw [hl];omega
 have p0:0≤one / 8 % (rs.length:Int):=Int.emod_nonneg _ (by omega);have p1:one / 8 % (rs.length:Int)<(rs.length:Int):=Int.emod_lt_of_pos _ (by omega);have B:Base rs (one / 8 % (rs.length:Int)):=⟨by omega,by omega,p0,p1⟩
 walk_at "wp";simp only[List.length_map];refine⟨⟨by decide,by decide⟩,by omega,Nat.zero_le _,fun b hb=>⟨⟨by decide,by decide⟩,?_⟩⟩
 obtain⟨hb1,hb2⟩:=zde hb;generalize hpos:one / 8 % (rs.length:Int)=pos at B p0 p1⊢;refine zmv (fun i σ S'=>∃x6 x9,S'=put (put S a (.lst (rs.map W.int))) b (.lst (((List.range i).map (wd great rs pos)).map W.str))∧σ=[some (.int one),some (.int two),some (.bl great),some (.str (Str.ofString "abcdefghijklmnopqrstuvwxyz")),some (.int sp),some (.ref a),x6,some (.int pos),some (.ref b),x9]) 6 ?_ ?_ ⟨x6,none,rfl,rfl⟩
 ·rintro k hk σ S' N ⟨x6,x9,rfl,rfl⟩ hN;have ea:put (put S a (Ob.lst (rs.map W.int))) b (Ob.lst (((List.range k).map (wd great rs pos)).map W.str)) a=some (.lst (rs.map W.int)):=by rw [zaZ (Ne.symm hb2),zai]
  simp only[zdI];walk_at "wp";rw [zag ea];simp only[List.length_map];refine⟨⟨by omega,by omega⟩,?_⟩
  rw [Int.toNat_natCast];refine zbd (fun σ=>∃x,σ=[x,some (.str (Str.ofString "abcdefghijklmnopqrstuvwxyz")),some (.ref a),some (.int (k:Int)),some (.int pos)]) (fun i:Nat=>W.int (0+(i:Int))) (fun i=>W.str ⟨#[lt rs pos k i]⟩) trivial (List.range rs.length) [] _ ⟨none,rfl⟩ (by simp;omega) (fun i hi σ R hI hR=>?_) ?_
  ·obtain⟨x,rfl⟩:=hI;have hi:=List.mem_range.mp hi;simp only[zdK];walk_at "wp";have e:=zca (xs:=rs.map W.int) (n:=i);rw [show(i:Int)=0+(i:Int) by omega,List.getElem?_map,List.getElem?_eq_getElem hi]at e
   rw [zag ea,e];dsimp only[Option.map];walk_at "wp";have ec:=zuq (n:=(rs[i]+(k:Int)*(if(0+(i:Int) == pos)=true then 1 else 0)) % 26) (Int.emod_nonneg _ (by decide)) (Int.emod_lt_of_pos _ (by decide));rw [ec];have el:lt rs pos k i=97+((rs[i]+(k:Int)*(if(0+(i:Int) == pos)=true then 1 else 0)) % 26).toNat:=by
    unfold lt;rw [List.getD_eq_getElem?_getD,List.getElem?_eq_getElem hi];rfl
   rw [←el];exact⟨.inl ⟨by omega,by omega⟩,by decide,zal (by rw [ztE];decide),hR _ _ ⟨_,rfl⟩ .refl⟩
  ·have es:(List.range rs.length).map (fun i=>W.str ⟨#[lt rs pos k i]⟩)=(zev rs pos k).map fun c=>W.str ⟨#[c]⟩:=by
    unfold zev;rw [List.map_map];rfl
   have hw:=zjU B k;rw [List.nil_append,es,zfO];refine⟨zmE _ (by rw [zfp];omega),?_⟩;show _;have ew:Str.join (Str.ofString "") ((zev rs pos k).map fun c=>(⟨#[c]⟩:Str))=wd0 rs pos k:=rfl;rw [ew];have hl8:(wd0 rs pos k).length≤8:=by rw [ziZ];exact hw.2.1
   have fin:∀z:Str,z=wd great rs pos k→ ∀x9:Option W,N [some (.int one),some (.int two),some (.bl great),some (.str (Str.ofString "abcdefghijklmnopqrstuvwxyz")),some (.int sp),some (.ref a),some (.int (k:Int)),some (.int pos),some (.ref b),x9] (put (put S a (.lst (rs.map W.int))) b (.lst (((List.range k).map (wd great rs pos)).map W.str++[.str z]))):=fun z hz x9=>by
    subst hz;refine hN _ _ _ .refl ⟨_,_,?_,rfl⟩;rw [List.range_succ,List.map_append,List.map_append];rfl
   have hxl:(((List.range k).map (wd great rs pos)).map W.str).length<sizeLine:=zct (by simp;omega);cases great with
   |false=>
    try walk_at "wp"
    try simp only[zei,zaW,true_and]
    exact⟨hxl,fin _ rfl _⟩
   |true=>
    walk_at "wp";rw [zfh,zlv pos k B.l1,zgD];dsimp only
    try walk_at "wp"
    try simp only[zei,zaW,true_and]
    refine⟨zal (by omega),?_⟩;have h1:(⟨#[lt rs pos k 0]⟩:Str).length=1:=rfl;have h2:(Txt.upper ⟨#[lt rs pos k 0]⟩).length=1:=by rw [ziw (zgh _ _ _ _)];rfl
    have h3:(Txt.slice (wd0 rs pos k) (some 1) none).length≤8:=by
     rw [ziZ,zkS,List.length_drop,←ziZ];omega
    exact⟨by omega,zal (by omega),zal (by omega),hxl,fin _ rfl _⟩
 ·rintro σ S' ⟨x6,x9,rfl,rfl⟩;have eb:put (put S a (Ob.lst (rs.map W.int))) b (Ob.lst (((List.range 6).map (wd great rs pos)).map W.str)) b=some (.lst (((List.range 6).map (wd great rs pos)).map W.str)):=zai;walk_at "wp";cases great with
  |true=>
   walk_at "wp";refine⟨⟨by decide,by decide⟩,by decide,?_⟩
   split
   ·exact⟨_, .put2 (.put .refl ha),h b _ hb1 ⟨rs,pos,B, .inl rfl⟩⟩
   ·exact⟨_, .put2 (.put .refl ha),h b _ hb1 ⟨rs,pos,B, .inl rfl⟩⟩
  |false=>
   walk_at "wp";refine⟨⟨by decide,by decide⟩,by decide,?_⟩
   split
   ·have e6:((List.range 6).map (wd false rs pos)).map W.str=[.str (wd0 rs pos 0), .str (wd0 rs pos 1), .str (wd0 rs pos 2), .str (wd0 rs pos 3), .str (wd0 rs pos 4), .str (wd0 rs pos 5)]:=rfl;simp only[e6]
    try walk_at "wp"
    have c3:zcj [W.str (wd0 rs pos 0), .str (wd0 rs pos 1), .str (wd0 rs pos 2), .str (wd0 rs pos 3), .str (wd0 rs pos 4), .str (wd0 rs pos 5)] none (some 3)=[.str (wd0 rs pos 0), .str (wd0 rs pos 1), .str (wd0 rs pos 2)]:=rfl;have a2:atI [W.str (wd0 rs pos 0), .str (wd0 rs pos 1), .str (wd0 rs pos 2), .str (wd0 rs pos 3), .str (wd0 rs pos 4), .str (wd0 rs pos 5)] 2=some (.str (wd0 rs pos 2)):=rfl;have a5:atI [W.str (wd0 rs pos 0), .str (wd0 rs pos 1), .str (wd0 rs pos 2), .str (wd0 rs pos 3), .str (wd0 rs pos 4), .str (wd0 rs pos 5)] 5=some (.str (wd0 rs pos 5)):=rfl;simp only[c3,a2,a5]
    try walk_at "wp"
    refine⟨zal (by decide),zal (by decide),fun c hc=>?_⟩;obtain⟨hc1,hc2⟩:=zde hc;obtain⟨hc1,hc3⟩:=zde hc1;exact⟨_, .put2 (.put (.put .refl ha) hb1),h c _ hc1 ⟨rs,pos,B, .inr ⟨rfl,rfl⟩⟩⟩
   ·exact⟨_, .put2 (.put .refl ha),h b _ hb1 ⟨rs,pos,B, .inl rfl⟩⟩
mutual
noncomputable def Tr.nb:Tr→Nat
 | .bl _=>1
 | .nd _ ts=>nbs ts
noncomputable def nbs:List Tr→Nat
 | []=>0
 |t::ts=>t.nb+nbs ts
end
mutual
theorem zqy:∀(t:Tr) (p:List Int),((t.plt p).filter fun x=>x.2.isBl).length=t.nb
 | .bl n,p=>by simp [Tr.plt,Tr.isBl,Tr.nb]
 | .nd s ts,p=>by
  have:=zmG ts p 0;simpa [Tr.plt,Tr.isBl,Tr.nb]using this
theorem zmG:∀(ts:List Tr) (p:List Int) (i:Nat),((zgr p i ts).filter fun x=>x.2.isBl).length=nbs ts
 | [],p,i=>by simp [zgr,nbs]
 |t::ts,p,i=>by
  have h1:=zqy t (p++[(i:Int)]);have h2:=zmG ts p (i+1);rw [zgr,List.filter_append,List.length_append,h1,h2,nbs]
end
theorem zuQ (t:Tr):t.bls.length=t.nb:=zqy t []
theorem zma:∀ts:List Tr,(ts.map fun t=>(t.nb:Int)).sum=(nbs ts:Int)
 | []=>by simp [nbs]
 |t::ts=>by
  rw [List.map_cons,List.sum_cons,zma ts,nbs];omega
theorem zrh (ts:List Tr):zbI (ts.map fun t=>W.int (t.nb:Int))=some (ts.map fun t=>(t.nb:Int)):=by
 have:=zeI (ts.map fun t=>(t.nb:Int));rw [List.map_map]at this;exact this
theorem zgI:∀(d:Nat) {t:Tr}{r:Nat}{S:Sto}{Q:WK}{E:Str→Sto→Prop},t.depth≤d→d≤r+1→t.weight≤90000→Q (.int t.nb) S→zaz (r+1) [enc t] S Q E
 |0,t,r,S,Q,E,hd,hr,hw,h=>by have:=zbK t;omega
 |d+1, .bl n,r,S,Q,E,hd,hr,hw,h=>by
  rw [zaz];simp only[enc];walk_at "wp";simp only[Tr.nb]at h;exact⟨S, .refl,h⟩
 |d+1, .nd s ts,r,S,Q,E,hd,hr,hw,h=>by
  simp only[Tr.depth]at hd;simp only[Tr.weight]at hw;have hk:=zcJ ts;rw [zaz];simp only[enc];walk_at "wp";rw [zaG];refine zbd (fun σ=>∃x,σ=[x]) enc (fun t=> .int (t.nb:Int)) trivial ts [] _ ⟨none,rfl⟩ (by simp;omega) (fun x hx σ R hI hR=>?_) ?_
  ·obtain⟨y,rfl⟩:=hI;have hdx:=zcH hx;have hwx:=zdM hx;have:=zbK x;obtain⟨r,rfl⟩:∃r',r=r'+1:=⟨r - 1,by omega⟩
   simp only[zcG];walk_at "wp";exact zgI d (t:=x) (r:=r) (by omega) (by omega) (by omega) (hR _ _ ⟨_,rfl⟩ .refl)
  ·rw [List.nil_append,zrh];dsimp only;rw [zma];simp only[Tr.nb]at h;exact⟨S, .refl,h⟩
theorem zki{w:W}{ws:List W}:zcj (w::ws) none (some 1)=[w]:=by
 rw [show(1:Int)=((1:Nat):Int) from rfl,zkH];rfl
theorem zeM{us:List Tr}{a:Addr}:∀(d:Nat) {t:Tr}{r:Nat}{S:Sto}{Q:WK}{E:Str→Sto→Prop},t.depth≤d→d≤r+1→S a=some (.lst (encs us))→t.fits us.length→t.weight≤90000→Q (enc (t.fill us)) S→zaQ (r+1) [enc t, .ref a] S Q E
 |0,t,r,S,Q,E,hd,hr,ha,hf,hw,h=>by have:=zbK t;omega
 |d+1, .bl n,r,S,Q,E,hd,hr,ha,hf,hw,h=>by
  simp only[Tr.fits]at hf;simp only[Tr.fill]at h;rw [zaQ];simp only[enc];walk_at "wp";have e:atI (encs us) n=some (enc (us.getD n.toNat (.bl n))):=by
   have q:=zca (xs:=encs us) (n:=n.toNat);rw [Int.toNat_of_nonneg hf.1]at q;rw [q,zaG,List.getElem?_map,List.getD_eq_getElem?_getD,List.getElem?_eq_getElem (by omega)];rfl
  rw [zag ha,e];exact⟨S, .refl,h⟩
 |d+1, .nd s ts,r,S,Q,E,hd,hr,ha,hf,hw,h=>by
  simp only[Tr.fits]at hf;simp only[Tr.fill]at h;simp only[Tr.depth]at hd;simp only[Tr.weight]at hw;have hk:=zcJ ts;rw [zaQ];simp only[enc]at h⊢;walk_at "wp";rw [zki];rw [zaG];refine zbd (fun σ=>∃x,σ=[x,some (.ref a)]) enc (fun t=>enc (t.fill us)) trivial ts [] _ ⟨none,rfl⟩ (by simp;omega) (fun x hx σ R hI hR=>?_) ?_
  ·obtain⟨y,rfl⟩:=hI;have hdx:=zcH hx;have hwx:=zdM hx;have:=zbK x;obtain⟨r,rfl⟩:∃r',r=r'+1:=⟨r - 1,by omega⟩
   simp only[zdo];walk_at "wp";exact zeM d (t:=x) (r:=r) (by omega) (by omega) ha (zfH hf hx) (by omega) (hR _ _ ⟨_,rfl⟩ .refl)
  ·rw [List.nil_append];walk_at "wp";refine⟨zal (by simp;omega),S, .refl,?_⟩;have e:encs (fills us ts)=ts.map fun t=>enc (t.fill us):=by rw [zaG,zfw,List.map_map];rfl
   rw [e]at h;exact h
inductive Item (ws:List Str) (m:Nat):Tr→Prop
 |bl {n:Int}:0≤n→n<m→Item ws m (.bl n)
 |nd {s:Str}:s∈ws→Item ws m (.nd s [])
inductive RightT (ws:List Str) (m:Nat):Tr→Prop
 |one {t:Tr}:Item ws m t→RightT ws m t
 |un {s:Str}{t:Tr}:s∈ws→Item ws m t→RightT ws m (.nd s [t])
 |two {s:Str}{t u:Tr}:s∈ws→0<m→Item ws m t→Item ws m u→RightT ws m (.nd s [t,u])
 |deep {s z:Str}{t u:Tr}:s∈ws→z∈ws→0<m→Item ws m t→Item ws m u→RightT ws m (.nd s [.nd z [t],u])
noncomputable def leftsL (n:Nat) (h c d:Str):List Tr:=
 match n with
 |0=>[.nd h [.bl 0]]
 |1=>[.nd h [.bl 0, .bl 1]]
 |2=>[.nd h [.nd c []], .nd h [.nd d [.bl 0]]]
 |3=>[.nd h [.nd c [], .bl 0], .nd h [.nd d [.bl 0], .bl 1]]
 |4=>[.nd h [.nd d [.nd d [.bl 0]], .bl 1, .bl 2], .nd h [.nd d [.nd c []], .bl 0, .bl 1]]
 |_=>[.nd h []]
section
variable {w0 w1 w2 w3 w4 w5:Str}{r:Nat}{S:Sto}{Q:WK}{E:Str→Sto→Prop}{a:Addr}
noncomputable abbrev six (w0 w1 w2 w3 w4 w5:Str):List W:=[.str w0, .str w1, .str w2, .str w3, .str w4, .str w5]
theorem zxz:atI (six w0 w1 w2 w3 w4 w5) 0=some (.str w0):=rfl
theorem zxv:atI (six w0 w1 w2 w3 w4 w5) 1=some (.str w1):=rfl
theorem six2:atI (six w0 w1 w2 w3 w4 w5) 2=some (.str w2):=rfl
theorem zwx:atI (six w0 w1 w2 w3 w4 w5) 3=some (.str w3):=rfl
theorem six4:atI (six w0 w1 w2 w3 w4 w5) 4=some (.str w4):=rfl
theorem zxB:atI (six w0 w1 w2 w3 w4 w5) 5=some (.str w5):=rfl
theorem zmo{draw:Int}{m:Nat}(ha:S a=some (.lst (six w0 w1 w2 w3 w4 w5))) (h:∀t,Item [w0,w1,w2,w3,w4,w5] m t→Q (enc t) S):zbU (r+1) [.int draw, .int m, .ref a] S Q E:=by
 rw [zbU];walk_at "wp";have fin:∀w:Str,w∈ [w0,w1,w2,w3,w4,w5]→ ∃S'',Sub S'' S∧Q (.tup [.str w]) S'':=fun w hw=>⟨S, .refl,by
  have:=h _ (.nd hw);simpa only[enc,encs]using this⟩
 have pick:∃x:Str,x∈ [w0,w1,w2,w3,w4,w5]∧ ∃i:Int,atI [W.int 2,W.int 5] (draw / 4 % 2)=some (.int i)∧atI (six w0 w1 w2 w3 w4 w5) i=some (.str x):=by
  rcases zld (draw / 4) with e |e
  ·exact⟨w2,by simp,2,by rw [e];rfl,rfl⟩
  ·exact⟨w5,by simp,5,by rw [e];rfl,rfl⟩
 obtain⟨x,hx,i,e1,e2⟩:=pick;simp only[e1];walk_at "wp";simp only[zag ha,e2];have tail:2≤sizeLine∧zhb draw 4∧(0:Int)<2∧1≤sizeLine∧ ∃S'',Sub S'' S∧Q (.tup [.str x]) S'':=⟨zal (by decide),⟨by decide,by decide⟩,by decide,zal (by decide),fin x hx⟩
 split
 ·rename_i hm;refine⟨by decide,?_⟩;split
  ·refine⟨⟨by decide,by decide⟩,hm,S, .refl,?_⟩
   have:=h (.bl (draw / 4 % (m:Int))) (.bl (Int.emod_nonneg _ (by omega)) (Int.emod_lt_of_pos _ hm));simpa only[enc]using this
  ·exact tail
 ·exact tail
theorem zoK{draw:Int}{m:Nat}(ha:S a=some (.lst (six w0 w1 w2 w3 w4 w5))) (h:∀t,RightT [w0,w1,w2,w3,w4,w5] m t→Q (enc t) S):zcc (r+2) [.int draw, .int m, .ref a] S Q E:=by
 rw [zcc,zgg];refine⟨rfl,zkC fun T hT=>?_⟩;walk_at "wp";refine⟨⟨by decide,by decide⟩,zmo ha fun t ht=>?_⟩
 subst hT;refine zkC fun T hT=>?_;walk_at "wp";refine⟨⟨by decide,by decide⟩,zmo ha fun u hu=>?_⟩
 subst hT;refine zkC fun T hT=>?_;walk_at "wp";refine⟨by decide,?_⟩;subst hT;have q1:=h _ (.one ht);have q2:=fun(s:Str) (hs:s∈ [w0,w1,w2,w3,w4,w5])=>h _ (.un hs ht);have q3:=fun(s:Str) (hs:s∈ [w0,w1,w2,w3,w4,w5]) (h0:0<m)=>h _ (.two hs h0 ht hu);have q4:=fun(s:Str) (hs:s∈ [w0,w1,w2,w3,w4,w5]) (h0:0<m)=>h _ (.two hs h0 ht ht);have q5:=fun(s z:Str) (hs:s∈ [w0,w1,w2,w3,w4,w5]) (hz:z∈ [w0,w1,w2,w3,w4,w5]) (h0:0<m)=>h _ (.deep hs hz h0 ht hu);simp only[enc,encs]at q2 q3 q4 q5;have l2:2≤sizeLine:=zal (by decide);have l3:3≤sizeLine:=zal (by decide);refine zkC fun T hT=>?_;walk_at "wp";refine zlQ (fun _=>⟨S, .refl,q1⟩) fun _=>?_;subst hT;refine zkC fun T hT=>?_;walk_at "wp";simp only[zag ha,zwx];refine zlQ (fun _=>⟨l2,S, .refl,q2 _ (by simp)⟩) fun _=>zlQ (fun _=>⟨l2,S, .refl,q2 _ (by simp)⟩) fun hm=>?_;subst hT;have h0:0<m:=by
  rcases Nat.eq_zero_or_pos m with z |z
  ·rw [z]at hm;exact absurd rfl hm
  ·exact z
 refine zkC fun T hT=>?_;walk_at "wp";simp only[zag ha,six4];refine zlQ (fun _=>⟨l3,S, .refl,q3 _ (by simp) h0⟩) fun _=>?_;subst hT;refine zkC fun T hT=>?_;walk_at "wp";simp only[zag ha,six4];refine zlQ (fun _=>⟨l3,S, .refl,q4 _ (by simp) h0⟩) fun _=>?_;subst hT;refine zkC fun T hT=>?_;walk_at "wp";simp only[zag ha,zwx,six4];refine zlQ (fun _=>⟨l2,l3,S, .refl,q5 _ _ (by simp) (by simp) h0⟩) fun _=>?_;subst hT;refine zkC fun T hT=>?_;walk_at "wp";simp only[zag ha,zxz];refine zlQ (fun _=>⟨l2,S, .refl,q2 _ (by simp)⟩) fun _=>?_;subst hT;walk_at "wp";simp only[zag ha,zxv];exact⟨l3,S, .refl,q3 _ (by simp) h0⟩
theorem zoB{n:Int}{h c d:Str}(H:∀(p:Addr) (k:Nat),S p=none→Q (.ref p) (put S p (.lst (encs (leftsL k h c d))))):zcb (r+1) [.int n, .str h, .str c, .str d] S Q E:=by
 rw [zcb,zgg];refine⟨rfl,?_⟩;have l1:1≤sizeLine:=zal (by decide);have l2:2≤sizeLine:=zal (by decide);have l3:3≤sizeLine:=zal (by decide);have l4:4≤sizeLine:=zal (by decide);refine zkC fun T hT=>?_;walk_at "wp";refine zlQ (fun _=>⟨l2,l1,fun p hp=>⟨_, .refl,by simpa only[leftsL,enc,encs]using H p 0 hp⟩⟩) fun _=>?_
 subst hT;refine zkC fun T hT=>?_;walk_at "wp";refine zlQ (fun _=>⟨l3,l1,fun p hp=>⟨_, .refl,by simpa only[leftsL,enc,encs]using H p 1 hp⟩⟩) fun _=>?_
 subst hT;refine zkC fun T hT=>?_;walk_at "wp";refine zlQ (fun _=>⟨l1,l2,l2,l2,l2,fun p hp=>⟨_, .refl,by simpa only[leftsL,enc,encs]using H p 2 hp⟩⟩) fun _=>?_
 subst hT;refine zkC fun T hT=>?_;walk_at "wp";refine zlQ (fun _=>⟨l1,l3,l2,l3,l2,fun p hp=>⟨_, .refl,by simpa only[leftsL,enc,encs]using H p 3 hp⟩⟩) fun _=>?_
 subst hT;refine zkC fun T hT=>?_;walk_at "wp";refine zlQ (fun _=>⟨l2,l2,l4,l1,l2,l4,l2,fun p hp=>⟨_, .refl,by simpa only[leftsL,enc,encs]using H p 4 hp⟩⟩) fun _=>?_
 subst hT;walk_at "wp";exact⟨l1,l1,fun p hp=>⟨_, .refl,by simpa only[leftsL,enc,encs]using H p 5 hp⟩⟩
end
section
variable {w0 w1 w2 w3 w4 w5:Str}{tt:List Str}{ns:List Int}{aw at' ab al:Addr}{r:Nat}{E:WX}{D:WEnds}{k j:Int}
theorem zkz (h6:tt.length=6) (k0:0≤k) (j0:0≤j):∀(ls:List Tr) {i:Nat}{C:List Tn}{S:Sto}{G:Sto→Prop}{x7 x8 x9:Option W},(∀L∈ls,L.depth≤4∧L.weight≤7)→C.length+ls.length≤6→S ab=some (.lst (C.map zbc))→S aw=some (.lst (six w0 w1 w2 w3 w4 w5))→S at'=some (.lst (tt.map W.str))→ab≠aw→ab≠at'→
  (∀o,G (put S ab o))→
  (∀(C':List Tn) (x7 x8 x9:Option W),C'.map (fun t=>t.2.1)=ls→(C.map (fun t=>t.1)=tt.take C.length→(C++C').map (fun t=>t.1)=tt.take (C++C').length)→(∀t∈C',RightT [w0,w1,w2,w3,w4,w5] t.2.1.nb t.2.2)→D.nx [some (.scr ns),some (.int k),some (.ref aw),some (.ref at'),some (.ref ab),some (.int j),some (.ref al),x7,x8,x9] (put S ab (.lst ((C++C').map zbc))))→
  forL (wGT (zaJ (wGN 7) (zaJ (wGN 8) zdp))) (zdc (r+6) zbe) E D G (zgm i (encs ls)) [some (.scr ns),some (.int k),some (.ref aw),some (.ref at'),some (.ref ab),some (.int j),some (.ref al),x7,x8,x9] S
 | [],i,C,S,G,x7,x8,x9,hL,hl,hb,hw,ht,n1,n2,hG,h=>by
  simp only[encs,zgm,forL];have:=h [] x7 x8 x9 rfl (fun z=>by simpa using z) (fun _ h=>nomatch h)
  rw [List.append_nil,zey hb]at this;exact this
 |L::ls,i,C,S,G,x7,x8,x9,hL,hl,hb,hw,ht,n1,n2,hG,h=>by
  have hLd:=hL L List.mem_cons_self;simp only[List.length_cons]at hl;simp only[encs,zgm];refine zcm fun N hN=>?_;simp only[zdc];walk_at "wp";refine⟨.inl ⟨by decide,by decide⟩,zdT (by omega) fun draw=>zgI 4 hLd.1 (by omega) (by omega) (zoK hw fun R hR=>?_)⟩
  try walk_at "wp"
  obtain⟨ti,eti,_⟩:=zqU (ss:=tt) (i:=(C.length:Int)) (by omega) (by omega);simp only[zag hb,zag ht,List.length_map,eti,true_and];refine⟨zal (by decide),zct (by omega),?_⟩;refine hN _ _ (put S ab (.lst ((C++[(ti,L,R)]).map zbc))) (by rw [List.map_append];exact .refl) (hG _) ?_;refine zkz h6 k0 j0 ls (C:=C++[(ti,L,R)]) (fun M hM=>hL M (List.mem_cons_of_mem _ hM)) (by simp;omega) zai (by rw [zaZ (Ne.symm n1)];exact hw) (by rw [zaZ (Ne.symm n2)];exact ht) n1 n2 (fun o=>by rw [zaW];exact hG o) fun C' x7 x8 x9 e1 e2 e3=>?_
  rw [zaW];have:=h ((ti,L,R)::C') x7 x8 x9 (by rw [List.map_cons,e1]) (fun z=>?_) (fun t ht'=>?_)
  ·simpa using this
  ·have e:C++[(ti,L,R)]++C'=C++(ti,L,R)::C':=by simp
   rw [e]at e2;refine e2 ?_;rw [List.map_append,z,List.length_append,List.length_singleton,List.take_succ];congr 1;have e4:(tt.map W.str)[C.length]? =some (.str ti):=by rw [←zca];exact eti
   rw [List.getElem?_map]at e4;cases q:tt[C.length]? with
   |none=>rw [q]at e4;cases e4
   |some y=>rw [q]at e4;cases e4;rfl
  ·rcases List.mem_cons.mp ht' with rfl |z
   ·exact hR
   ·exact e3 t z
theorem zjf (n:Nat) (h c d:Str):∀L∈leftsL n h c d,L.depth≤4∧L.weight≤7:=by
 intro L hL;unfold leftsL at hL;split at hL<;>simp only[List.mem_cons,List.not_mem_nil,or_false]at hL
 all_goals first
  | (subst hL;simp [Tr.depth,dts,Tr.weight,wts])
  | (rcases hL with rfl |rfl<;>simp [Tr.depth,dts,Tr.weight,wts])
theorem zen (n:Nat) (h c d:Str):1≤(leftsL n h c d).length∧(leftsL n h c d).length≤2:=by
 unfold leftsL;split<;>simp
noncomputable def hdOf (w0 w1:Str) (j:Nat):Str:=if j=0 then w0 else w1
theorem zrr{S:Sto}{Q:WK}{E:Str→Sto→Prop}(h6:tt.length=6) (k0:0≤k) (hw:S aw=some (.lst (six w0 w1 w2 w3 w4 w5))) (ht:S at'=some (.lst (tt.map W.str)))
  (h:∀(p:Addr) (B:List Tn) (n m:Nat),S p=none→B.map (fun t=>t.2.1)=leftsL n w0 w2 w3++leftsL m w1 w2 w3→B.map (fun t=>t.1)=tt.take B.length→(∀t∈B,RightT [w0,w1,w2,w3,w4,w5] t.2.1.nb t.2.2)→Q (.ref p) (put S p (.lst (B.map zbc)))):zbR (r+7) [.scr ns, .int k, .ref aw, .ref at'] S Q E:=by
 rw [show r+7=r+6+1 from rfl,zbR];walk_at "wp";refine⟨Nat.zero_le _,fun ab hb=>⟨⟨by decide,by decide⟩,?_⟩⟩
 refine zmv (fun i σ S'=>∃(B:List Tn) (f:Nat→Nat) (x5 x6 x7 x8 x9:Option W),B.map (fun t=>t.2.1)=(List.range i).flatMap (fun j=>leftsL (f j) (hdOf w0 w1 j) w2 w3)∧B.map (fun t=>t.1)=tt.take B.length∧(∀t∈B,RightT [w0,w1,w2,w3,w4,w5] t.2.1.nb t.2.2)∧S'=put S ab (.lst (B.map zbc))∧
  σ=[some (.scr ns),some (.int k),some (.ref aw),some (.ref at'),some (.ref ab),x5,x6,x7,x8,x9]) 2 ?_ ?_ ⟨[],fun _=>0,none,none,none,none,none,rfl,rfl,(fun _ h=>nomatch h),rfl,rfl⟩
 ·rintro j hj σ S' N ⟨B,f,x5,x6,x7,x8,x9,e1,e2,e3,rfl,rfl⟩ hN;have fw:put S ab (Ob.lst (B.map zbc)) aw=some (.lst (six w0 w1 w2 w3 w4 w5)):=keep hw hb;have ft:put S ab (Ob.lst (B.map zbc)) at'=some (.lst (tt.map W.str)):=keep ht hb;have fb:put S ab (Ob.lst (B.map zbc)) ab=some (.lst (B.map zbc)):=zai;have n1:ab≠aw:=fun z=>by rw [z,hw]at hb;cases hb
  have n2:ab≠at':=fun z=>by rw [z,ht]at hb;cases hb
  have eh:atI (six w0 w1 w2 w3 w4 w5) (j:Int)=some (.str (hdOf w0 w1 j)):=by
   rcases(show j=0∨j=1 by omega) with rfl |rfl<;>rfl
  simp only[zeC];walk_at "wp";refine zdT (by omega) fun draw=>?_;walk_at "wp";simp only[zag fw,eh,six2,zwx];refine⟨by decide,zoB fun al n hal=>?_⟩;have hl:=zen n (hdOf w0 w1 j) w2 w3;have hB:B.length≤4:=by
   have:=congrArg List.length e1;rw [List.length_map]at this;rcases(show j=0∨j=1 by omega) with rfl |rfl
   ·simp at this;rw [this];simp
   ·simp at this;have:=zen (f 0) (hdOf w0 w1 0) w2 w3;omega
  have nal:al≠ab:=fun z=>by rw [z,fb]at hal;cases hal
  try walk_at "wp"
  refine zkz h6 k0 (by omega) (leftsL n (hdOf w0 w1 j) w2 w3) (zjf _ _ _ _) (by omega) (keep fb hal) (keep fw hal) (keep ft hal) n1 n2 (fun o=>?_) fun C' x7 x8 x9 g1 g2 g3=>?_
  ·rw [zaZ nal,zai]
  ·refine hN _ _ (put S ab (.lst ((B++C').map zbc))) ?_ ⟨B++C',fun i=>if i=j then n else f i,_,_,_,_,_,?_,g2 e2,fun t ht'=>?_,rfl,rfl⟩
   ·rw [zkB nal];exact .put .refl (by rw [zaZ nal];exact(zde hal).1)
   ·rw [List.map_append,e1,g1,List.range_succ,List.flatMap_append];congr 1
    ·rw [List.flatMap_def,List.flatMap_def];congr 1;refine List.map_congr_left fun i hi=>?_;have:=List.mem_range.mp hi;dsimp only;rw [if_neg (by omega)]
    ·simp
   ·rcases List.mem_append.mp ht' with z |z
    ·exact e3 t z
    ·exact g3 t z
 ·rintro σ S' ⟨B,f,x5,x6,x7,x8,x9,e1,e2,e3,rfl,rfl⟩;walk_at "wp";refine⟨_, .refl,h ab B (f 0) (f 1) hb ?_ e2 e3⟩;rw [e1];simp [List.range_succ,hdOf]
end
noncomputable def signB (x:Str):Bool:=decide (1≤x.cps.toList.length)&&(decide (x.cps.toList.length≤8)&&small x.cps.toList)
theorem znX (xs:List Nat):small xs=true↔ ∀c∈xs,Low c:=by
 unfold small;rw [List.all_eq_true];simp only[zpZ,Low,Bool.and_eq_true,decide_eq_true_eq]
theorem ziv (x:Str):signB x=true↔zdQ x:=by
 unfold signB zdQ;rw [Bool.and_eq_true,Bool.and_eq_true,decide_eq_true_eq,decide_eq_true_eq,znX]
theorem zdy{x y:Str}(h:zdQ x) (g:zdm y):x≠y:=by
 rintro rfl;obtain⟨c,r,e,h1,h2,_⟩:=g;have:=h.2.2 c (by rw [e];exact List.mem_cons_self);unfold Low at this;omega
mutual
noncomputable def Tr.hd (P:Str→Prop):Tr→Prop
 | .bl _=>False
 | .nd s ts=>P s∧hds P ts
noncomputable def hds (P:Str→Prop):List Tr→Prop
 | []=>True
 |t::ts=>t.hd P∧hds P ts
end
mutual
noncomputable def Tr.hb (P:Str→Prop):Tr→Prop
 | .bl _=>True
 | .nd s ts=>P s∧hbs P ts
noncomputable def hbs (P:Str→Prop):List Tr→Prop
 | []=>True
 |t::ts=>t.hb P∧hbs P ts
end
theorem zfU{P:Str→Prop}:∀{ts:List Tr},hds P ts↔ ∀t∈ts,t.hd P
 | []=>by simp [hds]
 |t::ts=>by simp [hds,zfU (ts:=ts)]
mutual
theorem znE{P P':Str→Prop}(h:∀s,P s→P' s):∀(t:Tr),t.hd P→t.hd P'
 | .bl _,q=>by simp [Tr.hd]at q
 | .nd s ts,q=>by
  simp only[Tr.hd]at q⊢;exact⟨h s q.1,zjY h ts q.2⟩
theorem zjY{P P':Str→Prop}(h:∀s,P s→P' s):∀(ts:List Tr),hds P ts→hds P' ts
 | [],_=>by simp [hds]
 |t::ts,q=>by
  simp only[hds]at q⊢;exact⟨znE h t q.1,zjY h ts q.2⟩
end
mutual
theorem znn{P P':Str→Prop}(h:∀s,P s→P' s):∀(t:Tr),t.hb P→t.hb P'
 | .bl _,q=>by simp [Tr.hb]
 | .nd s ts,q=>by
  simp only[Tr.hb]at q⊢;exact⟨h s q.1,zkg h ts q.2⟩
theorem zkg{P P':Str→Prop}(h:∀s,P s→P' s):∀(ts:List Tr),hbs P ts→hbs P' ts
 | [],_=>by simp [hbs]
 |t::ts,q=>by
  simp only[hbs]at q⊢;exact⟨znn h t q.1,zkg h ts q.2⟩
end
mutual
theorem ziX{P:Str→Prop}{us:List Tr}(hu:∀u∈us,u.hd P):∀(t:Tr),t.hb P→t.fits us.length→(t.fill us).hd P
 | .bl n,h,f=>by
  simp only[Tr.fits]at f;simp only[Tr.fill];rw [List.getD_eq_getElem?_getD,List.getElem?_eq_getElem (show n.toNat<us.length by omega)]
  exact hu _ (List.getElem_mem ..)
 | .nd s ts,h,f=>by
  simp only[Tr.fits]at f;simp only[Tr.hb]at h;simp only[Tr.fill,Tr.hd];exact⟨h.1,zkT hu ts h.2 f⟩
theorem zkT{P:Str→Prop}{us:List Tr}(hu:∀u∈us,u.hd P):∀(ts:List Tr),hbs P ts→fitss us.length ts→hds P (fills us ts)
 | [],h,f=>by simp [fills,hds]
 |t::ts,h,f=>by
  simp only[fitss]at f;simp only[hbs]at h;simp only[fills,hds];exact⟨ziX hu t h.1 f.1,zkT hu ts h.2 f.2⟩
end
structure BookOk (w0 w1 w2 w3 w4 w5:Str) (tt:List Str) (B:List Tn):Prop where
  lf:∃n m:Nat,B.map (fun t=>t.2.1)=leftsL n w0 w2 w3++leftsL m w1 w2 w3
  ti:B.map (fun t=>t.1)=tt.take B.length
  ri:∀t∈B,RightT [w0,w1,w2,w3,w4,w5] t.2.1.nb t.2.2
structure LeftT (P:Str→Prop) (L:Tr):Prop where
  hb:L.hb P
  fits:L.fits L.nb
  wt:L.weight≤L.nb+3
  dp:L.depth≤4
  nb:L.nb≤3
  nd:∃s ts,L= .nd s ts
  fw:∀us:List Tr,us.length=L.nb→(L.fill us).weight≤3+wts us
  fw0:L.nb=0→(L.fill []).weight≤2
theorem zfa{P:Str→Prop}{n:Nat}{h c d:Str}(hh:P h) (hc:P c) (hd:P d):∀L∈leftsL n h c d,LeftT P L:=by
 unfold leftsL;intro L hL;split at hL<;>simp only[List.mem_cons,List.not_mem_nil,or_false]at hL
 all_goals first
  | (subst hL;exact⟨by simp [Tr.hb,hbs,hh,hc,hd],by simp [Tr.fits,fitss,Tr.nb,nbs],by simp [Tr.weight,wts,Tr.nb,nbs],by simp [Tr.depth,dts],by simp [Tr.nb,nbs],⟨_,_,rfl⟩,fun us hu=>by rcases us with _ |⟨u,_ |⟨v,_ |⟨x,_ |⟨y,us⟩⟩⟩⟩<;>simp [Tr.nb,nbs,Tr.fill,fills,Tr.weight,wts]at hu⊢ <;>omega,fun h0=>by simp [Tr.nb,nbs,Tr.fill,fills,Tr.weight,wts]at h0⊢⟩)
  | (rcases hL with rfl |rfl<;>exact⟨by simp [Tr.hb,hbs,hh,hc,hd],by simp [Tr.fits,fitss,Tr.nb,nbs],by simp [Tr.weight,wts,Tr.nb,nbs],by simp [Tr.depth,dts],by simp [Tr.nb,nbs],⟨_,_,rfl⟩,fun us hu=>by rcases us with _ |⟨u,_ |⟨v,_ |⟨x,_ |⟨y,us⟩⟩⟩⟩<;>simp [Tr.nb,nbs,Tr.fill,fills,Tr.weight,wts]at hu⊢ <;>omega,fun h0=>by simp [Tr.nb,nbs,Tr.fill,fills,Tr.weight,wts]at h0⊢⟩)
section
variable {w0 w1 w2 w3 w4 w5:Str}{tt:List Str}{B:List Tn}
theorem BookOk.len (b:BookOk w0 w1 w2 w3 w4 w5 tt B):2≤B.length∧B.length≤4:=by
 obtain⟨n,m,e⟩:=b.lf;have h1:=zen n w0 w2 w3;have h2:=zen m w1 w2 w3;have e':=congrArg List.length e;rw [List.length_map,List.length_append]at e';omega
theorem BookOk.left (b:BookOk w0 w1 w2 w3 w4 w5 tt B) {P:Str→Prop}(h0:P w0) (h1:P w1) (h2:P w2) (h3:P w3) {t:Tn}(ht:t∈B):LeftT P t.2.1:=by
 obtain⟨n,m,e⟩:=b.lf;have:t.2.1∈leftsL n w0 w2 w3++leftsL m w1 w2 w3:=by rw [←e];exact List.mem_map.mpr ⟨t,ht,rfl⟩
 rcases List.mem_append.mp this with z |z
 ·exact zfa h0 h2 h3 _ z
 ·exact zfa h1 h2 h3 _ z
theorem BookOk.nodup (b:BookOk w0 w1 w2 w3 w4 w5 tt B) (T:Titles tt):(B.map fun t=>t.1).Nodup:=by
 rw [b.ti];exact List.Nodup.sublist (List.take_sublist ..) T.nd
theorem BookOk.mem (b:BookOk w0 w1 w2 w3 w4 w5 tt B) {t:Tn}(ht:t∈B):t.1∈tt:=by
 have:t.1∈B.map fun t=>t.1:=List.mem_map.mpr ⟨t,ht,rfl⟩;rw [b.ti]at this;exact List.mem_of_mem_take this
end
noncomputable def zaR (B:List Tn) (s:Str):Option Tn:=B.find? fun t=>t.1 == s
theorem zcX:∀{B:List Tn}{t:Tn},(B.map fun t=>t.1).Nodup→t∈B→zaR B t.1=some t
 |u::B,t,hn,ht=>by
  unfold zaR;rw [List.map_cons,List.nodup_cons]at hn;rw [List.find?_cons];rcases List.mem_cons.mp ht with rfl |ht
  ·simp
  ·have hne:u.1≠t.1:=fun z=>hn.1 (by rw [z];exact List.mem_map.mpr ⟨t,ht,rfl⟩);have:(u.1 == t.1)=false:=by simpa using hne
   rw [this];exact zcX hn.2 ht
theorem zfL{B:List Tn}{s:Str}(h:∀t∈B,t.1≠s):zaR B s=none:=by
 unfold zaR;rw [List.find?_eq_none];intro t ht;simpa using h t ht
noncomputable def topB (B:List Tn) (s:Str) (n:Nat):Bool:=match zaR B s with
 |none=>signB s
 |some t=>n == t.2.1.nb
mutual
noncomputable def Tr.way (B:List Tn):Tr→Bool
 | .bl _=>false
 | .nd s ts=>topB B s ts.length&&zln B ts
noncomputable def zln (B:List Tn):List Tr→Bool
 | []=>true
 |t::ts=>t.way B&&zln B ts
end
theorem zgO (B:List Tn):∀ts:List Tr,zln B ts=ts.all (Tr.way B)
 | []=>by simp [zln]
 |t::ts=>by simp [zln,zgO B ts]
mutual
theorem zgQ{B:List Tn}(hB:∀t∈B,zdm t.1) {us:List Tr}(hu:∀u∈us,u.way B=true):∀(t:Tr),t.hb zdQ→t.fits us.length→(t.fill us).way B=true
 | .bl n,h,f=>by
  simp only[Tr.fits]at f;simp only[Tr.fill];rw [List.getD_eq_getElem?_getD,List.getElem?_eq_getElem (show n.toNat<us.length by omega)]
  exact hu _ (List.getElem_mem ..)
 | .nd s ts,h,f=>by
  simp only[Tr.fits]at f;simp only[Tr.hb]at h;simp only[Tr.fill,Tr.way];rw [zik hB hu ts h.2 f,topB,zfL fun t ht=>(zdy h.1 (hB t ht)).symm,(ziv s).mpr h.1];rfl
theorem zik{B:List Tn}(hB:∀t∈B,zdm t.1) {us:List Tr}(hu:∀u∈us,u.way B=true):∀(ts:List Tr),hbs zdQ ts→fitss us.length ts→zln B (fills us ts)=true
 | [],h,f=>by simp [fills,zln]
 |t::ts,h,f=>by
  simp only[fitss]at f;simp only[hbs]at h;rw [fills,zln,zgQ hB hu t h.1 f.1,zik hB hu ts h.2 f.2];rfl
end
inductive Pl where
  |nd (k bits:Int) (head:Str) (ps:List Pl)
mutual
noncomputable def Pl.wt:Pl→Nat
 | .nd _ _ _ ps=>1+pwts ps
noncomputable def pwts:List Pl→Nat
 | []=>0
 |p::ps=>p.wt+pwts ps
end
mutual
noncomputable def Pl.dp:Pl→Nat
 | .nd _ _ _ ps=>1+zqg ps
noncomputable def zqg:List Pl→Nat
 | []=>0
 |p::ps=>max p.dp (zqg ps)
end
mutual
noncomputable def Pl.nt:Pl→Nat
 | .nd k _ _ ps=>(if k<0 then 0 else 1)+pnts ps
noncomputable def pnts:List Pl→Nat
 | []=>0
 |p::ps=>p.nt+pnts ps
end
inductive PlOk (ws:List Str) (B:List Tn):Pl→Prop
 |sign {b:Int}{h:Str}{ps:List Pl}:h∈ws→(∀p∈ps,PlOk ws B p)→PlOk ws B (.nd (-1) b h ps)
 |turn {k:Nat}{b:Int}{h:Str}{ps:List Pl}{t:Tn}:B[k]? =some t→ps.length=t.2.1.nb→0≤b→b<8→(∀p∈ps,PlOk ws B p)→PlOk ws B (.nd k b h ps)
mutual
noncomputable def Pl.ev (B:List Tn) (c:Int→Nat):Pl→Tr
 | .nd k b h ps=>if k<0 then .nd h (evs B c ps) else match c b with
  |0=>(B.getD k.toNat (h, .bl 0, .bl 0)).2.1.fill (evs B c ps)
  |1=> .nd (B.getD k.toNat (h, .bl 0, .bl 0)).1 (evs B c ps)
  |_=>(B.getD k.toNat (h, .bl 0, .bl 0)).2.2.fill (evs B c ps)
noncomputable def evs (B:List Tn) (c:Int→Nat):List Pl→List Tr
 | []=>[]
 |p::ps=>p.ev B c::evs B c ps
end
theorem zjz (B:List Tn) (c:Int→Nat):∀ps:List Pl,evs B c ps=ps.map (Pl.ev B c)
 | []=>by simp [evs]
 |p::ps=>by simp [evs,zjz B c ps]
theorem zbS:∀ps qs:List Pl,pwts (ps++qs)=pwts ps+pwts qs
 | [],qs=>by simp [pwts]
 |p::ps,qs=>by simp [pwts,zbS ps qs];omega
theorem zbz:∀ps qs:List Pl,pnts (ps++qs)=pnts ps+pnts qs
 | [],qs=>by simp [pnts]
 |p::ps,qs=>by simp [pnts,zbz ps qs];omega
theorem zkJ{p:Pl}:∀{ps:List Pl},p∈ps→p.dp≤zqg ps
 |q::ps,h=>by
  rcases List.mem_cons.mp h with rfl |h
  ·simp [zqg];omega
  ·have:=zkJ h;simp [zqg];omega
mutual
theorem zkk:∀p:Pl,p.dp≤p.wt
 | .nd k b h ps=>by have:=zlZ ps;simp [Pl.dp,Pl.wt];omega
theorem zlZ:∀ps:List Pl,zqg ps≤pwts ps
 | []=>by simp [zqg]
 |p::ps=>by have:=zkk p;have:=zlZ ps;simp [zqg,pwts];omega
end
theorem zsi (p:Pl):1≤p.dp:=by cases p;simp [Pl.dp]
theorem zrq (p:Pl):1≤p.wt:=by cases p;simp [Pl.wt]
theorem zbk{B:List Tn}{c:Int→Nat}{b:Int}{h:Str}{ps:List Pl}:(Pl.nd (-1) b h ps).ev B c= .nd h (ps.map (Pl.ev B c)):=by
 rw [Pl.ev,if_pos (by decide),zjz]
noncomputable def evT (t:Tn) (n:Nat) (us:List Tr):Tr:=match n with
 |0=>t.2.1.fill us
 |1=> .nd t.1 us
 |_=>t.2.2.fill us
theorem zaT{B:List Tn}{c:Int→Nat}{b:Int}{h:Str}{ps:List Pl}{k:Nat}{t:Tn}(e:B[k]? =some t):(Pl.nd k b h ps).ev B c=evT t (c b) (ps.map (Pl.ev B c)):=by
 rw [Pl.ev,if_neg (by omega),zjz,Int.toNat_natCast,List.getD_eq_getElem?_getD,e];rfl
section
variable {ws:List Str}{m:Nat}{t:Tr}
theorem zcr (h:Item ws m t):t.depth=1:=by
 cases h<;>simp [Tr.depth,dts]
theorem zfn (h:RightT ws m t):t.depth≤3:=by
 cases h with
 |one h=>rw [zcr h];decide
 |un hs h=>simp [Tr.depth,dts,zcr h]
 |two hs h0 h h'=>simp [Tr.depth,dts,zcr h,zcr h']
 |deep hs hz h0 h h'=>simp [Tr.depth,dts,zcr h,zcr h']
theorem zcV (h:Item ws m t):t.fits m:=by
 cases h with
 |bl h0 h1=>exact⟨h0,h1⟩
 |nd hs=>simp [Tr.fits,fitss]
theorem zdB (h:RightT ws m t):t.fits m:=by
 cases h with
 |one h=>exact zcV h
 |un hs h=>simp [Tr.fits,fitss,zcV h]
 |two hs h0 h h'=>simp [Tr.fits,fitss,zcV h,zcV h']
 |deep hs hz h0 h h'=>simp [Tr.fits,fitss,zcV h,zcV h']
theorem zeG{P:Str→Prop}(hP:∀x∈ws,P x) (h:Item ws m t):t.hb P:=by
 cases h with
 |bl h0 h1=>simp [Tr.hb]
 |nd hs=>simp [Tr.hb,hbs,hP _ hs]
theorem zgV{P:Str→Prop}(hP:∀x∈ws,P x) (h:RightT ws m t):t.hb P:=by
 cases h with
 |one h=>exact zeG hP h
 |un hs h=>simp [Tr.hb,hbs,zeG hP h,hP _ hs]
 |two hs h0 h h'=>simp [Tr.hb,hbs,zeG hP h,zeG hP h',hP _ hs]
 |deep hs hz h0 h h'=>simp [Tr.hb,hbs,zeG hP h,zeG hP h',hP _ hs,hP _ hz]
theorem zbV (h:Item ws m t):t.weight=1:=by
 cases h<;>simp [Tr.weight,wts]
theorem ziu (h:RightT ws m t):t.weight≤4:=by
 cases h with
 |one h=>rw [zbV h];decide
 |un hs h=>simp [Tr.weight,wts,zbV h]
 |two hs h0 h h'=>simp [Tr.weight,wts,zbV h,zbV h']
 |deep hs hz h0 h h'=>simp [Tr.weight,wts,zbV h,zbV h']
theorem zcO (h:Item ws m t) {us:List Tr}{M:Nat}(hl:us.length=m) (hM:1≤M) (hu:∀u∈us,u.weight≤M):(t.fill us).weight≤M:=by
 cases h with
 | @bl n h0 h1=>
  simp only[Tr.fill];rw [List.getD_eq_getElem?_getD,List.getElem?_eq_getElem (show n.toNat<us.length by omega)]
  exact hu _ (List.getElem_mem ..)
 |nd hs=>simp [Tr.fill,fills,Tr.weight,wts];omega
theorem zgw (h:RightT ws m t) {us:List Tr}{M:Nat}(hl:us.length=m) (hM:1≤M) (hu:∀u∈us,u.weight≤M):(t.fill us).weight≤2+2*M∧(m=0→(t.fill us).weight≤1+M):=by
 cases h with
 |one h=>
  have:=zcO h hl hM hu;omega
 |un hs h=>
  have:=zcO h hl hM hu;simp only[Tr.fill,fills,Tr.weight,wts];omega
 |two hs h0 h h'=>
  have:=zcO h hl hM hu;have:=zcO h' hl hM hu;simp only[Tr.fill,fills,Tr.weight,wts];omega
 |deep hs hz h0 h h'=>
  have:=zcO h hl hM hu;have:=zcO h' hl hM hu;simp only[Tr.fill,fills,Tr.weight,wts];omega
end
structure BkOk (ws hs:List Str) (B:List Tn):Prop where
  ti:∀t∈B,zdm t.1
  nd:(B.map fun t=>t.1).Nodup
  sg:∀x∈ws,zdQ x
  sb:∀x∈hs,x∈ws
  lf:∀t∈B,LeftT zdQ t.2.1
  ri:∀t∈B,RightT ws t.2.1.nb t.2.2
theorem BookOk.bk{w0 w1 w2 w3 w4 w5:Str}{tt:List Str}{B:List Tn}(b:BookOk w0 w1 w2 w3 w4 w5 tt B) (T:Titles tt) (G:Signs w0 w1 w2 w3 w4 w5):BkOk [w0,w1,w2,w3,w4,w5] [w2,w3,w4,w5] B:=
 ⟨fun t ht=>T.ok _ (b.mem ht),b.nodup T,G.ok,fun x hx=>List.mem_cons_of_mem _ (List.mem_cons_of_mem _ hx),fun t ht=>b.left (G.ok _ (by simp)) (G.ok _ (by simp)) (G.ok _ (by simp)) (G.ok _ (by simp)) ht,b.ri⟩
section
variable {ws hs:List Str}{B:List Tn}{c:Int→Nat}
theorem zqb (b:BkOk ws hs B) {p:Pl}(h:PlOk hs B p):(p.ev B c).way B=true:=by
 induction h with
 | @sign b' h ps hh hp ih=>
  rw [zbk,Tr.way,topB,zfL fun t ht=>(zdy (b.sg h (b.sb h hh)) (b.ti t ht)).symm,zgO,(ziv h).mpr (b.sg h (b.sb h hh))];simp only[List.all_map,Bool.true_and,List.all_eq_true];exact fun p hp=>ih p hp
 | @turn k b' h ps t e hl b0 b1 hp ih=>
  have ht:t∈B:=List.mem_of_getElem? e;have hu:∀u∈ps.map (Pl.ev B c),u.way B=true:=fun u hu=>by
   obtain⟨p,hp,rfl⟩:=List.mem_map.mp hu;exact ih p hp
  rw [zaT e];unfold evT;split
  ·exact zgQ b.ti hu _ (b.lf t ht).hb (by rw [List.length_map,hl];exact(b.lf t ht).fits)
  ·rw [Tr.way,topB,zcX b.nd ht,zgO];simp only[List.length_map,hl,beq_self_eq_true,Bool.true_and,List.all_eq_true];exact hu
  ·exact zgQ b.ti hu _ (zgV b.sg (b.ri t ht)) (by rw [List.length_map,hl];exact zdB (b.ri t ht))
theorem zkG{p:Pl}:∀{ps:List Pl},p∈ps→p.wt≤pwts ps
 |q::ps,h=>by
  rcases List.mem_cons.mp h with rfl |h
  ·simp [pwts]
  ·have:=zkG h;simp [pwts];omega
theorem zdU (n:Nat):1≤2 ^ n:=Nat.one_le_two_pow
mutual
theorem zfQ:∀t:Tr,(t.fill []).depth=t.depth
 | .bl n=>by simp [Tr.fill]
 | .nd s ts=>by simp [Tr.fill,Tr.depth,zeO ts]
theorem zeO:∀ts:List Tr,dts (fills [] ts)=dts ts
 | []=>by simp [fills]
 |t::ts=>by simp [fills,dts,zfQ t,zeO ts]
end
end
mutual
noncomputable def Tr.mk (B:List Tn) (g:Tn→Tr):Tr→Tr
 | .bl n=> .bl n
 | .nd s ts=>match zaR B s with
  |none=> .nd s (mks B g ts)
  |some t=>(g t).fill (mks B g ts)
noncomputable def mks (B:List Tn) (g:Tn→Tr):List Tr→List Tr
 | []=>[]
 |t::ts=>t.mk B g::mks B g ts
end
theorem zfq (B:List Tn) (g:Tn→Tr):∀ts:List Tr,mks B g ts=ts.map (Tr.mk B g)
 | []=>by simp [mks]
 |t::ts=>by simp [mks,zfq B g ts]
theorem zjg{B:List Tn}{g:Tn→Tr}{s:Str}{ts:List Tr}(h:zaR B s=none):(Tr.nd s ts).mk B g= .nd s (ts.map (Tr.mk B g)):=by
 rw [Tr.mk,h,zfq]
theorem zjd{B:List Tn}{g:Tn→Tr}{s:Str}{ts:List Tr}{t:Tn}(h:zaR B s=some t):(Tr.nd s ts).mk B g=(g t).fill (ts.map (Tr.mk B g)):=by
 rw [Tr.mk,h,zfq]
theorem zcS{B:List Tn}(hB:∀t∈B,zdm t.1) {s:Str}(h:zdQ s):zaR B s=none:=zfL fun t ht=>(zdy h (hB t ht)).symm
mutual
theorem zhq{B:List Tn}{g:Tn→Tr}(hB:∀t∈B,zdm t.1) {us:List Tr}:∀t:Tr,t.hb zdQ→t.fits us.length→(t.fill us).mk B g=t.fill (us.map (Tr.mk B g))
 | .bl n,h,f=>by
  simp only[Tr.fits]at f;simp only[Tr.fill];rw [List.getD_eq_getElem?_getD,List.getD_eq_getElem?_getD,List.getElem?_map,List.getElem?_eq_getElem (show n.toNat<us.length by omega)]
  rfl
 | .nd s ts,h,f=>by
  simp only[Tr.hb]at h;simp only[Tr.fits]at f;simp only[Tr.fill];rw [Tr.mk,zcS hB h.1];simp only[];rw [zjT hB ts h.2 f]
theorem zjT{B:List Tn}{g:Tn→Tr}(hB:∀t∈B,zdm t.1) {us:List Tr}:∀ts:List Tr,hbs zdQ ts→fitss us.length ts→mks B g (fills us ts)=fills (us.map (Tr.mk B g)) ts
 | [],h,f=>by simp [fills,mks]
 |t::ts,h,f=>by
  simp only[hbs]at h;simp only[fitss]at f;rw [fills,mks,fills,zhq hB t h.1 f.1,zjT hB ts h.2 f.2]
end
section
variable {ws hs:List Str}{B:List Tn}{c d:Int→Nat}
theorem ztv (b:BkOk ws hs B) {g:Tn→Tr}(hg:∀t∈B,∀x:Int,0≤x→x<8→c x=1→ ∀us,(g t).fill us=evT t (d x) us) (h0:∀x:Int,0≤x→x<8→c x≠1→d x=c x) {p:Pl}(h:PlOk hs B p):(p.ev B c).mk B g=p.ev B d:=by
 induction h with
 | @sign b' h ps hh hp ih=>
  rw [zbk,zbk,zjg (zcS b.ti (b.sg h (b.sb h hh))),List.map_map];congr 1;exact List.map_congr_left fun p hp=>ih p hp
 | @turn k b' h ps t e hl b0 b1 hp ih=>
  have ht:t∈B:=List.mem_of_getElem? e;have em:(ps.map (Pl.ev B c)).map (Tr.mk B g)=ps.map (Pl.ev B d):=by
   rw [List.map_map];exact List.map_congr_left fun p hp=>ih p hp
  rw [zaT e,zaT e];by_cases hc:c b'=1
  ·rw [←hg t ht b' b0 b1 hc,hc];show(Tr.nd t.1 _).mk B g=_;rw [zjd (zcX b.nd ht),em]
  ·rw [h0 b' b0 b1 hc];unfold evT;split
   ·rw [zhq b.ti _ (b.lf t ht).hb (by rw [List.length_map,hl];exact(b.lf t ht).fits),em]
   ·rename_i z;exact absurd z hc
   ·rw [zhq b.ti _ (zgV b.sg (b.ri t ht)) (by rw [List.length_map,hl];exact zdB (b.ri t ht)),em]
noncomputable def zfW (c:Int→Nat):Int→Nat:=fun x=>if c x=1 then 0 else c x
noncomputable def zbG (c:Int→Nat):Int→Nat:=fun x=>if c x=1 then 2 else c x
theorem zeh (b:BkOk ws hs B) {p:Pl}(h:PlOk hs B p):(p.ev B c).mk B (fun t=>t.2.1)=p.ev B (zfW c):=
 ztv b (fun t ht x _ _ hx us=>by rw [zfW,if_pos hx];rfl) (fun x _ _ hx=>by rw [zfW,if_neg hx]) h
theorem zdW (b:BkOk ws hs B) {p:Pl}(h:PlOk hs B p):(p.ev B c).mk B (fun t=>t.2.2)=p.ev B (zbG c):=
 ztv b (fun t ht x _ _ hx us=>by rw [zbG,if_pos hx];rfl) (fun x _ _ hx=>by rw [zbG,if_neg hx]) h
theorem zgX{p:Pl}(h:PlOk hs B p) (hc:∀x:Int,0≤x→x<8→c x=d x):p.ev B c=p.ev B d:=by
 induction h with
 | @sign b' h ps hh hp ih=>
  rw [zbk,zbk];congr 1;exact List.map_congr_left fun p hp=>ih p hp
 | @turn k b' h ps t e hl b0 b1 hp ih=>
  rw [zaT e,zaT e,hc b' b0 b1];congr 1;exact List.map_congr_left fun p hp=>ih p hp
end
theorem zjV{n:Nat}{h c d:Str}{L:Tr}(hL:L∈leftsL n h c d) {us:List Tr}(hu:us.length=L.nb):L.mt (L.fill us)=some us:=by
 unfold leftsL at hL;split at hL<;>simp only[List.mem_cons,List.not_mem_nil,or_false]at hL
 all_goals first
  | (subst hL;rcases us with _ |⟨u,_ |⟨v,_ |⟨x,_ |⟨y,us⟩⟩⟩⟩<;>simp [Tr.nb,nbs,Tr.fill,fills,Tr.mt,mts]at hu⊢ <;>omega)
  | (rcases hL with rfl |rfl<;>rcases us with _ |⟨u,_ |⟨v,_ |⟨x,_ |⟨y,us⟩⟩⟩⟩<;>simp [Tr.nb,nbs,Tr.fill,fills,Tr.mt,mts]at hu⊢ <;>omega)
noncomputable def zvp (B:List Tn):Prop:=∀t∈B,∀us:List Tr,us.length=t.2.1.nb→t.2.1.mt (t.2.1.fill us)=some us
theorem BookOk.mt{w0 w1 w2 w3 w4 w5:Str}{tt:List Str}{B:List Tn}(b:BookOk w0 w1 w2 w3 w4 w5 tt B):zvp B:=fun t ht us hu=>by
 obtain⟨n,m,e⟩:=b.lf;have:t.2.1∈leftsL n w0 w2 w3++leftsL m w1 w2 w3:=by rw [←e];exact List.mem_map.mpr ⟨t,ht,rfl⟩
 rcases List.mem_append.mp this with z |z
 ·exact zjV z hu
 ·exact zjV z hu
mutual
inductive Mv (B:List Tn):Nat→Tr→Tr→Tr→Prop
 |nn {n:Nat}{s z:Str}{ts us cs:List Tr}:zaR B s=none→zaR B z=none→Mvs B n ts us cs→Mv B (n+1) (.nd s ts) (.nd z us) (.nd s cs)
 |ns {n:Nat}{s z:Str}{ts us cs ms:List Tr}{t:Tn}:zaR B s=none→zaR B z=some t→t.2.1.mt (.nd s ts)=some ms→cs.length=t.2.1.nb→Mvs B n ms us cs→Mv B (n+1) (.nd s ts) (.nd z us) (t.2.2.fill cs)
 |sn {n:Nat}{s z:Str}{ts us cs ms:List Tr}{t:Tn}:zaR B s=some t→zaR B z=none→t.2.1.mt (.nd z us)=some ms→Mvs B n ts ms cs→Mv B (n+1) (.nd s ts) (.nd z us) (.nd s cs)
 |ss {n:Nat}{s z:Str}{ts us cs:List Tr}{t t':Tn}:zaR B s=some t'→zaR B z=some t→cs.length=t.2.1.nb→Mvs B n ts us cs→Mv B (n+1) (.nd s ts) (.nd z us) (t.2.2.fill cs)
inductive Mvs (B:List Tn):Nat→List Tr→List Tr→List Tr→Prop
 |nil {n:Nat}:Mvs B n [] [] []
 |cons {n:Nat}{a b c:Tr}{as bs cs:List Tr}:Mv B n a b c→Mvs B n as bs cs→Mvs B n (a::as) (b::bs) (c::cs)
end
theorem zml{P:Str→Prop}:∀{ts us:List Tr},hds P ts→hds P us→hds P (ts++us)
 | [],us,_,h=>h
 |t::ts,us,h,g=>by
  simp only[hds,List.cons_append]at h⊢;exact⟨h.1,zml h.2 g⟩
mutual
inductive PlAt (S:Sto):Pl→W→Prop
 |nd {k b:Int}{h:Str}{ps:List Pl}{a:Addr}{vs:List W}:S a=some (.lst vs)→PlsAt S ps vs→PlAt S (.nd k b h ps) (.tup [.int k, .int b, .str h, .ref a])
inductive PlsAt (S:Sto):List Pl→List W→Prop
 |nil:PlsAt S [] []
 |cons {p:Pl}{v:W}{ps:List Pl}{vs:List W}:PlAt S p v→PlsAt S ps vs→PlsAt S (p::ps) (v::vs)
end
mutual
theorem PlAt.sub{S S':Sto}(h:Sub S S'):∀{p:Pl}{v:W},PlAt S p v→PlAt S' p v
 |_,_, .nd e q=> .nd (h _ _ e) (PlsAt.sub h q)
theorem PlsAt.sub{S S':Sto}(h:Sub S S'):∀{ps:List Pl}{vs:List W},PlsAt S ps vs→PlsAt S' ps vs
 |_,_, .nil=> .nil
 |_,_, .cons a b=> .cons (PlAt.sub h a) (PlsAt.sub h b)
end
section
variable {S:Sto}
theorem PlsAt.len:∀{ps:List Pl}{vs:List W},PlsAt S ps vs→ps.length=vs.length
 |_,_, .nil=>rfl
 |_,_, .cons _ h=>congrArg (· +1) (PlsAt.len h)
theorem PlsAt.app:∀{ps qs:List Pl}{vs us:List W},PlsAt S ps vs→PlsAt S qs us→PlsAt S (ps++qs) (vs++us)
 |_,_,_,_, .nil,h=>h
 |_,_,_,_, .cons a b,h=> .cons a (PlsAt.app b h)
theorem PlsAt.take:∀(n:Nat) {ps:List Pl}{vs:List W},PlsAt S ps vs→PlsAt S (ps.take n) (vs.take n)
 |0,_,_,_=> .nil
 |_+1,_,_, .nil=> .nil
 |n+1,_,_, .cons a b=> .cons a (PlsAt.take n b)
theorem PlsAt.drop:∀(n:Nat) {ps:List Pl}{vs:List W},PlsAt S ps vs→PlsAt S (ps.drop n) (vs.drop n)
 |0,_,_,h=>h
 |_+1,_,_, .nil=> .nil
 |n+1,_,_, .cons _ b=>PlsAt.drop n b
theorem PlsAt.rep{p:Pl}{v:W}(h:PlAt S p v):∀n:Nat,PlsAt S (List.replicate n p) (List.replicate n [v]).flatten
 |0=> .nil
 |n+1=>by
  rw [List.replicate_succ,List.replicate_succ,List.flatten_cons];exact .cons h (PlsAt.rep h n)
end
noncomputable def pad (w:Str):Pl:= .nd (-1) 0 w []
noncomputable def zbo (need:Nat) (w:Str) (ps:List Pl):List Pl:=List.replicate (need - ps.length) (pad w)++ps
noncomputable def push (need:Nat) (w:Str) (k b:Int) (h:Str) (ps:List Pl):List Pl:=
 (zbo need w ps).take ((zbo need w ps).length - need)++[.nd k b h ((zbo need w ps).drop ((zbo need w ps).length - need))]
theorem zkr (w:Str):∀n:Nat,pwts (List.replicate n (pad w))=n
 |0=>by simp [pwts]
 |n+1=>by rw [List.replicate_succ,pwts,zkr w n];simp [pad,Pl.wt,pwts];omega
theorem zjP (w:Str):∀n:Nat,pnts (List.replicate n (pad w))=0
 |0=>by simp [pnts]
 |n+1=>by rw [List.replicate_succ,pnts,zjP w n];simp [pad,Pl.nt,pnts]
theorem zfc:∀ps:List Pl,ps.length≤pwts ps
 | []=>by simp
 |p::ps=>by have:=zfc ps;have:=zrq p;simp [pwts];omega
theorem zdE (need:Nat) (w:Str) (ps:List Pl):(zbo need w ps).length=need - ps.length+ps.length:=by simp [zbo]
theorem znH{need:Nat}{w:Str}{k b:Int}{h:Str}{ps:List Pl}:pwts (push need w k b h ps)=need - ps.length+pwts ps+1∧pnts (push need w k b h ps)=pnts ps+(if k<0 then 0 else 1)∧(push need w k b h ps).length=need - ps.length+ps.length - need+1:=by
 have hl:=zdE need w ps;have h1:pwts (zbo need w ps)=need - ps.length+pwts ps:=by rw [zbo,zbS,zkr]
 have h2:pnts (zbo need w ps)=pnts ps:=by rw [zbo,zbz,zjP];omega
 have h3:=zbS ((zbo need w ps).take ((zbo need w ps).length - need)) ((zbo need w ps).drop ((zbo need w ps).length - need));have h4:=zbz ((zbo need w ps).take ((zbo need w ps).length - need)) ((zbo need w ps).drop ((zbo need w ps).length - need));rw [List.take_append_drop]at h3 h4;unfold push;refine⟨?_,?_,?_⟩
 ·rw [zbS,pwts,pwts,Pl.wt];omega
 ·rw [zbz,pnts,pnts,Pl.nt];omega
 ·rw [List.length_append,List.length_take,List.length_singleton,hl];omega
theorem zlo{need:Nat}{w:Str}(ps:List Pl):((zbo need w ps).drop ((zbo need w ps).length - need)).length=need:=by
 have hl:=zdE need w ps;rw [List.length_drop,hl];omega
theorem ziB{ws:List Str}{B:List Tn}{need:Nat}{w:Str}{ps:List Pl}(hw:w∈ws) (h:∀p∈ps,PlOk ws B p):∀p∈zbo need w ps,PlOk ws B p:=fun p hp=>by
 rcases List.mem_append.mp hp with z |z
 ·rw [(List.mem_replicate.mp z).2];exact .sign hw fun q hq=>by cases hq
 ·exact h p z
theorem zrE{ws:List Str}{B:List Tn}{need:Nat}{w:Str}{k b:Int}{h:Str}{ps:List Pl}(hw:w∈ws) (hp:∀p∈ps,PlOk ws B p) (hn:∀qs:List Pl,qs.length=need→(∀q∈qs,PlOk ws B q)→PlOk ws B (.nd k b h qs)):∀p∈push need w k b h ps,PlOk ws B p:=fun p hq=>by
 rcases List.mem_append.mp hq with z |z
 ·exact ziB hw hp p (List.mem_of_mem_take z)
 ·rw [List.mem_singleton.mp z];exact hn _ (zlo ps) fun q hq=>ziB hw hp q (List.mem_of_mem_drop hq)
noncomputable def zpB:WS:=(zcf (zqZ (wTb (wOp oGt (zaf 3) (wC (.int 0)))) (wTb (wOp oLt (zaf 5) (wC (.int 5))))) (zas (wAsg (wOp (zed fun i j=> .int (i - j)) (zaf 3) (wC (.int 1))) (wGN 3))
  (zas (wAsg (zcL (zom (zpd (zdl (zab (zbA (zab (zll (wC (.int 1))) (zab (wC (.int 0)) (zab (wOp oIx (zaf 2) (wC (.int 2))) (zab (zcL (zdl waNil)) waNil))))) waNil)) (wOp (zed fun i j=> .int (i - j)) (zaf 8) (wB zeE (zab (zaf 4) waNil)))) (zaf 4))) (wGN 4))
  (zas (wAsg (wOp (zed fun i j=> .int (i - j)) (wB zeE (zab (zaf 4) waNil)) (zaf 8)) (wGN 11))
  (wAsg (zcL (zin (zpK (zaf 4) woN (woS (zaf 11))) (zdl (zab (wOp zcK (zaf 9) (zbA (zab (wSl (zaf 4) (woS (zaf 11)) woN) waNil))) waNil)))) (wGN 4))))) zaF)
theorem znM{r:Nat}:zer r zbe=(zas (wAsg (wOp (zci (fun _ j=>0<j) fun i j=> .int (i % j)) (zaf 6) (wC (.int 8))) (wGN 7))
  (zas (wAsg (zqw (zdl (zab (wC (.int 0)) (zab (wC (.int 0)) (zab (wC (.int 1)) (zab (wC (.int 2)) waNil))))) (wB ziG (zab (zaf 7) (zab (wC (.int 3)) waNil)))) (wGN 8))
  (zas (wAsg (zbA (zab (zll (wC (.int 1))) (zab (wC (.int 0)) (zab (wOp oIx (zaf 2) (zqw (zdl (zab (wC (.int 2)) (zab (wC (.int 5)) (zab (wC (.int 3)) (zab (wC (.int 4)) waNil))))) (wB ziG (zab (zaf 7) (zab (wC (.int 3)) waNil))))) waNil)))) (wGN 9))
  (zas (zcf (wTb (wOp oGt (zaf 7) (wC (.int 3)))) (zas (wAsg (wOp (zci (fun _ j=>0<j) fun i j=> .int (i % j)) (wOp (zci zhb fun i j=> .int (i / j)) (zaf 6) (wC (.int 8))) (wB zeE (zab (zaf 1) waNil))) (wGN 10))
  (zas (wAsg (zao (zaz r) (zab (wOp oIx (wOp oIx (zaf 1) (zaf 10)) (wC (.int 1))) waNil)) (wGN 8))
  (zas (wAsg (zbA (zab (zaf 10) (zab (wOp (zci (fun _ j=>0<j) fun i j=> .int (i % j)) (wOp (zci zhb fun i j=> .int (i / j)) (zaf 6) (wC (.int 64))) (wC (.int 8))) (zab (wC (.str "")) waNil)))) (wGN 9))
  (wAsg (wOp zcK (zaf 5) (wC (.int 1))) (wGN 5))))) zaF)
  zpB)))):=rfl
section
variable {w0 w1 w2 w3 w4 w5:Str}{r:Nat}{S:Sto}{aw st:Addr}{E:WX}{D:WEnds}
theorem zoh{need:Nat}{k b room spent:Int}{h:Str}{ps:List Pl}{vs:List W}{x0 x1 x6 x7 x10 x11:Option W}(hw:S aw=some (.lst (six w0 w1 w2 w3 w4 w5))) (hst:S st=some (.lst vs)) (hp:PlsAt S ps vs) (hn:need≤3) (hl:ps.length≤100)
  (h1:D.nx [x0,x1,some (.ref aw),some (.int room),some (.ref st),some (.int spent),x6,x7,some (.int need),some (.tup [.int k, .int b, .str h]),x10,x11] S)
  (h2:0<room→spent<5→ ∀(st':Addr) (S':Sto) (vs':List W) (x11:Option W),Sub S S'→S' st'=some (.lst vs')→PlsAt S' (push need w2 k b h ps) vs'→D.nx [x0,x1,some (.ref aw),some (.int (room - 1)),some (.ref st'),some (.int spent),x6,x7,some (.int need),some (.tup [.int k, .int b, .str h]),x10,x11] S') :
  zpB E D [x0,x1,some (.ref aw),some (.int room),some (.ref st),some (.int spent),x6,x7,some (.int need),some (.tup [.int k, .int b, .str h]),x10,x11] S:=by
 unfold zpB;walk_at "wp";split
 ·rename_i c1;split
  ·rename_i c2;simp only[zag hw,six2];have f1:=fun(a:Addr) (ha:S a=none)=>keep (x:=Ob.lst []) hst ha;refine⟨Nat.zero_le _,fun a ha=>⟨zal (by decide),zal (by decide),?_⟩⟩;rw [zag (f1 a ha),zag (f1 a ha)];have hlen:=hp.len;have en:((need:Int) - (vs.length:Int)).toNat=need - ps.length:=by omega
   rw [en];have pa:PlAt (put S a (Ob.lst [])) (pad w2) (.tup [.int (-1), .int 0, .str w2, .ref a]):= .nd zai .nil;have pp:PlsAt (put S a (Ob.lst [])) (zbo need w2 ps) ((List.replicate (need - ps.length) [W.tup [.int (-1), .int 0, .str w2, .ref a]]).flatten++vs):=(PlsAt.rep pa _).app (hp.sub (.put .refl ha));have pl:=pp.len;have sub1:Sub S (put S a (Ob.lst [])):= .put .refl ha;have hfl:((List.replicate (need - ps.length) [W.tup [.int (-1), .int 0, .str w2, .ref a]]).flatten).length≤3:=by
    rw [List.length_append,zdE]at pl;omega
   have e0:(1*(need - ps.length))≤sizeLine:=zal (by omega);refine⟨⟨by omega,by omega,e0⟩,zal (by omega),?_⟩
   generalize (List.replicate (need - ps.length) [W.tup [.int (-1), .int 0, .str w2, .ref a]]).flatten++vs=ys at pp pl⊢;generalize put S a (Ob.lst [])=S1 at pp sub1⊢;intro b2 hb2;have sub2:Sub S1 (put S1 b2 (.lst ys)):= .put .refl hb2;generalize put S1 b2 (Ob.lst ys)=S2 at sub2⊢;have hpl:=zdE need w2 ps;have ea:((ys.length:Nat):Int) - (need:Int)=((ys.length - need:Nat):Int):=by omega
   rw [ea,zkH,zkA];intro p hp3;have sub3:Sub S2 (put S2 p (.lst (ys.drop (ys.length - need)))):= .put .refl hp3;have fp:put S2 p (Ob.lst (ys.drop (ys.length - need))) p=some (.lst (ys.drop (ys.length - need))):=zai;generalize put S2 p (Ob.lst (ys.drop (ys.length - need)))=S3 at sub3 fp⊢;refine⟨zal (by decide),zal (by decide),zal (by decide),zal (by rw [List.length_take];omega),fun q hq=>?_⟩;have sub4:Sub S3 (put S3 q (.lst (ys.take (ys.length - need)++[.tup [.int k, .int b, .str h, .ref p]]))):= .put .refl hq;refine h2 c1 c2 q _ _ _ (((sub1.trans sub2).trans sub3).trans sub4) zai ?_;unfold push;have pp3:=pp.sub ((sub2.trans sub3).trans sub4);rw [←pl]at *;exact(pp3.take _).app (.cons (.nd (sub4 _ _ fp) (pp3.drop _)) .nil)
  ·exact h1
 ·exact h1
theorem zsl (n:Int) (h0:0≤n) (h1:n<8):∃m:Nat,m≤2∧atI [W.int 0,W.int 0,W.int 1,W.int 2] (if 3<n then 3 else n)=some (.int (m:Int)):=by
 rcases(show n=0∨n=1∨n=2∨(3≤n) by omega) with rfl |rfl |rfl |h
 ·exact⟨0,by decide,rfl⟩
 ·exact⟨0,by decide,rfl⟩
 ·exact⟨1,by decide,rfl⟩
 ·have:(if 3<n then 3 else n)=3:=by split<;>omega
  rw [this];exact⟨2,by decide,rfl⟩
theorem zrd (n:Int) (h0:0≤n) (h1:n<8):∃(i:Int) (x:Str),x∈ [w2,w3,w4,w5]∧atI [W.int 2,W.int 5,W.int 3,W.int 4] (if 3<n then 3 else n)=some (.int i)∧atI (six w0 w1 w2 w3 w4 w5) i=some (.str x):=by
 rcases(show n=0∨n=1∨n=2∨(3≤n) by omega) with rfl |rfl |rfl |h
 ·exact⟨2,w2,by simp,rfl,rfl⟩
 ·exact⟨5,w5,by simp,rfl,rfl⟩
 ·exact⟨3,w3,by simp,rfl,rfl⟩
 ·have:(if 3<n then 3 else n)=3:=by split<;>omega
  rw [this];exact⟨4,w4,by simp,rfl,rfl⟩
inductive PlI (S:Sto) (ac ab aw:Addr) (hs:List Str) (B:List Tn) (m:Nat) (ws:List W) (σ:WSt) (S':Sto):Prop
 |mk (ns:List Int) (ps:List Pl) (vs:List W) (st:Addr) (room spent:Int) (x6 x7 x8 x9 x10 x11:Option W):ws=ns.map W.int→Sub S S'→S' st=some (.lst vs)→PlsAt S' ps vs→(∀p∈ps,PlOk hs B p)→0≤room→room≤m→(pnts ps:Int)≤spent→pnts ps≤4→(pwts ps:Int)+ps.length≤2*(m - room)+pnts ps+2→
  σ=[some (.ref ac),some (.ref ab),some (.ref aw),some (.int room),some (.ref st),some (.int spent),x6,x7,x8,x9,x10,x11]→PlI S ac ab aw hs B m ws σ S'
inductive PlW (S:Sto) (hs:List Str) (B:List Tn) (m:Nat) (f:Addr→WSt) (mm:Nat) (σ:WSt) (S2:Sto):Prop
 |mk (ps:List Pl) (vs:List W) (st:Addr):mm=ps.length→Sub S S2→S2 st=some (.lst vs)→PlsAt S2 ps vs→(∀p∈ps,PlOk hs B p)→pnts ps≤4→pwts ps+ps.length≤2*m+pnts ps+2→σ=f st→PlW S hs B m f mm σ S2
theorem zoL{m:Nat}(hm9:m≤9) {Q:WK}{X:Str→Sto→Prop}{ac ab:Addr}{cells:List Int}{B:List Tn}(hc:S ac=some (.lst (cells.map W.int))) (hb:S ab=some (.lst (B.map zbc))) (hw:S aw=some (.lst (six w0 w1 w2 w3 w4 w5))) (bk:BkOk [w0,w1,w2,w3,w4,w5] [w2,w3,w4,w5] B) (hB:B≠ [])
  (h:∀(p:Pl) (v:W) (S':Sto),Sub S S'→PlAt S' p v→PlOk [w2,w3,w4,w5] B p→p.wt≤2*m+1+p.nt→p.nt≤4→Q v S'):zbB (r+10) [.ref ac, .ref ab, .ref aw, .int m] S Q X:=by
 rw [show r+10=r+9+1 from rfl,zbB];walk_at "wp";refine⟨Nat.zero_le _,fun st0 hst0=>?_⟩;rw [zag (keep hc hst0)];refine ziS (PlI S ac ab aw [w2,w3,w4,w5] B m) ?_ ?_ _ _ _ ⟨cells,[],[],st0,m,0,none,none,none,none,none,none,rfl, .put .refl hst0,zai, .nil,(fun _ h=>nomatch h),by omega,by omega,by simp [pnts],by simp [pnts],by simp [pnts,pwts],rfl⟩
 ·rintro w ws σ S' N ⟨ns,ps,vs,st,room,spent,x6,x7,x8,x9,x10,x11,ew,sub,hst,hp,ok,r0,r1,p0,p1,p2,rfl⟩ hN;cases ns with
  |nil=>cases ew
  |cons n ns=>
  cases ew;have fw:=sub _ _ hw;have fb:=sub _ _ hb;have fc:=sub _ _ hc;have m0:0≤n % 8:=Int.emod_nonneg _ (by decide);have m1:n % 8<8:=Int.emod_lt_of_pos _ (by decide);have hpl:=zfc ps;obtain⟨need,hneed,en⟩:=zsl (n % 8) m0 m1;obtain⟨i,hd,hhd,e1,e2⟩:=zrd (w0:=w0) (w1:=w1) (w2:=w2) (w3:=w3) (w4:=w4) (w5:=w5) (n % 8) m0 m1;have go:∀(need:Nat) (k b:Int) (hh:Str) (sp:Int) (x10:Option W),need≤3→(∀qs:List Pl,qs.length=need→(∀q∈qs,PlOk [w2,w3,w4,w5] B q)→PlOk [w2,w3,w4,w5] B (.nd k b hh qs))→(k<0∧need≤2∧sp=spent∨ ¬k<0∧sp=spent+1)→
    ∀(E:WX) (D:WEnds),D.nx=N→zpB E D [some (.ref ac),some (.ref ab),some (.ref aw),some (.int room),some (.ref st),some (.int sp),some (.int n),some (.int (n % 8)),some (.int need),some (.tup [.int k, .int b, .str hh]),x10,x11] S':=fun need k b hh sp x10 hn hok hk E D hD=>by
   subst hD;refine zoh fw hst hp hn (by omega) ?_ fun c1 c2 st' S2 vs' x11 sub2 hst2 hp2=>?_
   ·refine hN _ _ S' .refl fc ⟨ns,ps,vs,st,room,sp,_,_,_,_,_,_,rfl,sub,hst,hp,ok,r0,r1,by omega,p1,p2,rfl⟩
   ·obtain⟨s1,s2,s3⟩:=znH (need:=need) (w:=w2) (k:=k) (b:=b) (h:=hh) (ps:=ps);have hz:ps.length=0→pwts ps=0∧pnts ps=0:=fun z=>by
     cases ps with
     |nil=>exact⟨rfl,rfl⟩
     |cons _ _=>simp at z
    have fin:(pnts (push need w2 k b hh ps):Int)≤sp→pnts (push need w2 k b hh ps)≤4→(pwts (push need w2 k b hh ps):Int)+(push need w2 k b hh ps).length≤2*(m - (room - 1))+pnts (push need w2 k b hh ps)+2→D.nx [some (.ref ac),some (.ref ab),some (.ref aw),some (.int (room - 1)),some (.ref st'),some (.int sp),some (.int n),some (.int (n % 8)),some (.int need),some (.tup [.int k, .int b, .str hh]),x10,x11] S2:=fun f1 f2 f3=>
     hN _ _ S2 .refl (sub2 _ _ fc) ⟨ns,_,vs',st',room - 1,sp,_,_,_,_,_,_,rfl,sub.trans sub2,hst2,hp2,zrE (by simp) ok hok,by omega,by omega,f1,f2,f3,rfl⟩
    rcases hk with⟨kn,n2,es⟩ |⟨kp,es⟩
    ·rw [if_pos kn]at s2;refine fin (by omega) (by omega) ?_;rcases Nat.eq_zero_or_pos ps.length with z |z
     ·have:=hz z;omega
     ·omega
    ·rw [if_neg kp]at s2;refine fin (by omega) (by omega) ?_;rcases Nat.eq_zero_or_pos ps.length with z |z
     ·have:=hz z;omega
     ·omega
  rw [znM];walk_at "wp";simp only[en,e1];walk_at "wp";simp only[zag fw,e2];refine⟨by decide,zal (by decide),zal (by decide),zal (by decide),?_⟩;split
  ·have hbl:(B.map zbc)≠ []:=by simpa using hB
   obtain⟨j,x,ej,ex⟩:=znD (n / 8) hbl;have hlt:0<(B.map zbc).length:=List.length_pos_iff.mpr hbl;have ek:n / 8 % ((B.map zbc).length:Int)=(((n / 8 % ((B.map zbc).length:Int)).toNat:Nat):Int):=by
    have:=Int.emod_nonneg (n / 8) (show((B.map zbc).length:Int)≠0 by omega)
    omega
   have ek2:=zca (xs:=B.map zbc) (n:=(n / 8 % ((B.map zbc).length:Int)).toNat);rw [←ek,ex,List.getElem?_map]at ek2;cases et:B[(n / 8 % ((B.map zbc).length:Int)).toNat]? with
   |none=>rw [et]at ek2;cases ek2
   |some t=>
    rw [et]at ek2;have ext:x= .tup [.str t.1,enc t.2.1,enc t.2.2]:=by cases ek2;rfl
    have ht:t∈B:=List.mem_of_getElem? et;have LT:=bk.lf t ht;have hLd:=LT.dp;have hLw:=LT.wt;have hLn:=LT.nb;simp only[zag fb,ex,ext];walk_at "wp";rw [show atI [W.str t.1,enc t.2.1,enc t.2.2] 1=some (enc t.2.1) from rfl];refine⟨⟨by decide,by decide⟩,by omega,?_⟩
    refine zgI 4 hLd (by omega) (by omega) ⟨⟨by decide,by decide⟩,by decide,zal (by decide),?_⟩
    have b0:0≤n / 64 % 8:=Int.emod_nonneg _ (by decide);have b1:n / 64 % 8<8:=Int.emod_lt_of_pos _ (by decide);refine go t.2.1.nb _ _ _ _ _ hLn (fun qs hq hqs=>?_) (.inr ⟨by omega,rfl⟩) _ _ rfl;rw [ek];exact .turn et hq b0 b1 hqs
  ·exact go need (-1) 0 hd spent _ (by omega) (fun qs hq hqs=> .sign hhd hqs) (.inl ⟨by decide,hneed,rfl⟩) _ _ rfl
 ·rintro σ S' ⟨ns,ps,vs,st,room,spent,x6,x7,x8,x9,x10,x11,ew,sub,hst,hp,ok,r0,r1,p0,p1,p2,rfl⟩;have hpl:=zfc ps;refine⟨PlW S [w2,w3,w4,w5] B m (fun st=>[some (.ref ac),some (.ref ab),some (.ref aw),some (.int room),some (.ref st),some (.int spent),x6,x7,x8,x9,x10,x11]),⟨_,ps,vs,st,rfl,sub,hst,hp,ok,p1,by omega,rfl⟩,?_⟩
  rintro mm σ S2 ⟨ps,vs,st,rfl,sub,hst,hp,ok,p1,p2,rfl⟩;have hlen:=hp.len;have fw:=sub _ _ hw;walk_at "wp";rw [zag hst];split
  ·rename_i hgt;simp only[zet];walk_at "wp";simp only[zag hst,zag fw,six4];have c1:zcj vs none (some (-2))=vs.take (vs.length - 2):=ziT 2 (by decide);have c2:zcj vs (some (-2)) none=vs.drop (vs.length - 2):=zmK 2 (by decide);rw [c1,c2];intro p hp3;have sub3:Sub S2 (put S2 p (.lst (vs.drop (vs.length - 2)))):= .put .refl hp3;have fp:put S2 p (Ob.lst (vs.drop (vs.length - 2))) p=some (.lst (vs.drop (vs.length - 2))):=zai;generalize put S2 p (Ob.lst (vs.drop (vs.length - 2)))=S3 at sub3 fp⊢;refine⟨zal (by decide),zal (by decide),zal (by rw [List.length_take];omega),fun q hq=>?_⟩;have sub4:Sub S3 (put S3 q (.lst (vs.take (vs.length - 2)++[.tup [.int (-1), .int 0, .str w4, .ref p]]))):= .put .refl hq;have hp4:=hp.sub (sub3.trans sub4);have hw3:=zbS (ps.take (vs.length - 2)) (ps.drop (vs.length - 2));have hn3:=zbz (ps.take (vs.length - 2)) (ps.drop (vs.length - 2));rw [List.take_append_drop]at hw3 hn3;refine⟨_,_,?_, .refl,ps.take (vs.length - 2)++[.nd (-1) 0 w4 (ps.drop (vs.length - 2))],_,q,rfl,(sub.trans sub3).trans sub4,zai,(hp4.take _).app (.cons (.nd (sub4 _ _ fp) (hp4.drop _)) .nil),fun x hx=>?_,?_,?_,rfl⟩
   ·rw [List.length_append,List.length_take,List.length_singleton];omega
   ·rcases List.mem_append.mp hx with z |z
    ·exact ok x (List.mem_of_mem_take z)
    ·rw [List.mem_singleton.mp z];exact .sign (by simp) fun y hy=>ok y (List.mem_of_mem_drop hy)
   ·rw [zbz,pnts,pnts,Pl.nt,if_pos (by decide)];omega
   ·rw [zbS,pwts,pwts,Pl.wt,List.length_append,List.length_take,List.length_singleton,zbz,pnts,pnts,Pl.nt,if_pos (by decide)];omega
  ·rename_i hle
   try walk_at "wp"
   simp only[zag fw,zxB];refine⟨Nat.zero_le _,fun a ha=>⟨zal (by decide),zal (by decide),?_⟩⟩;rw [zag (keep hst ha)];refine⟨zal (by omega),?_⟩;cases hp with
   |nil=>
    exact⟨_, .refl,h (pad w5) _ _ (sub.trans (.put .refl ha)) (.nd zai .nil) (.sign (by simp) fun _ z=>nomatch z) (by simp [pad,Pl.wt,pwts];omega) (by simp [pad,Pl.nt,pnts])⟩
   | @cons p v ps vs h1 h2=>
    rw [List.cons_append,zgD];have e0:ps=[]:=by
     cases ps with
     |nil=>rfl
     |cons q qs=>
      have:=h2.len;simp only[List.length_cons]at this hle;omega
    subst e0;simp only[pwts,pnts,List.length_cons,List.length_nil]at p1 p2;exact⟨_, .refl,h p v _ (sub.trans (.put .refl ha)) (h1.sub (.put .refl ha)) (ok p List.mem_cons_self) (by omega) (by omega)⟩
end
section
variable {r:Nat}{S:Sto}{Q:WK}{E:Str→Sto→Prop}{a:Addr}{B:List Tn}
noncomputable def zpu:Option Tn→W
 |some t=>zbc t
 |none=> .non
theorem zht (B:List Tn) (s:Str):B.findSome? (fun t=>if t.1 == s then some (zbc t) else none)=(zaR B s).map zbc:=by
 unfold zaR
 induction B with
 |nil=>rfl
 |cons t B ih=>
  rw [List.findSome?_cons,List.find?_cons];cases e:t.1 == s with
  |true=>rfl
  |false=>simpa using ih
theorem zij{s:Str}(ha:S a=some (.lst (B.map zbc))) (h:Q (zpu (zaR B s)) S):zbE (r+1) [.ref a, .str s] S Q E:=by
 rw [zbE];walk_at "wp";rw [zag ha];refine zep (S:=S) ?_ (fun σ=>∃x,σ=[some (.ref a),some (.str s),x]) zbc (fun t=>if t.1 == s then some (zbc t) else none) B _ ⟨_,rfl⟩ (fun t ht σ N hI hno hret=>?_) (fun e σ hI=>?_) fun w e S' sb=>?_
 ·exact ha
 ·obtain⟨x,rfl⟩:=hI;simp only[zdJ];have ee:zbc t= .tup [.str t.1,enc t.2.1,enc t.2.2]:=rfl;rw [ee];walk_at "wp";cases e:t.1 == s with
  |true=>
   rw [e]at hret;exact hret _ rfl _ .refl
  |false=>
   rw [e]at hno;exact hno rfl _ _ ⟨_,rfl⟩ .refl
 ·obtain⟨x,rfl⟩:=hI;walk_at "wp";rw [zht]at e;have:zaR B s=none:=by
   cases q:zaR B s with
   |none=>rfl
   |some t=>rw [q]at e;cases e
  rw [this]at h;exact⟨_, .refl,h⟩
 ·rw [zht]at e;cases q:zaR B s with
  |none=>rw [q]at e;cases e
  |some t=>
   rw [q]at e h;cases e;exact⟨_,sb,h⟩
end
noncomputable def byC (f:Int):Int→Nat:=fun b=>if b / f % 2=1 then 1 else 0
theorem PlsAt.zip{S:Sto}:∀{ps:List Pl}{vs:List W},PlsAt S ps vs→ ∀x∈ps.zip vs,PlAt S x.1 x.2∧x.1∈ps
 |_,_, .nil,x,h=>by simp at h
 |_,_, .cons a b,x,h=>by
  rw [List.zip_cons_cons]at h;rcases List.mem_cons.mp h with rfl |h
  ·exact⟨a,List.mem_cons_self⟩
  ·have:=PlsAt.zip b x h;exact⟨this.1,List.mem_cons_of_mem _ this.2⟩
theorem PlsAt.snd{S:Sto}{ps:List Pl}{vs:List W}(h:PlsAt S ps vs):(ps.zip vs).map Prod.snd=vs:=List.map_snd_zip (by rw [h.len];exact Nat.le_refl _)
theorem PlsAt.fst{S:Sto}{ps:List Pl}{vs:List W}(h:PlsAt S ps vs) {α:Type}(f:Pl→α):(ps.zip vs).map (fun x=>f x.1)=ps.map f:=by
 have:(ps.zip vs).map Prod.fst=ps:=List.map_fst_zip (by rw [h.len];exact Nat.le_refl _)
 conv=>rhs;rw [←this,List.map_map]
 rfl
section
variable {S:Sto}{a:Addr}{ws hs:List Str}{B:List Tn}
theorem zpP{f:Int}(hf:f=1∨f=2∨f=4∨f=8) (ha:S a=some (.lst (B.map zbc))) (b:BkOk ws hs B):∀(d:Nat) {p:Pl}{v:W}{r:Nat}{Q:WK}{E:Str→Sto→Prop},p.dp≤d→d+8≤r→PlAt S p v→PlOk hs B p→p.wt≤1000→Q (enc (p.ev B (byC f))) S→zbD (r+1) [v, .ref a, .int f] S Q E
 |0,p,v,r,Q,E,hd,hr,hp,ok,hw,h=>by have:=zsi p;omega
 |d+1, .nd k b' hh ps,v,r,Q,E,hd,hr,hp,ok,hw,h=>by
  cases hp with
  | @nd _ _ _ _ c vs hc hps=>
  simp only[Pl.dp]at hd;simp only[Pl.wt]at hw;have hlen:=zfc ps;obtain⟨r,rfl⟩:∃r',r=r'+1:=⟨r - 1,by omega⟩
  rw [zbD];walk_at "wp";rw [zag hc];rw [←hps.snd];have okp:∀x∈ps,PlOk hs B x:=by
   cases ok with
   |sign _ h=>exact h
   |turn _ _ _ _ h=>exact h
  refine zbd (fun σ=>∃x,σ=[x,some (.ref a),some (.int f)]) Prod.snd (fun x=>enc (x.1.ev B (byC f))) ?_ (ps.zip vs) [] _ ⟨none,rfl⟩ (by simp;omega) (fun x hx σ R hI hR=>?_) ?_
  ·rw [hps.snd];exact hc
  ·obtain⟨y,rfl⟩:=hI;obtain⟨h1,h2⟩:=hps.zip x hx;have:=zkJ h2;have:=zkG h2;simp only[zeP];walk_at "wp";exact zpP hf ha b d (by omega) (by omega) h1 (okp _ h2) (by omega) (hR _ _ ⟨_,rfl⟩ .refl)
  ·rw [List.nil_append,hps.fst fun p=>enc (p.ev B (byC f))];intro q hq;have eu:(ps.map fun p=>enc (p.ev B (byC f)))=encs (ps.map (Pl.ev B (byC f))):=by rw [zaG,List.map_map];rfl
   rw [eu];have fq:put S q (Ob.lst (encs (ps.map (Pl.ev B (byC f))))) q=some (.lst (encs (ps.map (Pl.ev B (byC f))))):=zai;have fa:=keep (x:=Ob.lst (encs (ps.map (Pl.ev B (byC f))))) ha hq;have sub:Sub S (put S q (Ob.lst (encs (ps.map (Pl.ev B (byC f)))))):= .put .refl hq;generalize put S q (Ob.lst (encs (ps.map (Pl.ev B (byC f)))))=S1 at fq fa sub⊢
   try walk_at "wp"
   cases ok with
   |sign hs' _=>
    rw [if_pos (by decide)]
    try rw [zag fq]
    rw [zbk]at h;rw [zbh,List.length_map];simp only[enc]at h;exact⟨zal (by decide),zal (by omega),_,sub,h⟩
   | @turn k _ _ _ t e hl b0 b1 _=>
    have ek:atI (B.map zbc) (k:Int)=some (.tup [.str t.1,enc t.2.1,enc t.2.2]):=by
     rw [zca,List.getElem?_map,e];rfl
    have hdiv:zhb b' f:=by rcases hf with rfl |rfl |rfl |rfl<;>exact⟨by decide,by decide⟩
    have ht:t∈B:=List.mem_of_getElem? e;rw [zaT e]at h;rw [if_neg (by omega)];refine⟨hdiv,by decide,?_⟩
    simp only[zag fa,ek];by_cases e1:b' / f % 2=1
    ·rw [e1];have:byC f b'=1:=by unfold byC;rw [if_pos e1]
     rw [this]at h;simp only[evT,enc]at h
     try walk_at "wp"
     try rw [zag fq]
     rw [zbh,List.length_map];exact⟨zal (by decide),zal (by omega),_,sub,h⟩
    ·have e2:(b' / f % 2 == 1)=false:=by simpa using e1
     rw [e2];have:byC f b'=0:=by unfold byC;rw [if_neg e1]
     rw [this]at h;simp only[evT]at h;walk_at "wp";rw [show atI [W.str t.1,enc t.2.1,enc t.2.2] 1=some (enc t.2.1) from rfl];dsimp only;have hLd:=(b.lf t ht).dp;have hLw:=(b.lf t ht).wt;have hLn:=(b.lf t ht).nb;exact zeM 4 hLd (by omega) fq (by rw [List.length_map,hl];exact(b.lf t ht).fits) (by omega) ⟨_,sub,h⟩
end
noncomputable def zaB (n:Int) (t:Tn):Tr:=if n=1 then t.2.1 else t.2.2
structure Sides (g:Tn→Tr) (B:List Tn):Prop where
  fits:∀t∈B,(g t).fits t.2.1.nb
  dp:∀t∈B,(g t).depth≤4
  wt:∀t∈B,(g t).weight≤10
mutual
noncomputable def Tr.ar (B:List Tn):Tr→Prop
 | .bl _=>False
 | .nd s ts=>(∀t,zaR B s=some t→ts.length=t.2.1.nb)∧ars B ts
noncomputable def ars (B:List Tn):List Tr→Prop
 | []=>True
 |t::ts=>t.ar B∧ars B ts
end
theorem ars_iff{B:List Tn}:∀{ts:List Tr},ars B ts↔ ∀t∈ts,t.ar B
 | []=>by simp [ars]
 |t::ts=>by simp [ars,ars_iff (ts:=ts)]
mutual
theorem zqX{B:List Tn}:∀t:Tr,t.way B=true→t.ar B
 | .bl n,h=>by simp [Tr.way]at h
 | .nd s ts,h=>by
  simp only[Tr.way,Bool.and_eq_true]at h;simp only[Tr.ar];refine⟨fun t ht=>?_,zpN ts h.2⟩;have:=h.1;rw [topB,ht]at this;simpa using this
theorem zpN{B:List Tn}:∀ts:List Tr,zln B ts=true→ars B ts
 | [],h=>by simp [ars]
 |t::ts,h=>by
  simp only[zln,Bool.and_eq_true]at h;simp only[ars];exact⟨zqX t h.1,zpN ts h.2⟩
end
section
variable {S:Sto}{a:Addr}{B:List Tn}{n:Int}
theorem znp (t:Tn) (h:n=1∨n=2):atI [W.str t.1,enc t.2.1,enc t.2.2] n=some (enc (zaB n t)):=by
 rcases h with rfl |rfl<;>rfl
theorem zhn (ha:S a=some (.lst (B.map zbc))) (hn:n=1∨n=2) (hg:Sides (zaB n) B):∀(d:Nat) {t:Tr}{r:Nat}{Q:WK}{E:Str→Sto→Prop},t.depth≤d→d+10≤r→t.ar B→t.weight≤1000→Q (enc (t.mk B (zaB n))) S→zbl (r+1) [.ref a,enc t, .int n] S Q E
 |0,t,r,Q,E,hd,hr,hh,hw,h=>by have:=zbK t;omega
 |d+1, .bl k,r,Q,E,hd,hr,hh,hw,h=>by simp [Tr.ar]at hh
 |d+1, .nd s ts,r,Q,E,hd,hr,hh,hw,h=>by
  simp only[Tr.depth]at hd;simp only[Tr.weight]at hw;simp only[Tr.ar]at hh;have hk:=zcJ ts;obtain⟨r,rfl⟩:∃r',r=r'+1:=⟨r - 1,by omega⟩
  rw [zbl];simp only[enc];walk_at "wp";rw [zaG];refine zbd (fun σ=>∃x,σ=[x,some (.ref a),some (.int n)]) enc (fun t=>enc (t.mk B (zaB n))) trivial ts [] _ ⟨none,rfl⟩ (by simp;omega) (fun x hx σ R hI hR=>?_) ?_
  ·obtain⟨y,rfl⟩:=hI;have hdx:=zcH hx;have hwx:=zdM hx;simp only[zdL];walk_at "wp";exact zhn ha hn hg d (by omega) (by omega) (ars_iff.mp hh.2 x hx) (by omega) (hR _ _ ⟨_,rfl⟩ .refl)
  ·rw [List.nil_append];intro q hq;have eu:(ts.map fun t=>enc (t.mk B (zaB n)))=encs (ts.map (Tr.mk B (zaB n))):=by rw [zaG,List.map_map];rfl
   rw [eu];have fq:put S q (Ob.lst (encs (ts.map (Tr.mk B (zaB n))))) q=some (.lst (encs (ts.map (Tr.mk B (zaB n))))):=zai;have fa:=keep (x:=Ob.lst (encs (ts.map (Tr.mk B (zaB n))))) ha hq;have sub:Sub S (put S q (Ob.lst (encs (ts.map (Tr.mk B (zaB n)))))):= .put .refl hq;generalize put S q (Ob.lst (encs (ts.map (Tr.mk B (zaB n)))))=S1 at fq fa sub⊢;refine zij fa ?_;cases e:zaR B s with
   |none=>
    rw [zjg e]at h;simp only[zpu]
    try walk_at "wp"
    try rw [zag fq]
    rw [zbh,List.length_map];simp only[enc]at h;exact⟨zal (by decide),zal (by omega),_,sub,h⟩
   |some t=>
    have ht:t∈B:=List.mem_of_find?_eq_some e;have ee:zpu (some t)= .tup [.str t.1,enc t.2.1,enc t.2.2]:=rfl;rw [zjd e]at h;rw [ee]
    try walk_at "wp"
    rw [znp t hn];dsimp only;have hgw:=hg.wt t ht;exact zhV 4 (hg.dp t ht) (by omega) fq (by rw [List.length_map,hh.1 t e];exact hg.fits t ht) (by omega) ⟨_,sub,h⟩
theorem zhd{t:Tr}(h1:t.weight≤400) (h2:t.depth≤40):t.small=true:=by
 unfold Tr.small;rw [decide_eq_true h1,decide_eq_true h2];rfl
theorem ok_source{t:Tr}{r:Nat}{Q:WK}{E:Str→Sto→Prop}(ha:S a=some (.lst (B.map zbc))) (hg:Sides (zaB 1) B) (hd:t.depth≤40) (hr:60≤r) (hh:t.ar B) (hw:t.weight≤1000) (h1:(t.mk B (zaB 1)).weight≤400) (h2:(t.mk B (zaB 1)).depth≤40) (h:Q (enc (t.mk B (zaB 1))) S):zdd (r+1) [.ref a,enc t] S Q E:=by
 obtain⟨r,rfl⟩:∃r',r=r'+5:=⟨r - 5,by omega⟩
 rw [zdd];walk_at "wp";refine zhn ha (.inl rfl) hg 40 (r:=r+4) hd (by omega) hh hw ?_;rw [zaP];walk_at "wp";refine zeL (r:=r+1) (by omega) ?_;rw [zhd h1 h2]
 try walk_at "wp"
 exact⟨_, .refl,_, .refl,h⟩
theorem ok_goal{t:Tr}{r:Nat}{Q:WK}{E:Str→Sto→Prop}(ha:S a=some (.lst (B.map zbc))) (hg:Sides (zaB 2) B) (hd:t.depth≤40) (hr:60≤r) (hh:t.ar B) (hw:t.weight≤1000) (h1:(t.mk B (zaB 2)).weight≤400) (h2:(t.mk B (zaB 2)).depth≤40) (h:Q (enc (t.mk B (zaB 2))) S):zeS (r+1) [.ref a,enc t] S Q E:=by
 obtain⟨r,rfl⟩:∃r',r=r'+5:=⟨r - 5,by omega⟩
 rw [zeS];walk_at "wp";refine zhn ha (.inr rfl) hg 40 (r:=r+4) hd (by omega) hh hw ?_;rw [zaP];walk_at "wp";refine zeL (r:=r+1) (by omega) ?_;rw [zhd h1 h2]
 try walk_at "wp"
 exact⟨_, .refl,_, .refl,h⟩
end
mutual
theorem zrC{P:Str→Prop}:∀(l t:Tr) (ys:List Tr),l.mt t=some ys→t.hd P→hds P ys∧wts ys≤t.weight
 | .bl _,t,ys,h,q=>by
  simp only[Tr.mt,Option.some.injEq]at h;subst h;simp only[hds,wts];exact⟨⟨q,trivial⟩,by omega⟩
 | .nd s ls, .nd z us,ys,h,q=>by
  simp only[Tr.mt]at h;simp only[Tr.hd]at q;split at h
  ·have:=zqi ls us ys h q.2;simp only[Tr.weight];exact⟨this.1,by omega⟩
  ·cases h
 | .nd _ _, .bl _,ys,h,q=>by simp [Tr.mt]at h
theorem zqi{P:Str→Prop}:∀(ls us ys:List Tr),mts ls us=some ys→hds P us→hds P ys∧wts ys≤wts us
 | [],us,ys,h,q=>by simp only[mts,Option.some.injEq]at h;subst h;simp [hds,wts]
 |l::ls,[],ys,h,q=>by simp only[mts,Option.some.injEq]at h;subst h;simp [hds,wts]
 |l::ls,u::us,ys,h,q=>by
  simp only[mts]at h;simp only[hds]at q;split at h
  ·cases h
  ·rename_i xs ex;split at h
   ·cases h
   ·rename_i zs ez;simp only[Option.some.injEq]at h;subst h;have h1:=zrC l u xs ex q.1;have h2:=zqi ls us zs ez q.2;rw [zdz,wts];exact⟨zml h1.1 h2.1,by omega⟩
end
mutual
theorem zgT{P:Str→Prop}{m:Nat}:∀t:Tr,t.hd P→t.fits m
 | .bl n,h=>by simp [Tr.hd]at h
 | .nd s ts,h=>by
  simp only[Tr.hd]at h;simp only[Tr.fits];exact zkN ts h.2
theorem zkN{P:Str→Prop}{m:Nat}:∀ts:List Tr,hds P ts→fitss m ts
 | [],h=>by simp [fitss]
 |t::ts,h=>by
  simp only[hds]at h;simp only[fitss];exact⟨zgT t h.1,zkN ts h.2⟩
end
section
variable {B:List Tn}
theorem Mv.nd{n:Nat}{x y z:Tr}:Mv B n x y z→ ∃s ts z' us,x= .nd s ts∧y= .nd z' us
 | .nn _ _ _=>⟨_,_,_,_,rfl,rfl⟩
 | .ns _ _ _ _ _=>⟨_,_,_,_,rfl,rfl⟩
 | .sn _ _ _ _=>⟨_,_,_,_,rfl,rfl⟩
 | .ss _ _ _ _=>⟨_,_,_,_,rfl,rfl⟩
end
theorem ztk:zaB 1=fun t=>t.2.1:=by funext t;exact if_pos rfl
theorem zsR:zaB 2=fun t=>t.2.2:=by funext t;exact if_neg (by decide)
section
variable {ws hs:List Str}{B:List Tn}
theorem BkOk.s1 (b:BkOk ws hs B):Sides (zaB 1) B:=by
 rw [ztk];refine⟨fun t ht=>(b.lf t ht).fits,fun t ht=>(b.lf t ht).dp,fun t ht=>?_⟩;have h1:=(b.lf t ht).wt;have h2:=(b.lf t ht).nb;show t.2.1.weight≤10;omega
theorem BkOk.s2 (b:BkOk ws hs B):Sides (zaB 2) B:=by
 rw [zsR];refine⟨fun t ht=>zdB (b.ri t ht),fun t ht=>?_,fun t ht=>?_⟩
 ·have:=zfn (b.ri t ht);show t.2.2.depth≤4;omega
 ·have:=ziu (b.ri t ht);show t.2.2.weight≤10;omega
mutual
theorem zwo:∀(L t:Tr) (ys:List Tr),L.mt t=some ys→ ∀y∈ys,y.depth≤t.depth
 | .bl n,t,ys,e,y,hy=>by
  rw [Tr.mt]at e;cases e;rw [List.mem_singleton]at hy;rw [hy];exact Nat.le_refl _
 | .nd s ls, .bl n,ys,e,y,hy=>by rw [Tr.mt]at e;cases e
 | .nd s ls, .nd z us,ys,e,y,hy=>by
  rw [Tr.mt]at e;split at e
  ·have:=zmu ls us ys e y hy;rw [Tr.depth];omega
  ·cases e
theorem zmu:∀(ls us ys:List Tr),mts ls us=some ys→ ∀y∈ys,y.depth≤dts us
 | [],us,ys,e,y,hy=>by rw [mts]at e;cases e;cases hy
 |l::ls,[],ys,e,y,hy=>by rw [mts]at e;cases e;cases hy
 |l::ls,u::us,ys,e,y,hy=>by
  rw [mts]at e;cases q1:l.mt u with
  |none=>rw [q1]at e;cases e
  |some xs=>
   rw [q1]at e;cases q2:mts ls us with
   |none=>rw [q2]at e;cases e
   |some zs=>
    rw [q2]at e;cases e;rw [dts];rcases List.mem_append.mp hy with hy |hy
    ·have:=zwo l u xs q1 y hy;omega
    ·have:=zmu ls us zs q2 y hy;omega
end
structure Pk (ws hs:List Str) (B:List Tn) (p:Pl):Prop where
  b:BkOk ws hs B
  m:zvp B
  o:PlOk hs B p
  dp:∀{c:Int→Nat},(p.ev B c).depth≤40
  wt:∀{c:Int→Nat},(p.ev B c).weight≤400
theorem Pk.ar (k:Pk ws hs B p):(p.ev B c).ar B:=zqX _ (zqb k.b k.o)
theorem Pk.src (k:Pk ws hs B p):(p.ev B c).mk B (zaB 1)=p.ev B (zfW c):=by rw [ztk];exact zeh k.b k.o
theorem Pk.goal (k:Pk ws hs B p):(p.ev B c).mk B (zaB 2)=p.ev B (zbG c):=by rw [zsR];exact zdW k.b k.o
theorem Pk.ok_source (k:Pk ws hs B p) (ha:S a=some (.lst (B.map zbc))) (hr:60≤r) (h:Q (enc (p.ev B (zfW c))) S):zdd (r+1) [.ref a,enc (p.ev B c)] S Q E:=by
 have h1:=k.wt (c:=c);have h2:=k.dp (c:=c);have h3:=k.wt (c:=zfW c);have h4:=k.dp (c:=zfW c);exact L2.ok_source ha k.b.s1 (by omega) hr k.ar (by omega) (by rw [k.src];omega) (by rw [k.src];omega) (by rw [k.src];exact h)
theorem Pk.ok_goal (k:Pk ws hs B p) (ha:S a=some (.lst (B.map zbc))) (hr:60≤r) (h:Q (enc (p.ev B (zbG c))) S):zeS (r+1) [.ref a,enc (p.ev B c)] S Q E:=by
 have h1:=k.wt (c:=c);have h2:=k.dp (c:=c);have h3:=k.wt (c:=zbG c);have h4:=k.dp (c:=zbG c);exact L2.ok_goal ha k.b.s2 (by omega) hr k.ar (by omega) (by rw [k.goal];omega) (by rw [k.goal];omega) (by rw [k.goal];exact h)
end
theorem zvC (f x:Int):byC f x≤1:=by unfold byC;split<;>omega
section
variable {S:Sto}{a:Addr}{B:List Tn}{n:Int}
theorem zii (B:List Tn) (s:Str) (g:Tn→W):B.findSome? (fun t=>if t.1 == s then some (g t) else none)=(zaR B s).map g:=by
 unfold zaR
 induction B with
 |nil=>rfl
 |cons t B ih=>
  rw [List.findSome?_cons,List.find?_cons];cases e:t.1 == s with
  |true=>rfl
  |false=>simpa using ih
theorem ziO (hnd:(B.map fun t=>t.1).Nodup) (ha:S a=some (.lst (B.map zbc))) (hn:n=1∨n=2) (hg:Sides (zaB n) B):∀(d:Nat) {t:Tr}{r:Nat}{Q:WK}{E:Str→Sto→Prop},t.depth≤d→d+10≤r→t.ar B→t.weight≤1000→Q (enc (t.mk B (zaB n))) S→zaC (r+1) [.ref a,enc t, .int n] S Q E
 |0,t,r,Q,E,hd,hr,hh,hw,h=>by have:=zbK t;omega
 |d+1, .bl k,r,Q,E,hd,hr,hh,hw,h=>by simp [Tr.ar]at hh
 |d+1, .nd s ts,r,Q,E,hd,hr,hh,hw,h=>by
  simp only[Tr.depth]at hd;simp only[Tr.weight]at hw;simp only[Tr.ar]at hh;have hk:=zcJ ts;obtain⟨r,rfl⟩:∃r',r=r'+1:=⟨r - 1,by omega⟩
  rw [zaC];simp only[enc];walk_at "wp";rw [zaG];refine zbd (fun σ=>∃x,σ=[x,some (.ref a),some (.int n)]) enc (fun t=>enc (t.mk B (zaB n))) trivial ts [] _ ⟨none,rfl⟩ (by simp;omega) (fun x hx σ R hI hR=>?_) ?_
  ·obtain⟨y,rfl⟩:=hI;have hdx:=zcH hx;have hwx:=zdM hx;simp only[zeA];walk_at "wp";exact ziO hnd ha hn hg d (by omega) (by omega) (ars_iff.mp hh.2 x hx) (by omega) (hR _ _ ⟨_,rfl⟩ .refl)
  ·rw [List.nil_append];intro q hq;have eu:(ts.map fun t=>enc (t.mk B (zaB n)))=encs (ts.map (Tr.mk B (zaB n))):=by rw [zaG,List.map_map];rfl
   rw [eu,←zaG];have fq:put S q (Ob.lst (encs (ts.map (Tr.mk B (zaB n))))) q=some (.lst (encs (ts.map (Tr.mk B (zaB n))))):=zai;have fa:=keep (x:=Ob.lst (encs (ts.map (Tr.mk B (zaB n))))) ha hq;have sub:Sub S (put S q (Ob.lst (encs (ts.map (Tr.mk B (zaB n)))))):= .put .refl hq;generalize put S q (Ob.lst (encs (ts.map (Tr.mk B (zaB n)))))=S1 at fq fa sub⊢
   try walk_at "wp"
   rw [zag fa];refine zep (S:=S1) ?_ (fun σ=>∃x,σ=[some (.ref a),some (.tup (.str s::encs ts)),some (.int n),some (.ref q),x]) zbc (fun t=>if t.1 == s then some (enc ((zaB n t).fill (ts.map (Tr.mk B (zaB n))))) else none) B _ ⟨_,rfl⟩ (fun t ht σ N hI hno hret=>?_) (fun e σ hI=>?_) fun w e S' sb=>?_
   ·exact fa
   ·obtain⟨x,rfl⟩:=hI;simp only[zeu];have ee:zbc t= .tup [.str t.1,enc t.2.1,enc t.2.2]:=rfl;rw [ee];walk_at "wp";cases e:t.1 == s with
    |true=>
     rw [e]at hret
     try walk_at "wp"
     rw [znp t hn];dsimp only;have et:t.1=s:=by simpa using e
     have hgw:=hg.wt t ht;refine zeM 4 (hg.dp t ht) (by omega) fq ?_ (by omega) (hret _ rfl _ .refl);rw [List.length_map,hh.1 t (by rw [←et];exact zcX hnd ht)];exact hg.fits t ht
    |false=>
     rw [e]at hno;exact hno rfl _ _ ⟨_,rfl⟩ .refl
   ·obtain⟨x,rfl⟩:=hI;rw [zii]at e;have e0:zaR B s=none:=by
     cases z:zaR B s with
     |none=>rfl
     |some t=>rw [z]at e;cases e
    rw [zjg e0]at h
    try walk_at "wp"
    rw [zki]
    try rw [zag fq]
    try walk_at "wp"
    simp only[enc]at h;refine⟨zal ?_,_,sub,h⟩;rw [zbh,List.length_map];omega
   ·rw [zii]at e;cases z:zaR B s with
    |none=>rw [z]at e;cases e
    |some t=>
     rw [z]at e;rw [zjd z]at h;cases e;exact⟨_,sub.trans sb,h⟩
end
section
variable {S:Sto}{a:Addr}{ws hs:List Str}{B:List Tn}{c:Int→Nat}{p:Pl}{r:Nat}{Q:WK}{E:Str→Sto→Prop}
theorem Pk.ok_made1 (k:Pk ws hs B p) (ha:S a=some (.lst (B.map zbc))) (hr:60≤r) (h:Q (enc (p.ev B (zfW c))) S):zaC (r+1) [.ref a,enc (p.ev B c), .int 1] S Q E:=by
 have h1:=k.wt (c:=c);have h2:=k.dp (c:=c);exact ziO k.b.nd ha (.inl rfl) k.b.s1 40 h2 (by omega) k.ar (by omega) (by rw [k.src];exact h)
theorem Pk.ok_made2 (k:Pk ws hs B p) (ha:S a=some (.lst (B.map zbc))) (hr:60≤r) (h:Q (enc (p.ev B (zbG c))) S):zaC (r+1) [.ref a,enc (p.ev B c), .int 2] S Q E:=by
 have h1:=k.wt (c:=c);have h2:=k.dp (c:=c);exact ziO k.b.nd ha (.inr rfl) k.b.s2 40 h2 (by omega) k.ar (by omega) (by rw [k.goal];exact h)
end
noncomputable def pps (B:List Tn) (s:Str) (n:Nat):List (List Int):=match zaR B s with
 |none=>(List.range n).map fun(i:Nat)=>[(i:Int)]
 |some t=>t.2.1.bls.map fun x=>x.1
noncomputable def zxf (c:Int→Nat) (xs:List (List Int×Int×Str)):List (List Int×Str):=(xs.filter fun x=>c x.2.1 == 1).map fun x=>(x.1,x.2.2)
noncomputable def zes (B:List Tn) (t:Tr):Option Tn:=B.find? fun u=>(u.2.1.mt t).isSome
mutual
noncomputable def Tr.op (B:List Tn) (p:List Int):Tr→List (List Int×Str)
 | .bl _=>[]
 | .nd s ts=>(match zes B (.nd s ts) with
  |none=>[]
  |some t=>[(p,t.1)])++ops B p 0 ts
noncomputable def ops (B:List Tn) (p:List Int) (i:Nat):List Tr→List (List Int×Str)
 | []=>[]
 |t::ts=>t.op B (p++[(i:Int)])++ops B p (i+1) ts
end
theorem zcT{n:Nat}{h c d:Str}{L:Tr}(hL:L∈leftsL n h c d):∃ts,L= .nd h ts:=by
 unfold leftsL at hL;split at hL<;>simp only[List.mem_cons,List.not_mem_nil,or_false]at hL
 all_goals first
  | (subst hL;exact⟨_,rfl⟩)
  | (rcases hL with rfl |rfl<;>exact⟨_,rfl⟩)
theorem ziR{s z:Str}{ls us:List Tr}(h:((Tr.nd s ls).mt (.nd z us)).isSome=true):s=z:=by
 simp only[Tr.mt]at h;split at h
 ·rename_i q;simp only[Bool.and_eq_true,beq_iff_eq]at q;exact q.1
 ·cases h
theorem zix{n:Nat}{h c d:Str}{L M x:Tr}(hL:L∈leftsL n h c d) (hM:M∈leftsL n h c d) (h1:(L.mt x).isSome=true) (h2:(M.mt x).isSome=true):L=M:=by
  cases x with
  |bl k=>
    obtain⟨ts,rfl⟩:=zcT hL;simp [Tr.mt]at h1
  |nd s ts=>
    unfold leftsL at hL hM;split at hL<;>simp only[List.mem_cons,List.not_mem_nil,or_false]at hL hM
    all_goals first
      | (rw [hL,hM])
      | (rcases hL with rfl |rfl<;>rcases hM with rfl |rfl<;>first
          |rfl
          | (exfalso
             rcases ts with _ |⟨u,us⟩
             · simp [Tr.mt]at h1
             · cases u with
               |bl k=>simp [Tr.mt,mts]at h1 h2
               |nd z vs=>
                 rcases vs with _ |⟨v,vs⟩
                 · simp [Tr.mt,mts]at h1 h2
                 · rcases vs with _ |⟨v',vs⟩
                   · cases v with
                     |bl k=>simp [Tr.mt,mts]at h1 h2
                     |nd z' xs=>
                       rcases xs with _ |⟨x',xs⟩
                       · simp [Tr.mt,mts]at h1 h2
                       · simp [Tr.mt,mts]at h1 h2
                   · simp [Tr.mt,mts]at h1 h2))
section
variable {w0 w1 w2 w3 w4 w5:Str}{tt:List Str}{B:List Tn}
theorem BookOk.one (b:BookOk w0 w1 w2 w3 w4 w5 tt B) (G:Signs w0 w1 w2 w3 w4 w5) {u v:Tn}(hu:u∈B) (hv:v∈B) {x:Tr}(h1:(u.2.1.mt x).isSome=true) (h2:(v.2.1.mt x).isSome=true):u.2.1=v.2.1:=by
 obtain⟨n,m,e⟩:=b.lf;have mu:u.2.1∈leftsL n w0 w2 w3++leftsL m w1 w2 w3:=by rw [←e];exact List.mem_map.mpr ⟨u,hu,rfl⟩
 have mv:v.2.1∈leftsL n w0 w2 w3++leftsL m w1 w2 w3:=by rw [←e];exact List.mem_map.mpr ⟨v,hv,rfl⟩
 have key:∀{L M:Tr},L∈leftsL n w0 w2 w3→M∈leftsL m w1 w2 w3→(L.mt x).isSome=true→(M.mt x).isSome=true→False:=fun {L M} hL hM k1 k2=>by
  obtain⟨ts,rfl⟩:=zcT hL;obtain⟨us,rfl⟩:=zcT hM;cases x with
  |bl k=>simp [Tr.mt]at k1
  |nd s vs=>exact G.n0 w1 (by simp) ((ziR k1).trans (ziR k2).symm)
 rcases List.mem_append.mp mu with z |z<;>rcases List.mem_append.mp mv with y |y
 ·exact zix z y h1 h2
 ·exact(key z y h1 h2).elim
 ·exact(key y z h2 h1).elim
 ·exact zix z y h1 h2
theorem zft (n:Nat) (h c d:Str):(leftsL n h c d).Nodup:=by
 unfold leftsL;split<;>simp
theorem BookOk.inj (b:BookOk w0 w1 w2 w3 w4 w5 tt B) (G:Signs w0 w1 w2 w3 w4 w5):(B.map fun t=>t.2.1).Nodup:=by
 obtain⟨n,m,e⟩:=b.lf;rw [e,List.nodup_append];refine⟨zft ..,zft ..,fun x hx y hy=>?_⟩;obtain⟨ts,rfl⟩:=zcT hx;obtain⟨us,rfl⟩:=zcT hy;intro z;cases z;exact G.n0 _ (by simp) rfl
theorem zqk{α β:Type}{f:α→β}:∀{xs:List α}{x y:α},(xs.map f).Nodup→x∈xs→y∈xs→f x=f y→x=y
 |z::xs,x,y,h,hx,hy,e=>by
  rw [List.map_cons,List.nodup_cons]at h;rcases List.mem_cons.mp hx with h1 |h1
  ·rcases List.mem_cons.mp hy with h2 |h2
   ·rw [h1,h2]
   ·exact(h.1 (List.mem_map.mpr ⟨y,h2,by rw [←e,h1]⟩)).elim
  ·rcases List.mem_cons.mp hy with h2 |h2
   ·exact(h.1 (List.mem_map.mpr ⟨x,h1,by rw [e,h2]⟩)).elim
   ·exact zqk h.2 h1 h2 e
end
mutual
inductive Wi (B:List Tn) (wn:List (List Int)):Nat→List Int→Tr→Tr→Prop
 |no {n:Nat}{p:List Int}{s:Str}{ts us:List Tr}:p∉wn→zaR B s=none→Wis B wn n p ((List.range ts.length).map fun(i:Nat)=>[(i:Int)]) ts us→Wi B wn (n+1) p (.nd s ts) (.nd s us)
 |yes {n:Nat}{p:List Int}{s:Str}{ts us ms:List Tr}{t:Tn}:p∈wn→zes B (.nd s ts)=some t→t.2.1.mt (.nd s ts)=some ms→zaR B t.1=some t→Wis B wn n p (t.2.1.bls.map fun x=>x.1) ms us→Wi B wn (n+1) p (.nd s ts) (.nd t.1 us)
inductive Wis (B:List Tn) (wn:List (List Int)):Nat→List Int→List (List Int)→List Tr→List Tr→Prop
 |nil {n:Nat}{p:List Int}:Wis B wn n p [] [] []
 |cons {n:Nat}{p q:List Int}{qs:List (List Int)}{t u:Tr}{ts us:List Tr}:Wi B wn n (p++q) t u→Wis B wn n p qs ts us→Wis B wn n p (q::qs) (t::ts) (u::us)
end
noncomputable def zhO (c:Int→Nat) (xs:List (List Int×Int×Str)):List (List Int):=(zxf c xs).map fun x=>x.1
noncomputable def ziN (x:List Int×Str):W:= .tup [zaM x.1, .str x.2]
section
variable {a:Addr}{B:List Tn}
structure Lft (B:List Tn):Prop where
  d:∀t∈B,t.2.1.depth≤4
  w:∀t∈B,t.2.1.weight≤10
theorem zlc{S:Sto}{r:Nat}{Q:WK}{E:Str→Sto→Prop}{s:Str}{ts:List Tr}(L:Lft B) (ha:S a=some (.lst (B.map zbc))) (hl:ts.length≤1000) (hr:20≤r) (h:∀q,S q=none→Q (.ref q) (put S q (.lst ((pps B s ts.length).map zaM)))):zbn (r+1) [.ref a,enc (.nd s ts)] S Q E:=by
 obtain⟨r,rfl⟩:∃r',r=r'+1:=⟨r - 1,by omega⟩
 rw [zbn];simp only[enc];walk_at "wp";refine zij ha ?_;unfold pps at h;cases e:zaR B s with
 |none=>
  rw [e]at h;simp only[zpu]
  try walk_at "wp"
  rw [zbh];have e1:(((ts.length+1:Nat):Int) - 1).toNat=ts.length:=by omega
  rw [e1];refine⟨⟨by omega,by omega⟩,?_⟩
  rw [zlC];refine zbd (fun σ=>∃x,σ=[x]) (fun i:Nat=>W.int i) (fun i=>zaM [(i:Int)]) trivial (List.range ts.length) [] _ ⟨none,rfl⟩ (by simp;omega) (fun x hx σ R hI hR=>?_) ?_
  ·obtain⟨y,rfl⟩:=hI;simp only[zds];walk_at "wp";exact⟨zal (by decide),hR _ _ ⟨_,rfl⟩ .refl⟩
  ·rw [List.nil_append];intro q hq;have:=h q hq;simp only[List.map_map]at this;exact⟨_, .refl,this⟩
 |some t=>
  rw [e]at h;have ht:t∈B:=List.mem_of_find?_eq_some e;have ee:zpu (some t)= .tup [.str t.1,enc t.2.1,enc t.2.2]:=rfl;rw [ee]
  try walk_at "wp"
  rw [show atI [W.str t.1,enc t.2.1,enc t.2.2] 1=some (enc t.2.1) from rfl];dsimp only;have h1:=L.d t ht;have h2:=L.w t ht;refine zlh (by omega) (by omega) fun q hq=>?_;have:=h q hq;simp only[List.map_map]at this;exact⟨_, .refl,this⟩
theorem ziL (B:List Tn) (x:Tr):B.findSome? (fun t=>if(t.2.1.mt x).isSome then some (zbc t) else none)=(zes B x).map zbc:=by
 unfold zes
 induction B with
 |nil=>rfl
 |cons t B ih=>
  rw [List.findSome?_cons,List.find?_cons];cases e:(t.2.1.mt x).isSome with
  |true=>rfl
  |false=>simpa using ih
theorem zfl{S:Sto}{r:Nat}{Q:WK}{E:Str→Sto→Prop}{x:Tr}(L:Lft B) (ha:S a=some (.lst (B.map zbc))) (hf:x.fits 0) (hr:20≤r) (h:Q (zpu (zes B x)) S):zbf (r+1) [.ref a,enc x] S Q E:=by
 obtain⟨r,rfl⟩:∃r',r=r'+1:=⟨r - 1,by omega⟩
 rw [zbf];walk_at "wp";rw [zag ha];refine zep (S:=S) ?_ (fun σ=>∃y,σ=[some (.ref a),some (enc x),y]) zbc (fun t=>if(t.2.1.mt x).isSome then some (zbc t) else none) B _ ⟨_,rfl⟩ (fun t ht σ N hI hno hret=>?_) (fun e σ hI=>?_) fun w e S' sb=>?_
 ·exact ha
 ·obtain⟨y,rfl⟩:=hI;simp only[zdk];have ee:zbc t= .tup [.str t.1,enc t.2.1,enc t.2.2]:=rfl;rw [ee];walk_at "wp";rw [show atI [W.str t.1,enc t.2.1,enc t.2.2] 1=some (enc t.2.1) from rfl];dsimp only;have h1:=L.d t ht;have h2:=L.w t ht;refine zgf (by omega) hf (by omega) (fun ys hys q hq=>?_) fun h0=>?_
  ·try walk_at "wp"
   rw [hys]at hret;exact hret _ rfl _ (.put .refl hq)
  ·try walk_at "wp"
   rw [h0]at hno;exact hno rfl _ _ ⟨_,rfl⟩ .refl
 ·obtain⟨y,rfl⟩:=hI;walk_at "wp";rw [ziL]at e;have:zes B x=none:=by
   cases q:zes B x with
   |none=>rfl
   |some t=>rw [q]at e;cases e
  rw [this]at h;exact⟨_, .refl,h⟩
 ·rw [ziL]at e;cases q:zes B x with
  |none=>rw [q]at e;cases e
  |some t=>
   rw [q]at e h;cases e;exact⟨_,sb,h⟩
end
mutual
theorem zkE (B:List Tn):∀(t:Tr) (p:List Int),(t.op B p).length≤t.weight
 | .bl n,p=>by simp [Tr.op]
 | .nd s ts,p=>by
  have:=zmW B ts p 0;rw [Tr.op,List.length_append,Tr.weight];split<;>simp<;>omega
theorem zmW (B:List Tn):∀(ts:List Tr) (p:List Int) (i:Nat),(ops B p i ts).length≤wts ts
 | [],p,i=>by simp [ops]
 |t::ts,p,i=>by
  have h1:=zkE B t (p++[(i:Int)]);have h2:=zmW B ts p (i+1);rw [ops,List.length_append,wts];omega
end
section
variable {a f:Addr}{B:List Tn}
mutual
theorem zkF (L:Lft B) (haf:f≠a):∀(t:Tr) {r:Nat}{p:List Int}{xs:List W}{S:Sto}{Q:WK}{E:Str→Sto→Prop},t.depth+25≤r→S a=some (.lst (B.map zbc))→S f=some (.lst xs)→xs.length+t.weight≤100000→p.length+t.depth≤1000→t.hd (fun _=>True)→
  Q .non (put S f (.lst (xs++(t.op B p).map ziN)))→zbb (r+1) [.ref a,enc t,zaM p, .ref f] S Q E
 | .bl n,r,p,xs,S,Q,E,hr,ha,hf,hx,hp,hh,h=>by simp [Tr.hd]at hh
 | .nd s ts,r,p,xs,S,Q,E,hr,ha,hf,hx,hp,hh,h=>by
  have ft:=zgT (m:=0) _ hh;simp only[Tr.depth]at hr hp;simp only[Tr.weight]at hx;simp only[Tr.hd]at hh;obtain⟨r,rfl⟩:∃r',r=r'+1:=⟨r - 1,by omega⟩
  rw [zbb];have ee:enc (.nd s ts)= .tup (.str s::encs ts):=by simp only[enc]
  walk_at "wp";refine zfl L ha ft (by omega) ?_;rw [Tr.op]at h;cases e:zes B (.nd s ts) with
  |none=>
   rw [e]at h;simp only[List.nil_append]at h;simp only[zpu];rw [ee]
   try walk_at "wp"
   exact zfD L haf ts (by omega) ha hf (by omega) (by omega) hh.2 fun x5 x6=>⟨_, .refl,h⟩
  |some t=>
   rw [e]at h;have et:zpu (some t)= .tup [.str t.1,enc t.2.1,enc t.2.2]:=rfl;rw [et,ee]
   try walk_at "wp"
   simp only[zag hf,true_and];refine⟨zal (by decide),zct (by omega),?_⟩;refine zfD L haf ts (xs:=xs++[ziN (p,t.1)]) (by omega) (by rw [zaZ (Ne.symm haf)];exact ha) zai (by simp;omega) (by omega) hh.2 fun x5 x6=>⟨_, .refl,?_⟩;rw [zaW];simpa using h
theorem zfD (L:Lft B) (haf:f≠a):∀(ts:List Tr) {r:Nat}{p:List Int}{i:Nat}{xs:List W}{S:Sto}{E:WX}{D:WEnds}{t0 x4 x5 x6:Option W},dts ts+25≤r→S a=some (.lst (B.map zbc))→S f=some (.lst xs)→xs.length+wts ts≤100000→p.length+1+dts ts≤1000→hds (fun _=>True) ts→
  (∀x5 x6,D.nx [some (.ref a),t0,some (zaM p),some (.ref f),x4,x5,x6] (put S f (.lst (xs++(ops B p i ts).map ziN))))→
  forL (wGT (zaJ (wGN 5) (zaJ (wGN 6) zdp))) (zcs (r+1) (zbb (r+1))) E D (fun _=>True) (zgm i (encs ts)) [some (.ref a),t0,some (zaM p),some (.ref f),x4,x5,x6] S
 | [],r,p,i,xs,S,E,D,t0,x4,x5,x6,hr,ha,hf,hx,hp,hh,h=>by
  simp only[encs,zgm,forL];have:=h x5 x6;rw [ops,List.map_nil,List.append_nil,zey hf]at this;exact this
 |t::ts,r,p,i,xs,S,E,D,t0,x4,x5,x6,hr,ha,hf,hx,hp,hh,h=>by
  simp only[dts]at hr hp;simp only[wts]at hx;simp only[hds]at hh;simp only[encs,zgm];refine zcm fun N hN=>?_;simp only[zcs];walk_at "wp";rw [zkV];refine⟨zal (by decide),zal (by omega),?_⟩;have ol:=zkE B t (p++[(i:Int)]);refine zkF L haf t (by omega) ha hf (by omega) (by simp;omega) hh.1 ?_;refine hN _ _ _ .refl trivial (zfD L haf ts (xs:=xs++(t.op B (p++[(i:Int)])).map ziN) (by omega) (by rw [zaZ (Ne.symm haf)];exact ha) zai (by simp;omega) (by omega) hh.2 fun x5 x6=>?_);rw [zaW];have:=h x5 x6;rw [ops,List.map_append]at this;simpa using this
end
theorem zuJ{p q:List Int}{S:Sto}{Q:WK}:zcK (zaM p) (zaM q) S Q=(p.length+q.length≤sizeLine∧Q (zaM (p++q)) S):=by
 unfold zaM;rw [zfB,List.length_map,List.length_map,List.map_append]
noncomputable def PB (B:List Tn):Prop:=∀t∈B,∀x∈t.2.1.bls,x.1.length≤4
theorem zmX{s:Str}{n:Nat}(h:PB B):∀q∈pps B s n,q.length≤4:=fun q hq=>by
 unfold pps at hq;cases e:zaR B s with
 |none=>
  rw [e]at hq;obtain⟨i,_,rfl⟩:=List.mem_map.mp hq;simp
 |some t=>
  rw [e]at hq;obtain⟨x,hx,rfl⟩:=List.mem_map.mp hq;exact h t (List.mem_of_find?_eq_some e) x hx
end
section
variable {a:Addr}{B:List Tn}{S:Sto}{r:Nat}{Q:WK}{E:Str→Sto→Prop}{t:Tr}
theorem zfz (L:Lft B) (ha:S a=some (.lst (B.map zbc))) (hd:t.depth≤60) (hr:t.depth+30≤r) (hw:t.weight≤1000) (hh:t.hd (fun _=>True)) (h:∀q,S q=none→Q (.ref q) (put S q (.lst ((t.op B []).map ziN)))):zbP (r+1) [.ref a,enc t] S Q E:=by
 obtain⟨r,rfl⟩:∃r',r=r'+1:=⟨r - 1,by omega⟩
 rw [zbP];walk_at "wp";refine⟨Nat.zero_le _,fun q hq=>⟨Nat.zero_le _,?_⟩⟩;have hqa:q≠a:=fun z=>by rw [z,ha]at hq;cases hq
 refine zkF L hqa t (p:=[]) (xs:=[]) (by omega) (keep ha hq) zai (by simp;omega) (by simp;omega) hh ?_;rw [zaW,List.nil_append];exact⟨_, .refl,h q hq⟩
theorem ziY{f:Addr}{xs:List (List Int×Str)}(hf:S f=some (.lst (xs.map ziN))) (hl:xs.length≤10000) (h:∀q,S q=none→Q (.ref q) (put S q (.lst ((xs.map fun x=>x.1).map zaM)))):zcx (r+1) [.ref f] S Q E:=by
 rw [zcx];walk_at "wp";rw [zag hf];refine zbd (fun σ=>∃y,σ=[y]) ziN (fun x=>zaM x.1) ?_ xs [] _ ⟨none,rfl⟩ (by simp;omega) (fun x hx σ R hI hR=>?_) ?_
 ·exact hf
 ·obtain⟨y,rfl⟩:=hI;simp only[zeo,ziN];walk_at "wp";exact hR _ _ ⟨_,rfl⟩ .refl
 ·rw [List.nil_append];intro q hq;have:=h q hq;rw [List.map_map]at this;exact⟨_, .refl,this⟩
theorem ziC{s:Str}{ts ms:List Tr}{u:Tn}(L:Lft B) (ha:S a=some (.lst (B.map zbc))) (hh:(Tr.nd s ts).hd (fun _=>True)) (hw:(Tr.nd s ts).weight≤1000) (hr:25≤r) (h1:zes B (.nd s ts)=some u) (h2:u.2.1.mt (.nd s ts)=some ms) (h:Q (enc (.nd u.1 ms)) S):zce (r+1) [.ref a,enc (.nd s ts)] S Q E:=by
 obtain⟨r,rfl⟩:∃r',r=r'+1:=⟨r - 1,by omega⟩
 have ht:u∈B:=List.mem_of_find?_eq_some h1;have ft:=zgT (m:=0) _ hh;have hm:=zrC u.2.1 _ _ h2 hh;have hl:=zcJ ms;rw [zce];walk_at "wp";refine zfl L ha ft (by omega) ?_;rw [h1];have et:zpu (some u)= .tup [.str u.1,enc u.2.1,enc u.2.2]:=rfl;rw [et]
 try walk_at "wp"
 rw [show atI [W.str u.1,enc u.2.1,enc u.2.2] 1=some (enc u.2.1) from rfl];have g1:=L.d u ht;have g2:=L.w u ht;refine⟨zal (by decide),zgf (by omega) ft (by omega) (fun ys hys q hq=>?_) fun h0=>by rw [h2]at h0;cases h0⟩
 rw [h2]at hys;cases hys
 try walk_at "wp"
 rw [zbh];simp only[enc]at h;exact⟨zal (by omega),_, .put .refl hq,h⟩
end
theorem zpw{B:List Tn}{s:Str}{n:Nat}(h:zaR B s=none):pps B s n=(List.range n).map fun(i:Nat)=>[(i:Int)]:=by unfold pps;rw [h]
theorem zoP{B:List Tn}{s:Str}{n:Nat}{t:Tn}(h:zaR B s=some t):pps B s n=t.2.1.bls.map fun x=>x.1:=by unfold pps;rw [h]
theorem Wis.len{B:List Tn}{wn:List (List Int)}{n:Nat}{p:List Int}:∀{qs:List (List Int)}{ts us:List Tr},Wis B wn n p qs ts us→us.length=ts.length
 |_,_,_, .nil=>rfl
 |_,_,_, .cons _ h=>by rw [List.length_cons,List.length_cons,Wis.len h]
section
variable {a w:Addr}{B:List Tn}{wn:List (List Int)}
theorem zfR (n:Nat) (hP4:∀{t u:Tr}{p:List Int}{r:Nat}{S:Sto}{Q:WK}{E:Str→Sto→Prop},Wi B wn n p t u→n+40≤r+1→S a=some (.lst (B.map zbc))→S w=some (.dct (zgd wn))→t.hd (fun _=>True)→t.weight≤1000→p.length+4*n≤1000→Q (enc u) S→zaI (r+1) [.ref a,enc t,zaM p, .ref w] S Q E) :
  ∀{ts us:List Tr}{qs:List (List Int)}{p:List Int},Wis B wn n p qs ts us→ ∀{r:Nat}{xs:List W}{f:Addr}{S:Sto}{G:Sto→Prop}{E:WX}{D:WEnds}{t0 x4 x6 x7:Option W},(∀q∈qs,q.length≤4)→n+40≤r+1→S a=some (.lst (B.map zbc))→S w=some (.dct (zgd wn))→S f=some (.lst xs)→f≠a→f≠w→xs.length+ts.length≤10000→wts ts≤1000→hds (fun _=>True) ts→p.length+4+4*n≤1000→(∀o,G (put S f o))→
  (∀x6 x7,D.nx [some (.ref a),t0,some (zaM p),some (.ref w),x4,some (.ref f),x6,x7] (put S f (.lst (xs++encs us))))→
  forL (wGT (zaJ (wGN 6) (zaJ (wGN 7) zdp))) (zbY (r+1) (zaI (r+1))) E D G (pairs (qs.map zaM) (encs ts)) [some (.ref a),t0,some (zaM p),some (.ref w),x4,some (.ref f),x6,x7] S
 |_,_,_,p, .nil=>by
  rename_i r xs f S G E D t0 x4 x6 x7;intro hq hr ha hw hf n1 n2 hx hwt hh hp hG h;simp only[List.map_nil,encs,pairs,forL];have:=h x6 x7;simp only[encs,List.append_nil,zey hf]at this;exact this
 |_,_,_,p, .cons (q:=q) (t:=t) (u:=u) (ts:=ts) (us:=us) h1 h2=>by
  rename_i r xs f S G E D t0 x4 x6 x7 qs;intro hq hr ha hw hf n1 n2 hx hwt hh hp hG h;simp only[wts]at hwt;simp only[hds]at hh;simp only[List.length_cons]at hx;have hq4:=hq q List.mem_cons_self;simp only[List.map_cons,encs,pairs];refine zcm fun N hN=>?_;simp only[zbY];walk_at "wp";simp only[zag hf,true_and];rw [zuJ];refine⟨zal (by omega),hP4 h1 hr ha hw hh.1 (by omega) (by simp;omega) ?_⟩
  try walk_at "wp"
  rw [zag hf];refine⟨zct (by omega),?_⟩;refine hN _ _ _ .refl (hG _) (zfR n hP4 h2 (xs:=xs++[enc u]) (fun q' hq'=>hq q' (List.mem_cons_of_mem _ hq')) hr (by rw [zaZ (Ne.symm n1)];exact ha) (by rw [zaZ (Ne.symm n2)];exact hw) zai n1 n2 (by simp;omega) (by omega) hh.2 hp (fun o=>by rw [zaW];exact hG o) fun x6 x7=>?_)
  rw [zaW];have:=h x6 x7;simpa [encs]using this
theorem zio (L:Lft B) (hP:PB B):∀(n:Nat) {t u:Tr}{p:List Int}{r:Nat}{S:Sto}{Q:WK}{E:Str→Sto→Prop},Wi B wn n p t u→n+40≤r+1→S a=some (.lst (B.map zbc))→S w=some (.dct (zgd wn))→t.hd (fun _=>True)→t.weight≤1000→p.length+4*n≤1000→Q (enc u) S→zaI (r+1) [.ref a,enc t,zaM p, .ref w] S Q E
 |0,t,u,p,r,S,Q,E,M,hr,ha,hw,hh,hwt,hp,h=>by cases M
 |n+1,t,u,p,r,S,Q,E,M,hr,ha,hw,hh,hwt,hp,h=>by
  obtain⟨r,rfl⟩:∃r',r=r'+1:=⟨r - 1,by omega⟩
  have tail:∀{s:Str}{ts us:List Tr}{t0:Option W}{E':WX},Wis B wn n p (pps B s ts.length) ts us→hds (fun _=>True) ts→wts ts≤1000→Q (enc (.nd s us)) S→
    (1:Nat)=1→ ∀f,S f=none→zbn (r+1) [.ref a, .tup (.str s::encs ts)] (put S f (.lst [])) (fun x S1=>zmP x S1 fun xs G=>forL (wGT (zaJ (wGN 6) (zaJ (wGN 7) zdp))) (zbY (r+1) (zaI (r+1))) E' { nx:=zaX (wOp zcK (zbA (zab (wOp oIx (zaf 4) (wC (W.int 0))) waNil)) (wB zdv (zab (zaf 5) waNil))) E' { nx:=fun x S'=>∃S'',Sub S'' S'∧Q W.non S'',rt:=fun w S'=>∃S'',Sub S'' S'∧Q w S'' },rt:=fun w S'=>∃S'',Sub S'' S'∧Q w S'' } (fun S'=>G S'∧True) (pairs xs (encs ts)) [some (.ref a),t0,some (zaM p),some (.ref w),some (.tup (.str s::encs ts)),some (.ref f),none,none] S1) E:=fun {s ts us t0 E'} WW hd hw' hQ _ f hf=>by
   have hk:=zcJ ts;have n1:f≠a:=fun z=>by rw [z,ha]at hf;cases hf
   have n2:f≠w:=fun z=>by rw [z,hw]at hf;cases hf
   have ee:W.tup (W.str s::encs ts)=enc (.nd s ts):=by simp only[enc]
   rw [ee];refine zlc L (keep ha hf) (by omega) (by omega) fun q hq=>?_;rw [zhR,zei,←ee];obtain⟨hq1,hq2⟩:=zde hq;refine zfR n (zio L hP n) WW (zmX hP) (by omega) (keep (keep ha hf) hq) (keep (keep hw hf) hq) (keep zai hq) n1 n2 (by simp;omega) hw' hd (by omega) (fun o=>⟨?_,trivial⟩) fun x6 x7=>?_
   ·show put _ f o q=_;rw [zaZ hq2];exact zai
   ·have hlu:us.length≤1000:=by
     have:=Wis.len WW;omega
    walk_at "wp";rw [zbh];simp only[enc]at hQ;refine⟨zal (by decide),zal (by omega),S,?_,hQ⟩;rw [zkB hq2];exact .put (.put .refl hf) hq1
  cases M with
  | @no _ _ s ts us h1 h2 h3=>
   simp only[Tr.hd]at hh;simp only[Tr.weight]at hwt;rw [zaI];simp only[enc];walk_at "wp";rw [zja hw,zil,decide_eq_false h1]
   try walk_at "wp"
   refine⟨Nat.zero_le _,fun f hf=>?_⟩;have:=tail (t0:=some (.tup (.str s::encs ts))) (E':=fun c x S'=>E c S') (by rw [zpw h2];exact h3) hh.2 (by omega) h rfl f hf;simpa only[and_true]using this
  | @yes _ _ s ts us ms t h1 h2 h3 h4 h5=>
   have hm:=zrC t.2.1 _ _ h3 hh;rw [zaI];walk_at "wp";rw [zja hw,zil,decide_eq_true h1]
   try walk_at "wp"
   refine ziC L ha hh hwt (by omega) h2 h3 ?_;simp only[enc]
   try walk_at "wp"
   refine⟨Nat.zero_le _,fun f hf=>?_⟩;have:=tail (t0:=some (.tup (.str s::encs ts))) (E':=fun c x S'=>E c S') (by rw [zoP h4];exact h5) hm.1 (by omega) h rfl f hf;simpa only[and_true]using this
end
theorem zir{S:Sto}{n:Nat}:∀(p q:List Int),zdC (eqF S (n+1)) (p.map W.int) (q.map W.int)=some (decide (p=q))
 | [],[]=>by simp [zdC]
 | [],j::q=>by simp [zdC]
 |i::p,[]=>by simp [zdC]
 |i::p,j::q=>by
  rw [List.map_cons,List.map_cons,zdC,zqz,zir p q];simp only[Option.some.injEq];rw [Bool.eq_iff_iff];simp
theorem zvY{S:Sto}{n:Nat}(p q:List Int):eqF S (n+2) (zaM p) (zaM q)=some (decide (p=q)):=by
 unfold zaM;rw [zpO,zir]
theorem ztj{S:Sto}{x:List Int}:∀ys:List (List Int),inF S (zaM x) (ys.map zaM)=some (decide (x∈ys))
 | []=>by simp [inF]
 |y::ys=>by
  rw [List.map_cons,inF,zvY (n:=57),ztj ys];simp only[Option.some.injEq];rw [Bool.eq_iff_iff];simp only[Bool.or_eq_true,decide_eq_true_eq,List.mem_cons];exact⟨fun h=>h.elim (fun e=> .inl e.symm) .inr,fun h=>h.elim (fun e=> .inl e.symm) .inr⟩
section
variable {a:Addr}{B:List Tn}{wn:List (List Int)}{S:Sto}{r n:Nat}{Q:WK}{E:Str→Sto→Prop}{t u:Tr}{f:Addr}
theorem zlf (L:Lft B) (hP:PB B) (M:Wi B wn n [] t u) (hn:n≤60) (hr:110≤r) (ha:S a=some (.lst (B.map zbc))) (hf:S f=some (.lst (wn.map zaM))) (hh:t.hd (fun _=>True)) (hw:t.weight≤1000) (hl:wn.length≤10000) (h:Q (enc u) S):zcM (r+1) [.ref a,enc t, .ref f] S Q E:=by
 obtain⟨r,rfl⟩:∃r',r=r'+1:=⟨r - 1,by omega⟩
 rw [zcM];walk_at "wp";refine⟨Nat.zero_le _,?_⟩;rw [zag hf];refine zbd (fun σ=>∃y,σ=[y]) zaM (fun p=>W.tup [zaM p, .bl true]) ?_ wn [] _ ⟨none,rfl⟩ (by simp;omega) (fun x hx σ R hI hR=>?_) ?_
 ·exact hf
 ·obtain⟨y,rfl⟩:=hI;simp only[zeR];walk_at "wp";exact⟨zal (by decide),hR _ _ ⟨_,rfl⟩ .refl⟩
 ·rw [List.nil_append];have e:zdH (wn.map fun p=>W.tup [zaM p, .bl true])=some wn:=ziE wn;rw [e];refine⟨by omega,fun d hd=>?_⟩;have e0:W.tup []=zaM []:=rfl;rw [e0];exact zio L hP n M (by omega) (keep ha hd) zai hh hw (by simp;omega) ⟨_, .put .refl hd,h⟩
theorem zph{ks:List (List Int)}(L:Lft B) (hP:PB B) (M:Wi B wn n [] t u) (hn:n≤60) (hr:115≤r) (ha:S a=some (.lst (B.map zbc))) (hf:S f=some (.lst (wn.map zaM))) (hh:t.hd (fun _=>True)) (hw:t.weight≤1000) (hd:t.depth≤60) (hl:wn.length≤10000) (hks:((t.op B []).map fun x=>x.1)=ks) (hin:∀x∈wn,x∈ks) (h:Q (enc u) S):zeD (r+1) [.ref a,enc t, .ref f] S Q E:=by
 obtain⟨r,rfl⟩:∃r',r=r'+1:=⟨r - 1,by omega⟩
 have ol:=zkE B t [];rw [zeD];walk_at "wp";refine zfz L ha hd (by omega) hw hh fun q hq=>?_;refine ziY zai (by omega) fun q2 hq2=>?_;rw [hks];have f2:put (put S q (Ob.lst ((t.op B []).map ziN))) q2 (Ob.lst (ks.map zaM)) q2=some (.lst (ks.map zaM)):=zai;have ff:=keep (x:=Ob.lst (ks.map zaM)) (keep (x:=Ob.lst ((t.op B []).map ziN)) hf hq) hq2;have fa:=keep (x:=Ob.lst (ks.map zaM)) (keep (x:=Ob.lst ((t.op B []).map ziN)) ha hq) hq2;have sub:Sub S (put (put S q (Ob.lst ((t.op B []).map ziN))) q2 (Ob.lst (ks.map zaM))):= .trans (.put .refl hq) (.put .refl hq2);generalize put (put S q (Ob.lst ((t.op B []).map ziN))) q2 (Ob.lst (ks.map zaM))=S2 at f2 ff fa sub⊢
 try walk_at "wp"
 rw [zag ff];refine zep (S:=S2) ?_ (fun σ=>∃x,σ=[some (.ref a),some (enc t),some (.ref f),some (.ref q2),x]) zaM (fun _=>none) wn _ ⟨_,rfl⟩ (fun x hx σ N hI hno hret=>?_) (fun e σ hI=>?_) fun w e S' sb=>?_
 ·exact ff
 ·obtain⟨y,rfl⟩:=hI;unfold zgA;walk_at "wp";rw [zag f2,ztj,decide_eq_true (hin x hx)]
  try walk_at "wp"
  exact hno rfl _ _ ⟨_,rfl⟩ .refl
 ·obtain⟨y,rfl⟩:=hI
  try walk_at "wp"
  exact zlf L hP M hn (by omega) fa ff hh hw hl ⟨_,sub,h⟩
 ·rw [List.findSome?_eq_none_iff.mpr (fun _ _=>rfl)]at e;cases e
end
section
variable {c:Int→Nat}
noncomputable def One (c:Int→Nat):Prop:=∀x:Int,0≤x→x<8→c x≤1
theorem One.src (hc:One c):∀x:Int,0≤x→x<8→zfW c x=0:=fun x h0 h1=>by
 have:=hc x h0 h1;unfold zfW;split<;>omega
end
theorem zgk (f:Int):One (byC f):=fun x _ _=>zvC f x
noncomputable def zuU (B:List Tn) (x:List Int×Tr):List (List Int×Str):=(zes B x.2).toList.map fun b=>(x.1,b.1)
mutual
theorem zqe (B:List Tn):∀(t:Tr) (p:List Int),t.fits 0→(t.plt p).flatMap (zuU B)=t.op B p
 | .bl n,p,h=>by
  simp only[Tr.fits]at h;omega
 | .nd s ts,p,h=>by
  simp only[Tr.fits]at h;rw [Tr.plt,List.flatMap_cons,zlT B ts p 0 h,Tr.op,zuU];cases zes B (.nd s ts)<;>rfl
theorem zlT (B:List Tn):∀(ts:List Tr) (p:List Int) (i:Nat),fitss 0 ts→(zgr p i ts).flatMap (zuU B)=ops B p i ts
 | [],p,i,h=>by simp [zgr,ops]
 |t::ts,p,i,h=>by
  simp only[fitss]at h;rw [zgr,ops,List.flatMap_append,zqe B t _ h.1,zlT B ts p (i+1) h.2]
end
theorem zpc (x:Int) (h0:0≤x) (h8:x<8):byC 8 x=0:=by
 have:∀n:Nat,n<8→byC 8 (n:Int)=0:=by decide
 obtain⟨n,rfl⟩:=Int.eq_ofNat_of_zero_le h0;exact this n (by omega)
structure Pre (S:Sto) (aw at' ab:Addr) (w0 w1 w2 w3 w4 w5:Str) (tt:List Str) (B:List Tn):Prop where
  G:Signs w0 w1 w2 w3 w4 w5
  T:Titles tt
  b:BookOk w0 w1 w2 w3 w4 w5 tt B
  fw:S aw=some (.lst (six w0 w1 w2 w3 w4 w5))
  ft:S at'=some (.lst (tt.map W.str))
  fb:S ab=some (.lst (B.map zbc))
theorem Pre.bk{S:Sto}{aw at' ab:Addr}{w0 w1 w2 w3 w4 w5:Str}{tt:List Str}{B:List Tn}(P:Pre S aw at' ab w0 w1 w2 w3 w4 w5 tt B):BkOk [w0,w1,w2,w3,w4,w5] [w2,w3,w4,w5] B:=P.b.bk P.T P.G
theorem Pre.ne{S:Sto}{aw at' ab:Addr}{w0 w1 w2 w3 w4 w5:Str}{tt:List Str}{B:List Tn}(P:Pre S aw at' ab w0 w1 w2 w3 w4 w5 tt B):B≠ []:=by
 have h:=P.b.len;rintro rfl;simp at h
theorem Pre.sub{S S':Sto}{aw at' ab:Addr}{w0 w1 w2 w3 w4 w5:Str}{tt:List Str}{B:List Tn}(P:Pre S aw at' ab w0 w1 w2 w3 w4 w5 tt B) (h:Sub S S'):Pre S' aw at' ab w0 w1 w2 w3 w4 w5 tt B:=⟨P.G,P.T,P.b,h _ _ P.fw,h _ _ P.ft,h _ _ P.fb⟩
theorem zrm{T:WS}{E:WX}{D:WEnds}{ns:List Int}{x1 x2 x3:Option W}{τ:WSt}{S:Sto}(h:∀(S':Sto) (aw at' ab:Addr) (w0 w1 w2 w3 w4 w5:Str) (tt:List Str) (B:List Tn),Pre S' aw at' ab w0 w1 w2 w3 w4 w5 tt B→T E D (some (.scr ns)::some (.ref aw)::some (.ref at')::some (.ref ab)::τ) S') :
  zas (wAsg (zao (zaY 199) (zab (zao (zaA 199) (zab (zaf 0) (zab (wC (.int 0)) waNil))) (zab (zao (zaA 199) (zab (zaf 0) (zab (wC (.int 1)) waNil))) (zab (wC (.bl false)) waNil)))) (wGN 1))
  (zas (wAsg (zao (zaY 199) (zab (zao (zaA 199) (zab (zaf 0) (zab (wC (.int 2)) waNil))) (zab (zao (zaA 199) (zab (zaf 0) (zab (wC (.int 3)) waNil))) (zab (wC (.bl true)) waNil)))) (wGN 2))
  (zas (wAsg (zao (zbR 199) (zab (zaf 0) (zab (wC (.int 4)) (zab (zaf 1) (zab (zaf 2) waNil))))) (wGN 3)) T)) E D (some (.scr ns)::x1::x2::x3::τ) S:=by
 walk_at "wp";refine zdT (by decide) fun c0=>zdT (by decide) fun c1=>zkw fun aw ws hw0 hws=>?_;obtain⟨w0,w1,w2,w3,w4,w5,rfl,G⟩:=zjC hws;have fw:put S aw (Ob.lst ([w0,w1,w2,w3,w4,w5].map W.str)) aw=some (.lst (six w0 w1 w2 w3 w4 w5)):=zai;generalize put S aw (Ob.lst ([w0,w1,w2,w3,w4,w5].map W.str))=S1 at fw⊢;refine zdT (by decide) fun c2=>zdT (by decide) fun c3=>zkw fun at' tt ht0 htt=>?_;have ft:put S1 at' (Ob.lst (tt.map W.str)) at'=some (.lst (tt.map W.str)):=zai;replace fw:=keep (x:=Ob.lst (tt.map W.str)) fw ht0;generalize put S1 at' (Ob.lst (tt.map W.str))=S2 at fw ft⊢;refine zrr (r:=192) (zeW htt).len (by decide) fw ft fun ab B n m hb0 e1 e2 e3=>?_;exact h _ aw at' ab w0 w1 w2 w3 w4 w5 tt B ⟨G,zeW htt,⟨⟨n,m,e1⟩,e2,e3⟩,keep (x:=Ob.lst (B.map zbc)) fw hb0,keep (x:=Ob.lst (B.map zbc)) ft hb0,zai⟩
mutual
noncomputable def Tr.ord (k:Nat):Tr→Option Nat
 | .bl n=>if n=(k:Int) then some (k+1) else none
 | .nd _ ts=>zlP k ts
noncomputable def zlP (k:Nat):List Tr→Option Nat
 | []=>some k
 |t::ts=>match t.ord k with
  |some m=>zlP m ts
  |none=>none
end
noncomputable def zuS (B:List Tn) (z:Str):Prop:=∀u∈B,∀s ls,u.2.1= .nd s ls→s≠z
structure Ort (B:List Tn):Prop where
  inn:∀t∈B,∃s ls,t.2.1= .nd s ls∧hbs (zuS B) ls
  mt:zvp B
  fm:∀t∈B,∀x ys,t.2.1.mt x=some ys→x=t.2.1.fill ys∧ys.length=t.2.1.nb
  one:∀u∈B,∀v∈B,∀x:Tr,(u.2.1.mt x).isSome=true→(v.2.1.mt x).isSome=true→u=v
  od:∀t∈B,t.2.1.ord 0=some t.2.1.nb
mutual
theorem zqa:∀(L x:Tr) (ys:List Tr) (k m:Nat),L.ord k=some m→L.mt x=some ys→ys.length+k=m∧ ∀pre post:List Tr,pre.length=k→L.fill (pre++ys++post)=x
 | .bl n,x,ys,k,m,h,e=>by
  rw [Tr.ord]at h;split at h
  ·rename_i hn;cases h;rw [Tr.mt]at e;cases e;refine⟨by simp;omega,fun pre post hp=>?_⟩;rw [Tr.fill,hn,Int.toNat_natCast,List.getD_eq_getElem?_getD,List.append_assoc,List.getElem?_append_right (by omega),hp,Nat.sub_self];rfl
  ·cases h
 | .nd s ls, .bl n,ys,k,m,h,e=>by rw [Tr.mt]at e;cases e
 | .nd s ls, .nd z us,ys,k,m,h,e=>by
  rw [Tr.mt]at e;split at e
  ·rename_i hc;rw [Bool.and_eq_true,beq_iff_eq,beq_iff_eq]at hc;rw [Tr.ord]at h;obtain⟨h1,h2⟩:=zmR ls us ys k m hc.2 h e;exact⟨h1,fun pre post hp=>by rw [Tr.fill,h2 pre post hp,hc.1]⟩
  ·cases e
theorem zmR:∀(ls us ys:List Tr) (k m:Nat),ls.length=us.length→zlP k ls=some m→mts ls us=some ys→ys.length+k=m∧ ∀pre post:List Tr,pre.length=k→fills (pre++ys++post) ls=us
 | [],us,ys,k,m,hl,h,e=>by
  rw [zlP]at h;cases h;rw [mts]at e;cases e;cases us with
  |nil=>exact⟨by simp,fun _ _ _=>by rw [fills]⟩
  |cons _ _=>cases hl
 |l::ls,[],ys,k,m,hl,h,e=>by cases hl
 |l::ls,u::us,ys,k,m,hl,h,e=>by
  rw [zlP]at h;rw [mts]at e;cases q:l.ord k with
  |none=>rw [q]at h;cases h
  |some j=>
   rw [q]at h;cases q1:l.mt u with
   |none=>rw [q1]at e;cases e
   |some xs=>
    rw [q1]at e;cases q2:mts ls us with
    |none=>rw [q2]at e;cases e
    |some zs=>
     rw [q2]at e;cases e;obtain⟨h1,h2⟩:=zqa l u xs k j q q1;obtain⟨h3,h4⟩:=zmR ls us zs j m (by simpa using hl) h q2;refine⟨by rw [List.length_append];omega,fun pre post hp=>?_⟩;rw [fills];have e1:=h2 pre (zs++post) hp;have e2:=h4 (pre++xs) post (by rw [List.length_append];omega);have a1:pre++(xs++zs)++post=pre++xs++(zs++post):=by simp
     have a2:pre++(xs++zs)++post=pre++xs++zs++post:=by simp
     rw [a1,e1,←a1,a2,e2]
end
theorem zkK{n:Nat}{h c d:Str}{L:Tr}(hL:L∈leftsL n h c d):L.ord 0=some L.nb:=by
 unfold leftsL at hL;split at hL<;>simp only[List.mem_cons,List.not_mem_nil,or_false]at hL
 all_goals first
  | (subst hL;simp [Tr.ord,zlP,Tr.nb,nbs])
  | (rcases hL with rfl |rfl<;>simp [Tr.ord,zlP,Tr.nb,nbs])
theorem zfg{n:Nat}{h c d:Str}{P:Str→Prop}(hc:P c) (hd:P d) {L:Tr}(hL:L∈leftsL n h c d):∃ls,L= .nd h ls∧hbs P ls:=by
 unfold leftsL at hL;split at hL<;>simp only[List.mem_cons,List.not_mem_nil,or_false]at hL
 all_goals first
  | (subst hL;exact⟨_,rfl,by simp [hbs,Tr.hb,hc,hd]⟩)
  | (rcases hL with rfl |rfl<;>exact⟨_,rfl,by simp [hbs,Tr.hb,hc,hd]⟩)
section
variable {w0 w1 w2 w3 w4 w5:Str}{tt:List Str}{B:List Tn}
theorem BookOk.mem_lefts (b:BookOk w0 w1 w2 w3 w4 w5 tt B) {t:Tn}(ht:t∈B):∃n,t.2.1∈leftsL n w0 w2 w3∨t.2.1∈leftsL n w1 w2 w3:=by
 obtain⟨n,m,e⟩:=b.lf;have:t.2.1∈leftsL n w0 w2 w3++leftsL m w1 w2 w3:=by rw [←e];exact List.mem_map.mpr ⟨t,ht,rfl⟩
 rcases List.mem_append.mp this with z |z
 ·exact⟨n, .inl z⟩
 ·exact⟨m, .inr z⟩
theorem BookOk.ort (b:BookOk w0 w1 w2 w3 w4 w5 tt B) (G:Signs w0 w1 w2 w3 w4 w5):Ort B:=by
 have top:∀z,z≠w0→z≠w1→zuS B z:=fun z h0 h1 u hu s ls e=>by
  obtain⟨n,z |z⟩:=b.mem_lefts hu
  ·obtain⟨l,e',_⟩:=zfg (P:=fun _=>True) trivial trivial z;rw [e]at e';cases e';exact h0.symm
  ·obtain⟨l,e',_⟩:=zfg (P:=fun _=>True) trivial trivial z;rw [e]at e';cases e';exact h1.symm
 have t2:=top w2 (G.n0 w2 (by simp)).symm (G.n1 w2 (by simp)).symm;have t3:=top w3 (G.n0 w3 (by simp)).symm (G.n1 w3 (by simp)).symm;have od:∀t∈B,t.2.1.ord 0=some t.2.1.nb:=fun t ht=>by
  obtain⟨n,z |z⟩:=b.mem_lefts ht
  ·exact zkK z
  ·exact zkK z
 refine⟨fun t ht=>?_,b.mt,fun t ht x ys e=>?_,fun u hu v hv x h1 h2=>zqk (b.inj G) hu hv (b.one G hu hv h1 h2),od⟩
 ·obtain⟨n,z |z⟩:=b.mem_lefts ht
  ·obtain⟨l,e',h⟩:=zfg t2 t3 z;exact⟨_,_,e',h⟩
  ·obtain⟨l,e',h⟩:=zfg t2 t3 z;exact⟨_,_,e',h⟩
 ·have ho:=od t ht;obtain⟨h1,h2⟩:=zqa _ _ _ _ _ ho e;have:=h2 [] [] rfl;simp only[List.nil_append,List.append_nil]at this;exact⟨this.symm,by omega⟩
end
structure Wy (ws:List Str) (B:List Tn) (a:Tr):Prop where
  hd:a.hd fun s=>s∈ws∨ ∃t∈B,t.1=s
  ar:a.ar B
noncomputable abbrev src (B:List Tn) (a:Tr):Tr:=a.mk B fun t=>t.2.1
noncomputable abbrev gol (B:List Tn) (a:Tr):Tr:=a.mk B fun t=>t.2.2
section
variable {ws:List Str}{B:List Tn}
theorem zjp{P:Str→Prop}:∀{ts:List Tr}{t:Tr},hds P ts→t∈ts→t.hd P
 |u::ts,t,h,ht=>by
  rw [hds]at h;rcases List.mem_cons.mp ht with rfl |ht
  ·exact h.1
  ·exact zjp h.2 ht
theorem zjE:∀{ts:List Tr}{t:Tr},ars B ts→t∈ts→t.ar B
 |u::ts,t,h,ht=>by
  rw [ars]at h;rcases List.mem_cons.mp ht with rfl |ht
  ·exact h.1
  ·exact zjE h.2 ht
theorem Wy.cases (b:BkOk ws ws B) {a:Tr}(h:Wy ws B a):(∃s as,a= .nd s as∧s∈ws∧zaR B s=none∧ ∀x∈as,Wy ws B x)∨(∃t as,t∈B∧a= .nd t.1 as∧zaR B t.1=some t∧as.length=t.2.1.nb∧ ∀x∈as,Wy ws B x):=by
 obtain⟨h1,h2⟩:=h;cases a with
 |bl n=>rw [Tr.hd]at h1;exact h1.elim
 |nd s as=>
  rw [Tr.hd]at h1;rw [Tr.ar]at h2;have kids:∀x∈as,Wy ws B x:=fun x hx=>⟨zjp h1.2 hx,zjE h2.2 hx⟩;rcases h1.1 with h |⟨t,ht,rfl⟩
  ·exact .inl ⟨s,as,rfl,h,zcS b.ti (b.sg s h),kids⟩
  ·have e:=zcX b.nd ht;exact .inr ⟨t,as,ht,rfl,e,h2.1 t e,kids⟩
theorem zeF{g:Tn→Tr}{s:Str}{as:List Tr}(h:zaR B s=none):(Tr.nd s as).mk B g= .nd s (as.map (Tr.mk B g)):=by
 rw [Tr.mk,h,zfq]
theorem zec{g:Tn→Tr}{t:Tn}{as:List Tr}(h:zaR B t.1=some t):(Tr.nd t.1 as).mk B g=(g t).fill (as.map (Tr.mk B g)):=by
 rw [Tr.mk,h,zfq]
mutual
theorem ztL (b:BkOk ws ws B) (O:Ort B):∀(L a:Tr),L.hb (zuS B)→Wy ws B a→(L.mt (src B a)).isSome=true→(L.mt a).isSome=true
 | .bl n,a,_,_,_=>by rw [Tr.mt];rfl
 | .nd z ls,a,hL,ha,h=>by
  rw [Tr.hb]at hL;rcases ha.cases b with⟨s,as,rfl,hs,e,kids⟩ |⟨t,as,ht,rfl,e,hl,kids⟩
  ·rw [show src B (.nd s as)= .nd s (as.map (src B)) from zeF e,Tr.mt,List.length_map]at h;rw [Tr.mt];split at h
   ·rename_i hc;rw [if_pos hc];exact zjm b O ls as hL.2 kids h
   ·cases h
  ·obtain⟨s0,l0,e0,_⟩:=O.inn t ht;rw [show src B (.nd t.1 as)=t.2.1.fill (as.map (src B)) from zec e,e0,Tr.fill]at h;exact absurd (ziR h).symm (hL.1 t ht s0 l0 e0)
theorem zjm (b:BkOk ws ws B) (O:Ort B):∀(ls as:List Tr),hbs (zuS B) ls→(∀x∈as,Wy ws B x)→(mts ls (as.map (src B))).isSome=true→(mts ls as).isSome=true
 | [],as,_,_,_=>by rw [mts];rfl
 |l::ls,[],_,_,_=>by rw [mts];rfl
 |l::ls,a::as,hL,ha,h=>by
  rw [hbs]at hL;rw [List.map_cons,mts]at h;cases q1:l.mt (src B a) with
  |none=>rw [q1]at h;cases h
  |some xs=>
   rw [q1]at h;cases q2:mts ls (as.map (src B)) with
   |none=>rw [q2]at h;cases h
   |some zs=>
    have h1:=ztL b O l a hL.1 (ha a (by simp)) (by rw [q1];rfl);have h2:=zjm b O ls as hL.2 (fun x hx=>ha x (List.mem_cons_of_mem _ hx)) (by rw [q2];rfl);obtain⟨x1,h1⟩:=Option.isSome_iff_exists.mp h1;obtain⟨x2,h2⟩:=Option.isSome_iff_exists.mp h2;rw [mts,h1,h2];rfl
end
end
section
variable {ws:List Str}{B:List Tn}
theorem Wy.kids{s:Str}{as:List Tr}(h:Wy ws B (.nd s as)):∀x∈as,Wy ws B x:=fun x hx=>by
 obtain⟨h1,h2⟩:=h;rw [Tr.hd]at h1;rw [Tr.ar]at h2;exact⟨zjp h1.2 hx,zjE h2.2 hx⟩
mutual
theorem zro:∀(L a:Tr) (ys:List Tr),L.mt a=some ys→Wy ws B a→ ∀y∈ys,Wy ws B y
 | .bl n,a,ys,e,h,y,hy=>by
  rw [Tr.mt]at e;cases e;rw [List.mem_singleton]at hy;rw [hy];exact h
 | .nd s ls, .bl n,ys,e,h,y,hy=>by rw [Tr.mt]at e;cases e
 | .nd s ls, .nd z us,ys,e,h,y,hy=>by
  rw [Tr.mt]at e;split at e
  ·exact zqo ls us ys e h.kids y hy
  ·cases e
theorem zqo:∀(ls us ys:List Tr),mts ls us=some ys→(∀x∈us,Wy ws B x)→ ∀y∈ys,Wy ws B y
 | [],us,ys,e,h,y,hy=>by rw [mts]at e;cases e;cases hy
 |l::ls,[],ys,e,h,y,hy=>by rw [mts]at e;cases e;cases hy
 |l::ls,u::us,ys,e,h,y,hy=>by
  rw [mts]at e;cases q1:l.mt u with
  |none=>rw [q1]at e;cases e
  |some xs=>
   rw [q1]at e;cases q2:mts ls us with
   |none=>rw [q2]at e;cases e
   |some zs=>
    rw [q2]at e;cases e;rcases List.mem_append.mp hy with hy |hy
    ·exact zro l u xs q1 (h u (by simp)) y hy
    ·exact zqo ls us zs q2 (fun x hx=>h x (List.mem_cons_of_mem _ hx)) y hy
end
theorem zkf (b:BkOk ws ws B) {t:Tn}(ht:t∈B) {vs:List Tr}(hl:vs.length=t.2.1.nb) (g:Tn→Tr):(t.2.1.fill vs).mk B g=t.2.1.fill (vs.map (Tr.mk B g)):=
 zhq b.ti _ (b.lf t ht).hb (by rw [hl];exact(b.lf t ht).fits)
theorem zfI (b:BkOk ws ws B) (O:Ort B) {t:Tn}(ht:t∈B) {s:Str}{bs us:List Tr}(e:zaR B s=none) (hw:Wy ws B (.nd s bs)) (hl:us.length=t.2.1.nb) (h:src B (.nd s bs)=t.2.1.fill us) :
  ∃vs, .nd s bs=t.2.1.fill vs∧vs.length=t.2.1.nb∧vs.map (src B)=us∧(∀x∈vs,Wy ws B x)∧wts vs≤(Tr.nd s bs).weight:=by
 obtain⟨s0,ls,e0,hin⟩:=O.inn t ht;have hm:t.2.1.mt (src B (.nd s bs))=some us:=by rw [h];exact O.mt t ht us hl
 have h1:(t.2.1.mt (.nd s bs)).isSome=true:=by
  have hm':=hm;rw [show src B (.nd s bs)= .nd s (bs.map (src B)) from zeF e,e0,Tr.mt,List.length_map]at hm';rw [e0,Tr.mt];split at hm'
  ·rename_i hc;rw [if_pos hc];exact zjm b O ls bs hin hw.kids (by rw [hm'];rfl)
  ·cases hm'
 obtain⟨vs,hv⟩:=Option.isSome_iff_exists.mp h1;obtain⟨h2,h3⟩:=O.fm t ht _ _ hv;refine⟨vs,h2,h3,?_,zro _ _ _ hv hw,ziD _ _ _ hv⟩;rw [h2,show src B (t.2.1.fill vs)=_ from zkf b ht h3 _,O.mt t ht _ (by rw [List.length_map,h3])]at hm;exact Option.some.inj hm
theorem zfK{s:Str}{as:List Tr}:(Tr.nd s as).weight=1+wts as:=by rw [Tr.weight]
inductive PlB (P:Int→Prop):Pl→Prop
 |sign {b:Int}{h:Str}{ps:List Pl}:(∀p∈ps,PlB P p)→PlB P (.nd (-1) b h ps)
 |turn {k:Nat}{b:Int}{h:Str}{ps:List Pl}:P b→(∀p∈ps,PlB P p)→PlB P (.nd k b h ps)
noncomputable def zsw (x:Int):Prop:=x=1∨x=2∨x=3
theorem zpq (b:BkOk ws ws B) (O:Ort B):∀(n:Nat) (x y:Tr),x.weight+y.weight≤n→Wy ws B x→Wy ws B y→src B x=src B y→ ∃p,PlOk ws B p∧PlB zsw p∧p.ev B (byC 1)=x∧p.ev B (byC 2)=y
 |0,x,y,hn,hx,hy,e=>by
  rcases hx.cases b with⟨s,as,rfl,_⟩ |⟨t,as,_,rfl,_⟩<;>rw [zfK]at hn<;>omega
 |n+1,x,y,hn,hx,hy,e=>by
  have lists:∀(xs ys:List Tr),wts xs+wts ys≤n→(∀x∈xs,Wy ws B x)→(∀y∈ys,Wy ws B y)→xs.map (src B)=ys.map (src B)→ ∃ps:List Pl,(∀p∈ps,PlOk ws B p)∧(∀p∈ps,PlB zsw p)∧ps.map (Pl.ev B (byC 1))=xs∧ps.map (Pl.ev B (byC 2))=ys:=by
   intro xs
   induction xs with
   |nil=>
    intro ys _ _ _ e;cases ys with
    |nil=>exact⟨[],by simp,by simp,rfl,rfl⟩
    |cons y ys=>cases e
   |cons x xs ih=>
    intro ys hw h1 h2 e;cases ys with
    |nil=>cases e
    |cons y ys=>
     rw [List.map_cons,List.map_cons,List.cons.injEq]at e;rw [wts,wts]at hw;obtain⟨p,hp,hq,e1,e2⟩:=zpq b O n x y (by omega) (h1 x (by simp)) (h2 y (by simp)) e.1;obtain⟨ps,hps,hqs,e3,e4⟩:=ih ys (by omega) (fun z hz=>h1 z (List.mem_cons_of_mem _ hz)) (fun z hz=>h2 z (List.mem_cons_of_mem _ hz)) e.2;exact⟨p::ps,fun q hq=>by
      rcases List.mem_cons.mp hq with rfl |hq
      ·exact hp
      ·exact hps q hq,fun q hz=>by
      rcases List.mem_cons.mp hz with rfl |hz
      ·exact hq
      ·exact hqs q hz,by rw [List.map_cons,e1,e3],by rw [List.map_cons,e2,e4]⟩
  rcases hx.cases b with⟨s,as,rfl,hs,es,ka⟩ |⟨t,as,ht,rfl,et,la,ka⟩
  ·rcases hy.cases b with⟨s',bs,rfl,hs',es',kb⟩ |⟨t,bs,ht,rfl,et,lb,kb⟩
   ·rw [show src B (.nd s as)=_ from zeF es,show src B (.nd s' bs)=_ from zeF es']at e;injection e with e1 e2;subst e1;rw [zfK,zfK]at hn;obtain⟨ps,hps,hqs,e3,e4⟩:=lists as bs (by omega) ka kb e2;exact⟨.nd (-1) 0 s ps, .sign hs hps, .sign hqs,by rw [zbk,e3],by rw [zbk,e4]⟩
   ·rw [show src B (.nd t.1 bs)=_ from zec et]at e;obtain⟨vs,ev,lv,ms,kv,wv⟩:=zfI b O ht es hx (by rw [List.length_map,lb]) e;rw [zfK (s:=t.1)]at hn;obtain⟨ps,hps,hqs,e3,e4⟩:=lists vs bs (by omega) kv kb ms;obtain⟨k,hk⟩:=List.getElem?_of_mem ht;refine⟨.nd k 2 t.1 ps, .turn hk (by rw [←lb,←e4,List.length_map]) (by decide) (by decide) hps, .turn (by unfold zsw;decide) hqs,?_,?_⟩
    ·rw [zaT hk,e3,ev,show byC 1 2=0 by decide];rfl
    ·rw [zaT hk,e4,show byC 2 2=1 by decide];rfl
  ·rcases hy.cases b with⟨s,bs,rfl,hs,es,kb⟩ |⟨u,bs,hu,rfl,eu,lb,kb⟩
   ·rw [show src B (.nd t.1 as)=_ from zec et]at e;obtain⟨vs,ev,lv,ms,kv,wv⟩:=zfI b O ht es hy (by rw [List.length_map,la]) e.symm;rw [zfK (s:=t.1)]at hn;obtain⟨ps,hps,hqs,e3,e4⟩:=lists as vs (by omega) ka kv ms.symm;obtain⟨k,hk⟩:=List.getElem?_of_mem ht;refine⟨.nd k 1 t.1 ps, .turn hk (by rw [←la,←e3,List.length_map]) (by decide) (by decide) hps, .turn (by unfold zsw;decide) hqs,?_,?_⟩
    ·rw [zaT hk,e3,show byC 1 1=1 by decide];rfl
    ·rw [zaT hk,e4,ev,show byC 2 1=0 by decide];rfl
   ·rw [show src B (.nd t.1 as)=_ from zec et,show src B (.nd u.1 bs)=_ from zec eu]at e;have m1:=O.mt t ht (as.map (src B)) (by rw [List.length_map,la]);have m2:=O.mt u hu (bs.map (src B)) (by rw [List.length_map,lb]);have:t=u:=O.one t ht u hu _ (by rw [m1];rfl) (by rw [show(t.2.1.fill (as.map (src B)))=_ from e,m2];rfl)
    subst this;have e2:as.map (src B)=bs.map (src B):=by
     rw [show(t.2.1.fill (as.map (src B)))=_ from e,m2]at m1;exact(Option.some.inj m1).symm
    rw [zfK,zfK]at hn;obtain⟨ps,hps,hqs,e3,e4⟩:=lists as bs (by omega) ka kb e2;obtain⟨k,hk⟩:=List.getElem?_of_mem ht;refine⟨.nd k 3 t.1 ps, .turn hk (by rw [←la,←e3,List.length_map]) (by decide) (by decide) hps, .turn (by unfold zsw;decide) hqs,?_,?_⟩
    ·rw [zaT hk,e3,show byC 1 3=1 by decide];rfl
    ·rw [zaT hk,e4,show byC 2 3=1 by decide];rfl
end
theorem znq:∀xs ys:List Tr,wts (xs++ys)=wts xs+wts ys
 | [],ys=>by rw [List.nil_append,wts,Nat.zero_add]
 |x::xs,ys=>by rw [List.cons_append,wts,wts,znq xs ys,Nat.add_assoc]
mutual
theorem zhm:∀(L:Tr) (k m:Nat),L.ord k=some m→k≤m∧L.nb+k=m∧ ∀(us:List Tr),m≤us.length→(L.fill us).weight+(m - k)=L.weight+wts ((us.drop k).take (m - k))∧ ∀u∈(us.drop k).take (m - k),u.depth≤(L.fill us).depth
 | .bl n,k,m,h=>by
  rw [Tr.ord]at h;split at h
  ·rename_i hn;cases h;refine⟨by omega,by rw [Tr.nb];omega,fun us hu=>?_⟩
   have hk:k<us.length:=by omega
   have e:(us.drop k).take (k+1 - k)=[us[k]]:=by
    rw [show k+1 - k=1 by omega,List.drop_eq_getElem_cons hk]
    rfl
   have f:(Tr.bl n).fill us=us[k]:=by
    rw [Tr.fill,hn,Int.toNat_natCast,List.getD_eq_getElem?_getD,List.getElem?_eq_getElem hk];rfl
   rw [e,f];refine⟨?_,fun u hu=>?_⟩
   ·simp only[Tr.weight,wts];omega
   ·rw [List.mem_singleton]at hu;rw [hu];exact Nat.le_refl _
  ·cases h
 | .nd s ls,k,m,h=>by
  rw [Tr.ord]at h;obtain⟨h1,h2,h3⟩:=zez ls k m h;refine⟨h1,by rw [Tr.nb];exact h2,fun us hu=>?_⟩
  obtain⟨h4,h5⟩:=h3 us hu;rw [Tr.fill,Tr.weight,Tr.weight,Tr.depth];exact⟨by omega,fun u hu'=>Nat.le_trans (h5 u hu') (by omega)⟩
theorem zez:∀(ls:List Tr) (k m:Nat),zlP k ls=some m→k≤m∧nbs ls+k=m∧ ∀(us:List Tr),m≤us.length→wts (fills us ls)+(m - k)=wts ls+wts ((us.drop k).take (m - k))∧ ∀u∈(us.drop k).take (m - k),u.depth≤dts (fills us ls)
 | [],k,m,h=>by
  rw [zlP]at h;cases h;refine⟨Nat.le_refl _,by rw [nbs];omega,fun us _=>?_⟩
  rw [Nat.sub_self,List.take_zero,fills];exact⟨rfl,fun u hu=>by cases hu⟩
 |l::ls,k,m,h=>by
  rw [zlP]at h;cases q:l.ord k with
  |none=>rw [q]at h;cases h
  |some j=>
   rw [q]at h;obtain⟨h1,h2,h3⟩:=zhm l k j q;obtain⟨g1,g2,g3⟩:=zez ls j m h;refine⟨by omega,by rw [nbs];omega,fun us hu=>?_⟩
   obtain⟨h4,h5⟩:=h3 us (by omega);obtain⟨g4,g5⟩:=g3 us hu;have e:(us.drop k).take (m - k)=(us.drop k).take (j - k)++(us.drop j).take (m - j):=by
    rw [show m - k=(j - k)+(m - j) by omega,List.take_add,List.drop_drop,show k+(j - k)=j by omega]
   rw [e,znq,fills,wts,wts,dts];refine⟨by omega,fun u hu=>?_⟩;rcases List.mem_append.mp hu with hu |hu
   ·have:=h5 u hu;omega
   ·have:=g5 u hu;omega
end
theorem zfs:∀(L:Tr),L.nb≤L.weight:=fun L=>by rw [←zuQ];exact zsd L
theorem zmU:∀ls:List Tr,nbs ls≤wts ls
 | []=>by rw [nbs,wts];exact Nat.le_refl _
 |l::ls=>by rw [nbs,wts];have:=zfs l;have:=zmU ls;omega
section
variable {B:List Tn}
theorem Ort.fill (O:Ort B) {t:Tn}(ht:t∈B) {us:List Tr}(hl:us.length=t.2.1.nb):(t.2.1.fill us).weight+t.2.1.nb=t.2.1.weight+wts us∧1+wts us≤(t.2.1.fill us).weight∧1+dts us≤(t.2.1.fill us).depth:=by
 obtain⟨s,ls,e,_⟩:=O.inn t ht;have ho:=O.od t ht;obtain⟨_,h2,h3⟩:=zhm _ _ _ ho;obtain⟨h4,_⟩:=h3 us (by omega);rw [Nat.sub_zero,List.drop_zero,List.take_of_length_le (by omega)]at h4;have hw:1+t.2.1.nb≤t.2.1.weight:=by
  rw [e,Tr.nb,Tr.weight];have:=zmU ls;omega
 refine⟨h4,by omega,?_⟩
 rw [e]at ho hl⊢;rw [Tr.ord]at ho;obtain⟨_,_,g3⟩:=zez _ _ _ ho;obtain⟨_,g5⟩:=g3 us (by omega);rw [Nat.sub_zero,List.drop_zero,List.take_of_length_le (by omega)]at g5;rw [Tr.fill,Tr.depth];have:=zkZ g5;omega
mutual
noncomputable def Pl.pn:Pl→Nat
 | .nd k _ _ ps=>(if k<0 then 0 else 1)+pns ps
noncomputable def pns:List Pl→Nat
 | []=>0
 |p::ps=>max p.pn (pns ps)
end
theorem zfA{p:Pl}:∀{ps:List Pl},p∈ps→p.pn≤pns ps
 |q::ps,h=>by
  rw [pns];rcases List.mem_cons.mp h with rfl |h
  ·omega
  ·have:=zfA h;omega
noncomputable def zr:Int→Nat:=fun _=>0
theorem zjw{c:Int→Nat}{n:Nat}:∀(ps:List Pl),(∀p∈ps,(p.ev B c).weight≤2 ^ n*(p.ev B zr).weight)→wts (ps.map (Pl.ev B c))≤2 ^ n*wts (ps.map (Pl.ev B zr))
 | [],_=>by simp [wts]
 |p::ps,h=>by
  have h1:=h p List.mem_cons_self;have h2:=zjw ps fun q hq=>h q (List.mem_cons_of_mem _ hq);rw [List.map_cons,List.map_cons,wts,wts,Nat.mul_add];omega
theorem zgx{c:Int→Nat}(b:BkOk ws ws B) (O:Ort B) {p:Pl}(h:PlOk ws B p):(p.ev B c).weight≤2 ^ p.pn*(p.ev B zr).weight:=by
 induction h with
 | @sign b' h ps hh hp ih=>
  have hk:∀p∈ps,(p.ev B c).weight≤2 ^ pns ps*(p.ev B zr).weight:=fun p hp=>Nat.le_trans (ih p hp) (Nat.mul_le_mul_right _ (Nat.pow_le_pow_right (by decide) (zfA hp)));have:=zjw ps hk;have hp1:=zdU (pns ps);rw [zbk,zbk,Tr.weight,Tr.weight,Pl.pn,if_pos (by decide),Nat.zero_add,Nat.mul_add,Nat.mul_one];omega
 | @turn k b' h ps t e hl b0 b1 hp ih=>
  have ht:t∈B:=List.mem_of_getElem? e;have hk:∀p∈ps,(p.ev B c).weight≤2 ^ pns ps*(p.ev B zr).weight:=fun p hp=>Nat.le_trans (ih p hp) (Nat.mul_le_mul_right _ (Nat.pow_le_pow_right (by decide) (zfA hp)));have hs:=zjw ps hk;have hp1:=zdU (pns ps);have en:(Pl.nd k b' h ps).pn=1+pns ps:=by rw [Pl.pn,if_neg (by omega)]
  have l1:(ps.map (Pl.ev B c)).length=t.2.1.nb:=by rw [List.length_map,hl]
  have l0:(ps.map (Pl.ev B zr)).length=t.2.1.nb:=by rw [List.length_map,hl]
  obtain⟨f1,_,_⟩:=O.fill ht l1;obtain⟨f2,f3,_⟩:=O.fill ht l0;rw [zaT e,zaT e,en,show zr b'=0 from rfl];show(evT t (c b') _).weight≤2 ^ (1+pns ps)*(t.2.1.fill (ps.map (Pl.ev B zr))).weight;have hpow:2 ^ (1+pns ps)=2*2 ^ pns ps:=by rw [Nat.pow_add]
  have hm:2 ^ (1+pns ps)*(1+wts (ps.map (Pl.ev B zr)))=2*2 ^ pns ps+2*(2 ^ pns ps*wts (ps.map (Pl.ev B zr))):=by rw [hpow,Nat.mul_add,Nat.mul_one,Nat.mul_assoc]
  have hge:=Nat.mul_le_mul_left (2 ^ (1+pns ps)) f3;unfold evT;split
  ·have g1:2 ^ pns ps*(t.2.1.fill (ps.map (Pl.ev B zr))).weight≤2 ^ (1+pns ps)*(t.2.1.fill (ps.map (Pl.ev B zr))).weight:=Nat.mul_le_mul_right _ (Nat.pow_le_pow_right (by decide) (by omega));refine Nat.le_trans ?_ g1;have hc:(t.2.1.fill (ps.map (Pl.ev B zr))).weight=(t.2.1.weight - t.2.1.nb)+wts (ps.map (Pl.ev B zr)):=by
    have:=zfs t.2.1;omega
   have g2:t.2.1.weight - t.2.1.nb≤2 ^ pns ps*(t.2.1.weight - t.2.1.nb):=Nat.le_mul_of_pos_left _ hp1;rw [hc,Nat.mul_add];have:=zfs t.2.1;omega
  ·rw [Tr.weight];omega
  ·have hM:1≤2 ^ pns ps*(1+wts (ps.map (Pl.ev B zr))):=Nat.le_trans hp1 (Nat.le_mul_of_pos_right _ (by omega));cases hps:ps with
   |nil=>
    subst hps;have:=(zgw (b.ri t ht) l1 (M:=1) (by decide) (fun u hu=>by simp at hu)).2 (by simpa using hl.symm)
    simp only[List.map_nil]at *;have:pns []=0:=by rw [pns]
    rw [this]at *;simp only[wts]at *;omega
   |cons q qs=>
    rw [←hps];have hw1:1≤wts (ps.map (Pl.ev B zr)):=by
     rw [hps,List.map_cons,wts];have:=zeK (q.ev B zr);omega
    have hX:1≤2 ^ pns ps*wts (ps.map (Pl.ev B zr)):=Nat.le_trans hp1 (Nat.le_mul_of_pos_right _ hw1);have:=(zgw (b.ri t ht) l1 (M:=2 ^ pns ps*wts (ps.map (Pl.ev B zr))) hX fun u hu=>by
     obtain⟨p,hp,rfl⟩:=List.mem_map.mp hu;exact Nat.le_trans (hk p hp) (Nat.mul_le_mul_left _ (zdM (List.mem_map.mpr ⟨p,hp,rfl⟩)))).1
    omega
end
section
variable {ws:List Str}{B:List Tn}
theorem zis{c:Int→Nat}(b:BkOk ws ws B) (O:Ort B) {p:Pl}(h:PlOk ws B p):(p.ev B c).depth≤(p.ev B zr).depth+3*p.pn:=by
 induction h with
 | @sign b' h ps hh hp ih=>
  rw [zbk,zbk,Tr.depth,Tr.depth,Pl.pn,if_pos (by decide)];have:dts (ps.map (Pl.ev B c))≤dts (ps.map (Pl.ev B zr))+3*pns ps:=zkZ fun t ht=>by
   obtain⟨p,hp,rfl⟩:=List.mem_map.mp ht;have:=ih p hp;have:=zfA hp;have:=zcH (List.mem_map.mpr ⟨p,hp,rfl⟩:p.ev B zr∈ps.map (Pl.ev B zr));omega
  omega
 | @turn k b' h ps t e hl b0 b1 hp ih=>
  have ht:t∈B:=List.mem_of_getElem? e;have l0:(ps.map (Pl.ev B zr)).length=t.2.1.nb:=by rw [List.length_map,hl]
  obtain⟨_,_,f3⟩:=O.fill ht l0;have hk:∀u∈ps.map (Pl.ev B c),u.depth≤dts (ps.map (Pl.ev B zr))+3*pns ps:=fun t ht=>by
   obtain⟨p,hp,rfl⟩:=List.mem_map.mp ht;have:=ih p hp;have:=zfA hp;have:=zcH (List.mem_map.mpr ⟨p,hp,rfl⟩:p.ev B zr∈ps.map (Pl.ev B zr));omega
  have en:(Pl.nd k b' h ps).pn=1+pns ps:=by rw [Pl.pn,if_neg (by omega)]
  have fd:∀L:Tr,L.depth≤4→(L.fill (ps.map (Pl.ev B c))).depth≤4+dts (ps.map (Pl.ev B zr))+3*pns ps:=fun L hL=>by
   cases ps with
   |nil=>
    have:=zfQ L;simp only[List.map_nil]at *;omega
   |cons q qs=>
    have h1:1≤(q.ev B zr).depth:=by
     have:=O.inn;cases q.ev B zr<;>simp [Tr.depth]
    have:=zgv (k:=dts ((q::qs).map (Pl.ev B zr))+3*pns (q::qs)) (by rw [List.map_cons,dts];omega) hk L;omega
  rw [zaT e,zaT e,en,show zr b'=0 from rfl];show(evT t (c b') _).depth≤(t.2.1.fill (ps.map (Pl.ev B zr))).depth+3*(1+pns ps);unfold evT;split
  ·have:=fd _ (b.lf t ht).dp;omega
  ·rw [Tr.depth];have:=zkZ hk;omega
  ·have:=zfn (b.ri t ht);have:=fd t.2.2 (by omega);omega
mutual
noncomputable def Tr.ne (B:List Tn):Tr→Nat
 | .bl _=>0
 | .nd s ts=>(match zaR B s with
  |none=>0
  |some _=>1)+nes B ts
noncomputable def nes (B:List Tn):List Tr→Nat
 | []=>0
 |t::ts=>max (t.ne B) (nes B ts)
end
theorem zjl{t:Tr}:∀{ts:List Tr},t∈ts→t.ne B≤nes B ts
 |u::ts,h=>by
  rw [nes];rcases List.mem_cons.mp h with rfl |h
  ·omega
  ·have:=zjl h;omega
theorem zjQ{n:Nat}:∀{ts:List Tr},(∀t∈ts,t.ne B≤n)→nes B ts≤n
 | [],_=>by rw [nes];omega
 |t::ts,h=>by
  rw [nes];have:=h t (by simp);have:=zjQ fun u hu=>h u (List.mem_cons_of_mem _ hu);omega
mutual
theorem znB (hB:∀t∈B,zdm t.1) {us:List Tr}:∀t:Tr,t.hb zdQ→(t.fill us).ne B≤nes B us
 | .bl n,_=>by
  rw [Tr.fill,List.getD_eq_getElem?_getD];cases e:us[n.toNat]? with
  |none=>simp [Tr.ne]
  |some u=>exact zjl (List.mem_of_getElem? e)
 | .nd s ts,h=>by
  rw [Tr.hb]at h;rw [Tr.fill,Tr.ne,zcS hB h.1];have:=zjL hB (us:=us) ts h.2;simpa using this
theorem zjL (hB:∀t∈B,zdm t.1) {us:List Tr}:∀ts:List Tr,hbs zdQ ts→nes B (fills us ts)≤nes B us
 | [],_=>by rw [fills,nes];omega
 |t::ts,h=>by
  rw [hbs]at h;rw [fills,nes];have:=znB hB (us:=us) t h.1;have:=zjL hB (us:=us) ts h.2;omega
end
mutual
theorem zpL:∀(L:Tr) (k m:Nat),L.ord k=some m→ ∀(us:List Tr),m≤us.length→ ∀u∈(us.drop k).take (m - k),u.ne B≤(L.fill us).ne B
 | .bl n,k,m,h,us,hu,u,hm=>by
  rw [Tr.ord]at h;split at h
  ·rename_i hn;cases h;have hk:k<us.length:=by omega
   have e:(us.drop k).take (k+1 - k)=[us[k]]:=by
    rw [show k+1 - k=1 by omega,List.drop_eq_getElem_cons hk]
    rfl
   have f:(Tr.bl n).fill us=us[k]:=by
    rw [Tr.fill,hn,Int.toNat_natCast,List.getD_eq_getElem?_getD,List.getElem?_eq_getElem hk];rfl
   rw [e,List.mem_singleton]at hm;rw [f,hm];exact Nat.le_refl _
  ·cases h
 | .nd s ls,k,m,h,us,hu,u,hm=>by
  rw [Tr.ord]at h;have:=znZ ls k m h us hu u hm;rw [Tr.fill,Tr.ne];omega
theorem znZ:∀(ls:List Tr) (k m:Nat),zlP k ls=some m→ ∀(us:List Tr),m≤us.length→ ∀u∈(us.drop k).take (m - k),u.ne B≤nes B (fills us ls)
 | [],k,m,h,us,hu,u,hm=>by
  rw [zlP]at h;cases h;rw [Nat.sub_self,List.take_zero]at hm;cases hm
 |l::ls,k,m,h,us,hu,u,hm=>by
  rw [zlP]at h;cases q:l.ord k with
  |none=>rw [q]at h;cases h
  |some j=>
   rw [q]at h;obtain⟨h1,_,_⟩:=zhm l k j q;obtain⟨g1,_,_⟩:=zez ls j m h;have e:(us.drop k).take (m - k)=(us.drop k).take (j - k)++(us.drop j).take (m - j):=by
    rw [show m - k=(j - k)+(m - j) by omega,List.take_add,List.drop_drop,show k+(j - k)=j by omega]
   rw [e]at hm;rw [fills,nes];rcases List.mem_append.mp hm with hm |hm
   ·have:=zpL l k j q us (by omega) u hm;omega
   ·have:=znZ ls j m h us hu u hm;omega
end
theorem Ort.ne (O:Ort B) {t:Tn}(ht:t∈B) {us:List Tr}(hl:us.length=t.2.1.nb):nes B us≤(t.2.1.fill us).ne B:=zjQ fun u hu=>by
 refine zpL _ _ _ (O.od t ht) us (by omega) u ?_;rw [Nat.sub_zero,List.drop_zero,List.take_of_length_le (by omega)];exact hu
theorem zgG{c:Int→Nat}{p:Pl}{ps:List Pl}(hp:p∈ps):(p.ev B c).ne B≤nes B (ps.map (Pl.ev B c)):=zjl (List.mem_map.mpr ⟨p,hp,rfl⟩)
theorem znC{n:Nat}:∀{ps:List Pl},(∀p∈ps,p.pn≤n)→pns ps≤n
 | [],_=>by rw [pns];omega
 |p::ps,h=>by
  rw [pns];have:=h p (by simp);have:=znC fun u hu=>h u (List.mem_cons_of_mem _ hu);omega
theorem zvW{c d:Int→Nat}(b:BkOk ws ws B) (O:Ort B) (hc:One c) (hd:One d) {p:Pl}(h:PlOk ws B p) (hb:PlB (fun x=>c x=1∨d x=1) p):p.pn≤(p.ev B c).ne B+(p.ev B d).ne B:=by
 induction h with
 | @sign b' h ps hh hp ih=>
  have kids:∀p∈ps,PlB (fun x=>c x=1∨d x=1) p:=by
   cases hb with
   |sign h=>exact h
  have:pns ps≤nes B (ps.map (Pl.ev B c))+nes B (ps.map (Pl.ev B d)):=znC fun p hp=>by
   have:=ih p hp (kids p hp);have:=zgG (B:=B) (c:=c) hp;have:=zgG (B:=B) (c:=d) hp;omega
  have e:=zcS b.ti (b.sg h hh);rw [zbk,zbk,Pl.pn,if_pos (by decide),Tr.ne,Tr.ne,e];simpa using this
 | @turn k b' h ps t e hl b0 b1 hp ih=>
  have ht:t∈B:=List.mem_of_getElem? e;obtain⟨hb1,kids⟩:(c b'=1∨d b'=1)∧ ∀p∈ps,PlB (fun x=>c x=1∨d x=1) p:=by
   cases hb with
   |turn h1 h2=>exact⟨h1,h2⟩
  have key:pns ps≤nes B (ps.map (Pl.ev B c))+nes B (ps.map (Pl.ev B d)):=znC fun p hp=>by
   have:=ih p hp (kids p hp);have:=zgG (B:=B) (c:=c) hp;have:=zgG (B:=B) (c:=d) hp;omega
  have en:(Pl.nd k b' h ps).pn=1+pns ps:=by rw [Pl.pn,if_neg (by omega)]
  have low:∀c:Int→Nat,One c→nes B (ps.map (Pl.ev B c))+c b'≤(evT t (c b') (ps.map (Pl.ev B c))).ne B:=fun c hc=>by
   have l1:(ps.map (Pl.ev B c)).length=t.2.1.nb:=by rw [List.length_map,hl]
   have:=hc b' b0 b1;by_cases h1:c b'=1
   ·rw [h1];show _≤(Tr.nd t.1 _).ne B;rw [Tr.ne,zcX b.nd ht];show _≤1+_;omega
   ·rw [show c b'=0 by omega]
    exact O.ne ht l1
  rw [zaT e,zaT e,en];have:=low c hc;have:=low d hd;omega
end
open Classical in
noncomputable def res (B:List Tn) (x y:Tr):Tr:=if h:∃z n,Mv B n x y z then choose h else x
structure Bk2 (ws:List Str) (B:List Tn):Prop where
  b:BkOk ws ws B
  O:Ort B
  lw:∀t∈B,t.2.1.hb fun s=>s∈ws
theorem BookOk.bk2{w0 w1 w2 w3 w4 w5:Str}{tt:List Str}{B:List Tn}(b:BookOk w0 w1 w2 w3 w4 w5 tt B) (T:Titles tt) (G:Signs w0 w1 w2 w3 w4 w5):Bk2 [w0,w1,w2,w3,w4,w5] B:=by
 have k:=b.bk T G;refine⟨⟨k.ti,k.nd,k.sg,fun x hx=>hx,k.lf,k.ri⟩,b.ort G,fun t ht=>?_⟩;obtain⟨n,z |z⟩:=b.mem_lefts ht
 ·exact(zfa (P:=fun s=>s∈ [w0,w1,w2,w3,w4,w5]) (by simp) (by simp) (by simp) _ z).hb
 ·exact(zfa (P:=fun s=>s∈ [w0,w1,w2,w3,w4,w5]) (by simp) (by simp) (by simp) _ z).hb
section
variable {ws:List Str}{B:List Tn}{x y:Tr}{p:Pl}
theorem Bk2.wy (K:Bk2 ws B) {c:Int→Nat}{p:Pl}(h:PlOk ws B p):Wy ws B (p.ev B c):=by
 refine⟨?_,zqX _ (zqb K.b h)⟩
 induction h with
 | @sign b' h ps hh hp ih=>
  rw [zbk,Tr.hd,zfU];refine⟨.inl hh,fun u hu=>?_⟩;obtain⟨p,hp,rfl⟩:=List.mem_map.mp hu;exact ih p hp
 | @turn k b' h ps t e hl b0 b1 hp ih=>
  have ht:t∈B:=List.mem_of_getElem? e;have hu:∀u∈ps.map (Pl.ev B c),u.hd fun s=>s∈ws∨ ∃t∈B,t.1=s:=fun u hu=>by
   obtain⟨p,hp,rfl⟩:=List.mem_map.mp hu;exact ih p hp
  rw [zaT e];unfold evT;split
  ·exact ziX hu _ (znn (fun s hs=> .inl hs) _ (K.lw t ht)) (by rw [List.length_map,hl];exact(K.b.lf t ht).fits)
  ·rw [Tr.hd,zfU];exact⟨.inr ⟨t,ht,rfl⟩,hu⟩
  ·exact ziX hu _ (zgV (fun s hs=> .inl hs) (K.b.ri t ht)) (by rw [List.length_map,hl];exact zdB (K.b.ri t ht))
theorem zwh (x:Int) (h:zsw x):byC 1 x=1∨byC 2 x=1:=by
 rcases h with rfl |rfl |rfl
 ·exact .inl (by decide)
 ·exact .inr (by decide)
 ·exact .inl (by decide)
theorem PlB.imp{P Q:Int→Prop}(h:∀x,P x→Q x) {p:Pl}(hp:PlB P p):PlB Q p:=by
 induction hp with
 |sign _ ih=>exact .sign ih
 |turn hb _ ih=>exact .turn (h _ hb) ih
theorem zqf (K:Bk2 ws B) (hx:Wy ws B x) (hy:Wy ws B y) (e:src B x=src B y):∃p,PlOk ws B p∧p.ev B (byC 1)=x∧p.ev B (byC 2)=y∧p.pn≤x.ne B+y.ne B∧p.ev B zr=src B x:=by
 obtain⟨p,hp,hb,e1,e2⟩:=zpq K.b K.O _ x y (Nat.le_refl _) hx hy e;refine⟨p,hp,e1,e2,?_,?_⟩
 ·have:=zvW K.b K.O (zgk 1) (zgk 2) hp (hb.imp zwh);rw [e1,e2]at this;exact this
 ·rw [←e1];show _=(p.ev B (byC 1)).mk B fun t=>t.2.1;rw [zeh K.b hp];exact zgX hp fun b h0 h1=>((zgk 1).src b h0 h1).symm
theorem Bk2.pk (K:Bk2 ws B) {p:Pl}(hp:PlOk ws B p) {n:Nat}(hn:p.pn≤n) (hw:2 ^ n*(p.ev B zr).weight≤400) (hd:(p.ev B zr).depth+3*n≤40):Pk ws ws B p:=by
 refine⟨K.b,K.O.mt,hp,fun {c}=>?_,fun {c}=>?_⟩
 ·have:=zis (c:=c) K.b K.O hp;omega
 ·have h1:=zgx (c:=c) K.b K.O hp;have h2:2 ^ p.pn*(p.ev B zr).weight≤2 ^ n*(p.ev B zr).weight:=Nat.mul_le_mul_right _ (Nat.pow_le_pow_right (by decide) hn);omega
structure Two (ws:List Str) (B:List Tn) (x y:Tr):Prop where
  K:Bk2 ws B
  ex:∃p c d,Pk ws ws B p∧One c∧One d∧p.ev B c=x∧p.ev B d=y
theorem Two.symm (h:Two ws B x y):Two ws B y x:=by
 obtain⟨p,c,d,k,hc,hd,e1,e2⟩:=h.ex;exact⟨h.K,p,d,c,k,hd,hc,e2,e1⟩
structure Moved (ws:List Str) (B:List Tn) (x y z:Tr):Prop where
  wy:Wy ws B z
  sr:src B z=gol B y
  go:gol B z=gol B (res B y x)
  ne:z.ne B≤x.ne B
end
section
variable {ws:List Str}{B:List Tn}{x y t:Tr}
structure Bd (t:Tr) (n:Nat):Prop where
  w:2 ^ n*t.weight≤400
  d:t.depth+3*n≤40
theorem Bd.mono{n m:Nat}(h:Bd t m) (hn:n≤m):Bd t n:=by
 have h1:=h.w;have h2:=h.d;have h3:2 ^ n*t.weight≤2 ^ m*t.weight:=Nat.mul_le_mul_right _ (Nat.pow_le_pow_right (by decide) hn);exact⟨by omega,by omega⟩
theorem zwi (b:BkOk ws ws B) {p:Pl}(h:PlOk ws B p):(p.ev B zr).ne B=0:=by
 induction h with
 | @sign b' h ps hh hp ih=>
  have:nes B (ps.map (Pl.ev B zr))≤0:=zjQ fun u hu=>by
   obtain⟨p,hp,rfl⟩:=List.mem_map.mp hu;rw [ih p hp];exact Nat.le_refl _
  have e:=zcS b.ti (b.sg h hh);rw [zbk,Tr.ne,e];show 0+_=0;omega
 | @turn k b' h ps t e hl b0 b1 hp ih=>
  have ht:t∈B:=List.mem_of_getElem? e;have:nes B (ps.map (Pl.ev B zr))≤0:=zjQ fun u hu=>by
   obtain⟨p,hp,rfl⟩:=List.mem_map.mp hu;rw [ih p hp];exact Nat.le_refl _
  have:=znB b.ti (us:=ps.map (Pl.ev B zr)) t.2.1 (b.lf t ht).hb;rw [zaT e];show(t.2.1.fill _).ne B=0;omega
theorem zwU:∀x:Int,0≤x→x<8→zr x=byC 8 x:=fun x h0 h8=>(zpc x h0 h8).symm
theorem Bk2.src (K:Bk2 ws B) (h:Wy ws B x):Wy ws B (src B x)∧L2.src B (src B x)=L2.src B x∧(L2.src B x).ne B=0∧gol B (L2.src B x)=L2.src B x:=by
 obtain⟨p,hp,_,rfl,_⟩:=zpq K.b K.O _ x x (Nat.le_refl _) h h rfl;have e:L2.src B (p.ev B (byC 1))=p.ev B zr:=by
  show(p.ev B (byC 1)).mk B (fun t=>t.2.1)=_;rw [zeh K.b hp];exact zgX hp (zgk 1).src
 rw [e];refine⟨K.wy hp,?_,zwi K.b hp,?_⟩
 ·show(p.ev B zr).mk B (fun t=>t.2.1)=_;rw [zeh K.b hp];rfl
 ·show(p.ev B zr).mk B (fun t=>t.2.2)=_;rw [zdW K.b hp];rfl
theorem Bk2.two (K:Bk2 ws B) (hx:Wy ws B x) (hy:Wy ws B y) (ex:L2.src B x=t) (ey:L2.src B y=t) (h:Bd t (x.ne B+y.ne B)):Two ws B x y:=by
 obtain⟨p,hp,e1,e2,hn,hs⟩:=zqf K hx hy (ex.trans ey.symm);exact⟨K,p,byC 1,byC 2,K.pk hp hn (by rw [hs,ex];exact h.w) (by rw [hs,ex];exact h.d),zgk 1,zgk 2,e1,e2⟩
theorem Bk2.ow (K:Bk2 ws B) (hx:Wy ws B x) (ex:L2.src B x=t) (h:Bd t (x.ne B)):Two ws B x t:=by
 obtain⟨h1,h2,h3,_⟩:=K.src hx;rw [ex]at h1 h2 h3;exact K.two hx h1 ex h2 (by rw [h3];exact h)
theorem Bk2.goal (K:Bk2 ws B) (hx:Wy ws B x) (ex:L2.src B x=t) {n:Nat}(h:Bd t (x.ne B+n)):Bd (gol B x) n:=by
 have sx:=K.src hx;obtain⟨p,hp,e1,e2,hn,hs⟩:=zqf K hx sx.1 sx.2.1.symm;rw [sx.2.2.1,Nat.add_zero]at hn;have e:gol B x=p.ev B (zbG (byC 1)):=by
  rw [←e1];exact zdW K.b hp
 have h1:=zgx (c:=zbG (byC 1)) K.b K.O hp;have h2:=zis (c:=zbG (byC 1)) K.b K.O hp;rw [hs,ex]at h1 h2;have hw:=h.w;have hd:=h.d;rw [e];refine⟨?_,by omega⟩
 have h3:2 ^ p.pn*t.weight≤2 ^ x.ne B*t.weight:=Nat.mul_le_mul_right _ (Nat.pow_le_pow_right (by decide) hn);have h4:2 ^ n*(p.ev B (zbG (byC 1))).weight≤2 ^ n*(2 ^ x.ne B*t.weight):=Nat.mul_le_mul_left _ (Nat.le_trans h1 h3);rw [←Nat.mul_assoc,←Nat.pow_add,Nat.add_comm n]at h4;omega
theorem Bk2.gol (K:Bk2 ws B) (h:Wy ws B x):Wy ws B (gol B x)∧L2.src B (L2.gol B x)=L2.gol B x∧(L2.gol B x).ne B=0∧L2.gol B (L2.gol B x)=L2.gol B x:=by
 obtain⟨p,hp,_,rfl,_⟩:=zpq K.b K.O _ x x (Nat.le_refl _) h h rfl;have e:L2.gol B (p.ev B (byC 1))=p.ev B (zbG (byC 1)):=zdW K.b hp;have tg:∀x,zbG (byC 1) x≠1:=fun x=>by unfold zbG;split<;>omega
 have s:L2.src B (p.ev B (zbG (byC 1)))=p.ev B (zbG (byC 1)):=by
  show(p.ev B (zbG (byC 1))).mk B (fun t=>t.2.1)=_;rw [zeh K.b hp];exact zgX hp fun b _ _=>by rw [zfW,if_neg (tg b)]
 have w:Wy ws B (p.ev B (zbG (byC 1))):=K.wy hp;rw [e];refine⟨w,s,?_,?_⟩
 ·have:=(K.src w).2.2.1;rwa [s]at this
 ·have:=(K.src w).2.2.2;rwa [s]at this
end
section
variable {ws:List Str}{B:List Tn}{x y:Tr}{S:Sto}{a:Addr}{r:Nat}{Q:WK}{E:Str→Sto→Prop}
theorem Two.ok_goal (h:Two ws B x y) (ha:S a=some (.lst (B.map zbc))) (hr:60≤r) (q:Q (enc (L2.gol B x)) S):zeS (r+1) [.ref a,enc x] S Q E:=by
 obtain⟨p,c,d,k,hc,hd,rfl,rfl⟩:=h.ex;rw [show L2.gol B (p.ev B c)=_ from zdW k.b k.o]at q;exact k.ok_goal ha hr q
theorem Two.ok_made1 (h:Two ws B x y) (ha:S a=some (.lst (B.map zbc))) (hr:60≤r) (q:Q (enc (L2.src B x)) S):zaC (r+1) [.ref a,enc x, .int 1] S Q E:=by
 obtain⟨p,c,d,k,hc,hd,rfl,rfl⟩:=h.ex;rw [show L2.src B (p.ev B c)=_ from zeh k.b k.o]at q;exact k.ok_made1 ha hr q
theorem Two.ok_made2 (h:Two ws B x y) (ha:S a=some (.lst (B.map zbc))) (hr:60≤r) (q:Q (enc (L2.gol B x)) S):zaC (r+1) [.ref a,enc x, .int 2] S Q E:=by
 obtain⟨p,c,d,k,hc,hd,rfl,rfl⟩:=h.ex;rw [show L2.gol B (p.ev B c)=_ from zdW k.b k.o]at q;exact k.ok_made2 ha hr q
end
noncomputable def zhG (B:List Tn):Tr→List Tr→Tr
 |t,[]=>t
 |_,x::xs=>zhG B (gol B x) xs
noncomputable def Roa (ws:List Str) (B:List Tn):Tr→List Tr→Prop
 |_,[]=>True
 |t,x::xs=>Wy ws B x∧src B x=t∧Roa ws B (gol B x) xs
noncomputable def nR (B:List Tn):List Tr→Nat
 | []=>0
 |x::xs=>x.ne B+nR B xs
noncomputable def zop (B:List Tn):Tr→List Tr→List Tr
 |x,[]=>[x]
 |x,o::os=>x::zop B (res B x o) os
noncomputable def zsG (B:List Tn):Tr→List Tr→List Tr
 |_,[]=>[]
 |x,o::os=>res B o x::zsG B (res B x o) os
noncomputable def ztn (B:List Tn):Tr→List Tr→Tr
 |x,[]=>x
 |x,o::os=>ztn B (res B x o) os
noncomputable def ztN (B:List Tn):List Tr→List Tr→List (List Tr)
 | [],_=>[]
 |x::xs,os=>zop B x os::ztN B xs (zsG B x os)
noncomputable def ztG (B:List Tn):List Tr→List Tr→List (List Tr)
 | [],os=>[os]
 |x::xs,os=>os::ztG B xs (zsG B x os)
noncomputable def zvs (B:List Tn):List Tr→List Tr→List Tr
 | [],_=>[]
 |x::xs,os=>ztn B x os::zvs B xs (zsG B x os)
noncomputable def zwp (B:List Tn):List Tr→List Tr→List Tr
 | [],os=>os
 |x::xs,os=>zwp B xs (zsG B x os)
section
variable {ws:List Str}{B:List Tn}
theorem zoA:∀(os:List Tr) (x:Tr),(zop B x os).length=os.length+1
 | [],x=>rfl
 |o::os,x=>by rw [zop,List.length_cons,zoA os];rfl
theorem Roa.end_wy (K:Bk2 ws B):∀(xs:List Tr) {t:Tr},Roa ws B t xs→Wy ws B t→src B t=t→Wy ws B (zhG B t xs)∧src B (zhG B t xs)=zhG B t xs
 | [],t,_,h,e=>⟨h,e⟩
 |x::xs,t,⟨hx,ex,hr⟩,_,_=>Roa.end_wy K xs hr (K.gol hx).1 (K.gol hx).2.1
theorem Roa.end_bd (K:Bk2 ws B):∀(xs:List Tr) {t:Tr}{n:Nat},Roa ws B t xs→Bd t (nR B xs+n)→Bd (zhG B t xs) n
 | [],t,n,_,h=>by rw [nR,Nat.zero_add]at h;exact h
 |x::xs,t,n,⟨hx,ex,hr⟩,h=>by
  rw [nR]at h;exact Roa.end_bd K xs hr (K.goal hx ex (h.mono (by omega)))
end
theorem zgs{α β:Type}{R:α→β→Prop}:∀{xs:List α}{ys:List β}{xs':List α}{ys':List β},Paired R xs ys→Paired R xs' ys'→Paired R (xs++xs') (ys++ys')
 |_,_,_,_, .nil,h=>h
 |_,_,_,_, .cons h1 h2,h=> .cons h1 (zgs h2 h)
theorem zdx{α β:Type}{R R':α→β→Prop}(f:∀x y,R x y→R' x y):∀{xs:List α}{ys:List β},Paired R xs ys→Paired R' xs ys
 |_,_, .nil=> .nil
 |_,_, .cons h1 h2=> .cons (f _ _ h1) (zdx f h2)
mutual
theorem ztS:∀(L t:Tr) (ms:List Tr) (p:List Int),L.mt t=some ms→Paired (fun(x:List Int×Tr) m=>∃e,x.1=p++e∧t.at e=some m) ((L.plt p).filter fun x=>x.2.isBl) ms
 | .bl n,t,ms,p,e=>by
  rw [Tr.mt]at e;cases e;rw [Tr.plt];exact .cons ⟨[],by simp,by rw [Tr.at]⟩ .nil
 | .nd s ls, .bl n,ms,p,e=>by rw [Tr.mt]at e;cases e
 | .nd s ls, .nd z us,ms,p,e=>by
  rw [Tr.mt]at e;split at e
  ·rename_i hc;rw [Bool.and_eq_true,beq_iff_eq,beq_iff_eq]at hc;rw [Tr.plt,List.filter_cons_of_neg (by simp [Tr.isBl])];refine zdx ?_ (zqc ls us ms p 0 hc.2 e);rintro x m ⟨j,e,u,h1,h2,h3⟩;refine⟨(j:Int)::e,by rw [h1,Nat.zero_add],?_⟩
   rw [Tr.at,if_neg (by omega),Int.toNat_natCast,h2];exact h3
  ·cases e
theorem zqc:∀(ls us ms:List Tr) (p:List Int) (i:Nat),ls.length=us.length→mts ls us=some ms→Paired (fun(x:List Int×Tr) m=>∃(j:Nat) (e:List Int) (u:Tr),x.1=p++((i+j:Nat):Int)::e∧us[j]? =some u∧u.at e=some m) ((zgr p i ls).filter fun x=>x.2.isBl) ms
 | [],us,ms,p,i,hl,e=>by
  rw [mts]at e;cases e;rw [zgr];exact .nil
 |l::ls,[],ms,p,i,hl,e=>by cases hl
 |l::ls,u::us,ms,p,i,hl,e=>by
  rw [mts]at e;cases q1:l.mt u with
  |none=>rw [q1]at e;cases e
  |some xs=>
   rw [q1]at e;cases q2:mts ls us with
   |none=>rw [q2]at e;cases e
   |some zs=>
    rw [q2]at e;cases e;rw [zgr,List.filter_append];refine zgs (zdx ?_ (ztS l u xs _ q1)) (zdx ?_ (zqc ls us zs p (i+1) (by simpa using hl) q2))
    ·rintro x m ⟨e,h1,h2⟩;exact⟨0,e,u,by rw [h1];simp,rfl,h2⟩
    ·rintro x m ⟨j,e,v,h1,h2,h3⟩;exact⟨j+1,e,v,by rw [h1,show i+1+j=i+(j+1) by omega],by rw [List.getElem?_cons_succ];exact h2,h3⟩
end
theorem ztM{L t:Tr}{ms:List Tr}(h:L.mt t=some ms):Paired (fun q m=>t.at q=some m) (L.bls.map fun x=>x.1) ms:=by
 have:=ztS L t ms [] h;clear h;unfold Tr.bls;generalize (L.plt []).filter (fun x=>x.2.isBl)=xs at this⊢
 induction this with
 |nil=>exact .nil
 |cons h1 h2 ih=>
  obtain⟨e,h3,h4⟩:=h1;rw [List.map_cons];rw [List.nil_append]at h3;exact .cons (by rw [h3];exact h4) ih
noncomputable def cnt (wn:List (List Int)) (p:List Int):Nat:=wn.countP fun q=>p.isPrefixOf q
theorem znu (wn:List (List Int)) (p q:List Int):cnt wn (p++q)≤cnt wn p:=by
 unfold cnt;refine List.countP_mono_left fun x _ h=>?_;obtain⟨e,rfl⟩:=List.isPrefixOf_iff_prefix.mp h;exact List.isPrefixOf_iff_prefix.mpr ⟨q++e,by simp⟩
theorem zql:∀(wn:List (List Int)) (p:List Int) (i:Int) (q:List Int),p∈wn→cnt wn (p++i::q)+1≤cnt wn p
 |w::wn,p,i,q,h=>by
  unfold cnt;rw [List.countP_cons,List.countP_cons];have hs:=znu wn p (i::q);unfold cnt at hs;rcases List.mem_cons.mp h with rfl |h
  ·have h1:(p++i::q).isPrefixOf p=false:=by
    rw [Bool.eq_false_iff];intro z;obtain⟨e,z⟩:=List.isPrefixOf_iff_prefix.mp z;have:=congrArg List.length z;simp at this
   have h2:p.isPrefixOf p=true:=List.isPrefixOf_iff_prefix.mpr ⟨[],by simp⟩
   rw [h1,h2];simp;omega
  ·have ih:=zql wn p i q h;unfold cnt at ih;have h3:(p++i::q).isPrefixOf w=true→p.isPrefixOf w=true:=fun z=>by
    obtain⟨e,rfl⟩:=List.isPrefixOf_iff_prefix.mp z;exact List.isPrefixOf_iff_prefix.mpr ⟨i::q++e,by simp⟩
   by_cases z:(p++i::q).isPrefixOf w=true
   ·rw [if_pos z,if_pos (h3 z)];omega
   ·rw [if_neg z];omega
theorem zjB{B:List Tn}:∀{ts:List Tr},(∀t∈ts,t.ar B)→ars B ts
 | [],_=>by rw [ars];trivial
 |t::ts,h=>by rw [ars];exact⟨h t (by simp),zjB fun u hu=>h u (List.mem_cons_of_mem _ hu)⟩
structure Sh (ws:List Str) (B:List Tn) (t:Tr):Prop where
  wy:Wy ws B t
  q:src B t=t
section
variable {ws:List Str}{B:List Tn}
theorem Sh.cases (K:Bk2 ws B) {t:Tr}(h:Sh ws B t):∃s ts,t= .nd s ts∧s∈ws∧zaR B s=none∧ ∀x∈ts,Sh ws B x:=by
 rcases h.wy.cases K.b with⟨s,ts,rfl,hs,e,k⟩ |⟨u,ts,hu,rfl,e,hl,k⟩
 ·have q:=h.q;rw [show src B (.nd s ts)=_ from zeF e]at q;injection q with _ q;refine⟨s,ts,rfl,hs,e,fun x hx=>⟨k x hx,?_⟩⟩;obtain⟨i,hi,rfl⟩:=List.getElem_of_mem hx;have:=congrArg (fun l=>l[i]?) q;simp only[List.getElem?_map,List.getElem?_eq_getElem hi]at this;exact Option.some.inj this
 ·have q:=h.q;rw [show src B (.nd u.1 ts)=_ from zec e]at q;obtain⟨s0,l0,e0,_⟩:=K.O.inn u hu;have hb:=(K.b.lf u hu).hb;rw [e0,Tr.hb]at hb;rw [e0,Tr.fill]at q;injection q with q _;exact absurd q (zdy hb.1 (K.b.ti u hu))
theorem Sh.parts (K:Bk2 ws B) {t:Tr}(h:Sh ws B t) {u:Tn}(hu:u∈B) {ms:List Tr}(e:u.2.1.mt t=some ms):t=u.2.1.fill ms∧ms.length=u.2.1.nb∧ ∀x∈ms,Sh ws B x:=by
 obtain⟨h1,h2⟩:=K.O.fm u hu _ _ e;refine⟨h1,h2,fun x hx=>⟨zro _ _ _ e h.wy x hx,?_⟩⟩;have q:=h.q;rw [h1,show src B (u.2.1.fill ms)=_ from zkf K.b hu h2 _]at q;have m1:=K.O.mt u hu ms h2;have m2:=K.O.mt u hu (ms.map (src B)) (by rw [List.length_map,h2]);rw [show u.2.1.fill (ms.map (src B))=_ from q,m1]at m2;have q:=Option.some.inj m2;obtain⟨i,hi,rfl⟩:=List.getElem_of_mem hx;have:=congrArg (fun l=>l[i]?) q;simp only[List.getElem?_map,List.getElem?_eq_getElem hi]at this;exact(Option.some.inj this).symm
noncomputable def zsx (B:List Tn) (wn:List (List Int)) (p:List Int) (t:Tr):Prop:=∀q∈wn,∀e v,q=p++e→t.at e=some v→(zes B v).isSome=true
theorem zsA{s:Str}{ts:List Tr}{i:Nat}{u:Tr}(h:ts[i]? =some u) (e:List Int):(Tr.nd s ts).at ((i:Int)::e)=u.at e:=by
 rw [Tr.at,if_neg (by omega),Int.toNat_natCast,h]
theorem znv{wn:List (List Int)}{n:Nat}{p:List Int}{c:Nat}(ih:∀(t:Tr) (p:List Int),t.depth≤n→Sh ws B t→zsx B wn p t→ ∃u,Wi B wn n p t u∧src B u=t∧Wy ws B u∧u.ne B≤cnt wn p) :
  ∀{qs:List (List Int)}{ts:List Tr},Paired (fun q t=>t.depth≤n∧Sh ws B t∧zsx B wn (p++q) t∧cnt wn (p++q)≤c) qs ts→ ∃us,Wis B wn n p qs ts us∧us.map (src B)=ts∧(∀u∈us,Wy ws B u)∧nes B us≤c
 |_,_, .nil=>⟨[], .nil,rfl,by simp,by rw [nes];omega⟩
 |_,_, .cons ⟨h1,h2,h3,h4⟩ h=>by
  obtain⟨u,w,e,y,k⟩:=ih _ _ h1 h2 h3;obtain⟨us,ws',es,ys,ks⟩:=znv ih h;refine⟨u::us, .cons w ws',by rw [List.map_cons,e,es],fun v hv=>?_,by rw [nes];omega⟩
  rcases List.mem_cons.mp hv with rfl |hv
  ·exact y
  ·exact ys v hv
theorem zrf (K:Bk2 ws B) {wn:List (List Int)}:∀(n:Nat) (t:Tr) (p:List Int),t.depth≤n→Sh ws B t→zsx B wn p t→ ∃u,Wi B wn n p t u∧src B u=t∧Wy ws B u∧u.ne B≤cnt wn p
 |0,t,p,hd,h,_=>by
  obtain⟨s,ts,rfl,_⟩:=h.cases K;rw [Tr.depth]at hd;omega
 |n+1,t,p,hd,h,hw=>by
  obtain⟨s,ts,rfl,hs,e,k⟩:=h.cases K;rw [Tr.depth]at hd;by_cases hp:p∈wn
  ·have ho:=hw p hp [] (.nd s ts) (by simp) (by rw [Tr.at]);obtain⟨u,ho⟩:=Option.isSome_iff_exists.mp ho;have hu:u∈B:=List.mem_of_find?_eq_some ho;have hm:(u.2.1.mt (.nd s ts)).isSome=true:=by simpa using List.find?_some ho
   obtain⟨ms,hm⟩:=Option.isSome_iff_exists.mp hm;obtain⟨f1,f2,f3⟩:=h.parts K hu hm;have ba:=ztM hm;have hdm:∀y∈ms,y.depth≤n:=fun y hy=>by
    obtain⟨s0,l0,e0,_⟩:=K.O.inn u hu;rw [e0,Tr.mt]at hm;split at hm
    ·have:=zmu _ _ _ hm y hy;omega
    ·cases hm
   have hne:∀q∈u.2.1.bls.map (fun x=>x.1),∃i e,q=i::e:=fun q hq=>by
    obtain⟨z,hz,rfl⟩:=List.mem_map.mp hq;obtain⟨h1,h2,_⟩:=znI hz;cases hq:z.1 with
    |nil=>
     rw [hq,Tr.at]at h1;have h3:u.2.1=z.2:=Option.some.inj h1;obtain⟨s0,l0,e0,_⟩:=K.O.inn u hu;rw [←h3,e0]at h2;cases h2
    |cons i is=>exact⟨i,is,rfl⟩
   have pr:∀{qs:List (List Int)}{xs:List Tr},(∀q∈qs,∃i e,q=i::e)→(∀x∈xs,x.depth≤n∧Sh ws B x)→Paired (fun q m=>(Tr.nd s ts).at q=some m) qs xs→Paired (fun q t=>t.depth≤n∧Sh ws B t∧zsx B wn (p++q) t∧cnt wn (p++q)≤cnt wn p - 1) qs xs:=by
    intro qs xs h1 h2 h3
    induction h3 with
    |nil=>exact .nil
    | @cons q m qs xs h4 _ ih=>
     obtain⟨i,e,rfl⟩:=h1 q (by simp);obtain⟨g1,g2⟩:=h2 m (by simp);refine .cons ⟨g1,g2,fun q' hq' e' v' h5 h6=>hw q' hq' (i::e++e') v' (by rw [h5];simp) (by rw [zqj _ e' h4];exact h6),?_⟩ (ih (fun q hq=>h1 q (List.mem_cons_of_mem _ hq)) fun x hx=>h2 x (List.mem_cons_of_mem _ hx));have:=zql wn p i e hp;omega
   obtain⟨us,wi,es,ys,ks⟩:=znv (zrf K n) (pr hne (fun x hx=>⟨hdm x hx,f3 x hx⟩) ba);have et:=zcX K.b.nd hu;have lu:us.length=u.2.1.nb:=by rw [←f2,←es,List.length_map]
   refine⟨.nd u.1 us, .yes hp ho hm et wi,?_,⟨?_,?_⟩,?_⟩
   ·rw [show src B (.nd u.1 us)=_ from zec et,es,f1]
   ·rw [Tr.hd,zfU];exact⟨.inr ⟨u,hu,rfl⟩,fun x hx=>(ys x hx).hd⟩
   ·rw [Tr.ar];refine⟨fun t ht=>?_,zjB fun x hx=>(ys x hx).ar⟩;rw [et]at ht;cases ht;exact lu
   ·rw [Tr.ne,et];have h1:1≤cnt wn p:=by
     unfold cnt;exact List.countP_pos_iff.mpr ⟨p,hp,List.isPrefixOf_iff_prefix.mpr ⟨[],by simp⟩⟩
    show 1+_≤_;omega
  ·have pr:∀(i:Nat) (xs:List Tr),(∀(j:Nat) x,xs[j]? =some x→ts[i+j]? =some x)→Paired (fun q t=>t.depth≤n∧Sh ws B t∧zsx B wn (p++q) t∧cnt wn (p++q)≤cnt wn p) ((List.range' i xs.length).map fun(i:Nat)=>[(i:Int)]) xs:=by
    intro i xs
    induction xs generalizing i with
    |nil=>intro _;exact .nil
    |cons x xs ih=>
     intro hx;have hi:=hx 0 x rfl;rw [Nat.add_zero]at hi;have hm:x∈ts:=List.mem_of_getElem? hi;have hdx:=zcH hm;rw [List.length_cons,List.range'_succ,List.map_cons];refine .cons ⟨by omega,k x hm,fun q' hq' e' v' h5 h6=>hw q' hq' ((i:Int)::e') v' (by rw [h5];simp) (by rw [zsA hi];exact h6),znu wn p _⟩ (ih (i+1) fun j y hy=>?_);have:=hx (j+1) y (by rw [List.getElem?_cons_succ];exact hy);rw [show i+1+j=i+(j+1) by omega]
     exact this
   have pr0:=pr 0 ts fun j x h=>by rw [Nat.zero_add];exact h
   rw [←List.range_eq_range']at pr0;obtain⟨us,wi,es,ys,ks⟩:=znv (zrf K n) pr0;refine⟨.nd s us, .no hp e wi,?_,⟨?_,?_⟩,?_⟩
   ·rw [show src B (.nd s us)=_ from zeF e,es]
   ·rw [Tr.hd,zfU];exact⟨.inl hs,fun x hx=>(ys x hx).hd⟩
   ·rw [Tr.ar];exact⟨fun t ht=>(by rw [e]at ht;cases ht),zjB fun x hx=>(ys x hx).ar⟩
   ·rw [Tr.ne,e];show 0+_≤_;omega
end
mutual
theorem zeQ:∀t:Tr,t.depth≤t.weight
 | .bl _=>by rw [Tr.depth,Tr.weight];exact Nat.le_refl _
 | .nd _ ts=>by rw [Tr.depth,Tr.weight];have:=zeg ts;omega
theorem zeg:∀ts:List Tr,dts ts≤wts ts
 | []=>by rw [dts,wts];exact Nat.le_refl _
 |t::ts=>by rw [dts,wts];have:=zeQ t;have:=zeg ts;omega
end
theorem znk{B:List Tn}:∀(ps:List Pl),(∀p∈ps,(p.ev B zr).weight≤p.wt+2*p.nt)→wts (ps.map (Pl.ev B zr))≤pwts ps+2*pnts ps
 | [],_=>by simp [wts]
 |p::ps,h=>by
  have h1:=h p List.mem_cons_self;have h2:=znk ps fun q hq=>h q (List.mem_cons_of_mem _ hq);rw [List.map_cons,wts,pwts,pnts];omega
theorem zmd{ws hs:List Str}{B:List Tn}(b:BkOk ws hs B) {p:Pl}(h:PlOk hs B p):(p.ev B zr).weight≤p.wt+2*p.nt:=by
 induction h with
 | @sign b' h ps hh hp ih=>
  have:=znk ps ih;rw [zbk,Tr.weight,Pl.wt,Pl.nt,if_pos (by decide)];omega
 | @turn k b' h ps t e hl b0 b1 hp ih=>
  have ht:t∈B:=List.mem_of_getElem? e;have:=znk ps ih;have:=(b.lf t ht).fw (ps.map (Pl.ev B zr)) (by rw [List.length_map,hl]);rw [zaT e,Pl.wt,Pl.nt,if_neg (by omega)];show(t.2.1.fill _).weight≤_;omega
theorem PlOk.sub{ws hs:List Str}{B:List Tn}(h:∀x∈hs,x∈ws) {p:Pl}(hp:PlOk hs B p):PlOk ws B p:=by
 induction hp with
 |sign h1 _ ih=>exact .sign (h _ h1) ih
 |turn e hl b0 b1 _ ih=>exact .turn e hl b0 b1 ih
section
variable {w0 w1 w2 w3 w4 w5:Str}{tt:List Str}{B:List Tn}{S:Sto}{aw at' ab ac:Addr}{cs:List Int}{Q:WK}{X:Str→Sto→Prop}
theorem Pre.bk2 (P:Pre S aw at' ab w0 w1 w2 w3 w4 w5 tt B):Bk2 [w0,w1,w2,w3,w4,w5] B:=P.b.bk2 P.T P.G
theorem Pre.lft (P:Pre S aw at' ab w0 w1 w2 w3 w4 w5 tt B):Lft B:=⟨fun t ht=>(P.bk.lf t ht).dp,fun t ht=>by
 have h1:=(P.bk.lf t ht).wt;have h2:=(P.bk.lf t ht).nb;omega⟩
theorem Pre.ok_shape{Y:Str→Sto→Prop}{v8:Int}(h8:v8=8) (P:Pre S aw at' ab w0 w1 w2 w3 w4 w5 tt B) (hc:S ac=some (.lst (cs.map W.int)))
  (h:∀(t:Tr) (S':Sto),Sub S S'→Sh [w0,w1,w2,w3,w4,w5] B t→Bd t 4→Q (enc t) S'):zbB 199 [.ref ac, .ref ab, .ref aw, .int 6] S (fun v S1=>zbD 199 [v, .ref ab, .int v8] S1 Q Y) X:=by
 subst h8;refine L2.zoL (r:=189) (m:=6) (by decide) hc P.fb P.fw P.bk P.ne fun p v S' sub pa po pw pn=>?_;have K:=P.bk2;have po2:PlOk [w0,w1,w2,w3,w4,w5] B p:=po.sub fun x hx=>List.mem_cons_of_mem _ (List.mem_cons_of_mem _ hx);have hdp:=zkk p;refine L2.zpP (r:=198) (by decide) (sub _ _ P.fb) P.bk 23 (by omega) (by omega) pa po (by omega) ?_;have e:p.ev B (byC 8)=p.ev B zr:=zgX po fun x h0 h1=>(zwU x h0 h1).symm;rw [e];have hw:=zmd P.bk po;have hd:=zeQ (p.ev B zr);refine h _ S' sub ⟨K.wy po2,?_⟩ ⟨by omega,by omega⟩
 show(p.ev B zr).mk B (fun t=>t.2.1)=_;rw [zeh K.b po2];rfl
end
section
theorem zji{α:Type}(xs:List α) (x:α):atI (xs++[x]) (-1)=some x:=by
 unfold atI ixN;rw [if_neg (by decide),List.length_append,List.length_singleton];rw [if_pos (by omega)];show(xs++[x])[_]? =some x;rw [show((-1+((xs.length+1:Nat):Int)).toNat)=xs.length by omega,List.getElem?_concat_length]
end
theorem zmr{S:Sto}{t:Tr}(h:t.depth≤57):eqF S 60 (enc t) (enc t)=some true:=by
 rw [zlm 60 _ _ (by omega),zeB]
structure At (S0 S:Sto) (d o b:Addr) (xs:List Tr):Prop where
  d:b≠d
  o:b≠o
  e:S b=some (.lst (xs.map enc))
  z:S0 b=none
noncomputable abbrev Ats (S0 S:Sto) (d o:Addr) (bs:List Addr) (xss:List (List Tr)):Prop:=Paired (At S0 S d o) bs xss
theorem zoW{t:Tr}{r:Nat}{S:Sto}{Q:WK}{X:Str→Sto→Prop}(hw:t.weight≤400) (hd:t.depth≤40) (h:Q (enc t) S):zaP (r+5) [enc t] S Q X:=by
 rw [show r+5=r+4+1 from rfl,zaP];walk_at "wp";refine zeL (r:=r+3) (by omega) ?_;rw [zhd hw hd]
 try walk_at "wp"
 exact⟨_, .refl,h⟩
section
variable {ws:List Str}{B:List Tn}{d o:Addr}{t:Tr}{xs os:List Tr}{S:Sto}
theorem Roa.two (K:Bk2 ws B):∀(xs:List Tr) {t:Tr},Roa ws B t xs→Bd t (nR B xs)→ ∀x∈xs,∃y,Two ws B x y
 | [],t,_,_,x,hx=>by cases hx
 |z::xs,t,⟨hz,ez,hr⟩,hb,x,hx=>by
  rw [nR]at hb;rcases List.mem_cons.mp hx with rfl |hx
  ·exact⟨_,K.ow hz ez (hb.mono (by omega))⟩
  ·exact Roa.two K xs hr (K.goal hz ez hb) x hx
structure Grd (S0 S:Sto) (B:List Tn) (xs os:List Tr) (d o:Addr):Prop where
  sub:Sub S0 S
  d0:S0 d=none
  o0:S0 o=none
  ne:d≠o
  ex:∃ds rs,S d=some (.lst (ds.map W.ref))∧S o=some (.lst (rs.map W.ref))∧Ats S0 S d o ds (ztN B xs os)∧Ats S0 S d o rs (ztG B xs os)
end
noncomputable def opl (B:List Tn) (t:Tr):List (List Int):=(t.op B []).map fun x=>x.1
theorem Sh.hdT{ws:List Str}{B:List Tn}{t:Tr}(h:Sh ws B t):t.hd fun _=>True:=znE (fun _ _=>trivial) _ h.wy.hd
theorem Sh.wn{ws:List Str}{B:List Tn}{t:Tr}(h:Sh ws B t) {wn:List (List Int)}(hw:∀q∈wn,q∈opl B t):zsx B wn [] t:=by
 intro q hq e v he hv;rw [List.nil_append]at he;subst he;obtain⟨x,hx,rfl⟩:=List.mem_map.mp (hw q hq);rw [←zqe B t [] (zgT _ h.hdT)]at hx;obtain⟨y,hy,hx⟩:=List.mem_flatMap.mp hx;unfold zuU at hx;obtain⟨u,hu,rfl⟩:=List.mem_map.mp hx;have:=(zrY hy).1;rw [this]at hv;cases hv;cases e:zes B y.2 with
 |none=>rw [e]at hu;cases hu
 |some _=>rfl
section
variable {ws:List Str}{B:List Tn}{a l1 lw m:Addr}{r:Nat}{E:WX}{D:WEnds}{T:WS}{t:Tr}{xs:List Tr}{S:Sto}{y0 y1 y2 y3 y4 y5 y6 y7 y8 y9:Option W}{lim sp c:Int}
theorem zwg (L:Lft B) (ha:S a=some (.lst (B.map zbc))) (h:Sh ws B t) (hw:t.weight≤400) (hd:t.depth≤40) (hr:80≤r) (k:∀S' m,Sub S S'→S' m=some (.lst ((opl B t).map zaM))→T E D [some (.ref a),y1,y2,y3,y4,some (enc t),y6,y7,some (.ref m),y9] S') :
  zbt r T E D [some (.ref a),y1,y2,y3,y4,some (enc t),y6,y7,y8,y9] S:=by
 rw [zbt];walk_at "wp";obtain⟨r,rfl⟩:∃r',r=r'+1:=⟨r - 1,by omega⟩
 refine zfz L ha (by omega) (by omega) (by omega) h.hdT fun q hq=>?_;show zbL (put S q (.lst ((t.op B []).map ziN))) q _;rw [zag zai];have hol:=zkE B t [];refine zbd (fun σ=>∃y,σ=[y]) ziN (fun x=>zaM x.1) zai (t.op B []) [] _ ⟨none,rfl⟩ (by simp;omega) (fun x hx σ R hI hR=>?_) ?_
 ·obtain⟨y,rfl⟩:=hI;rw [zej];unfold ziN;walk_at "wp";exact hR _ _ ⟨_,rfl⟩ .refl
 ·intro m hm;refine k _ m ((Sub.put .refl hq).trans (.put .refl hm)) ?_;rw [zai,List.nil_append];unfold opl;rw [List.map_map];rfl
theorem zvK{ps:List (List Int)}(hm:S m=some (.lst (ps.map zaM))) (hp:0<ps.length) (k:∀p1 p2 b,p1∈ps→p2∈ps→S b=none→T E D [y0,y1,y2,y3,y4,y5,y6,some (.int c),some (.ref m),some (.ref b)] (put S b (.lst [zaM p1,zaM p2]))) :
  zby r T E D [y0,y1,y2,y3,y4,y5,y6,some (.int c),some (.ref m),y9] S:=by
 rw [zby];walk_at "wp";rw [zag hm];have hne:ps.map zaM≠ []:=by
  intro z;rw [List.map_eq_nil_iff]at z;rw [z]at hp;exact absurd hp (by decide)
 obtain⟨j1,x1,e1,f1⟩:=znD c hne;obtain⟨j2,x2,e2,f2⟩:=znD (c / 64) hne;obtain⟨p1,m1,rfl⟩:=List.mem_map.mp (List.mem_of_getElem? e1);obtain⟨p2,m2,rfl⟩:=List.mem_map.mp (List.mem_of_getElem? e2);have hl:(0:Int)<((ps.map zaM).length:Int):=by rw [List.length_map];omega
 refine⟨hl,?_⟩;rw [zag hm,f1];refine⟨⟨by decide,by decide⟩,?_⟩
 rw [zag hm];refine⟨hl,?_⟩;rw [zag hm,f2];exact⟨by decide,fun b hb=>k p1 p2 b m1 m2 hb⟩
theorem zvk{p1 p2:List Int}{b:Addr}(hb:S b=some (.lst [zaM p1,zaM p2])) (h0:sp<lim) (k:∀wn b',(wn=[p1]∨wn=[p1,p2]∧sp+2≤lim)→S b'=none→T E D [y0,y1,y2,some (.int lim),y4,y5,some (.int sp),some (.int c),y8,some (.ref b')] (put S b' (.lst (wn.map zaM)))) :
  zbs r T E D [y0,y1,y2,some (.int lim),y4,y5,some (.int sp),some (.int c),y8,some (.ref b)] S:=by
 rw [zbs];walk_at "wp";refine⟨⟨by decide,by decide⟩,by decide,?_⟩
 have c1:zcj [zaM p1,zaM p2] none (some 1)=[p1].map zaM:=rfl;have c2:zcj [zaM p1,zaM p2] none (some 2)=[p1,p2].map zaM:=rfl;cases(c / 4096 % 2 == 1) with
 |false=>
  show zbL S b _;rw [zag hb];intro p hp;rw [show zcj [zaM p1,zaM p2] none (some (1+0))=_ from c1];exact k [p1] p (.inl rfl) hp
 |true=>
  show zbL S b _;rw [zag hb];intro p hp;split
  ·rename_i h2;rw [show zcj [zaM p1,zaM p2] none (some (1+1))=_ from c2];exact k [p1,p2] p (.inr ⟨rfl,h2⟩) hp
  ·rw [show zcj [zaM p1,zaM p2] none (some (1+0))=_ from c1];exact k [p1] p (.inl rfl) hp
theorem zwt{wn:List (List Int)}{b:Addr}{vs:List W}(K:Bk2 ws B) (L:Lft B) (hP:PB B) (ha:S a=some (.lst (B.map zbc))) (hb:S b=some (.lst (wn.map zaM))) (hv:S lw=some (.lst vs)) (hn:vs.length≤900) (h:Sh ws B t) (hw:t.weight≤400) (hd:t.depth≤40) (hi:∀q∈wn,q∈opl B t) (hl:wn.length≤2) (hr:120≤r)
  (k:∀u,Wy ws B u→src B u=t→u.ne B≤wn.length→T E D [some (.ref a),y1,y2,y3,some (.ref lw),some (enc t),y6,y7,y8,some (.ref b)] (put S lw (.lst (vs++[enc u])))) :
  zbv r T E D [some (.ref a),y1,y2,y3,some (.ref lw),some (enc t),y6,y7,y8,some (.ref b)] S:=by
 rw [zbv];walk_at "wp";rw [zag hv];refine⟨trivial,?_⟩;obtain⟨u,wi,e,y,hne⟩:=zrf K t.depth t [] (Nat.le_refl _) h (h.wn hi);obtain⟨r,rfl⟩:∃r',r=r'+1:=⟨r - 1,by omega⟩
 refine zph (ks:=opl B t) L hP wi (by omega) (by omega) ha hb h.hdT (by omega) (by omega) (by omega) rfl hi ?_;rw [zag hv];refine⟨zct (by omega),k u y e ?_⟩;have:cnt wn []≤wn.length:=List.countP_le_length;omega
theorem zvu{u y:Tr}{vs:List W}(ha:S a=some (.lst (B.map zbc))) (hv:S lw=some (.lst (vs++[enc u]))) (h2:Two ws B u y) (hr:62≤r) (k:T E D [some (.ref a),y1,y2,y3,some (.ref lw),some (enc (gol B u)),y6,y7,y8,y9] S) :
  zbu r T E D [some (.ref a),y1,y2,y3,some (.ref lw),y5,y6,y7,y8,y9] S:=by
 rw [zbu];walk_at "wp";rw [zag hv,zji];obtain⟨r,rfl⟩:∃r',r=r'+1:=⟨r - 1,by omega⟩
 exact h2.ok_made2 ha (by omega) k
theorem zvq{vs:List W}{b:Addr}(hb:S b=some (.lst vs)) (k:D.nx [y0,y1,y2,y3,y4,y5,some (.int (sp+vs.length)),y7,y8,some (.ref b)] S) :
  zbq r E D [y0,y1,y2,y3,y4,y5,some (.int sp),y7,y8,some (.ref b)] S:=by
 rw [zbq];walk_at "wp";rw [zag hb];exact k
theorem Roa.snoc:∀(xs:List Tr) {t u:Tr},Roa ws B t xs→Wy ws B u→src B u=zhG B t xs→Roa ws B t (xs++[u])
 | [],t,u,_,hu,e=>⟨hu,e,trivial⟩
 |x::xs,t,u,⟨h1,h2,h3⟩,hu,e=>⟨h1,h2,Roa.snoc xs h3 hu e⟩
theorem zfd:∀(xs:List Tr) (t u:Tr),zhG B t (xs++[u])=gol B u
 | [],t,u=>rfl
 |x::xs,t,u=>zfd xs (gol B x) u
theorem zpR:∀(xs ys:List Tr),nR B (xs++ys)=nR B xs+nR B ys
 | [],ys=>by rw [List.nil_append,nR,Nat.zero_add]
 |x::xs,ys=>by rw [List.cons_append,nR,nR,zpR xs ys,Nat.add_assoc]
theorem Bd.small{n:Nat}(h:Bd t n):t.weight≤400∧t.depth≤40:=by
 have h1:=h.w;have h2:=h.d;exact⟨Nat.le_trans (Nat.le_mul_of_pos_left _ (zdU _)) h1,by omega⟩
theorem zjh{S0:Sto}{G:Sto→Prop}{N:Nat}(K:Bk2 ws B) (L:Lft B) (hP:PB B) (ha:S0 a=some (.lst (B.map zbc))) (h0:S0 lw=none) (hG:∀S,Sub S0 S→G S) (ht:Sh ws B t) (hb:Bd t N) (hlim:lim≤N) (hr:120≤r):∀(cs:List Int) {xs:List Tr}{S:Sto}{sp:Int}{y1 y2 y7 y8 y9:Option W},Sub S0 S→S lw=some (.lst (xs.map enc))→Roa ws B t xs→(nR B xs:Int)≤sp→sp≤lim→xs.length+cs.length≤800→
  (∀S' zs y5 y6 y7 y8 y9,Sub S0 S'→S' lw=some (.lst (zs.map enc))→Roa ws B t zs→(nR B zs:Int)≤lim→zs.length≤xs.length+cs.length→D.nx [some (.ref a),y1,y2,some (.int lim),some (.ref lw),y5,y6,y7,y8,y9] S')→
  forL (wGN 7) (zbX r zbe) E D G (cs.map W.int) [some (.ref a),y1,y2,some (.int lim),some (.ref lw),some (enc (zhG B t xs)),some (.int sp),y7,y8,y9] S
 | [],xs,S,sp,y1,y2,y7,y8,y9,sb,hw,hx,h1,h2,hl,h=>h S xs _ _ _ _ _ sb hw hx (by omega) (by simp)
 |c::cs,xs,S,sp,y1,y2,y7,y8,y9,sb,hw,hx,h1,h2,hl,h=>by
  rw [List.length_cons]at hl;have he:=Roa.end_wy K xs hx ht.wy ht.q;have sh:Sh ws B (zhG B t xs):=⟨he.1,he.2⟩;have bd:Bd (zhG B t xs) (N - nR B xs):=Roa.end_bd K xs hx (hb.mono (by omega));obtain⟨w1,w2⟩:=bd.small;rw [List.map_cons];refine zcm fun F hF=>?_;rw [zoQ,zbX];refine zwg L (sb _ _ ha) sh w1 w2 (by omega) fun S1 m s1 hm=>?_;have sb1:=sb.trans s1;have hw1:=s1 _ _ hw;have skip:∀y7 y8 y9,F [some (.ref a),y1,y2,some (.int lim),some (.ref lw),some (enc (zhG B t xs)),some (.int sp),y7,y8,y9] S1:=fun y7 y8 y9=>hF _ _ _ .refl (hG _ sb1) (zjh K L hP ha h0 hG ht hb hlim hr cs sb1 hw1 hx h1 h2 (by omega) fun S' zs z5 z6 z7 z8 z9 g1 g2 g3 g4 g5=>h S' zs z5 z6 z7 z8 z9 g1 g2 g3 g4 (by rw [List.length_cons];omega));rw [zbW];walk_at "wp";rw [zag hm];split
  ·rename_i hp;rw [List.length_map]at hp;split
   ·rename_i hs;refine zvK hm (by omega) fun p1 p2 b m1 m2 hb0=>?_;have s2:Sub S1 (put S1 b (.lst [zaM p1,zaM p2])):= .put .refl hb0;refine zvk zai hs fun wn b' hwn hb'=>?_;have s3:=s2.trans (.put .refl hb':Sub _ (put (put S1 b (.lst [zaM p1,zaM p2])) b' (.lst (wn.map zaM))));have fb':put (put S1 b (.lst [zaM p1,zaM p2])) b' (.lst (wn.map zaM)) b'=some (.lst (wn.map zaM)):=zai;have hin:∀q∈wn,q∈opl B (zhG B t xs):=fun q hq=>by
     rcases hwn with rfl |⟨rfl,_⟩
     ·rw [List.mem_singleton.mp hq];exact m1
     ·rcases List.mem_cons.mp hq with rfl |hq
      ·exact m1
      ·rw [List.mem_singleton.mp hq];exact m2
    have hwl:wn.length≤2∧sp+wn.length≤lim:=by
     rcases hwn with rfl |⟨rfl,z⟩
     ·exact⟨by simp,by simp;omega⟩
     ·exact⟨by simp,by simpa using z⟩
    have nb:b'≠lw:=by rintro rfl;rw [s2 _ _ hw1]at hb';cases hb'
    generalize put (put S1 b (.lst [zaM p1,zaM p2])) b' (.lst (wn.map zaM))=S3 at s3 fb'⊢;have sb3:=sb1.trans s3;refine zwt K L hP (sb3 _ _ ha) fb' (s3 _ _ hw1) (by rw [List.length_map];omega) sh w1 w2 hin hwl.1 hr fun u yu eu nu=>?_;have sb4:Sub S0 (put S3 lw (.lst (xs.map enc++[enc u]))):= .put sb3 h0;have fl:put S3 lw (.lst (xs.map enc++[enc u])) lw=some (.lst (xs.map enc++[enc u])):=zai;have fb4:put S3 lw (.lst (xs.map enc++[enc u])) b'=some (.lst (wn.map zaM)):=by rw [zaZ nb];exact fb'
    generalize put S3 lw (.lst (xs.map enc++[enc u]))=S4 at sb4 fl fb4⊢;have bu:Bd (zhG B t xs) (u.ne B):=bd.mono (by omega);refine zvu (sb4 _ _ ha) fl (K.ow yu eu bu) (by omega) ?_;refine zvq fb4 ?_;have hx':=Roa.snoc xs hx yu eu;have nx':nR B (xs++[u])=nR B xs+u.ne B:=by rw [zpR,nR,nR,Nat.add_zero]
    have go:=zjh K L hP ha h0 hG ht hb hlim hr cs (xs:=xs++[u]) (S:=S4) (sp:=sp+(wn.map zaM).length) (y1:=y1) (y2:=y2) (y7:=some (.int c)) (y8:=some (.ref m)) (y9:=some (.ref b')) sb4 (by rw [List.map_append];exact fl) hx' (by rw [nx',List.length_map];omega) (by rw [List.length_map];omega) (by rw [List.length_append,List.length_singleton];omega) fun S' zs z5 z6 z7 z8 z9 g1 g2 g3 g4 g5=>h S' zs z5 z6 z7 z8 z9 g1 g2 g3 g4 (by rw [List.length_append,List.length_singleton]at g5;rw [List.length_cons];omega);rw [zfd]at go;exact hF _ _ _ .refl (hG _ sb4) go
   ·exact skip _ _ _
  ·exact skip _ _ _
theorem zrj{N:Nat}{cs:List Int}{Q:WK}{X:Str→Sto→Prop}(K:Bk2 ws B) (L:Lft B) (hP:PB B) (ha:S a=some (.lst (B.map zbc))) (hc:S l1=some (.lst (cs.map W.int))) (ht:Sh ws B t) (hb:Bd t N) (hlim:lim≤N) (h0:0≤lim) (hn:cs.length≤700) (hr:120≤r)
  (h:∀S' l xs,Sub S S'→S l=none→S' l=some (.lst (xs.map enc))→Roa ws B t xs→(nR B xs:Int)≤lim→xs.length≤cs.length→Q (.tup [enc t, .ref l]) S'):zcz (r+1) [.ref a,enc t, .ref l1, .int lim] S Q X:=by
 rw [zcz,zgg];refine⟨rfl,?_⟩;rw [zcn];walk_at "wp";refine⟨Nat.zero_le _,fun lw hlw=>?_⟩;rw [zcp];walk_at "wp";rw [zco];walk_at "wp";rw [zcl];walk_at "wp";rw [zag (keep hc hlw)];refine zjh (xs:=[]) (N:=N) K L hP ha hlw (fun S' s'=>s' _ _ hc) ht hb hlim hr cs (.put .refl hlw) zai trivial (by rw [nR];simp) h0 (by simp;omega) fun S' zs y5 y6 y7 y8 y9 s' g1 g2 g3 g4=>?_;rw [zck];walk_at "wp";exact⟨by decide,_, .refl,h S' lw zs s' hlw g1 g2 g3 (by simpa using g4)⟩
end
section
variable {ws:List Str}{B:List Tn}{a l:Addr}{r:Nat}{t:Tr}{xs:List Tr}{S:Sto}{Q:WK}{X:Str→Sto→Prop}
theorem zqv (ha:S a=some (.lst (B.map zbc))) (hl:S l=some (.lst (xs.map enc))) (tx:∀x∈xs,∃y,Two ws B x y) (hr:64≤r) (h:Q (enc (zhG B t xs)) S):zlK (r+1) [.ref a, .tup [enc t, .ref l]] S Q X:=by
 rw [zlK,zgg];refine⟨rfl,?_⟩;rw [zjn];walk_at "wp";rw [show atI [enc t,W.ref l] 1=some (.ref l) from rfl];walk_at "wp";rw [zag hl];rcases List.eq_nil_or_concat xs with rfl |⟨ys,u,rfl⟩
 ·exact⟨_, .refl,h⟩
 ·rw [List.concat_eq_append]at *;have hne:((ys++[u]).map enc).isEmpty=false:=by simp
  obtain⟨y,h2⟩:=tx u (by simp);rw [zfd]at h
  try rw [hne]
  rw [if_neg (by decide),zjj];walk_at "wp";rw [show atI [enc t,W.ref l] 1=some (.ref l) from rfl];walk_at "wp";rw [List.map_append]at hl;rw [zag hl,show [u].map enc=[enc u] from rfl,zji];obtain⟨r,rfl⟩:∃r',r=r'+1:=⟨r - 1,by omega⟩
  exact h2.ok_goal ha (by omega) ⟨_, .refl,h⟩
end
structure Rds (S:Sto) (ws:List Str) (B:List Tn) (ab:Addr) (t:Tr) (l1 l2:Addr) (xs os:List Tr):Prop where
  K:Bk2 ws B
  fb:S ab=some (.lst (B.map zbc))
  sh:Sh ws B t
  bd:Bd t 4
  f1:S l1=some (.lst (xs.map enc))
  f2:S l2=some (.lst (os.map enc))
  r1:Roa ws B t xs
  r2:Roa ws B t os
  n:nR B xs+nR B os≤4
  x3:xs.length≤3
  o3:os.length≤3
  hB:B.length≤1000
theorem Rds.symm{S:Sto}{ws:List Str}{B:List Tn}{ab:Addr}{t:Tr}{l1 l2:Addr}{xs os:List Tr}(h:Rds S ws B ab t l1 l2 xs os):Rds S ws B ab t l2 l1 os xs:=⟨h.K,h.fb,h.sh,h.bd,h.f2,h.f1,h.r2,h.r1,by have:=h.n;omega,h.o3,h.x3,h.hB⟩
theorem Pre.pb{S:Sto}{aw at' ab:Addr}{w0 w1 w2 w3 w4 w5:Str}{tt:List Str}{B:List Tn}(P:Pre S aw at' ab w0 w1 w2 w3 w4 w5 tt B):PB B:=fun t ht x hx=>by
 have h1:=(znI hx).2.2;have h2:=(P.bk.lf t ht).dp;omega
section
variable {w0 w1 w2 w3 w4 w5:Str}{tt:List Str}{B:List Tn}{S:Sto}{aw at' ab:Addr}{ns:List Int}{t:Tr}{E:WX}{D:WEnds}{T:WS}{τ:WSt}{x4:Option W}
theorem rp4 (P:Pre S aw at' ab w0 w1 w2 w3 w4 w5 tt B) (h:∀t S',Pre S' aw at' ab w0 w1 w2 w3 w4 w5 tt B→Sh [w0,w1,w2,w3,w4,w5] B t→Bd t 4→T E D (some (.scr ns)::some (.ref aw)::some (.ref at')::some (.ref ab)::some (enc t)::τ) S') :
  zas (wAsg (zao (zbD 199) (zab (zao (zbB 199) (zab (wSl (zaf 0) (woS (wC (.int 17))) woN) (zab (zaf 3) (zab (zaf 1) (zab (wC (.int 6)) waNil))))) (zab (zaf 3) (zab (wC (.int 8)) waNil)))) (wGN 4)) T E D (some (.scr ns)::some (.ref aw)::some (.ref at')::some (.ref ab)::x4::τ) S:=by
 walk_at "wp";intro ac hc;exact(P.sub (.put .refl hc)).ok_shape rfl zai fun t S' sb sh bd=>h t S' (P.sub ((Sub.put .refl hc).trans sb)) sh bd
end
theorem zuf{S:Sto}{n:Nat}{a b:Addr}{xs ys:List W}(ha:S a=some (.lst xs)) (hb:S b=some (.lst ys)) (h:zdC (eqF S n) xs ys=some true):eqF S (n+1) (.ref a) (.ref b)=some true:=by
 show(match S a with
  |some (.lst xs)=>match S b with
   |some (.lst ys)=>zdC (eqF S n) xs ys
   |_=>none
  |_=>none)=some true
 rw [ha,hb];exact h
theorem zni{S:Sto}{n:Nat}:∀(xs:List Tr),(∀x∈xs,x.depth<n)→zdC (eqF S n) (xs.map enc) (xs.map enc)=some true
 | [],_=>rfl
 |x::xs,h=>by
  have h1:eqF S n (enc x) (enc x)=some true:=by rw [zlm n _ _ (h x (by simp)),zeB]
  have h2:=zni (S:=S) xs fun y hy=>h y (List.mem_cons_of_mem _ hy);rw [List.map_cons,zdC,h1,h2];rfl
theorem zrD{S:Sto}{n:Nat}{a b:Addr}{xs:List Tr}(hd:∀x∈xs,x.depth<n) (ha:S a=some (.lst (xs.map enc))) (hb:S b=some (.lst (xs.map enc))):eqF S (n+1) (.ref a) (.ref b)=some true:=zuf ha hb (zni xs hd)
theorem zrl{S:Sto}{n:Nat}{a b:Addr}{t:Tr}{xs:List Tr}(ht:t.depth<n+1) (hd:∀x∈xs,x.depth<n) (ha:S a=some (.lst (xs.map enc))) (hb:S b=some (.lst (xs.map enc))):eqF S (n+2) (.tup [enc t, .ref a]) (.tup [enc t, .ref b])=some true:=by
 have h1:eqF S (n+1) (enc t) (enc t)=some true:=by rw [zlm (n+1) _ _ ht,zeB]
 have h2:=zrD hd ha hb;show zdC (eqF S (n+1)) [enc t, .ref a] [enc t, .ref b]=some true;generalize eqF S (n+1)=f at h1 h2;simp only[zdC,h1,h2];rfl
theorem zuR{x y:W}:atI [x,y] 1=some y:=by
 have h:([x,y]:List W)[1]? =some y:=by simp
 exact zmA (j:=1) h
section
variable {ns:List Int}
theorem zwF (ns:List Int) (i k:Nat):(zcj ns (some (i:Int)) (some ((i+k:Nat):Int))).length≤k:=by
 rw [zrQ i (i+k),List.length_take];omega
end
section
variable {ws:List Str}{B:List Tn}{x y:Tr}
theorem Two.d1 (h:Two ws B x y):x.depth≤40∧(src B x).depth≤40∧(gol B x).depth≤40:=by
 obtain⟨p,c,d,k,hc,hd,rfl,rfl⟩:=h.ex;refine⟨k.dp,?_,?_⟩
 ·rw [show src B (p.ev B c)=_ from zeh k.b k.o];exact k.dp
 ·rw [show gol B (p.ev B c)=_ from zdW k.b k.o];exact k.dp
end
noncomputable def rdB (B:List Tn):Tr→List Tr→Bool
 |_,[]=>true
 |t,x::xs=>(src B x).same t&&rdB B (gol B x) xs
section
variable {ws:List Str}{B:List Tn}{a l:Addr}{r:Nat}{t x y:Tr}{xs:List Tr}{S:Sto}{Q:WK}{X:Str→Sto→Prop}{E:WX}{D:WEnds}
theorem zmz:∀(xs:List Tr) {t:Tr},Roa ws B t xs→rdB B t xs=true
 | [],_,_=>rfl
 |x::xs,t,⟨_,h2,h3⟩=>by
  rw [rdB,h2,zeB,zmz xs h3];rfl
theorem Two.ok_source (h:Two ws B x y) (ha:S a=some (.lst (B.map zbc))) (hr:60≤r) (q:Q (enc (L2.src B x)) S):zdd (r+1) [.ref a,enc x] S Q X:=by
 obtain⟨p,c,d,k,hc,hd,rfl,rfl⟩:=h.ex;rw [show L2.src B (p.ev B c)=_ from zeh k.b k.o]at q;exact k.ok_source ha hr q
theorem znj{G:Sto→Prop}(hG:G S) (ha:S a=some (.lst (B.map zbc))) (hr:60≤r):∀(xs:List Tr) (t:Tr) (y1 y3:Option W),t.depth≤40→(∀x∈xs,∃y,Two ws B x y)→(rdB B t xs=true→ ∀z t',D.nx [some (.ref a),y1,some (enc t'),z] S)→(rdB B t xs=false→D.rt (.bl false) S)→forL (wGN 3) (zdq (r+1) zbe) E D G (xs.map enc) [some (.ref a),y1,some (enc t),y3] S
 | [],t,y1,y3,_,_,h,_=>h rfl y3 t
 |x::xs,t,y1,y3,ht,hx,h,g=>by
  obtain⟨y,h2⟩:=hx x List.mem_cons_self;have d2:=h2.d1;rw [List.map_cons];refine zcm fun N hN=>?_;rw [zoQ,zdq];walk_at "wp";refine h2.ok_source ha (by omega) ?_;rw [zlm 60 _ _ (by omega)];rw [rdB]at h g;cases e:(src B x).same t with
  |false=>exact g (by rw [e];rfl)
  |true=>
   rw [e,Bool.true_and]at h g;refine h2.ok_goal ha (by omega) (hN _ _ _ .refl hG (znj hG ha hr xs (gol B x) y1 _ (by omega) (fun z hz=>hx z (List.mem_cons_of_mem _ hz)) h g))
theorem zlH (ha:S a=some (.lst (B.map zbc))) (hl:S l=some (.lst (xs.map enc))) (tx:∀x∈xs,∃y,Two ws B x y) (hw:t.weight≤400) (hd:t.depth≤40) (hr:64≤r) (h:Q (.bl (rdB B t xs)) S):zcW (r+2) [.ref a, .tup [enc t, .ref l]] S Q X:=by
 rw [show r+2=r+1+1 from rfl,zcW];walk_at "wp";obtain⟨r,rfl⟩:∃r',r=r'+4:=⟨r - 4,by omega⟩
 refine zoW hw hd ?_;simp only[zuR]
 try walk_at "wp"
 rw [zag hl];refine znj (r:=r+4) hl ha (by omega) xs t _ _ hd tx (fun e z t'=>?_) fun e=>?_
 ·rw [e]at h;exact⟨_, .refl,h⟩
 ·rw [e]at h;exact⟨_, .refl,h⟩
theorem zig (ha:S a=some (.lst (B.map zbc))) (hl:S l=some (.lst (xs.map enc))) (tx:∀x∈xs,∃y,Two ws B x y) (hw:t.weight≤400) (hd:t.depth≤40) (hr:64≤r) (h:Q (.bl (rdB B t xs)) S):zcN (r+3) [.ref a, .tup [enc t, .ref l]] S Q X:=by
 rw [show r+3=r+2+1 from rfl,zcN];walk_at "wp";exact zlH ha hl tx hw hd hr ⟨_, .refl,h⟩
theorem znb{G:Sto→Prop}(hG:G S) (ha:S a=some (.lst (B.map zbc))) (hr:60≤r):∀(xs:List Tr) (t:Tr) (y1 y3:Option W),t.depth≤40→(∀x∈xs,∃y,Two ws B x y)→(rdB B t xs=true→ ∀z t',D.nx [some (.ref a),y1,some (enc t'),z] S)→(rdB B t xs=false→D.rt (.bl false) S)→forL (wGN 3) (zcg (r+1) zbe) E D G (xs.map enc) [some (.ref a),y1,some (enc t),y3] S
 | [],t,y1,y3,_,_,h,_=>h rfl y3 t
 |x::xs,t,y1,y3,ht,hx,h,g=>by
  obtain⟨y,h2⟩:=hx x List.mem_cons_self;have d2:=h2.d1;rw [List.map_cons];refine zcm fun N hN=>?_;rw [zoQ,zcg];walk_at "wp";refine h2.ok_made1 ha (by omega) ?_;rw [zlm 60 _ _ (by omega)];rw [rdB]at h g;cases e:(src B x).same t with
  |false=>exact g (by rw [e];rfl)
  |true=>
   rw [e,Bool.true_and]at h g;refine h2.ok_made2 ha (by omega) (hN _ _ _ .refl hG (znb hG ha hr xs (gol B x) y1 _ (by omega) (fun z hz=>hx z (List.mem_cons_of_mem _ hz)) h g))
theorem zlq (ha:S a=some (.lst (B.map zbc))) (hl:S l=some (.lst (xs.map enc))) (tx:∀x∈xs,∃y,Two ws B x y) (hd:t.depth≤40) (hr:64≤r) (h:Q (.bl (rdB B t xs)) S):zbp (r+2) [.ref a, .tup [enc t, .ref l]] S Q X:=by
 rw [show r+2=r+1+1 from rfl,zbp];walk_at "wp";simp only[zuR]
 try walk_at "wp"
 rw [zag hl];refine znb (r:=r) hl ha (by omega) xs t _ _ hd tx (fun e z t'=>?_) fun e=>?_
 ·rw [e]at h;exact⟨_, .refl,h⟩
 ·rw [e]at h;exact⟨_, .refl,h⟩
theorem zot{α:Type}{xs:List α}{lo hi:Option Int}{x:α}(h:x∈zcj xs lo hi):x∈xs:=by
 unfold zcj at h;exact List.mem_of_mem_drop (List.mem_of_mem_take h)
theorem zoM{α:Type}{xs:List α}{lo hi:Option Int}:(zcj xs lo hi).length≤xs.length:=by
 unfold zcj;rw [List.length_take,List.length_drop];omega
end
section
variable {l aw:Addr}{r:Nat}{t:Tr}{xs:List Tr}{S:Sto}{Q:WK}{X:Str→Sto→Prop}{w0 w1 w2 w3 w4 w5:Str}{c:Int}
theorem zhL (hl:S l=some (.lst (xs.map enc))) (hw:S aw=some (.lst (six w0 w1 w2 w3 w4 w5))) (hn:xs.length≤4)
  (h:∀(S':Sto) (l':Addr) (ys:List Tr) (t':Tr),Sub S S'→S' l'=some (.lst (ys.map enc))→(∀y∈ys,y∈xs)→(t'=t∨t'= .nd w3 [t])→ys.length≤12→Q (.tup [enc t', .ref l']) S'):zaN (r+1) [.tup [enc t, .ref l], .int c, .ref aw] S Q X:=by
 rw [zaN];walk_at "wp";rw [zag hl,List.length_map];refine⟨⟨by decide,by decide⟩,by omega,?_⟩
 generalize c / 5 % ((xs.length:Int)+1)=k;have cm:∀{lo hi:Option Int}{y:Tr},y∈zcj xs lo hi→y∈xs:=fun h=>zot h;have cl:∀{lo hi:Option Int},(zcj xs lo hi).length≤xs.length:=zoM;refine⟨by decide,?_⟩;split
 ·rw [zag hl];simp only[zbZ];intro p hp;rw [zag (keep hl hp)];simp only[zbZ];intro p1 hp1;rw [zag (keep zai hp1)];refine⟨zal (by rw [List.length_map,List.length_map];have h1:=cl (lo:=none) (hi:=some k);have h2:=cl (lo:=some (k+1)) (hi:=none);omega),fun p2 hp2=>⟨by decide,_, .refl,?_⟩⟩
  rw [←List.map_append];refine h _ p2 _ t (((Sub.put .refl hp).trans (.put .refl hp1)).trans (.put .refl hp2)) zai (fun y hy=>?_) (.inl rfl) ?_
  ·rcases List.mem_append.mp hy with hy |hy<;>exact cm hy
  ·rw [List.length_append];have h1:=cl (lo:=none) (hi:=some k);have h2:=cl (lo:=some (k+1)) (hi:=none);omega
 refine⟨by decide,?_⟩;split
 ·rw [zag hl];simp only[zbZ];intro p hp;rw [zag (keep hl hp)];simp only[zbZ];intro p1 hp1;rw [zag (keep zai hp1)];have h1:=cl (lo:=none) (hi:=some k);have h2:=cl (lo:=some k) (hi:=some (k+1));have h3:=cl (lo:=some k) (hi:=none);refine⟨zal (by rw [List.length_map,List.length_map];omega),fun p2 hp2=>?_⟩;rw [zag (keep (keep (keep hl hp) hp1) hp2)];simp only[zbZ];intro p3 hp3;rw [zag (keep zai hp3)];refine⟨zal (by rw [List.length_append,List.length_map,List.length_map,List.length_map];omega),fun p4 hp4=>⟨by decide,_, .refl,?_⟩⟩;refine h _ p4 (zcj xs none (some k)++zcj xs (some k) (some (k+1))++zcj xs (some k) none) t (((((Sub.put .refl hp).trans (.put .refl hp1)).trans (.put .refl hp2)).trans (.put .refl hp3)).trans (.put .refl hp4)) (by rw [zai,List.map_append,List.map_append]) (fun y hy=>?_) (.inl rfl) ?_
  ·rcases List.mem_append.mp hy with hy |hy
   ·rcases List.mem_append.mp hy with hy |hy<;>exact cm hy
   ·exact cm hy
  ·rw [List.length_append,List.length_append];omega
 refine⟨by decide,?_⟩;split
 ·rw [zag hl,zfu];walk_at "wp";rw [zag hl];simp only[zbZ];intro p hp
  try simp only[zei,zbZ]
  try walk_at "wp"
  have h1:=cl (lo:=none) (hi:=some k);have h2:=cl (lo:=some k) (hi:=some (k+2));have h3:=cl (lo:=some (k+2)) (hi:=none);refine⟨zal (by rw [List.length_reverse,List.length_map,List.length_map];omega),?_⟩;rw [zag (keep hl hp)];simp only[zbZ];refine⟨zal (by rw [List.length_append,List.length_reverse,List.length_map,List.length_map,List.length_map];omega),fun p1 hp1=>⟨by decide,_, .refl,?_⟩⟩;rw [←List.map_reverse,←List.map_append,←List.map_append];refine h _ p1 _ t ((Sub.put .refl hp).trans (.put .refl hp1)) zai (fun y hy=>?_) (.inl rfl) ?_
  ·rcases List.mem_append.mp hy with hy |hy
   ·rcases List.mem_append.mp hy with hy |hy
    ·exact cm hy
    ·exact cm (List.mem_reverse.mp hy)
   ·exact cm hy
  ·rw [List.length_append,List.length_append,List.length_reverse];omega
 refine⟨by decide,?_⟩;split
 ·rw [zag hw,show atI (six w0 w1 w2 w3 w4 w5) 3=some (.str w3) from rfl];refine⟨by decide,?_⟩;rw [zag hl];intro p hp;refine⟨by decide,_, .refl,?_⟩;have:=h _ p xs (.nd w3 [t]) (Sub.put .refl hp) zai (fun y hy=>hy) (.inr rfl) (by omega);simpa only[enc,encs]using this
 ·rw [zag hl];intro p hp;exact⟨by decide,_, .refl,h _ p xs t (Sub.put .refl hp) zai (fun y hy=>hy) (.inl rfl) (by omega)⟩
end
section
variable {w0 w1 w2 w3 w4 w5:Str}{tt:List Str}{ws:List Str}{B:List Tn}{S:Sto}{aw at' ab l l' l'':Addr}{ns:List Int}{t t':Tr}{xs ys:List Tr}{E:WX}{D:WEnds}{T:WS}{τ:WSt}{y1 y2 y3 y4 y5 y6 y7 y8 y9:Option W}{b:Bool}
theorem zvz (P:Pre S aw at' ab w0 w1 w2 w3 w4 w5 tt B) (sh:Sh [w0,w1,w2,w3,w4,w5] B t) (bd:Bd t 4) (h:∀(S':Sto) (l:Addr) (xs:List Tr),Pre S' aw at' ab w0 w1 w2 w3 w4 w5 tt B→S' l=some (.lst (xs.map enc))→Roa [w0,w1,w2,w3,w4,w5] B t xs→nR B xs≤4→xs.length≤4→T E D (some (.scr ns)::y1::y2::some (.ref ab)::some (enc t)::some (.tup [enc t, .ref l])::τ) S') :
  zdb 199 T E D (some (.scr ns)::y1::y2::some (.ref ab)::some (enc t)::y5::τ) S:=by
 rw [zdb];walk_at "wp";intro p hp;refine zrj (r:=198) (N:=4) P.bk2 P.lft P.pb (keep P.fb hp) zai sh bd (by omega) (by omega) (Nat.le_trans (zwF ns 10 4) (by decide)) (by omega) fun S' l xs sb _ hl hx hn h3'=>?_;exact h S' l xs (P.sub ((Sub.put .refl hp).trans sb)) hl hx (by omega) (Nat.le_trans h3' (zwF ns 10 4))
theorem zva (P:Pre S aw at' ab w0 w1 w2 w3 w4 w5 tt B) (fl:S l=some (.lst (xs.map enc))) (hn:xs.length≤4) (h:∀(S':Sto) (l':Addr) (ys:List Tr) (t':Tr),Sub S S'→S' l'=some (.lst (ys.map enc))→(∀y∈ys,y∈xs)→(t'=t∨t'= .nd w3 [t])→ys.length≤12→T E D [some (.scr ns),some (.ref aw),y2,y3,y4,some (.tup [enc t, .ref l]),some (.tup [enc t', .ref l']),y7,y8,y9] S') :
  zdg 199 T E D [some (.scr ns),some (.ref aw),y2,y3,y4,some (.tup [enc t, .ref l]),y6,y7,y8,y9] S:=by
 rw [zdg];walk_at "wp";refine zdT (by decide) fun c=>?_;exact zhL (r:=198) fl P.fw hn h
theorem zvd (fl:S l'=some (.lst (ys.map enc))) (h:∀S' l'',Sub S S'→S' l''=some (.lst (ys.map enc))→T E D [some (.scr ns),y1,y2,y3,y4,y5,some (.tup [enc t', .ref l']),some (.tup [enc t', .ref l'']),y8,y9] S') :
  zdh 199 T E D [some (.scr ns),y1,y2,y3,y4,y5,some (.tup [enc t', .ref l']),y7,y8,y9] S:=by
 rw [zdh];walk_at "wp";simp only[zuR]
 try walk_at "wp"
 rw [zag fl];intro p hp;exact⟨by decide,h _ p (.put .refl hp) zai⟩
theorem zwb (fb:S ab=some (.lst (B.map zbc))) (fl:S l''=some (.lst (ys.map enc))) (tx:∀x∈ys,∃y,Two ws B x y) (hw:t'.weight≤400) (hd:t'.depth≤40) (h:T E D [some (.scr ns),y1,y2,some (.ref ab),y4,y5,y6,some (.tup [enc t', .ref l'']),some (.bl (rdB B t' ys)),y9] S) :
  zdi 199 T E D [some (.scr ns),y1,y2,some (.ref ab),y4,y5,y6,some (.tup [enc t', .ref l'']),y8,y9] S:=by
 rw [zdi];walk_at "wp";exact zig (r:=196) fb fl tx hw hd (by omega) h
theorem zvg (fb:S ab=some (.lst (B.map zbc))) (f1:S l'=some (.lst (ys.map enc))) (f2:S l''=some (.lst (ys.map enc))) (tx:∀x∈ys,∃y,Two ws B x y) (hd:t'.depth≤40) (h:T E D [some (.scr ns),y1,y2,some (.ref ab),y4,y5,some (.tup [enc t', .ref l']),some (.tup [enc t', .ref l'']),some (.bl (rdB B t' ys)),y9] S) :
  zdf 199 T E D [some (.scr ns),y1,y2,some (.ref ab),y4,y5,some (.tup [enc t', .ref l']),some (.tup [enc t', .ref l'']),some (.bl (rdB B t' ys)),y9] S:=by
 rw [zdf];walk_at "wp";refine zlq (r:=197) fb f1 tx hd (by omega) ?_;rw [ztW];have e:(rdB B t' ys == rdB B t' ys)=true:=by simp
 rw [e];walk_at "wp";rw [zrl (n:=58) (by omega) (fun x hx=>by obtain⟨y,z⟩:=tx x hx;have:=z.d1;omega) f2 f1]
 exact h
theorem ztp (h:T E D [some (.scr ns),y1,y2,y3,some (enc t),y5,y6,y7,y8,some (enc t)] S):zcF 199 T E D [some (.scr ns),y1,y2,y3,some (enc t),y5,y6,y7,y8,y9] S:=by
 rw [zcF];walk_at "wp";exact h
theorem zuL (fb:S ab=some (.lst (B.map zbc))) (fl:S l=some (.lst (xs.map enc))) (tx:∀x∈xs,∃y,Two ws B x y) (h:T E D [some (.scr ns),y1,y2,some (.ref ab),some (enc t),some (.tup [enc t, .ref l]),y6,y7,y8,some (enc (zhG B t xs))] S) :
  zcB 199 T E D [some (.scr ns),y1,y2,some (.ref ab),some (enc t),some (.tup [enc t, .ref l]),y6,y7,y8,some (enc t)] S:=by
 rw [zcB];walk_at "wp";simp only[zuR]
 try walk_at "wp"
 rw [zag fl,List.length_map];rcases List.eq_nil_or_concat xs with rfl |⟨zs,u,rfl⟩
 ·exact h
 ·rw [List.concat_eq_append]at *;rw [if_pos (by rw [List.length_append,List.length_singleton];omega)];obtain⟨y,h2⟩:=tx u (by simp);rw [zag fl,List.map_append,List.map_cons,List.map_nil,zji];rw [zfd]at h;exact h2.ok_made2 (r:=198) fb (by omega) h
theorem zsQ (fb:S ab=some (.lst (B.map zbc))) (fl:S l=some (.lst (xs.map enc))) (hx:Roa ws B t xs) (tx:∀x∈xs,∃y,Two ws B x y) (hw:t.weight≤400) (hd:t.depth≤40) (he:(zhG B t xs).depth≤57) (hD:∀S',D.rt (.bl true) S') :
  zcE 199 E D [some (.scr ns),y1,y2,some (.ref ab),some (enc t),some (.tup [enc t, .ref l]),y6,y7,y8,some (enc (zhG B t xs))] S:=by
 rw [zcE];walk_at "wp";refine zig (r:=196) fb fl tx hw hd (by omega) ?_;rw [zmz xs hx]
 try walk_at "wp"
 refine zqv (r:=198) fb fl tx (by omega) ?_;rw [zmr he]
 try walk_at "wp"
 refine⟨by decide,fun p hp=>⟨by decide,?_⟩⟩;refine zqv (ws:=ws) (r:=198) (xs:=[]) (keep fb hp) zai (by simp) (by omega) ?_;show match eqF _ 60 (enc t) (enc t) with
  |some b=>D.rt (W.bl b) _
  |none=>False
 rw [zmr (by omega)];exact hD _
end
theorem zsI (ns:List Int) (hl:ns.length≤63):zcQ 200 [.scr ns] (fun _=>none) (fun w _=>w= .bl true) (fun _ _=>False):=by
 rw [show(200:Nat)=199+1 from rfl,zcQ,zgg];refine⟨rfl,?_⟩;unfold zdS zeb zdY zdO;refine zrm fun S1 aw at' ab w0 w1 w2 w3 w4 w5 tt B P=>rp4 P fun t S2 P sh bd=>zvz P sh bd fun S3 l xs P fl hx hn hl4=>?_;have bn:Bd t (nR B xs):=bd.mono hn;have tx:=Roa.two P.bk2 xs hx bn;have sm:=bd.small;have wd:16*t.weight≤400:=by have:=bd.w;simpa using this
 have dd:=bd.d;refine zva (t:=t) P fl hl4 fun S4 l' ys t' sb f1 hy ht hyl=>?_;have ty:∀y∈ys,∃z,Two [w0,w1,w2,w3,w4,w5] B y z:=fun y h=>tx y (hy y h);have tw:t'.weight≤400∧t'.depth≤40:=by
  rcases ht with rfl |rfl
  ·exact sm
  ·rw [Tr.weight,Tr.depth,wts,wts,dts,dts];omega
 refine zvd f1 fun S5 l'' s5 f2=>?_;have fb5:=s5 _ _ (sb _ _ P.fb);refine zwb fb5 f2 ty tw.1 tw.2 ?_;refine zvg fb5 (s5 _ _ f1) f2 ty tw.2 ?_;refine ztp ?_;have fl5:=s5 _ _ (sb _ _ fl);refine zuL fb5 fl5 tx ?_;exact zsQ fb5 fl5 hx tx sm.1 sm.2 (by have:=(Roa.end_bd (n:=0) P.bk2 xs hx (bd.mono (by omega))).small.2;omega) fun S'=>⟨_, .refl,rfl⟩
end L2
end
end
section
namespace K27
open PySem L2 PyProof.Rows
noncomputable def top (i:Nat):Stmt:=PySem.Challenge.pw_turnweave_k27_what_is_a_road.main.body.getD i (.Pass ⟨0,0,0,0⟩)
structure Cal (P:Program) (w:World) (K:PySem.W.Frag) (mg:Str→Option Value) (base:Heap) (nm:Str) (ps:List Str) (c:Nat→WSp) where
  zf:Addr
  zd:FuncData
  zg:∀r,FnOk P w K mg base CX0 r zf zd ps (zdj K (c r))
  zb:Binds K zd ps []
  zk:PySem.W.keepIn K (.ref zf)=true
  zm:mg nm=some (.ref zf)
noncomputable def mkC {P:Program}{w:World}{K:PySem.W.Frag}{h:Heap}{mg:Str→Option Value}{base:Heap}{nm:Str}{st:Stmt}{ps:List Str}{c:Nat→WSp}{f:Addr}{d:FuncData}(X:K.In h) (G:h.Ns mainGlobals mg) (F:Fun K nm nm st f d) (a:PySem.W.nsIn K mainGlobals nm=some (some (.ref f))) (g:∀r,FnOk P w K mg base CX0 r f d ps (zdj K (c r))) (b:Binds K d ps []):Cal P w K mg base nm ps c:=⟨f,d,g,b,F.kp,PySem.W.mg_of X G a⟩
noncomputable def Dfn (K:PySem.W.Frag) (nm:Str) (st:Stmt):Prop:=∃f d,PySem.W.nsIn K mainGlobals nm=some (some (.ref f))∧Fun K nm nm st f d
theorem dfn{K:PySem.W.Frag}{x:Str}{st:Stmt}{f:Addr}{oc:Value}{od an:Option Addr}{osl:Array (Option Value)}{kV doc pm cdv ct:Value}(a:PySem.W.nsIn K mainGlobals x=some (some (.ref f))) (l:K.lookup f=some ⟨oc,od, .func (PySem.W.fnOf x x (zfk st) (zdZ st) (zak st) .none kV doc pm an cdv ct),osl⟩) (c:PySem.W.codeIn K cdv x=true) (k:PySem.W.keepIn K (.ref f)=true):Dfn K x st:=⟨f,_,a,ztu l c k⟩
theorem nC{p:List Value→Prop}{k:Nat}(h:∀a us,us.length=k→p (a::us)):∀us,us.length=k+1→p us:=fun us e=>by
 cases us with
 |nil=>cases e
 |cons a us=>exact h a us (Nat.succ.inj e)
theorem n0{p:List Value→Prop}(h:p []):∀us,us.length=0→p us:=fun us e=>by
 cases us with
 |nil=>exact h
 |cons a us=>cases e
theorem n1{p:List Value→Prop}(h:∀a,p [a]):∀us,us.length=1→p us:=nC fun a=>n0 (p:=fun us=>p (a::us)) (h a)
theorem n2{p:List Value→Prop}(h:∀a b,p [a,b]):∀us,us.length=2→p us:=nC fun a=>n1 (p:=fun us=>p (a::us)) (h a)
theorem n3{p:List Value→Prop}(h:∀a b c,p [a,b,c]):∀us,us.length=3→p us:=nC fun a=>n2 (p:=fun us=>p (a::us)) (h a)
theorem n4{p:List Value→Prop}(h:∀a b c d,p [a,b,c,d]):∀us,us.length=4→p us:=nC fun a=>n3 (p:=fun us=>p (a::us)) (h a)
theorem n5{p:List Value→Prop}(h:∀a b c d e,p [a,b,c,d,e]):∀us,us.length=5→p us:=nC fun a=>n4 (p:=fun us=>p (a::us)) (h a)
theorem n6{p:List Value→Prop}(h:∀a b c d e f,p [a,b,c,d,e,f]):∀us,us.length=6→p us:=nC fun a=>n5 (p:=fun us=>p (a::us)) (h a)
local macro_rules | `(tactic| walk_at "sc") => `(tactic| (refine ⟨rfl, rfl, rfl, ?_, rfl, ?_, ?_⟩ <;> decide +kernel))
noncomputable abbrev Ok (P:Program) (w:World) (K:PySem.W.Frag) (mg:Str→Option Value) (base:Heap) (f:Addr) (d:FuncData) (ps:List Str) (c:Nat→WSp):Prop:=∀r,FnOk P w K mg base CX0 r f d ps (zdj K (c r))
theorem zcD{P:Program}{w:World}{K:PySem.W.Frag}{mg:Str→Option Value}{base:Heap}{f:Addr}{d:FuncData}{ps:List Str}{c:Nat→WSp}(h0:c 0=zbe) (h:∀r,FnOk P w K mg base CX0 r f d ps (zdj K (c r))→FnOk P w K mg base CX0 (r+1) f d ps (zdj K (c (r+1)))):Ok P w K mg base f d ps c:=fun r=>by
 induction r with
 |zero=>rw [h0];exact zud
 |succ r ih=>exact h r ih
noncomputable abbrev s0:Stmt:=top 8
theorem sc0:FnScope ["t"] ["t"] (zak s0):=by walk_at "sc"
noncomputable abbrev s1:Stmt:=top 9
theorem sc1:FnScope ["things", "found", "thing"] ["things"] (zak s1):=by walk_at "sc"
noncomputable abbrev s2:Stmt:=top 10
theorem sc2:FnScope ["t", "heavy", "deep", "level"] ["t"] (zak s2):=by walk_at "sc"
noncomputable abbrev s3:Stmt:=top 12
theorem sc3:FnScope ["t", "place", "found", "number", "inner"] ["t", "place", "found"] (zak s3):=by walk_at "sc"
noncomputable abbrev s4:Stmt:=top 11
theorem sc4:FnScope ["t", "found"] ["t"] (zak s4):=by walk_at "sc"
noncomputable abbrev s5:Stmt:=top 14
theorem sc5:FnScope ["t", "number", "parts"] ["t", "number"] (zak s5):=by walk_at "sc"
noncomputable abbrev s6:Stmt:=top 13
theorem sc6:FnScope ["t", "place", "thing", "number"] ["t", "place"] (zak s6):=by walk_at "sc"
noncomputable abbrev s7:Stmt:=top 16
theorem sc7:FnScope ["side"] ["side"] (zak s7):=by walk_at "sc"
noncomputable abbrev s8:Stmt:=top 17
theorem sc8:FnScope ["side", "things"] ["side", "things"] (zak s8):=by walk_at "sc"
noncomputable abbrev s9:Stmt:=top 20
theorem sc9:FnScope ["one", "other"] ["one", "other"] (zak s9):=by walk_at "sc"
noncomputable abbrev s10:Stmt:=top 19
theorem sc10:FnScope ["left", "t", "things", "inner", "thing"] ["left", "t", "things"] (zak s10):=by walk_at "sc"
noncomputable abbrev s11:Stmt:=top 18
theorem sc11:FnScope ["left", "t", "things"] ["left", "t"] (zak s11):=by walk_at "sc"
noncomputable abbrev s12:Stmt:=top 24
theorem sc12:FnScope ["book", "title", "turning"] ["book", "title"] (zak s12):=by walk_at "sc"
noncomputable abbrev s13:Stmt:=top 28
theorem zxt:FnScope ["shape"] ["shape"] (zak s13):=by walk_at "sc"
noncomputable abbrev s14:Stmt:=top 29
theorem sc14:FnScope ["book", "way", "side", "parts", "turning"] ["book", "way", "side"] (zak s14):=by walk_at "sc"
noncomputable abbrev s15:Stmt:=top 26
theorem zxs:FnScope ["book", "way"] ["book", "way"] (zak s15):=by walk_at "sc"
noncomputable abbrev s16:Stmt:=top 27
theorem zxr:FnScope ["book", "way"] ["book", "way"] (zak s16):=by walk_at "sc"
noncomputable abbrev s17:Stmt:=top 30
theorem sc17:FnScope ["book", "way", "turning"] ["book", "way"] (zak s17):=by walk_at "sc"
noncomputable abbrev s18:Stmt:=top 34
theorem sc18:FnScope ["book", "shape", "turning"] ["book", "shape"] (zak s18):=by walk_at "sc"
noncomputable abbrev s19:Stmt:=top 33
theorem sc19:FnScope ["book", "shape", "place", "found", "turning", "number", "inner"] ["book", "shape", "place", "found"] (zak s19):=by walk_at "sc"
noncomputable abbrev s20:Stmt:=top 32
theorem sc20:FnScope ["book", "shape", "found"] ["book", "shape"] (zak s20):=by walk_at "sc"
noncomputable abbrev s21:Stmt:=top 35
theorem zwO:FnScope ["pairs"] ["pairs"] (zak s21):=by walk_at "sc"
noncomputable abbrev s22:Stmt:=top 39
theorem sc22:FnScope ["book", "shape", "turning"] ["book", "shape"] (zak s22):=by walk_at "sc"
noncomputable abbrev s23:Stmt:=top 38
theorem sc23:FnScope ["book", "shape", "place", "wanted", "top", "parts", "spot", "inner"] ["book", "shape", "place", "wanted"] (zak s23):=by walk_at "sc"
noncomputable abbrev s24:Stmt:=top 37
theorem zxG:FnScope ["book", "shape", "places"] ["book", "shape", "places"] (zak s24):=by walk_at "sc"
noncomputable abbrev s25:Stmt:=top 36
theorem sc25:FnScope ["book", "shape", "places", "known", "place"] ["book", "shape", "places"] (zak s25):=by walk_at "sc"
noncomputable abbrev s26:Stmt:=top 42
theorem sc26:FnScope ["book", "thing", "here", "way"] ["book", "thing"] (zak s26):=by walk_at "sc"
noncomputable abbrev s27:Stmt:=top 41
theorem zxy:FnScope ["book", "thing"] ["book", "thing"] (zak s27):=by walk_at "sc"
noncomputable abbrev s28:Stmt:=top 43
theorem zxa:FnScope ["book", "road"] ["book", "road"] (zak s28):=by walk_at "sc"
noncomputable abbrev s29:Stmt:=top 45
theorem zwM:FnScope ["script", "k"] ["script", "k"] (zak s29):=by walk_at "sc"
noncomputable abbrev s30:Stmt:=top 46
theorem sc30:FnScope ["one", "two", "great", "signs", "rest", "base", "k", "at", "words", "word"] ["one", "two", "great"] (zak s30):=by walk_at "sc"
noncomputable abbrev s31:Stmt:=top 47
theorem zxi:FnScope ["side"] ["side"] (zak s31):=by walk_at "sc"
noncomputable abbrev s32:Stmt:=top 48
theorem zwP:FnScope ["side", "things"] ["side", "things"] (zak s32):=by walk_at "sc"
noncomputable abbrev s33:Stmt:=top 49
theorem zxj:FnScope ["draw", "many", "w"] ["draw", "many", "w"] (zak s33):=by walk_at "sc"
noncomputable abbrev s34:Stmt:=top 50
theorem sc34:FnScope ["draw", "many", "w", "one", "other", "way"] ["draw", "many", "w"] (zak s34):=by walk_at "sc"
noncomputable abbrev s35:Stmt:=top 51
theorem zwX:FnScope ["way", "head", "c", "d"] ["way", "head", "c", "d"] (zak s35):=by walk_at "sc"
noncomputable abbrev s36:Stmt:=top 52
theorem sc36:FnScope ["script", "k", "w", "titles", "book", "j", "lefts", "n", "left", "right"] ["script", "k", "w", "titles"] (zak s36):=by walk_at "sc"
noncomputable abbrev s37:Stmt:=top 53
theorem sc37:FnScope ["cells", "book", "w", "room", "stack", "spent", "cell", "way", "need", "node", "k", "at"] ["cells", "book", "w", "room"] (zak s37):=by walk_at "sc"
noncomputable abbrev s38:Stmt:=top 54
theorem sc38:FnScope ["plan", "book", "by", "k", "bits", "head", "parts", "ways"] ["plan", "book", "by"] (zak s38):=by walk_at "sc"
noncomputable abbrev s39:Stmt:=top 55
theorem sc39:FnScope ["book", "way", "which", "parts", "turning"] ["book", "way", "which"] (zak s39):=by walk_at "sc"
noncomputable abbrev s40:Stmt:=top 56
theorem sc40:FnScope ["book", "shape", "cells", "limit", "ways", "here", "spent", "cell", "some", "both"] ["book", "shape", "cells", "limit"] (zak s40):=by walk_at "sc"
noncomputable abbrev s41:Stmt:=top 57
theorem sc41:FnScope ["book", "road", "here", "way"] ["book", "road"] (zak s41):=by walk_at "sc"
noncomputable abbrev s42:Stmt:=top 58
theorem sc42:FnScope ["road", "cell", "w", "shape", "ways", "at"] ["road", "cell", "w"] (zak s42):=by walk_at "sc"
noncomputable abbrev s43:Stmt:=top 59
theorem sc43:FnScope ["script", "w", "titles", "book", "shape", "road", "other", "handed", "found", "last"] ["script"] (zak s43):=by walk_at "sc"
section
variable (P:Program) (w:World) (K:PySem.W.Frag) (mg:Str→Option Value) (base:Heap)
noncomputable abbrev C0:=Cal P w K mg base "parts_of" ["t"] zbQ
noncomputable abbrev C1:=Cal P w K mg base "parts_of_all" ["things"] zbw
noncomputable abbrev C2:=Cal P w K mg base "is_small" ["t"] zcU
noncomputable abbrev C3:=Cal P w K mg base "gather_places" ["t", "place", "found"] zaD
noncomputable abbrev C4:=Cal P w K mg base "places" ["t"] zek
noncomputable abbrev C5:=Cal P w K mg base "numbered_part" ["t", "number"] zbm
noncomputable abbrev C6:=Cal P w K mg base "part" ["t", "place"] ziy
noncomputable abbrev C7:=Cal P w K mg base "blank_places" ["side"] zbx
noncomputable abbrev C8:=Cal P w K mg base "filled" ["side", "things"] zda
noncomputable abbrev C9:=Cal P w K mg base "have_one_top" ["one", "other"] zbr
noncomputable abbrev C10:=Cal P w K mg base "gather_matched" ["left", "t", "things"] zay
noncomputable abbrev C11:=Cal P w K mg base "matched" ["left", "t"] zcP
noncomputable abbrev C12:=Cal P w K mg base "turning_of" ["book", "title"] zbE
noncomputable abbrev C13:=Cal P w K mg base "only_small" ["shape"] zaP
noncomputable abbrev C14:=Cal P w K mg base "with_sides" ["book", "way", "side"] zbl
noncomputable abbrev C15:=Cal P w K mg base "source" ["book", "way"] zdd
noncomputable abbrev C16:=Cal P w K mg base "goal" ["book", "way"] zeS
noncomputable abbrev C17:=Cal P w K mg base "part_places" ["book", "way"] zbn
noncomputable abbrev C18:=Cal P w K mg base "open_turning" ["book", "shape"] zbf
noncomputable abbrev C19:=Cal P w K mg base "gather_open" ["book", "shape", "place", "found"] zbb
noncomputable abbrev C20:=Cal P w K mg base "open_uses" ["book", "shape"] zbP
noncomputable abbrev C21:=Cal P w K mg base "places_of" ["pairs"] zcx
noncomputable abbrev C22:=Cal P w K mg base "turned_top" ["book", "shape"] zce
noncomputable abbrev C23:=Cal P w K mg base "way_within" ["book", "shape", "place", "wanted"] zaI
noncomputable abbrev C24:=Cal P w K mg base "way_with" ["book", "shape", "places"] zcM
noncomputable abbrev C25:=Cal P w K mg base "way_of" ["book", "shape", "places"] zeD
noncomputable abbrev C26:=Cal P w K mg base "leads_on" ["book", "thing"] zcW
noncomputable abbrev C27:=Cal P w K mg base "is_road" ["book", "thing"] zcN
noncomputable abbrev C28:=Cal P w K mg base "end" ["book", "road"] zlK
noncomputable abbrev C29:=Cal P w K mg base "_law_cell" ["script", "k"] zaA
noncomputable abbrev C30:=Cal P w K mg base "_law_words" ["one", "two", "great"] zaY
noncomputable abbrev C31:=Cal P w K mg base "_law_count" ["side"] zaz
noncomputable abbrev C32:=Cal P w K mg base "_law_filled" ["side", "things"] zaQ
noncomputable abbrev C33:=Cal P w K mg base "_law_item" ["draw", "many", "w"] zbU
noncomputable abbrev C34:=Cal P w K mg base "_law_right" ["draw", "many", "w"] zcc
noncomputable abbrev C35:=Cal P w K mg base "_law_lefts" ["way", "head", "c", "d"] zcb
noncomputable abbrev C36:=Cal P w K mg base "_law_book" ["script", "k", "w", "titles"] zbR
noncomputable abbrev C37:=Cal P w K mg base "_law_plan" ["cells", "book", "w", "room"] zbB
noncomputable abbrev C38:=Cal P w K mg base "_law_way" ["plan", "book", "by"] zbD
noncomputable abbrev C39:=Cal P w K mg base "_law_made" ["book", "way", "which"] zaC
noncomputable abbrev C40:=Cal P w K mg base "_law_road" ["book", "shape", "cells", "limit"] zcz
noncomputable abbrev C41:=Cal P w K mg base "_law_is_road" ["book", "road"] zbp
noncomputable abbrev C42:=Cal P w K mg base "_law_spoiled" ["road", "cell", "w"] zaN
end
section
variable {P:Program}{w:World}{K:PySem.W.Frag}{mg:Str→Option Value}{base:Heap}
theorem o0{f:Addr}{d:FuncData}(F:Fun K "parts_of" "parts_of" s0 f d) (n_i:mg "isinstance" =none) (n_n:mg "int" =none):Ok P w K mg base f d ["t"] zbQ:=zcD rfl fun r ih=>zaS F sc0 rfl rfl fun _ _ _ _ _ _ hr=>(zae (zaL (zcv (zfr rfl n_i rfl n_n PyProof.Rows.boot_int (jv 0) (by decide) (by decide) (zrX _ (by simp)))) (zah (zam (zaq zac))) zau)
  (zah (zam (zcq (jv 0) (zax zad) zaE))))
theorem o1{f:Addr}{d:FuncData}(F:Fun K "parts_of_all" "parts_of_all" s1 f d) (x0:C0 P w K mg base):Ok P w K mg base f d ["things"] zbw:=zcD rfl fun r ih=>zaS F sc1 rfl rfl fun _ _ _ _ _ _ hr=>(zae (zan (i:=1) sc1.nd rfl (Or.inl rfl) (zaH (zaO zac)))
  (zae (zbM (zbC (jv 0)) (zar (i:=2) sc1.nd rfl (Or.inl rfl)) (zah (zbT (zmO (jv 1) (zaa (zaj (x0.zg r) hr rfl x0.zm x0.zk x0.zb (zaa (jv 2) zac)) zac)))))
  (zah (zam (jv 1)))))
theorem o2{f:Addr}{d:FuncData}(F:Fun K "is_small" "is_small" s2 f d) (x1:C1 P w K mg base) (n_l:mg "len" =none) {t_MOST_HEAVY:Tok}(g_MOST_HEAVY:mg "MOST_HEAVY" =some (.int 400 t_MOST_HEAVY)) {t_MOST_DEEP:Tok}(g_MOST_DEEP:mg "MOST_DEEP" =some (.int 40 t_MOST_DEEP)):Ok P w K mg base f d ["t"] zcU:=zcD rfl fun r ih=>zaS F sc2 rfl rfl fun _ _ _ _ _ _ hr=>(zae (zan (i:=1) sc2.nd rfl (Or.inl rfl) zad)
  (zae (zan (i:=2) sc2.nd rfl (Or.inl rfl) zad)
  (zae (zan (i:=3) sc2.nd rfl (Or.inl rfl) (zaH (zaO (zaa (jv 0) zac))))
  (zae (zkQ (zcv (jv 3)) (zae (zpT (i:=1) sc2.nd rfl (Or.inl rfl) (zbH rfl n_l (zaa (jv 3) zac)))
  (zae (zpT (i:=2) sc2.nd rfl (Or.inl rfl) zad)
  (zae (zaL (JW.jt (znJ (zgR (jv 1) (zea rfl g_MOST_HEAVY)) (zkv (zgR (jv 2) (zea rfl g_MOST_DEEP))))) (zah (zam zdR)) zau)
  (zah (zan (i:=3) sc2.nd rfl (Or.inl rfl) (zaj (x1.zg r) hr rfl x1.zm x1.zk x1.zb (zaa (jv 3) zac))))))))
  (zah (zam zdR))))))
theorem o3{f:Addr}{d:FuncData}(F:Fun K "gather_places" "gather_places" s3 f d) (x0:C0 P w K mg base) (b:Binds K d ["t", "place", "found"] []) (m:mg "gather_places" =some (.ref f)) (n_e:mg "enumerate" =none):Ok P w K mg base f d ["t", "place", "found"] zaD:=zcD rfl fun r ih=>zaS F sc3 rfl rfl fun _ _ _ _ _ _ hr=>(zae (zbT (zcd (jv 2) (zaa (jv 1) zac)))
  (zah (zbM (zjo rfl n_e (zaj (x0.zg r) hr rfl x0.zm x0.zk x0.zb (zaa (jv 0) zac))) (zfC (zaV (zar (i:=3) sc3.nd rfl (Or.inl rfl)) (zaV (zar (i:=4) sc3.nd rfl (Or.inl rfl)) zdN)) (glS (glS gl0))) (zah (zbT (zaj ih hr rfl m F.kp b (zaa (jv 4) (zaa (zaK (jv 1) (zaq (zaa (jv 3) zac))) (zaa (jv 2) zac)))))))))
theorem o4{f:Addr}{d:FuncData}(F:Fun K "places" "places" s4 f d) (x3:C3 P w K mg base):Ok P w K mg base f d ["t"] zek:=zcD rfl fun r ih=>zaS F sc4 rfl rfl fun _ _ _ _ _ _ hr=>(zae (zan (i:=1) sc4.nd rfl (Or.inl rfl) (zaH (zaO zac)))
  (zae (zbT (zaj (x3.zg r) hr rfl x3.zm x3.zk x3.zb (zaa (jv 0) (zaa (zaq zac) (zaa (jv 1) zac)))))
  (zah (zam (jv 1)))))
theorem o5{f:Addr}{d:FuncData}(F:Fun K "numbered_part" "numbered_part" s5 f d) (x0:C0 P w K mg base) (n_l:mg "len" =none):Ok P w K mg base f d ["t", "number"] zbm:=zcD rfl fun r ih=>zaS F sc5 rfl rfl fun _ _ _ _ _ _ hr=>(zae (zan (i:=2) sc5.nd rfl (Or.inl rfl) (zaj (x0.zg r) hr rfl x0.zm x0.zk x0.zb (zaa (jv 0) zac)))
  (zae (zaL (JW.jt (znJ (znP (jv 1) zad) (zkv (zvS (jv 1) (zbH rfl n_l (zaa (jv 2) zac)))))) (zah zgM) zau)
  (zah (zam (zaw (jv 2) (jv 1))))))
theorem o6{f:Addr}{d:FuncData}(F:Fun K "part" "part" s6 f d) (x5:C5 P w K mg base):Ok P w K mg base f d ["t", "place"] ziy:=zcD rfl fun r ih=>zaS F sc6 rfl rfl fun _ _ _ _ _ _ hr=>(zae (zan (i:=2) sc6.nd rfl (Or.inl rfl) (jv 0))
  (zae (zbM (zbC (jv 1)) (zar (i:=3) sc6.nd rfl (Or.inl rfl)) (zah (zan (i:=2) sc6.nd rfl (Or.inl rfl) (zaj (x5.zg r) hr rfl x5.zm x5.zk x5.zb (zaa (jv 2) (zaa (jv 3) zac))))))
  (zah (zam (jv 2)))))
theorem o7{f:Addr}{d:FuncData}(F:Fun K "blank_places" "blank_places" s7 f d) (x4:C4 P w K mg base) (x6:C6 P w K mg base) (n_i:mg "isinstance" =none) (n_n:mg "int" =none):Ok P w K mg base f d ["side"] zbx:=zcD rfl fun r ih=>zaS F sc7 rfl rfl fun _ _ _ _ _ _ hr=>(zah (zam (zaH (zdr (N:=["place", "side"]) (k:=1) (fr:=[0]) ⟨rfl,by decide +kernel,rfl,rfl,rfl,rfl,rfl,rfl,rfl⟩ (zbC (zaj (x4.zg r) hr rfl x4.zm x4.zk x4.zb (zaa (jv 0) zac))) (fun _ _ _ _=>(zar (i:=0) (show List.Nodup [("place" :Str),("side" :Str)] from by decide +kernel) rfl (Or.inl rfl))) (fun _ _ _ _=>(zqP (zcv (zfr rfl n_i rfl n_n PyProof.Rows.boot_int (zaj (x6.zg r) hr rfl x6.zm x6.zk x6.zb (zaa (jv 1) (zaa (jv 0) zac))) (by decide) (by decide) (zrX _ (by simp)))))) (fun _ _ _ _=>(jv 0))))))
theorem o8{f:Addr}{d:FuncData}(F:Fun K "filled" "filled" s8 f d) (b:Binds K d ["side", "things"] []) (m:mg "filled" =some (.ref f)) (n_i:mg "isinstance" =none) (n_n:mg "int" =none) (n_t:mg "tuple" =none):Ok P w K mg base f d ["side", "things"] zda:=zcD rfl fun r ih=>zaS F sc8 rfl rfl fun _ _ _ _ _ _ hr=>(zae (zaL (zcv (zfr rfl n_i rfl n_n PyProof.Rows.boot_int (jv 0) (by decide) (by decide) (zrX _ (by simp)))) (zah (zam (zaw (jv 1) (jv 0)))) zau)
  (zah (zam (zaK (zaq (zaa (zaw (jv 0) zad) zac)) (zhz rfl n_t (zdr (N:=["inner", "things"]) (k:=1) (fr:=[1]) ⟨rfl,by decide +kernel,rfl,rfl,rfl,rfl,rfl,rfl,rfl⟩ (zbC (zcq (jv 0) (zax zad) zaE)) (fun _ _ _ _=>(zar (i:=0) (show List.Nodup [("inner" :Str),("things" :Str)] from by decide +kernel) rfl (Or.inl rfl))) (fun _ _ _ _=>zcw) (fun _ _ _ _=>(zaj ih hr rfl m F.kp b (zaa (jv 0) (zaa (jv 1) zac))))))))))
theorem o9{f:Addr}{d:FuncData}(F:Fun K "have_one_top" "have_one_top" s9 f d) (n_l:mg "len" =none):Ok P w K mg base f d ["one", "other"] zbr:=zcD rfl fun r ih=>zaS F sc9 rfl rfl fun _ _ _ _ _ _ hr=>(zah (zam (zky (zlG hr (zaw (jv 0) zad) (zaw (jv 1) zad)) (znK (zlG hr (zbH rfl n_l (zaa (jv 0) zac)) (zbH rfl n_l (zaa (jv 1) zac)))))))
theorem o10{f:Addr}{d:FuncData}(F:Fun K "gather_matched" "gather_matched" s10 f d) (x9:C9 P w K mg base) (b:Binds K d ["left", "t", "things"] []) (m:mg "gather_matched" =some (.ref f)) (n_i:mg "isinstance" =none) (n_n:mg "int" =none) (n_z:mg "zip" =none):Ok P w K mg base f d ["left", "t", "things"] zay:=zcD rfl fun r ih=>zaS F sc10 rfl rfl fun _ _ _ _ _ _ hr=>(zae (zaL (zcv (zfr rfl n_i rfl n_n PyProof.Rows.boot_int (jv 0) (by decide) (by decide) (zrX _ (by simp)))) (zae (zbT (zcd (jv 2) (zaa (jv 1) zac)))
  (zah (zam zdR))) zau)
  (zae (zaL (zgz (zcv (zaj (x9.zg r) hr rfl x9.zm x9.zk x9.zb (zaa (jv 0) (zaa (jv 1) zac))))) (zah (zam zdR)) zau)
  (zae (zbM (zpW rfl n_z (zcq (jv 0) (zax zad) zaE) (zcq (jv 1) (zax zad) zaE)) (zfC (zaV (zar (i:=3) sc10.nd rfl (Or.inl rfl)) (zaV (zar (i:=4) sc10.nd rfl (Or.inl rfl)) zdN)) (glS (glS gl0))) (zah (zaL (zgz (zcv (zaj ih hr rfl m F.kp b (zaa (jv 3) (zaa (jv 4) (zaa (jv 2) zac)))))) (zah (zam zdR)) zau)))
  (zah (zam zdR)))))
theorem o11{f:Addr}{d:FuncData}(F:Fun K "matched" "matched" s11 f d) (x10:C10 P w K mg base):Ok P w K mg base f d ["left", "t"] zcP:=zcD rfl fun r ih=>zaS F sc11 rfl rfl fun _ _ _ _ _ _ hr=>(zae (zan (i:=2) sc11.nd rfl (Or.inl rfl) (zaH (zaO zac)))
  (zae (zaL (zcv (zaj (x10.zg r) hr rfl x10.zm x10.zk x10.zb (zaa (jv 0) (zaa (jv 1) (zaa (jv 2) zac))))) (zah (zam (jv 2))) zau)
  (zah (zam zfG))))
theorem o12{f:Addr}{d:FuncData}(F:Fun K "turning_of" "turning_of" s12 f d):Ok P w K mg base f d ["book", "title"] zbE:=zcD rfl fun r ih=>zaS F sc12 rfl rfl fun _ _ _ _ _ _ hr=>(zae (zbM (zbC (jv 0)) (zar (i:=2) sc12.nd rfl (Or.inl rfl)) (zah (zaL (zcR hr (zaw (jv 2) zad) (jv 1)) (zah (zam (jv 2))) zau)))
  (zah (zam zfG)))
theorem o13{f:Addr}{d:FuncData}(F:Fun K "only_small" "only_small" s13 f d) (x2:C2 P w K mg base):Ok P w K mg base f d ["shape"] zaP:=zcD rfl fun r ih=>zaS F zxt rfl rfl fun _ _ _ _ _ _ hr=>(zae (zaL (zgz (zcv (zaj (x2.zg r) hr rfl x2.zm x2.zk x2.zb (zaa (jv 0) zac)))) (zah zgM) zau)
  (zah (zam (jv 0))))
theorem o14{f:Addr}{d:FuncData}(F:Fun K "with_sides" "with_sides" s14 f d) (x12:C12 P w K mg base) (x8:C8 P w K mg base) (b:Binds K d ["book", "way", "side"] []) (m:mg "with_sides" =some (.ref f)) (n_t:mg "tuple" =none):Ok P w K mg base f d ["book", "way", "side"] zbl:=zcD rfl fun r ih=>zaS F sc14 rfl rfl fun _ _ _ _ _ _ hr=>(zae (zgF (i:=3) (N:=["inner", "book", "side"]) (k:=1) (fr:=[0,2]) sc14.nd rfl (Or.inl rfl) ⟨rfl,by decide +kernel,rfl,rfl,rfl,rfl,rfl,rfl,rfl⟩ (zbC (zcq (jv 1) (zax zad) zaE)) (fun _ _ _ _=>(zar (i:=0) (show List.Nodup [("inner" :Str),("book" :Str),("side" :Str)] from by decide +kernel) rfl (Or.inl rfl))) (fun _ _ _ _=>zcw) (fun _ _ _ _=>(zaj ih hr rfl m F.kp b (zaa (jv 1) (zaa (jv 0) (zaa (jv 2) zac))))))
  (zae (zan (i:=4) sc14.nd rfl (Or.inl rfl) (zaj (x12.zg r) hr rfl x12.zm x12.zk x12.zb (zaa (jv 0) (zaa (zaw (jv 1) zad) zac))))
  (zae (zaL (ztI (jv 4) zfG) (zah (zam (zaK (zaq (zaa (zaw (jv 1) zad) zac)) (zdF rfl n_t (zaa (jv 3) zac))))) zau)
  (zah (zam (zaj (x8.zg r) hr rfl x8.zm x8.zk x8.zb (zaa (zaw (jv 4) (jv 2)) (zaa (jv 3) zac))))))))
theorem o15{f:Addr}{d:FuncData}(F:Fun K "source" "source" s15 f d) (x13:C13 P w K mg base) (x14:C14 P w K mg base) {t_LEFT:Tok}(g_LEFT:mg "LEFT" =some (.int 1 t_LEFT)):Ok P w K mg base f d ["book", "way"] zdd:=zcD rfl fun r ih=>zaS F zxs rfl rfl fun _ _ _ _ _ _ hr=>(zah (zam (zaj (x13.zg r) hr rfl x13.zm x13.zk x13.zb (zaa (zaj (x14.zg r) hr rfl x14.zm x14.zk x14.zb (zaa (jv 0) (zaa (jv 1) (zaa (zea rfl g_LEFT) zac)))) zac))))
theorem o16{f:Addr}{d:FuncData}(F:Fun K "goal" "goal" s16 f d) (x13:C13 P w K mg base) (x14:C14 P w K mg base) {t_RIGHT:Tok}(g_RIGHT:mg "RIGHT" =some (.int 2 t_RIGHT)):Ok P w K mg base f d ["book", "way"] zeS:=zcD rfl fun r ih=>zaS F zxr rfl rfl fun _ _ _ _ _ _ hr=>(zah (zam (zaj (x13.zg r) hr rfl x13.zm x13.zk x13.zb (zaa (zaj (x14.zg r) hr rfl x14.zm x14.zk x14.zb (zaa (jv 0) (zaa (jv 1) (zaa (zea rfl g_RIGHT) zac)))) zac))))
theorem o17{f:Addr}{d:FuncData}(F:Fun K "part_places" "part_places" s17 f d) (x12:C12 P w K mg base) (x7:C7 P w K mg base) (n_r:mg "range" =none) (n_l:mg "len" =none) {t_LEFT:Tok}(g_LEFT:mg "LEFT" =some (.int 1 t_LEFT)):Ok P w K mg base f d ["book", "way"] zbn:=zcD rfl fun r ih=>zaS F sc17 rfl rfl fun _ _ _ _ _ _ hr=>(zae (zan (i:=2) sc17.nd rfl (Or.inl rfl) (zaj (x12.zg r) hr rfl x12.zm x12.zk x12.zb (zaa (jv 0) (zaa (zaw (jv 1) zad) zac))))
  (zae (zaL (ztI (jv 2) zfG) (zah (zam (zaH (zdr (N:=["number"]) (k:=1) (fr:=[]) ⟨rfl,by decide +kernel,rfl,rfl,rfl,rfl,rfl,rfl,rfl⟩ (zef rfl n_r (zaa (zkm (zbH rfl n_l (zaa (jv 1) zac)) zad) zac)) (fun _ _ _ _=>(zar (i:=0) (show List.Nodup [("number" :Str)] from by decide +kernel) rfl (Or.inl rfl))) (fun _ _ _ _=>zcw) (fun _ _ _ _=>(zaq (zaa (jv 0) zac))))))) zau)
  (zah (zam (zaj (x7.zg r) hr rfl x7.zm x7.zk x7.zb (zaa (zaw (jv 2) (zea rfl g_LEFT)) zac))))))
theorem o18{f:Addr}{d:FuncData}(F:Fun K "open_turning" "open_turning" s18 f d) (x11:C11 P w K mg base) {t_LEFT:Tok}(g_LEFT:mg "LEFT" =some (.int 1 t_LEFT)):Ok P w K mg base f d ["book", "shape"] zbf:=zcD rfl fun r ih=>zaS F sc18 rfl rfl fun _ _ _ _ _ _ hr=>(zae (zbM (zbC (jv 0)) (zar (i:=2) sc18.nd rfl (Or.inl rfl)) (zah (zaL (zkI (zaj (x11.zg r) hr rfl x11.zm x11.zk x11.zb (zaa (zaw (jv 2) (zea rfl g_LEFT)) (zaa (jv 1) zac))) zfG) (zah (zam (jv 2))) zau)))
  (zah (zam zfG)))
theorem o19{f:Addr}{d:FuncData}(F:Fun K "gather_open" "gather_open" s19 f d) (x18:C18 P w K mg base) (b:Binds K d ["book", "shape", "place", "found"] []) (m:mg "gather_open" =some (.ref f)) (n_e:mg "enumerate" =none):Ok P w K mg base f d ["book", "shape", "place", "found"] zbb:=zcD rfl fun r ih=>zaS F sc19 rfl rfl fun _ _ _ _ _ _ hr=>(zae (zan (i:=4) sc19.nd rfl (Or.inl rfl) (zaj (x18.zg r) hr rfl x18.zm x18.zk x18.zb (zaa (jv 0) (zaa (jv 1) zac))))
  (zae (zaL (zkI (jv 4) zfG) (zah (zbT (zcd (jv 3) (zaa (zaq (zaa (jv 2) (zaa (zaw (jv 4) zad) zac))) zac)))) zau)
  (zah (zbM (zjo rfl n_e (zcq (jv 1) (zax zad) zaE)) (zfC (zaV (zar (i:=5) sc19.nd rfl (Or.inl rfl)) (zaV (zar (i:=6) sc19.nd rfl (Or.inl rfl)) zdN)) (glS (glS gl0))) (zah (zbT (zaj ih hr rfl m F.kp b (zaa (jv 0) (zaa (jv 6) (zaa (zaK (jv 2) (zaq (zaa (jv 5) zac))) (zaa (jv 3) zac)))))))))))
theorem o20{f:Addr}{d:FuncData}(F:Fun K "open_uses" "open_uses" s20 f d) (x19:C19 P w K mg base):Ok P w K mg base f d ["book", "shape"] zbP:=zcD rfl fun r ih=>zaS F sc20 rfl rfl fun _ _ _ _ _ _ hr=>(zae (zan (i:=2) sc20.nd rfl (Or.inl rfl) (zaH (zaO zac)))
  (zae (zbT (zaj (x19.zg r) hr rfl x19.zm x19.zk x19.zb (zaa (jv 0) (zaa (jv 1) (zaa (zaq zac) (zaa (jv 2) zac))))))
  (zah (zam (jv 2)))))
theorem o21{f:Addr}{d:FuncData}(F:Fun K "places_of" "places_of" s21 f d):Ok P w K mg base f d ["pairs"] zcx:=zcD rfl fun r ih=>zaS F zwO rfl rfl fun _ _ _ _ _ _ hr=>(zah (zam (zaH (zdr (N:=["pair"]) (k:=1) (fr:=[]) ⟨rfl,by decide +kernel,rfl,rfl,rfl,rfl,rfl,rfl,rfl⟩ (zbC (jv 0)) (fun _ _ _ _=>(zar (i:=0) (show List.Nodup [("pair" :Str)] from by decide +kernel) rfl (Or.inl rfl))) (fun _ _ _ _=>zcw) (fun _ _ _ _=>(zaw (jv 0) zad))))))
theorem o22{f:Addr}{d:FuncData}(F:Fun K "turned_top" "turned_top" s22 f d) (x18:C18 P w K mg base) (x11:C11 P w K mg base) (n_t:mg "tuple" =none) {t_LEFT:Tok}(g_LEFT:mg "LEFT" =some (.int 1 t_LEFT)):Ok P w K mg base f d ["book", "shape"] zce:=zcD rfl fun r ih=>zaS F sc22 rfl rfl fun _ _ _ _ _ _ hr=>(zae (zan (i:=2) sc22.nd rfl (Or.inl rfl) (zaj (x18.zg r) hr rfl x18.zm x18.zk x18.zb (zaa (jv 0) (zaa (jv 1) zac))))
  (zah (zam (zaK (zaq (zaa (zaw (jv 2) zad) zac)) (zdF rfl n_t (zaa (zaj (x11.zg r) hr rfl x11.zm x11.zk x11.zb (zaa (zaw (jv 2) (zea rfl g_LEFT)) (zaa (jv 1) zac))) zac))))))
theorem o23{f:Addr}{d:FuncData}(F:Fun K "way_within" "way_within" s23 f d) (x22:C22 P w K mg base) (x17:C17 P w K mg base) (b:Binds K d ["book", "shape", "place", "wanted"] []) (m:mg "way_within" =some (.ref f)) (n_z:mg "zip" =none) (n_t:mg "tuple" =none):Ok P w K mg base f d ["book", "shape", "place", "wanted"] zaI:=zcD rfl fun r ih=>zaS F sc23 rfl rfl fun _ _ _ _ _ _ hr=>(zae (zan (i:=4) sc23.nd rfl (Or.inl rfl) (zwy (zuM hr (jv 2) (jv 3)) (zaj (x22.zg r) hr rfl x22.zm x22.zk x22.zb (zaa (jv 0) (zaa (jv 1) zac))) (jv 1)))
  (zae (zan (i:=5) sc23.nd rfl (Or.inl rfl) (zaH (zaO zac)))
  (zae (zbM (zpW rfl n_z (zaj (x17.zg r) hr rfl x17.zm x17.zk x17.zb (zaa (jv 0) (zaa (jv 4) zac))) (zcq (jv 4) (zax zad) zaE)) (zfC (zaV (zar (i:=6) sc23.nd rfl (Or.inl rfl)) (zaV (zar (i:=7) sc23.nd rfl (Or.inl rfl)) zdN)) (glS (glS gl0))) (zah (zbT (zcd (jv 5) (zaa (zaj ih hr rfl m F.kp b (zaa (jv 0) (zaa (jv 7) (zaa (zaK (jv 2) (jv 6)) (zaa (jv 3) zac))))) zac)))))
  (zah (zam (zaK (zaq (zaa (zaw (jv 4) zad) zac)) (zdF rfl n_t (zaa (jv 5) zac))))))))
theorem o24{f:Addr}{d:FuncData}(F:Fun K "way_with" "way_with" s24 f d) (x23:C23 P w K mg base) (n_d:mg "dict" =none):Ok P w K mg base f d ["book", "shape", "places"] zcM:=zcD rfl fun r ih=>zaS F zxG rfl rfl fun _ _ _ _ _ _ hr=>(zah (zam (zaj (x23.zg r) hr rfl x23.zm x23.zk x23.zb (zaa (jv 0) (zaa (jv 1) (zaa (zaq zac) (zaa (zpo hr rfl n_d (zdr (N:=["place"]) (k:=1) (fr:=[]) ⟨rfl,by decide +kernel,rfl,rfl,rfl,rfl,rfl,rfl,rfl⟩ (zbC (jv 2)) (fun _ _ _ _=>(zar (i:=0) (show List.Nodup [("place" :Str)] from by decide +kernel) rfl (Or.inl rfl))) (fun _ _ _ _=>zcw) (fun _ _ _ _=>(zaq (zaa (jv 0) (zaa zdR zac)))))) zac)))))))
theorem o25{f:Addr}{d:FuncData}(F:Fun K "way_of" "way_of" s25 f d) (x21:C21 P w K mg base) (x24:C24 P w K mg base) (x20:C20 P w K mg base):Ok P w K mg base f d ["book", "shape", "places"] zeD:=zcD rfl fun r ih=>zaS F sc25 rfl rfl fun _ _ _ _ _ _ hr=>(zae (zan (i:=3) sc25.nd rfl (Or.inl rfl) (zaj (x21.zg r) hr rfl x21.zm x21.zk x21.zb (zaa (zaj (x20.zg r) hr rfl x20.zm x20.zk x20.zb (zaa (jv 0) (zaa (jv 1) zac))) zac)))
  (zae (zbM (zbC (jv 2)) (zar (i:=4) sc25.nd rfl (Or.inl rfl)) (zah (zaL (zpz hr (jv 4) (jv 3)) (zah zgM) zau)))
  (zah (zam (zaj (x24.zg r) hr rfl x24.zm x24.zk x24.zb (zaa (jv 0) (zaa (jv 1) (zaa (jv 2) zac))))))))
theorem o26{f:Addr}{d:FuncData}(F:Fun K "leads_on" "leads_on" s26 f d) (x13:C13 P w K mg base) (x16:C16 P w K mg base) (x15:C15 P w K mg base):Ok P w K mg base f d ["book", "thing"] zcW:=zcD rfl fun r ih=>zaS F sc26 rfl rfl fun _ _ _ _ _ _ hr=>(zae (zan (i:=2) sc26.nd rfl (Or.inl rfl) (zaj (x13.zg r) hr rfl x13.zm x13.zk x13.zb (zaa (zaw (jv 1) zad) zac)))
  (zae (zbM (zbC (zaw (jv 1) zad)) (zar (i:=3) sc26.nd rfl (Or.inl rfl)) (zae (zaL (zoR hr (zaj (x15.zg r) hr rfl x15.zm x15.zk x15.zb (zaa (jv 0) (zaa (jv 3) zac))) (jv 2)) (zah (zam zdR)) zau)
  (zah (zan (i:=2) sc26.nd rfl (Or.inl rfl) (zaj (x16.zg r) hr rfl x16.zm x16.zk x16.zb (zaa (jv 0) (zaa (jv 3) zac)))))))
  (zah (zam zdR))))
theorem o27{f:Addr}{d:FuncData}(F:Fun K "is_road" "is_road" s27 f d) (x26:C26 P w K mg base):Ok P w K mg base f d ["book", "thing"] zcN:=zcD rfl fun r ih=>zaS F zxy rfl rfl fun _ _ _ _ _ _ hr=>(zah (zrn (zah (zam (zaj (x26.zg r) hr rfl x26.zm x26.zk x26.zb (zaa (jv 0) (zaa (jv 1) zac)))))))
theorem o28{f:Addr}{d:FuncData}(F:Fun K "end" "end" s28 f d) (x16:C16 P w K mg base):Ok P w K mg base f d ["book", "road"] zlK:=zcD rfl fun r ih=>by
  refine zaS F zxa rfl rfl fun _ _ _ _ _ _ hr=>?_;delta zjj zjn;exact(zae (zaL (zgz (zcv (zaw (jv 1) zad))) (zah (zam (zaw (jv 1) zad))) zau)
  (zah (zam (zaj (x16.zg r) hr rfl x16.zm x16.zk x16.zb (zaa (jv 0) (zaa (zaw (zaw (jv 1) zad) (zem zad)) zac))))))
theorem o29{f:Addr}{d:FuncData}(F:Fun K "_law_cell" "_law_cell" s29 f d) (n_l:mg "len" =none):Ok P w K mg base f d ["script", "k"] zaA:=zcD rfl fun r ih=>zaS F zwM rfl rfl fun _ _ _ _ _ _ hr=>(zae (zaL (znP (jv 1) (zbH rfl n_l (zaa (jv 0) zac))) (zah (zam (zaw (jv 0) (jv 1)))) zau)
  (zah (zam zad)))
theorem o30{f:Addr}{d:FuncData}(F:Fun K "_law_words" "_law_words" s30 f d) (n_r:mg "range" =none) (n_l:mg "len" =none) (n_n:mg "int" =none):Ok P w K mg base f d ["one", "two", "great"] zaY:=zcD rfl fun r ih=>zaS F sc30 rfl rfl fun _ _ _ _ _ _ hr=>(zae (zan (i:=3) sc30.nd rfl (Or.inr rfl) znL)
  (zae (zan (i:=4) sc30.nd rfl (Or.inl rfl) (zbj (jv 1) (zsE zad zad)))
  (zae (zan (i:=5) sc30.nd rfl (Or.inr rfl) (zaH (zaO zac)))
  (zae (zbM (zef rfl n_r (zaa (zaK zad (zbj (jv 0) zad)) zac)) (zar (i:=6) sc30.nd rfl (Or.inr rfl)) (zae (zbT (zcd (jv 5) (zaa (zbj (jv 4) zad) zac)))
  (zah (zan (i:=4) sc30.nd rfl (Or.inl rfl) (zbO (jv 4) zad)))))
  (zae (zan (i:=7) sc30.nd rfl (Or.inr rfl) (zbj (zbO (jv 0) zad) (zbH rfl n_l (zaa (jv 5) zac))))
  (zae (zan (i:=8) sc30.nd rfl (Or.inl rfl) (zaH (zaO zac)))
  (zae (zbM (zef rfl n_r (zaa zad zac)) (zar (i:=6) sc30.nd rfl (Or.inr rfl)) (zae (zan (i:=9) sc30.nd rfl (Or.inl rfl) (zoz znL (zdr (N:=["j", "signs", "base", "k", "at"]) (k:=1) (fr:=[3,5,6,7]) ⟨rfl,by decide +kernel,rfl,rfl,rfl,rfl,rfl,rfl,rfl⟩ (zef rfl n_r (zaa (zbH rfl n_l (zaa (jv 5) zac)) zac)) (fun _ _ _ _=>(zar (i:=0) (show List.Nodup [("j" :Str),("signs" :Str),("base" :Str),("k" :Str),("at" :Str)] from by decide +kernel) rfl (Or.inl rfl))) (fun _ _ _ _=>zcw) (fun _ _ _ _=>(zaw (jv 1) (zbj (zaK (zaw (jv 2) (jv 0)) (zpX (jv 3) (znd rfl n_n (zaa (zlG hr (jv 0) (jv 4)) zac)))) zad))))))
  (zae (zaL (zcv (jv 2)) (zah (zan (i:=9) sc30.nd rfl (Or.inl rfl) (zaK (zoU (zaw (jv 9) zad)) (zcq (jv 9) (zax zad) zaE)))) zau)
  (zah (zbT (zcd (jv 8) (zaa (jv 9) zac)))))))
  (zae (zaL (JW.jt (zkb (zcR hr (zbj (zbO (jv 0) zad) zad) zad) (zgK (zgz (zcv (jv 2)))))) (zah (zan (i:=8) sc30.nd rfl (Or.inl rfl) (zaH (zfy (znY (jv 8) zaE (zax zad)) (zaO (zaa (zaw (jv 8) zad) (zaa (zaw (jv 8) zad) (zaa (zaw (jv 8) zad) zac)))))))) zau)
  (zah (zam (jv 8)))))))))))
theorem o31{f:Addr}{d:FuncData}(F:Fun K "_law_count" "_law_count" s31 f d) (b:Binds K d ["side"] []) (m:mg "_law_count" =some (.ref f)) (n_i:mg "isinstance" =none) (n_n:mg "int" =none) (n_u:mg "sum" =none):Ok P w K mg base f d ["side"] zaz:=zcD rfl fun r ih=>zaS F zxi rfl rfl fun _ _ _ _ _ _ hr=>(zae (zaL (zcv (zfr rfl n_i rfl n_n PyProof.Rows.boot_int (jv 0) (by decide) (by decide) (zrX _ (by simp)))) (zah (zam zad)) zau)
  (zah (zam (zsn rfl n_u (zdr (N:=["one"]) (k:=1) (fr:=[]) ⟨rfl,by decide +kernel,rfl,rfl,rfl,rfl,rfl,rfl,rfl⟩ (zbC (zcq (jv 0) (zax zad) zaE)) (fun _ _ _ _=>(zar (i:=0) (show List.Nodup [("one" :Str)] from by decide +kernel) rfl (Or.inl rfl))) (fun _ _ _ _=>zcw) (fun _ _ _ _=>(zaj ih hr rfl m F.kp b (zaa (jv 0) zac))))))))
theorem o32{f:Addr}{d:FuncData}(F:Fun K "_law_filled" "_law_filled" s32 f d) (b:Binds K d ["side", "things"] []) (m:mg "_law_filled" =some (.ref f)) (n_i:mg "isinstance" =none) (n_n:mg "int" =none) (n_t:mg "tuple" =none):Ok P w K mg base f d ["side", "things"] zaQ:=zcD rfl fun r ih=>zaS F zwP rfl rfl fun _ _ _ _ _ _ hr=>(zae (zaL (zcv (zfr rfl n_i rfl n_n PyProof.Rows.boot_int (jv 0) (by decide) (by decide) (zrX _ (by simp)))) (zah (zam (zaw (jv 1) (jv 0)))) zau)
  (zah (zam (zaK (zcq (jv 0) zaE (zax zad)) (zhz rfl n_t (zdr (N:=["one", "things"]) (k:=1) (fr:=[1]) ⟨rfl,by decide +kernel,rfl,rfl,rfl,rfl,rfl,rfl,rfl⟩ (zbC (zcq (jv 0) (zax zad) zaE)) (fun _ _ _ _=>(zar (i:=0) (show List.Nodup [("one" :Str),("things" :Str)] from by decide +kernel) rfl (Or.inl rfl))) (fun _ _ _ _=>zcw) (fun _ _ _ _=>(zaj ih hr rfl m F.kp b (zaa (jv 0) (zaa (jv 1) zac))))))))))
theorem o33{f:Addr}{d:FuncData}(F:Fun K "_law_item" "_law_item" s33 f d):Ok P w K mg base f d ["draw", "many", "w"] zbU:=zcD rfl fun r ih=>zaS F zxj rfl rfl fun _ _ _ _ _ _ hr=>(zae (zaL (JW.jt (zkb (zgR (jv 1) zad) (zgK (zgR (zbj (jv 0) zad) zad)))) (zah (zam (zbj (zbO (jv 0) zad) (jv 1)))) zau)
  (zah (zam (zaq (zaa (zaw (jv 2) (zkM (zaO (zaa zad (zaa zad zac))) (zbj (zbO (jv 0) zad) zad))) zac)))))
theorem o34{f:Addr}{d:FuncData}(F:Fun K "_law_right" "_law_right" s34 f d) (x33:C33 P w K mg base):Ok P w K mg base f d ["draw", "many", "w"] zcc:=zcD rfl fun r ih=>zaS F sc34 rfl rfl fun _ _ _ _ _ _ hr=>(zae (zan (i:=3) sc34.nd rfl (Or.inl rfl) (zaj (x33.zg r) hr rfl x33.zm x33.zk x33.zb (zaa (zbO (jv 0) zad) (zaa (jv 1) (zaa (jv 2) zac)))))
  (zae (zan (i:=4) sc34.nd rfl (Or.inl rfl) (zaj (x33.zg r) hr rfl x33.zm x33.zk x33.zb (zaa (zbO (jv 0) zad) (zaa (jv 1) (zaa (jv 2) zac)))))
  (zae (zan (i:=5) sc34.nd rfl (Or.inl rfl) (zbj (jv 0) zad))
  (zae (zaL (zcR hr (jv 5) zad) (zah (zam (jv 3))) zau)
  (zae (zaL (JW.jt (znJ (zcR hr (jv 5) zad) (zkv (zcR hr (jv 1) zad)))) (zah (zam (zaq (zaa (zaw (jv 2) zad) (zaa (jv 3) zac))))) zau)
  (zae (zaL (zcR hr (jv 5) zad) (zah (zam (zaq (zaa (zaw (jv 2) zad) (zaa (jv 3) (zaa (jv 4) zac)))))) zau)
  (zae (zaL (zcR hr (jv 5) zad) (zah (zam (zaq (zaa (zaw (jv 2) zad) (zaa (jv 3) (zaa (jv 3) zac)))))) zau)
  (zae (zaL (zcR hr (jv 5) zad) (zah (zam (zaq (zaa (zaw (jv 2) zad) (zaa (zaq (zaa (zaw (jv 2) zad) (zaa (jv 3) zac))) (zaa (jv 4) zac)))))) zau)
  (zae (zaL (zcR hr (jv 5) zad) (zah (zam (zaq (zaa (zaw (jv 2) zad) (zaa (jv 3) zac))))) zau)
  (zah (zam (zaq (zaa (zaw (jv 2) zad) (zaa (jv 3) (zaa (jv 4) zac)))))))))))))))
theorem o35{f:Addr}{d:FuncData}(F:Fun K "_law_lefts" "_law_lefts" s35 f d):Ok P w K mg base f d ["way", "head", "c", "d"] zcb:=zcD rfl fun r ih=>zaS F zwX rfl rfl fun _ _ _ _ _ _ hr=>(zae (zaL (zcR hr (jv 0) zad) (zah (zam (zaH (zaO (zaa (zaq (zaa (jv 1) (zaa zad zac))) zac))))) zau)
  (zae (zaL (zcR hr (jv 0) zad) (zah (zam (zaH (zaO (zaa (zaq (zaa (jv 1) (zaa zad (zaa zad zac)))) zac))))) zau)
  (zae (zaL (zcR hr (jv 0) zad) (zah (zam (zaH (zaO (zaa (zaq (zaa (jv 1) (zaa (zaq (zaa (jv 2) zac)) zac))) (zaa (zaq (zaa (jv 1) (zaa (zaq (zaa (jv 3) (zaa zad zac))) zac))) zac)))))) zau)
  (zae (zaL (zcR hr (jv 0) zad) (zah (zam (zaH (zaO (zaa (zaq (zaa (jv 1) (zaa (zaq (zaa (jv 2) zac)) (zaa zad zac)))) (zaa (zaq (zaa (jv 1) (zaa (zaq (zaa (jv 3) (zaa zad zac))) (zaa zad zac)))) zac)))))) zau)
  (zae (zaL (zcR hr (jv 0) zad) (zah (zam (zaH (zaO (zaa (zaq (zaa (jv 1) (zaa (zaq (zaa (jv 3) (zaa (zaq (zaa (jv 3) (zaa zad zac))) zac))) (zaa zad (zaa zad zac))))) (zaa (zaq (zaa (jv 1) (zaa (zaq (zaa (jv 3) (zaa (zaq (zaa (jv 2) zac)) zac))) (zaa zad (zaa zad zac))))) zac)))))) zau)
  (zah (zam (zaH (zaO (zaa (zaq (zaa (jv 1) zac)) zac))))))))))
theorem o36{f:Addr}{d:FuncData}(F:Fun K "_law_book" "_law_book" s36 f d) (x35:C35 P w K mg base) (x34:C34 P w K mg base) (x29:C29 P w K mg base) (x31:C31 P w K mg base) (n_r:mg "range" =none) (n_e:mg "enumerate" =none) (n_l:mg "len" =none):Ok P w K mg base f d ["script", "k", "w", "titles"] zbR:=zcD rfl fun r ih=>zaS F sc36 rfl rfl fun _ _ _ _ _ _ hr=>(zae (zan (i:=4) sc36.nd rfl (Or.inl rfl) (zaH (zaO zac)))
  (zae (zbM (zef rfl n_r (zaa zad zac)) (zar (i:=5) sc36.nd rfl (Or.inl rfl)) (zae (zan (i:=6) sc36.nd rfl (Or.inl rfl) (zaj (x35.zg r) hr rfl x35.zm x35.zk x35.zb (zaa (zbj (zaj (x29.zg r) hr rfl x29.zm x29.zk x29.zb (zaa (jv 0) (zaa (zaK (jv 1) (jv 5)) zac))) zad) (zaa (zaw (jv 2) (jv 5)) (zaa (zaw (jv 2) zad) (zaa (zaw (jv 2) zad) zac))))))
  (zah (zbM (zjo rfl n_e (jv 6)) (zfC (zaV (zar (i:=7) sc36.nd rfl (Or.inl rfl)) (zaV (zar (i:=8) sc36.nd rfl (Or.inl rfl)) zdN)) (glS (glS gl0))) (zae (zan (i:=9) sc36.nd rfl (Or.inl rfl) (zaj (x34.zg r) hr rfl x34.zm x34.zk x34.zb (zaa (zaj (x29.zg r) hr rfl x29.zm x29.zk x29.zb (zaa (jv 0) (zaa (zaK (zaK (zaK (jv 1) zad) (zpX zad (jv 5))) (jv 7)) zac))) (zaa (zaj (x31.zg r) hr rfl x31.zm x31.zk x31.zb (zaa (jv 8) zac)) (zaa (jv 2) zac)))))
  (zah (zbT (zcd (jv 4) (zaa (zaq (zaa (zaw (jv 3) (zbH rfl n_l (zaa (jv 4) zac))) (zaa (jv 8) (zaa (jv 9) zac)))) zac)))))))))
  (zah (zam (jv 4)))))
theorem o37{f:Addr}{d:FuncData}(F:Fun K "_law_plan" "_law_plan" s37 f d) (x31:C31 P w K mg base) (n_l:mg "len" =none) (n_m:mg "min" =none):Ok P w K mg base f d ["cells", "book", "w", "room"] zbB:=zcD rfl fun r ih=>zaS F sc37 rfl rfl fun _ _ _ _ _ _ hr=>(zae (zan (i:=4) sc37.nd rfl (Or.inl rfl) (zaH (zaO zac)))
  (zae (zan (i:=5) sc37.nd rfl (Or.inl rfl) zad)
  (zae (zbM (zbC (jv 0)) (zar (i:=6) sc37.nd rfl (Or.inl rfl)) (zae (zan (i:=7) sc37.nd rfl (Or.inl rfl) (zbj (jv 6) zad))
  (zae (zan (i:=8) sc37.nd rfl (Or.inl rfl) (zkM (zaO (zaa zad (zaa zad (zaa zad (zaa zad zac))))) (zms rfl n_m (zaa (jv 7) (zaa zad zac)))))
  (zae (zan (i:=9) sc37.nd rfl (Or.inl rfl) (zaq (zaa (zem zad) (zaa zad (zaa (zaw (jv 2) (zkM (zaO (zaa zad (zaa zad (zaa zad (zaa zad zac))))) (zms rfl n_m (zaa (jv 7) (zaa zad zac))))) zac)))))
  (zae (zaL (zgR (jv 7) zad) (zae (zan (i:=10) sc37.nd rfl (Or.inl rfl) (zbj (zbO (jv 6) zad) (zbH rfl n_l (zaa (jv 1) zac))))
  (zae (zan (i:=8) sc37.nd rfl (Or.inl rfl) (zaj (x31.zg r) hr rfl x31.zm x31.zk x31.zb (zaa (zaw (zaw (jv 1) (jv 10)) zad) zac)))
  (zae (zan (i:=9) sc37.nd rfl (Or.inl rfl) (zaq (zaa (jv 10) (zaa (zbj (zbO (jv 6) zad) zad) (zaa znL zac)))))
  (zah (zan (i:=5) sc37.nd rfl (Or.inl rfl) (zaK (jv 5) zad)))))) zau)
  (zah (zaL (JW.jt (zkb (zgR (jv 3) zad) (zgK (znP (jv 5) zad)))) (zae (zan (i:=3) sc37.nd rfl (Or.inl rfl) (zkm (jv 3) zad))
  (zae (zan (i:=4) sc37.nd rfl (Or.inl rfl) (zaH (zqK (zsH (zaO (zaa (zaq (zaa (zem zad) (zaa zad (zaa (zaw (jv 2) zad) (zaa (zaH (zaO zac)) zac))))) zac)) (zkm (jv 8) (zbH rfl n_l (zaa (jv 4) zac)))) (jv 4))))
  (zae (zan (i:=11) sc37.nd rfl (Or.inl rfl) (zkm (zbH rfl n_l (zaa (jv 4) zac)) (jv 8)))
  (zah (zan (i:=4) sc37.nd rfl (Or.inl rfl) (zaH (zfy (znY (jv 4) zaE (zax (jv 11))) (zaO (zaa (zaK (jv 9) (zaq (zaa (zcq (jv 4) (zax (jv 11)) zaE) zac))) zac))))))))) zau)))))))
  (zae (zkQ (zgR (zbH rfl n_l (zaa (jv 4) zac)) zad) (zah (zan (i:=4) sc37.nd rfl (Or.inl rfl) (zaH (zfy (znY (jv 4) zaE (zax (zem zad))) (zaO (zaa (zaq (zaa (zem zad) (zaa zad (zaa (zaw (jv 2) zad) (zaa (zcq (jv 4) (zax (zem zad)) zaE) zac))))) zac)))))))
  (zah (zam (zkM (zru (jv 4) (zaO (zaa (zaq (zaa (zem zad) (zaa zad (zaa (zaw (jv 2) zad) (zaa (zaH (zaO zac)) zac))))) zac))) zad)))))))
theorem o38{f:Addr}{d:FuncData}(F:Fun K "_law_way" "_law_way" s38 f d) (x32:C32 P w K mg base) (b:Binds K d ["plan", "book", "by"] []) (m:mg "_law_way" =some (.ref f)) (n_t:mg "tuple" =none):Ok P w K mg base f d ["plan", "book", "by"] zbD:=zcD rfl fun r ih=>zaS F sc38 rfl rfl fun _ _ _ _ _ _ hr=>(zae (zqm (jv 0) (zfC (zaV (zar (i:=3) sc38.nd rfl (Or.inl rfl)) (zaV (zar (i:=4) sc38.nd rfl (Or.inl rfl)) (zaV (zar (i:=5) sc38.nd rfl (Or.inl rfl)) (zaV (zar (i:=6) sc38.nd rfl (Or.inl rfl)) zdN)))) (glS (glS (glS (glS gl0))))))
  (zae (zgF (i:=7) (N:=["one", "book", "by"]) (k:=1) (fr:=[1,2]) sc38.nd rfl (Or.inl rfl) ⟨rfl,by decide +kernel,rfl,rfl,rfl,rfl,rfl,rfl,rfl⟩ (zbC (jv 6)) (fun _ _ _ _=>(zar (i:=0) (show List.Nodup [("one" :Str),("book" :Str),("by" :Str)] from by decide +kernel) rfl (Or.inl rfl))) (fun _ _ _ _=>zcw) (fun _ _ _ _=>(zaj ih hr rfl m F.kp b (zaa (jv 0) (zaa (jv 1) (zaa (jv 2) zac))))))
  (zae (zaL (znP (jv 3) zad) (zah (zam (zaK (zaq (zaa (jv 5) zac)) (zdF rfl n_t (zaa (jv 7) zac))))) zau)
  (zae (zaL (zcR hr (zbj (zbO (jv 4) (jv 2)) zad) zad) (zah (zam (zaK (zaq (zaa (zaw (zaw (jv 1) (jv 3)) zad) zac)) (zdF rfl n_t (zaa (jv 7) zac))))) zau)
  (zah (zam (zaj (x32.zg r) hr rfl x32.zm x32.zk x32.zb (zaa (zaw (zaw (jv 1) (jv 3)) zad) (zaa (jv 7) zac)))))))))
theorem o39{f:Addr}{d:FuncData}(F:Fun K "_law_made" "_law_made" s39 f d) (b:Binds K d ["book", "way", "which"] []) (m:mg "_law_made" =some (.ref f)) (x32:C32 P w K mg base) (n_t:mg "tuple" =none):Ok P w K mg base f d ["book", "way", "which"] zaC:=zcD rfl fun r ih=>zaS F sc39 rfl rfl fun _ _ _ _ _ _ hr=>(zae (zgF (i:=3) (N:=["one", "book", "which"]) (k:=1) (fr:=[0,2]) sc39.nd rfl (Or.inl rfl) ⟨rfl,by decide +kernel,rfl,rfl,rfl,rfl,rfl,rfl,rfl⟩ (zbC (zcq (jv 1) (zax zad) zaE)) (fun _ _ _ _=>(zar (i:=0) (show List.Nodup [("one" :Str),("book" :Str),("which" :Str)] from by decide +kernel) rfl (Or.inl rfl))) (fun _ _ _ _=>zcw) (fun _ _ _ _=>(zaj ih hr rfl m F.kp b (zaa (jv 1) (zaa (jv 0) (zaa (jv 2) zac))))))
  (zae (zbM (zbC (jv 0)) (zar (i:=4) sc39.nd rfl (Or.inl rfl)) (zah (zaL (zcR hr (zaw (jv 4) zad) (zaw (jv 1) zad)) (zah (zam (zaj (x32.zg r) hr rfl x32.zm x32.zk x32.zb (zaa (zaw (jv 4) (jv 2)) (zaa (jv 3) zac))))) zau)))
  (zah (zam (zaK (zcq (jv 1) zaE (zax zad)) (zdF rfl n_t (zaa (jv 3) zac)))))))
theorem o40{f:Addr}{d:FuncData}(F:Fun K "_law_road" "_law_road" s40 f d) (x39:C39 P w K mg base) (x20:C20 P w K mg base) (x25:C25 P w K mg base) (n_l:mg "len" =none) (n_n:mg "int" =none):Ok P w K mg base f d ["book", "shape", "cells", "limit"] zcz:=zcD rfl fun r ih=>by
  refine zaS F sc40 rfl rfl fun _ _ _ _ _ _ hr=>?_;delta zck zbq zbu zbv zbs zby zbW zbt zcl zco zcp zcn;delta zbX;delta zck zbq zbu zbv zbs zby zbW zbt zcl zco zcp zcn;exact(zae (zan (i:=4) sc40.nd rfl (Or.inl rfl) (zaH (zaO zac)))
  (zae (zan (i:=5) sc40.nd rfl (Or.inl rfl) (jv 1))
  (zae (zan (i:=6) sc40.nd rfl (Or.inl rfl) zad)
  (zae (zbM (zbC (jv 2)) (zar (i:=7) sc40.nd rfl (Or.inl rfl)) (zae (zgF (i:=8) (N:=["one"]) (k:=1) (fr:=[]) sc40.nd rfl (Or.inl rfl) ⟨rfl,by decide +kernel,rfl,rfl,rfl,rfl,rfl,rfl,rfl⟩ (zbC (zaj (x20.zg r) hr rfl x20.zm x20.zk x20.zb (zaa (jv 0) (zaa (jv 5) zac)))) (fun _ _ _ _=>(zar (i:=0) (show List.Nodup [("one" :Str)] from by decide +kernel) rfl (Or.inl rfl))) (fun _ _ _ _=>zcw) (fun _ _ _ _=>(zaw (jv 0) zad)))
  (zah (zaL (JW.jt (zkb (zgR (zbH rfl n_l (zaa (jv 8) zac)) zad) (zgK (znP (jv 6) (jv 3))))) (zae (zan (i:=9) sc40.nd rfl (Or.inl rfl) (zaH (zaO (zaa (zaw (jv 8) (zbj (jv 7) (zbH rfl n_l (zaa (jv 8) zac)))) (zaa (zaw (jv 8) (zbj (zbO (jv 7) zad) (zbH rfl n_l (zaa (jv 8) zac)))) zac)))))
  (zae (zan (i:=9) sc40.nd rfl (Or.inl rfl) (zcq (jv 9) zaE (zax (zaK zad (znd rfl n_n (zaa (zky (zlG hr (zbj (zbO (jv 7) zad) zad) zad) (znK (zwu (zaK (jv 6) zad) (jv 3)))) zac))))))
  (zae (zbT (zcd (jv 4) (zaa (zaj (x25.zg r) hr rfl x25.zm x25.zk x25.zb (zaa (jv 0) (zaa (jv 5) (zaa (jv 9) zac)))) zac)))
  (zae (zan (i:=5) sc40.nd rfl (Or.inl rfl) (zaj (x39.zg r) hr rfl x39.zm x39.zk x39.zb (zaa (jv 0) (zaa (zaw (jv 4) (zem zad)) (zaa zad zac)))))
  (zah (zan (i:=6) sc40.nd rfl (Or.inl rfl) (zaK (jv 6) (zbH rfl n_l (zaa (jv 9) zac))))))))) zau))))
  (zah (zam (zaq (zaa (jv 1) (zaa (jv 4) zac)))))))))
theorem o41{f:Addr}{d:FuncData}(F:Fun K "_law_is_road" "_law_is_road" s41 f d) (x39:C39 P w K mg base):Ok P w K mg base f d ["book", "road"] zbp:=zcD rfl fun r ih=>zaS F sc41 rfl rfl fun _ _ _ _ _ _ hr=>(zae (zan (i:=2) sc41.nd rfl (Or.inl rfl) (zaw (jv 1) zad))
  (zae (zbM (zbC (zaw (jv 1) zad)) (zar (i:=3) sc41.nd rfl (Or.inl rfl)) (zae (zaL (zoR hr (zaj (x39.zg r) hr rfl x39.zm x39.zk x39.zb (zaa (jv 0) (zaa (jv 3) (zaa zad zac)))) (jv 2)) (zah (zam zdR)) zau)
  (zah (zan (i:=2) sc41.nd rfl (Or.inl rfl) (zaj (x39.zg r) hr rfl x39.zm x39.zk x39.zb (zaa (jv 0) (zaa (jv 3) (zaa zad zac))))))))
  (zah (zam zdR))))
theorem o42{f:Addr}{d:FuncData}(F:Fun K "_law_spoiled" "_law_spoiled" s42 f d) (n_s:mg "list" =none) (n_l:mg "len" =none) (n_v:mg "reversed" =none):Ok P w K mg base f d ["road", "cell", "w"] zaN:=zcD rfl fun r ih=>zaS F sc42 rfl rfl fun _ _ _ _ _ _ hr=>(zae (zqm (jv 0) (zfC (zaV (zar (i:=3) sc42.nd rfl (Or.inl rfl)) (zaV (zar (i:=4) sc42.nd rfl (Or.inl rfl)) zdN)) (glS (glS gl0))))
  (zae (zan (i:=5) sc42.nd rfl (Or.inl rfl) (zbj (zbO (jv 1) zad) (zaK (zbH rfl n_l (zaa (jv 4) zac)) zad)))
  (zae (zaL (zcR hr (zbj (jv 1) zad) zad) (zah (zam (zaq (zaa (jv 3) (zaa (zaK (zcq (jv 4) zaE (zax (jv 5))) (zcq (jv 4) (zax (zaK (jv 5) zad)) zaE)) zac))))) zau)
  (zae (zaL (zcR hr (zbj (jv 1) zad) zad) (zah (zam (zaq (zaa (jv 3) (zaa (zaK (zaK (zcq (jv 4) zaE (zax (jv 5))) (zcq (jv 4) (zax (jv 5)) (zax (zaK (jv 5) zad)))) (zcq (jv 4) (zax (jv 5)) zaE)) zac))))) zau)
  (zae (zaL (zcR hr (zbj (jv 1) zad) zad) (zah (zam (zaq (zaa (jv 3) (zaa (zaH (zfy (zfy (znY (jv 4) zaE (zax (jv 5))) (zfJ rfl n_s rfl n_v (zcq (jv 4) (zax (jv 5)) (zax (zaK (jv 5) zad))))) (znY (jv 4) (zax (zaK (jv 5) zad)) zaE))) zac))))) zau)
  (zae (zaL (zcR hr (zbj (jv 1) zad) zad) (zah (zam (zaq (zaa (zaq (zaa (zaw (jv 2) zad) (zaa (jv 3) zac))) (zaa (zaH (zje rfl n_s (jv 4))) zac))))) zau)
  (zah (zam (zaq (zaa (jv 3) (zaa (zaH (zje rfl n_s (jv 4))) zac)))))))))))
theorem o43{f:Addr}{d:FuncData}(F:Fun K "law" "law" s43 f d) (x30:C30 P w K mg base) (x36:C36 P w K mg base) (x38:C38 P w K mg base) (x40:C40 P w K mg base) (x42:C42 P w K mg base) (x27:C27 P w K mg base) (x29:C29 P w K mg base) (x37:C37 P w K mg base) (x39:C39 P w K mg base) (x41:C41 P w K mg base) (x28:C28 P w K mg base) (n_s:mg "list" =none) (n_l:mg "len" =none) (n_i:mg "isinstance" =none) (n_b:mg "bool" =none):Ok P w K mg base f d ["script"] zcQ:=zcD rfl fun r ih=>by
  refine zaS F sc43 rfl rfl fun _ _ _ _ _ _ hr=>?_;delta zcE zcB zcF zdf zdi zdh zdg zdb zdO zdY zeb zdS;exact(zae (zan (i:=1) sc43.nd rfl (Or.inl rfl) (zaj (x30.zg r) hr rfl x30.zm x30.zk x30.zb (zaa (zaj (x29.zg r) hr rfl x29.zm x29.zk x29.zb (zaa (jv 0) (zaa zad zac))) (zaa (zaj (x29.zg r) hr rfl x29.zm x29.zk x29.zb (zaa (jv 0) (zaa zad zac))) (zaa zdR zac)))))
  (zae (zan (i:=2) sc43.nd rfl (Or.inl rfl) (zaj (x30.zg r) hr rfl x30.zm x30.zk x30.zb (zaa (zaj (x29.zg r) hr rfl x29.zm x29.zk x29.zb (zaa (jv 0) (zaa zad zac))) (zaa (zaj (x29.zg r) hr rfl x29.zm x29.zk x29.zb (zaa (jv 0) (zaa zad zac))) (zaa zdR zac)))))
  (zae (zan (i:=3) sc43.nd rfl (Or.inl rfl) (zaj (x36.zg r) hr rfl x36.zm x36.zk x36.zb (zaa (jv 0) (zaa zad (zaa (jv 1) (zaa (jv 2) zac))))))
  (zae (zan (i:=4) sc43.nd rfl (Or.inl rfl) (zaj (x38.zg r) hr rfl x38.zm x38.zk x38.zb (zaa (zaj (x37.zg r) hr rfl x37.zm x37.zk x37.zb (zaa (zcq (jv 0) (zax zad) zaE) (zaa (jv 3) (zaa (jv 1) (zaa zad zac))))) (zaa (jv 3) (zaa zad zac)))))
  (zae (zan (i:=5) sc43.nd rfl (Or.inl rfl) (zaj (x40.zg r) hr rfl x40.zm x40.zk x40.zb (zaa (jv 3) (zaa (jv 4) (zaa (zcq (jv 0) (zax zad) (zax zad)) (zaa zad zac))))))
  (zae (zan (i:=6) sc43.nd rfl (Or.inl rfl) (zaj (x42.zg r) hr rfl x42.zm x42.zk x42.zb (zaa (jv 5) (zaa (zaj (x29.zg r) hr rfl x29.zm x29.zk x29.zb (zaa (jv 0) (zaa zad zac))) (zaa (jv 1) zac)))))
  (zae (zan (i:=7) sc43.nd rfl (Or.inl rfl) (zaq (zaa (zaw (jv 6) zad) (zaa (zaH (zje rfl n_s (zaw (jv 6) zad))) zac))))
  (zae (zan (i:=8) sc43.nd rfl (Or.inl rfl) (zaj (x27.zg r) hr rfl x27.zm x27.zk x27.zb (zaa (jv 3) (zaa (jv 7) zac))))
  (zae (zaL (JW.jt (znJ (zgz (zcv (zfr rfl n_i rfl n_b PyProof.Rows.boot_bool (jv 8) (by decide) (by decide) (zrX _ (by simp))))) (znJ (zoR hr (jv 8) (zaj (x41.zg r) hr rfl x41.zm x41.zk x41.zb (zaa (jv 3) (zaa (jv 6) zac)))) (zkv (zoR hr (jv 7) (jv 6)))))) (zah (zam zdR)) zau)
  (zae (zan (i:=9) sc43.nd rfl (Or.inl rfl) (jv 4))
  (zae (zaL (zgR (zbH rfl n_l (zaa (zaw (jv 5) zad) zac)) zad) (zah (zan (i:=9) sc43.nd rfl (Or.inl rfl) (zaj (x39.zg r) hr rfl x39.zm x39.zk x39.zb (zaa (jv 3) (zaa (zaw (zaw (jv 5) zad) (zem zad)) (zaa zad zac)))))) zau)
  (zah (zam (zky (zww (zaj (x27.zg r) hr rfl x27.zm x27.zk x27.zb (zaa (jv 3) (zaa (jv 5) zac))) zdR) (zky (zlG hr (zaj (x28.zg r) hr rfl x28.zm x28.zk x28.zb (zaa (jv 3) (zaa (jv 5) zac))) (jv 9)) (znK (zlG hr (zaj (x28.zg r) hr rfl x28.zm x28.zk x28.zb (zaa (jv 3) (zaa (zaq (zaa (jv 4) (zaa (zaH (zaO zac)) zac))) zac))) (jv 4))))))))))))))))))
end
theorem all_mk{l:PySem.W.OpenLaw}{w:World}{K:PySem.W.Frag}{h:Heap}{mg:Str→Option Value}{fa:Addr}(X:K.In h) (G:h.Ns mainGlobals mg) (hfa:mg "law" =some (.ref fa))
  (D0:Dfn K "parts_of" s0)
  (D1:Dfn K "parts_of_all" s1)
  (D2:Dfn K "is_small" s2)
  (D4:Dfn K "places" s4)
  (D3:Dfn K "gather_places" s3)
  (D6:Dfn K "part" s6)
  (D5:Dfn K "numbered_part" s5)
  (D7:Dfn K "blank_places" s7)
  (D8:Dfn K "filled" s8)
  (D11:Dfn K "matched" s11)
  (D10:Dfn K "gather_matched" s10)
  (D9:Dfn K "have_one_top" s9)
  (D12:Dfn K "turning_of" s12)
  (D15:Dfn K "source" s15)
  (D16:Dfn K "goal" s16)
  (D13:Dfn K "only_small" s13)
  (D14:Dfn K "with_sides" s14)
  (D17:Dfn K "part_places" s17)
  (D20:Dfn K "open_uses" s20)
  (D19:Dfn K "gather_open" s19)
  (D18:Dfn K "open_turning" s18)
  (D21:Dfn K "places_of" s21)
  (D25:Dfn K "way_of" s25)
  (D24:Dfn K "way_with" s24)
  (D23:Dfn K "way_within" s23)
  (D22:Dfn K "turned_top" s22)
  (D27:Dfn K "is_road" s27)
  (D26:Dfn K "leads_on" s26)
  (D28:Dfn K "end" s28)
  (D29:Dfn K "_law_cell" s29)
  (D30:Dfn K "_law_words" s30)
  (D31:Dfn K "_law_count" s31)
  (D32:Dfn K "_law_filled" s32)
  (D33:Dfn K "_law_item" s33)
  (D34:Dfn K "_law_right" s34)
  (D35:Dfn K "_law_lefts" s35)
  (D36:Dfn K "_law_book" s36)
  (D37:Dfn K "_law_plan" s37)
  (D38:Dfn K "_law_way" s38)
  (D39:Dfn K "_law_made" s39)
  (D40:Dfn K "_law_road" s40)
  (D41:Dfn K "_law_is_road" s41)
  (D42:Dfn K "_law_spoiled" s42)
  (D43:Dfn K "law" s43)
  (z_b:PySem.W.nsIn K mainGlobals "bool" =some none)
  (z_d:PySem.W.nsIn K mainGlobals "dict" =some none)
  (z_e:PySem.W.nsIn K mainGlobals "enumerate" =some none)
  (z_n:PySem.W.nsIn K mainGlobals "int" =some none)
  (z_i:PySem.W.nsIn K mainGlobals "isinstance" =some none)
  (z_l:PySem.W.nsIn K mainGlobals "len" =some none)
  (z_s:PySem.W.nsIn K mainGlobals "list" =some none)
  (z_m:PySem.W.nsIn K mainGlobals "min" =some none)
  (z_r:PySem.W.nsIn K mainGlobals "range" =some none)
  (z_v:PySem.W.nsIn K mainGlobals "reversed" =some none)
  (z_u:PySem.W.nsIn K mainGlobals "sum" =some none)
  (z_t:PySem.W.nsIn K mainGlobals "tuple" =some none)
  (z_z:PySem.W.nsIn K mainGlobals "zip" =some none)
  {t_MOST_HEAVY:Tok}(z_MOST_HEAVY:PySem.W.nsIn K mainGlobals "MOST_HEAVY" =some (some (.int 400 t_MOST_HEAVY)))
  {t_MOST_DEEP:Tok}(z_MOST_DEEP:PySem.W.nsIn K mainGlobals "MOST_DEEP" =some (some (.int 40 t_MOST_DEEP)))
  {t_LEFT:Tok}(z_LEFT:PySem.W.nsIn K mainGlobals "LEFT" =some (some (.int 1 t_LEFT)))
  {t_RIGHT:Tok}(z_RIGHT:PySem.W.nsIn K mainGlobals "RIGHT" =some (some (.int 2 t_RIGHT)))
  :∃fd:FuncData,(∀(s:Shared) (v:Value),BindsTo s fd ⟨[v],[]⟩ [("script",v)])∧ ∀base:Heap,K.In base→base.Ns mainGlobals mg→FnOk l.prog w K mg base CX0 200 fa fd ["script"] (zdj K (zcQ 200)):=by
 obtain⟨f43,d43,a43,F43⟩:=D43;have e:=hfa.symm.trans (PySem.W.mg_of X G a43);cases e;have n_b:=PySem.W.mg_none_of X G z_b;have n_d:=PySem.W.mg_none_of X G z_d;have n_e:=PySem.W.mg_none_of X G z_e;have n_n:=PySem.W.mg_none_of X G z_n;have n_i:=PySem.W.mg_none_of X G z_i;have n_l:=PySem.W.mg_none_of X G z_l;have n_s:=PySem.W.mg_none_of X G z_s;have n_m:=PySem.W.mg_none_of X G z_m;have n_r:=PySem.W.mg_none_of X G z_r;have n_v:=PySem.W.mg_none_of X G z_v;have n_u:=PySem.W.mg_none_of X G z_u;have n_t:=PySem.W.mg_none_of X G z_t;have n_z:=PySem.W.mg_none_of X G z_z;have g_MOST_HEAVY:=PySem.W.mg_of X G z_MOST_HEAVY;have g_MOST_DEEP:=PySem.W.mg_of X G z_MOST_DEEP;have g_LEFT:=PySem.W.mg_of X G z_LEFT;have g_RIGHT:=PySem.W.mg_of X G z_RIGHT;refine⟨d43,fun s v=>?_,fun base _ _=>?_⟩
 ·obtain⟨oc,od,kV,doc,pm,an,cdv,ct,osl,rfl,lk,hcd⟩:=F43.ex;exact .of_eq rfl
 obtain⟨f,d,a,F⟩:=D0;have x0:=mkC (base:=base) X G F a (o0 (P:=l.prog) (w:=w) F n_i n_n) (F.binds fun _ _ _ _ _ _=>n1 fun _=>rfl);obtain⟨f,d,a,F⟩:=D1;have x1:=mkC (base:=base) X G F a (o1 (P:=l.prog) (w:=w) F x0) (F.binds fun _ _ _ _ _ _=>n1 fun _=>rfl);obtain⟨f,d,a,F⟩:=D2;have x2:=mkC (base:=base) X G F a (o2 (P:=l.prog) (w:=w) F x1 n_l g_MOST_HEAVY g_MOST_DEEP) (F.binds fun _ _ _ _ _ _=>n1 fun _=>rfl);obtain⟨f,d,a,F⟩:=D3;have x3:=mkC (base:=base) X G F a (o3 (P:=l.prog) (w:=w) F x0 (F.binds fun _ _ _ _ _ _=>n3 fun _ _ _=>rfl) (PySem.W.mg_of X G a) n_e) (F.binds fun _ _ _ _ _ _=>n3 fun _ _ _=>rfl);obtain⟨f,d,a,F⟩:=D4;have x4:=mkC (base:=base) X G F a (o4 (P:=l.prog) (w:=w) F x3) (F.binds fun _ _ _ _ _ _=>n1 fun _=>rfl);obtain⟨f,d,a,F⟩:=D5;have x5:=mkC (base:=base) X G F a (o5 (P:=l.prog) (w:=w) F x0 n_l) (F.binds fun _ _ _ _ _ _=>n2 fun _ _=>rfl);obtain⟨f,d,a,F⟩:=D6;have x6:=mkC (base:=base) X G F a (o6 (P:=l.prog) (w:=w) F x5) (F.binds fun _ _ _ _ _ _=>n2 fun _ _=>rfl);obtain⟨f,d,a,F⟩:=D7;have x7:=mkC (base:=base) X G F a (o7 (P:=l.prog) (w:=w) F x4 x6 n_i n_n) (F.binds fun _ _ _ _ _ _=>n1 fun _=>rfl);obtain⟨f,d,a,F⟩:=D8;have x8:=mkC (base:=base) X G F a (o8 (P:=l.prog) (w:=w) F (F.binds fun _ _ _ _ _ _=>n2 fun _ _=>rfl) (PySem.W.mg_of X G a) n_i n_n n_t) (F.binds fun _ _ _ _ _ _=>n2 fun _ _=>rfl);obtain⟨f,d,a,F⟩:=D9;have x9:=mkC (base:=base) X G F a (o9 (P:=l.prog) (w:=w) F n_l) (F.binds fun _ _ _ _ _ _=>n2 fun _ _=>rfl);obtain⟨f,d,a,F⟩:=D10;have x10:=mkC (base:=base) X G F a (o10 (P:=l.prog) (w:=w) F x9 (F.binds fun _ _ _ _ _ _=>n3 fun _ _ _=>rfl) (PySem.W.mg_of X G a) n_i n_n n_z) (F.binds fun _ _ _ _ _ _=>n3 fun _ _ _=>rfl);obtain⟨f,d,a,F⟩:=D11;have x11:=mkC (base:=base) X G F a (o11 (P:=l.prog) (w:=w) F x10) (F.binds fun _ _ _ _ _ _=>n2 fun _ _=>rfl);obtain⟨f,d,a,F⟩:=D12;have x12:=mkC (base:=base) X G F a (o12 (P:=l.prog) (w:=w) F) (F.binds fun _ _ _ _ _ _=>n2 fun _ _=>rfl);obtain⟨f,d,a,F⟩:=D13;have x13:=mkC (base:=base) X G F a (o13 (P:=l.prog) (w:=w) F x2) (F.binds fun _ _ _ _ _ _=>n1 fun _=>rfl);obtain⟨f,d,a,F⟩:=D14;have x14:=mkC (base:=base) X G F a (o14 (P:=l.prog) (w:=w) F x12 x8 (F.binds fun _ _ _ _ _ _=>n3 fun _ _ _=>rfl) (PySem.W.mg_of X G a) n_t) (F.binds fun _ _ _ _ _ _=>n3 fun _ _ _=>rfl);obtain⟨f,d,a,F⟩:=D15;have x15:=mkC (base:=base) X G F a (o15 (P:=l.prog) (w:=w) F x13 x14 g_LEFT) (F.binds fun _ _ _ _ _ _=>n2 fun _ _=>rfl);obtain⟨f,d,a,F⟩:=D16;have x16:=mkC (base:=base) X G F a (o16 (P:=l.prog) (w:=w) F x13 x14 g_RIGHT) (F.binds fun _ _ _ _ _ _=>n2 fun _ _=>rfl);obtain⟨f,d,a,F⟩:=D17;have x17:=mkC (base:=base) X G F a (o17 (P:=l.prog) (w:=w) F x12 x7 n_r n_l g_LEFT) (F.binds fun _ _ _ _ _ _=>n2 fun _ _=>rfl);obtain⟨f,d,a,F⟩:=D18;have x18:=mkC (base:=base) X G F a (o18 (P:=l.prog) (w:=w) F x11 g_LEFT) (F.binds fun _ _ _ _ _ _=>n2 fun _ _=>rfl);obtain⟨f,d,a,F⟩:=D19;have x19:=mkC (base:=base) X G F a (o19 (P:=l.prog) (w:=w) F x18 (F.binds fun _ _ _ _ _ _=>n4 fun _ _ _ _=>rfl) (PySem.W.mg_of X G a) n_e) (F.binds fun _ _ _ _ _ _=>n4 fun _ _ _ _=>rfl);obtain⟨f,d,a,F⟩:=D20;have x20:=mkC (base:=base) X G F a (o20 (P:=l.prog) (w:=w) F x19) (F.binds fun _ _ _ _ _ _=>n2 fun _ _=>rfl);obtain⟨f,d,a,F⟩:=D21;have x21:=mkC (base:=base) X G F a (o21 (P:=l.prog) (w:=w) F) (F.binds fun _ _ _ _ _ _=>n1 fun _=>rfl);obtain⟨f,d,a,F⟩:=D22;have x22:=mkC (base:=base) X G F a (o22 (P:=l.prog) (w:=w) F x18 x11 n_t g_LEFT) (F.binds fun _ _ _ _ _ _=>n2 fun _ _=>rfl);obtain⟨f,d,a,F⟩:=D23;have x23:=mkC (base:=base) X G F a (o23 (P:=l.prog) (w:=w) F x22 x17 (F.binds fun _ _ _ _ _ _=>n4 fun _ _ _ _=>rfl) (PySem.W.mg_of X G a) n_z n_t) (F.binds fun _ _ _ _ _ _=>n4 fun _ _ _ _=>rfl);obtain⟨f,d,a,F⟩:=D24;have x24:=mkC (base:=base) X G F a (o24 (P:=l.prog) (w:=w) F x23 n_d) (F.binds fun _ _ _ _ _ _=>n3 fun _ _ _=>rfl);obtain⟨f,d,a,F⟩:=D25;have x25:=mkC (base:=base) X G F a (o25 (P:=l.prog) (w:=w) F x21 x24 x20) (F.binds fun _ _ _ _ _ _=>n3 fun _ _ _=>rfl);obtain⟨f,d,a,F⟩:=D26;have x26:=mkC (base:=base) X G F a (o26 (P:=l.prog) (w:=w) F x13 x16 x15) (F.binds fun _ _ _ _ _ _=>n2 fun _ _=>rfl);obtain⟨f,d,a,F⟩:=D27;have x27:=mkC (base:=base) X G F a (o27 (P:=l.prog) (w:=w) F x26) (F.binds fun _ _ _ _ _ _=>n2 fun _ _=>rfl);obtain⟨f,d,a,F⟩:=D28;have x28:=mkC (base:=base) X G F a (o28 (P:=l.prog) (w:=w) F x16) (F.binds fun _ _ _ _ _ _=>n2 fun _ _=>rfl);obtain⟨f,d,a,F⟩:=D29;have x29:=mkC (base:=base) X G F a (o29 (P:=l.prog) (w:=w) F n_l) (F.binds fun _ _ _ _ _ _=>n2 fun _ _=>rfl);obtain⟨f,d,a,F⟩:=D30;have x30:=mkC (base:=base) X G F a (o30 (P:=l.prog) (w:=w) F n_r n_l n_n) (F.binds fun _ _ _ _ _ _=>n3 fun _ _ _=>rfl);obtain⟨f,d,a,F⟩:=D31;have x31:=mkC (base:=base) X G F a (o31 (P:=l.prog) (w:=w) F (F.binds fun _ _ _ _ _ _=>n1 fun _=>rfl) (PySem.W.mg_of X G a) n_i n_n n_u) (F.binds fun _ _ _ _ _ _=>n1 fun _=>rfl);obtain⟨f,d,a,F⟩:=D32;have x32:=mkC (base:=base) X G F a (o32 (P:=l.prog) (w:=w) F (F.binds fun _ _ _ _ _ _=>n2 fun _ _=>rfl) (PySem.W.mg_of X G a) n_i n_n n_t) (F.binds fun _ _ _ _ _ _=>n2 fun _ _=>rfl);obtain⟨f,d,a,F⟩:=D33;have x33:=mkC (base:=base) X G F a (o33 (P:=l.prog) (w:=w) F) (F.binds fun _ _ _ _ _ _=>n3 fun _ _ _=>rfl);obtain⟨f,d,a,F⟩:=D34;have x34:=mkC (base:=base) X G F a (o34 (P:=l.prog) (w:=w) F x33) (F.binds fun _ _ _ _ _ _=>n3 fun _ _ _=>rfl);obtain⟨f,d,a,F⟩:=D35;have x35:=mkC (base:=base) X G F a (o35 (P:=l.prog) (w:=w) F) (F.binds fun _ _ _ _ _ _=>n4 fun _ _ _ _=>rfl);obtain⟨f,d,a,F⟩:=D36;have x36:=mkC (base:=base) X G F a (o36 (P:=l.prog) (w:=w) F x35 x34 x29 x31 n_r n_e n_l) (F.binds fun _ _ _ _ _ _=>n4 fun _ _ _ _=>rfl);obtain⟨f,d,a,F⟩:=D37;have x37:=mkC (base:=base) X G F a (o37 (P:=l.prog) (w:=w) F x31 n_l n_m) (F.binds fun _ _ _ _ _ _=>n4 fun _ _ _ _=>rfl);obtain⟨f,d,a,F⟩:=D38;have x38:=mkC (base:=base) X G F a (o38 (P:=l.prog) (w:=w) F x32 (F.binds fun _ _ _ _ _ _=>n3 fun _ _ _=>rfl) (PySem.W.mg_of X G a) n_t) (F.binds fun _ _ _ _ _ _=>n3 fun _ _ _=>rfl);obtain⟨f,d,a,F⟩:=D39;have x39:=mkC (base:=base) X G F a (o39 (P:=l.prog) (w:=w) F (F.binds fun _ _ _ _ _ _=>n3 fun _ _ _=>rfl) (PySem.W.mg_of X G a) x32 n_t) (F.binds fun _ _ _ _ _ _=>n3 fun _ _ _=>rfl);obtain⟨f,d,a,F⟩:=D40;have x40:=mkC (base:=base) X G F a (o40 (P:=l.prog) (w:=w) F x39 x20 x25 n_l n_n) (F.binds fun _ _ _ _ _ _=>n4 fun _ _ _ _=>rfl);obtain⟨f,d,a,F⟩:=D41;have x41:=mkC (base:=base) X G F a (o41 (P:=l.prog) (w:=w) F x39) (F.binds fun _ _ _ _ _ _=>n2 fun _ _=>rfl);obtain⟨f,d,a,F⟩:=D42;have x42:=mkC (base:=base) X G F a (o42 (P:=l.prog) (w:=w) F n_s n_l n_v) (F.binds fun _ _ _ _ _ _=>n3 fun _ _ _=>rfl);exact o43 F43 x30 x36 x38 x40 x42 x27 x29 x37 x39 x41 x28 n_s n_l n_i n_b 200
theorem walk{l:PySem.W.OpenLaw}{q:Program}{loose:List Str}{XP:(Str→Option Value)→Heap→Prop}{YP:World→Heap→Prop}{d:DefRec}{K:Params→PySem.W.Frag}(hn:l.most=some 63) (hdf:d.params.defaults=[])
  (hY:∀(w:World) (h:Heap),YP w h→(K w.params).In h)
  (F:∀(w:World) (mg:Str→Option Value) (fa:Addr) (h:Heap),(K w.params).In h→h.Ns mainGlobals mg→mg d.name=some (.ref fa)→
   ∃fd:FuncData,(∀(s:Shared) (u:Value),BindsTo s fd ⟨[u],[]⟩ [("script",u)])∧ ∀base:Heap,(K w.params).In base→base.Ns mainGlobals mg→FnOk l.prog w (K w.params) mg base CX0 200 fa fd ["script"] (zdj (K w.params) (zcQ 200))) :
  PySem.W.WalkO q loose XP YP l.row.toRowW d [] (fun f vs=>PySem.call f vs):=
 L2.zrg (n:=63) (k:=200) (x:= "script") (CX:=fun _=>CX0) (sp:=fun w=>zdj (K w.params) (zcQ 200)) hn (by decide) hdf ⟨rfl,by decide,by decide⟩ hY F (fun w H a ns hl hO hS=>zpI hO hS (zsI ns hl)) fun _ _ _ _ _ z=>z
end K27
noncomputable def PySem.W.Fast.tw3404635740760947662:Nat:=0
noncomputable def PySem.W.Fast.tw3001824448826419738:Nat:=0
noncomputable def PySem.W.Fast.tw6589541984299943039:Nat:=0
noncomputable def PySem.W.Fast.tw11487057615211700075:Nat:=0
noncomputable def PySem.W.Fast.tw9406851534650038746:Nat:=0
noncomputable def PySem.W.Fast.tw11557640591810437503:Nat:=0
noncomputable def PySem.W.Fast.tw15286679435761115276:Nat:=0
noncomputable def PySem.W.Fast.tw10836570162331598996:Nat:=0
noncomputable def PySem.W.Fast.tw15003989171282116567:Nat:=0
noncomputable def PySem.W.Fast.tw13146720175945683173:Nat:=0
noncomputable def PySem.W.Fast.tw15191859855924180346:Nat:=0
noncomputable def PySem.W.Fast.tw6595107478837832864:Nat:=0
noncomputable def PySem.W.Fast.tw18229937419874903261:Nat:=0
noncomputable def PySem.W.Fast.tw9256789082004850816:Nat:=0
noncomputable def PySem.W.Fast.tw17361862541984182191:Nat:=0
noncomputable def PySem.W.Fast.tw14048553398408170216:Nat:=0
noncomputable def PySem.W.Fast.tw15152585700400842912:Nat:=0
noncomputable def PySem.W.Fast.tw9193417866193468058:Nat:=0
noncomputable def PySem.W.Fast.tw11198313936249113626:Nat:=0
open PySem PySem.W PyProof.Rows
set_option maxRecDepth 100000 in
set_option maxHeartbeats 0 in
theorem PySem.Challenge.cw_turnweave_k27_what_is_a_road_holds : PySem.Challenge.rw_turnweave_k27_what_is_a_road.Holds := by
 w_on;o_law;k_head;(case hw=>w_witness2)
 k_fill
 refine K27.walk (l:=PySem.Challenge.rw_turnweave_k27_what_is_a_road) rfl rfl (fun w h Y=>PySem.W.kIn_of Y) ?F
 case F=>
  intro w mg fa h KX G hmg
  refine' K27.all_mk KX G hmg (K27.dfn ?_ ?_ ?_ ?_) (K27.dfn ?_ ?_ ?_ ?_) (K27.dfn ?_ ?_ ?_ ?_) (K27.dfn ?_ ?_ ?_ ?_) (K27.dfn ?_ ?_ ?_ ?_) (K27.dfn ?_ ?_ ?_ ?_) (K27.dfn ?_ ?_ ?_ ?_) (K27.dfn ?_ ?_ ?_ ?_) (K27.dfn ?_ ?_ ?_ ?_) (K27.dfn ?_ ?_ ?_ ?_) (K27.dfn ?_ ?_ ?_ ?_) (K27.dfn ?_ ?_ ?_ ?_) (K27.dfn ?_ ?_ ?_ ?_) (K27.dfn ?_ ?_ ?_ ?_) (K27.dfn ?_ ?_ ?_ ?_) (K27.dfn ?_ ?_ ?_ ?_) (K27.dfn ?_ ?_ ?_ ?_) (K27.dfn ?_ ?_ ?_ ?_) (K27.dfn ?_ ?_ ?_ ?_) (K27.dfn ?_ ?_ ?_ ?_) (K27.dfn ?_ ?_ ?_ ?_) (K27.dfn ?_ ?_ ?_ ?_) (K27.dfn ?_ ?_ ?_ ?_) (K27.dfn ?_ ?_ ?_ ?_) (K27.dfn ?_ ?_ ?_ ?_) (K27.dfn ?_ ?_ ?_ ?_) (K27.dfn ?_ ?_ ?_ ?_) (K27.dfn ?_ ?_ ?_ ?_) (K27.dfn ?_ ?_ ?_ ?_) (K27.dfn ?_ ?_ ?_ ?_) (K27.dfn ?_ ?_ ?_ ?_) (K27.dfn ?_ ?_ ?_ ?_) (K27.dfn ?_ ?_ ?_ ?_) (K27.dfn ?_ ?_ ?_ ?_) (K27.dfn ?_ ?_ ?_ ?_) (K27.dfn ?_ ?_ ?_ ?_) (K27.dfn ?_ ?_ ?_ ?_) (K27.dfn ?_ ?_ ?_ ?_) (K27.dfn ?_ ?_ ?_ ?_) (K27.dfn ?_ ?_ ?_ ?_) (K27.dfn ?_ ?_ ?_ ?_) (K27.dfn ?_ ?_ ?_ ?_) (K27.dfn ?_ ?_ ?_ ?_) (K27.dfn ?_ ?_ ?_ ?_) ?_ ?_ ?_ ?_ ?_ ?_ ?_ ?_ ?_ ?_ ?_ ?_ ?_ ?_ ?_ ?_ ?_<;>try k_is
end
