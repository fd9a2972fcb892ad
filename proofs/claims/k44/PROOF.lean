import PyProof.Rows.All
import Wide.All
import OpenK.AllK
import Wide.FinOn
import Lean
import PyProof.EqAt
import PyProof.EqKinds
import PyProof.TupleCall
import PyProof.NeKinds
import PyProof.ListMulRoad
import PyProof.AttrMissHeap
import KE.KDictOf
import KE.KRevIter
import PyProof.ListRange
import KE.KSortTup
import KE.KMinKey
import PyProof.MinMaxWalk
import PyProof.Rows.CallKwBuiltin
import PySem.Challenge.RW_turnweave_k44_whole_roads_within_rounds
open Lean Parser in
syntax "ñ"(Command.definition<|>Command.abbrev):command
open Lean Parser in
macro_rules|`(command|ñ $d)=>do
 let m←`(Command.declModifiersT|noncomputable)
 return (mkNode ``Command.declaration #[m,d]).raw
macro:max"§":term=>`(())
macro"§"t:term:tactic=>`(tactic|exact $t)
macro:max"¤":term=>`(())
macro"¤"t:term:tactic=>`(tactic|refine $t)
macro:max"¶":term=>`(())
macro"¶":tactic=>`(tactic|walk_at "wp")
macro:max"¥":term=>`(by omega)
macro:max"£":term=>`(by decide)
macro:max"¢":term=>`(by simp)
open Lean Parser in
syntax "þ"Command.declId ppIndent(Command.declSig) Command.declVal:command
open Lean Parser in
macro_rules|`(command|þ $i $s $v)=>return (mkNode ``Command.declaration #[(←`(Command.declModifiersT|)).raw,mkNode ``Command.theorem #[mkAtom "theorem ",i,s,v]]).raw
macro:max"ø":term=>`(())
macro"ø"p:Lean.Parser.Tactic.rcasesPatMed":="t:term:tactic=>`(tactic|obtain $p:rcasesPatMed:=$t)
macro:max"ŝ":term=>`(())
macro"ŝ""["x:Lean.Parser.Tactic.simpLemma,*"]":tactic=>`(tactic|simp only [$x,*])
set_option hygiene false in
notation:max"ω"=>[w0,w1,w2,w3,w4,w5]
notation:max"Ƒ"=>PySem.W.Frag
open Lean in
macro"ŧ"xs:num*:command=>return ⟨mkNullNode (←xs.mapM fun x=>do `(noncomputable def $(mkIdent (.mkSimple s!"tw{x.getNat}" |> (`_root_.PySem.W.Fast ++ ·))):ident:Nat:=0))⟩
set_option Elab.async false
set_option compiler.extract_closed false
set_option linter.all false
set_option maxRecDepth 100000
set_option maxHeartbeats 4000000
section
namespace L2
open PySem PySem.Spec PyProof.Rows
ñ abbrev Key:=Sum Int Str
ñ def zpc:Key→Value→Bool
 | .inl k,v=>Value.isInt k v
 | .inr x,v=>Value.isStrOf x v
ñ def zCI (w:World):Key→Int
 | .inl k=>hashInt k
 | .inr x=>hashStr w x
þ zbw:∀{k:Key}{v:Value},zpc k v=true→(∃i t,k=Sum.inl i∧v=Value.int i t)∨(∃x t,k=Sum.inr x∧v=Value.str x t)
 | .inl i,v,h=>by
  ø⟨t,e⟩:=Value.isInt_shape (k:=i) (v:=v) h;§.inl ⟨i,t,rfl,e⟩
 | .inr x,v,h=>by
  ø⟨t,e⟩:=Value.isStrOf_shape (x:=x) (v:=v) h;§.inr ⟨x,t,rfl,e⟩
þ zsj (i:Int) (t:Tok):zpc (.inl i) (.int i t)=true:=by simp [zpc,Value.isInt]
þ zrf (x:Str) (t:Tok):zpc (.inr x) (.str x t)=true:=by simp [zpc,Value.isStrOf]
þ zys (a b:Int):decide ((Sum.inl a:Key)=Sum.inl b)=(a == b):=by
 by_cases e:a=b
 ·subst e;simp
 ·have h:¬(Sum.inl a:Key)=Sum.inl b:=λq=>e (Sum.inl.inj q);rw[decide_eq_false h];§(beq_eq_false_iff_ne.mpr e).symm
þ zxE (a b:Str):decide ((Sum.inr a:Key)=Sum.inr b)=decide (a=b):=by
 by_cases e:a=b
 ·subst e;simp
 ·have h:¬(Sum.inr a:Key)=Sum.inr b:=λq=>e (Sum.inr.inj q);rw[decide_eq_false h,decide_eq_false e]
þ zzY (a:Int) (b:Str):decide ((Sum.inl a:Key)=Sum.inr b)=false:=decide_eq_false (λq=>nomatch q)
þ zyZ (a:Str) (b:Int):decide ((Sum.inr a:Key)=Sum.inl b)=false:=decide_eq_false (λq=>nomatch q)
ñ def zbD (prog:Program) (w:World):PySem.KeyKind prog w Key where
  is:=zpc
  hash:=zCI w
  inj:=λv a b ha hb=>by
    rcases zbw ha with⟨i,t,rfl,rfl⟩ |⟨x,t,rfl,rfl⟩
    · rcases zbw hb with⟨j,u,rfl,e⟩ |⟨y,u,rfl,e⟩
      · injection e with e1 _;rw[e1]
      · §nomatch e
    · rcases zbw hb with⟨j,u,rfl,e⟩ |⟨y,u,rfl,e⟩
      · §nomatch e
      · injection e with e1 _;rw[e1]
  byValue:=λk v h=>by
    rcases zbw h with⟨i,t,rfl,rfl⟩ |⟨x,t,rfl,rfl⟩<;>rfl
  pyHash:=λhv h=>by
    rcases zbw hv with⟨i,t,rfl,rfl⟩ |⟨x,t,rfl,rfl⟩
    · §wpAny_pyHash_int h
    · §wpAny_pyHash_str h
  eqBool:=λhu hv h=>by
    rcases zbw hu with⟨i,t,rfl,rfl⟩ |⟨x,t,rfl,rfl⟩
    · rcases zbw hv with⟨j,u,rfl,rfl⟩ |⟨y,u,rfl,rfl⟩
      · rw[zys]at h;§wpAny_eqBool_int h
      · rw[zzY]at h;§SeqAt.EqAt.int_str i t y u _ _ _ _ h
    · rcases zbw hv with⟨j,u,rfl,rfl⟩ |⟨y,u,rfl,rfl⟩
      · rw[zyZ]at h;§SeqAt.EqAt.str_int x t j u _ _ _ _ h
      · rw[zxE]at h;§wpAny_eqBool_str h
  «strs» :=λk x t v h=>by
    rcases zbw h with⟨i,u,rfl,e⟩ |⟨y,u,rfl,e⟩
    · §nomatch e
    · injection e with e1 _;subst e1;cases v<;>rfl
þ zmi (prog:Program) (w:World) (i:Int) (t:Tok):(zbD prog w).is (.inl i) (.int i t)=true:=zsj i t
þ zlW (prog:Program) (w:World) (x:Str) (t:Tok):(zbD prog w).is (.inr x) (.str x t)=true:=zrf x t
inductive V where
  |non |bl (b:Bool) |int (i:Int) |str (x:Str) |byt (b:Array UInt8) |flt (b:UInt64) |ref (a:Addr) |ty (n:String)
  deriving DecidableEq
ñ def RelV:V→Value→Prop
 | .non,u=>u=Value.none
 | .bl b,u=>u=Value.bool b
 | .int i,u=>∃t,u=Value.int i t
 | .str x,u=>∃t,u=Value.str x t
 | .byt b,u=>∃t,u=Value.bytes b t
 | .flt b,u=>∃t,u=Value.float b t
 | .ref a,u=>u=Value.ref a
 | .ty n,u=>u=Value.type n
ñ abbrev Vals:List V→List Value→Prop:=Paired RelV
þ Vals.length{xs:List V}{us:List Value}(r:Vals xs us):xs.length=us.length:=Paired.length r
þ Vals.get:∀{xs:List V}{us:List Value}{i:Nat}{x:V},Vals xs us→xs[i]? =some x→ ∃u,us[i]? =some u∧RelV x u
 |_,_,_,_, .nil,e=>by simp at e
 |_,_,0,_, .cons r _,e=>by simp at e;subst e;§⟨_,rfl,r⟩
 |_,_,i+1,x, .cons _ t,e=>by
  ø⟨u,h1,h2⟩:=Vals.get (i:=i) (x:=x) t (by simpa using e);§⟨u,by simpa using h1,h2⟩
þ Vals.append:∀{xs ys:List V}{us ws:List Value},Vals xs us→Vals ys ws→Vals (xs++ys) (us++ws)
 |_,_,_,_, .nil,s=>s
 |_,_,_,_, .cons r t,s=> .cons r (Vals.append t s)
þ Vals.take:∀{xs:List V}{us:List Value}(n:Nat),Vals xs us→Vals (xs.take n) (us.take n)
 |_,_,0,_=> .nil
 |_,_,_+1, .nil=> .nil
 |_,_,n+1, .cons r t=> .cons r (Vals.take n t)
þ Vals.drop:∀{xs:List V}{us:List Value}(n:Nat),Vals xs us→Vals (xs.drop n) (us.drop n)
 |_,_,0,r=>r
 |_,_,_+1, .nil=> .nil
 |_,_,n+1, .cons _ t=>Vals.drop n t
ñ def RelO:Option V→Option Value→Prop
 |some v,some u=>RelV v u
 |none,none=>True
 |_,_=>False
ñ def KV {κ:Type}:List (κ×V)→List (κ×Value)→Prop:=Paired λ(p:κ×V) (q:κ×Value)=>p.1=q.1∧RelV p.2 q.2
ñ def kV:Key→V
 | .inl i=> .int i
 | .inr x=> .str x
inductive HO where
    |lst (xs:List V)
    |tup (xs:List V)
    |dK (kvs:List (Key×V)) |dT (kvs:List (List Key×V))
    |set (S:Int→Bool) (n:Nat)
    |ins (C dx:Addr) (fs:List (Str×V))
    |own (x:Addr)
    |xd (fs:List (Str×V))
    |met (f x:Addr)
    |rng (lo hi:Int)
    |frz (o:Obj) (u:HO)
    |tbl (ps:Array Value)
    |ext (φ:Heap→Prop)
ñ abbrev Hp:=Addr→Option HO
ñ def upd (H:Hp) (a:Addr) (o:HO):Hp:=λb=>if b=a then some o else H b
þ zaz{H:Hp}{a:Addr}{o:HO}:upd H a o a=some o:=by unfold upd;rw[if_pos rfl]
þ zay{H:Hp}{a b:Addr}{o:HO}(h:b≠a):upd H a o b=H b:=by unfold upd;rw[if_neg h]
þ ztn{H:Hp}{a b:Addr}{o u:HO}(h:H a=some o) (h':H b=some u) (d:o≠u):a≠b:=by
 intro e;subst e;rw[h]at h';§d (Option.some.inj h')
þ zau{H:Hp}{a b:Addr}{o:HO}(h:H a=some o) (h':H b=none):a≠b:=by
 intro e;subst e;rw[h]at h';cases h'
section
variable (P:Program) (w:World)
ñ def ObjOk (H:Hp) (h:Heap) (a:Addr):HO→Prop
 | .lst xs=>xs.length≤sizeLine∧ ∃(its:List Value) (n:Nat),Vals xs its∧h.get? a=some { cls:= .type "list",data:= .seq its.toArray n }
 | .tup xs=>xs.length≤sizeLine∧ ∃its:List Value,Vals xs its∧IsTup h a its.toArray
 | .dK kvs=>kvs.length≤sizeLine∧(a == sysModules)=false∧ ∃vs,KV kvs vs∧h.DictOf (zbD P w) a vs
 | .dT kvs=>kvs.length≤sizeLine∧(a == sysModules)=false∧ ∃xs:List (List Key×Addr×Value),
   Paired (λ(p:List Key×V) (q:List Key×Addr×Value)=>p.1=q.1∧H q.2.1=some (.tup (p.1.map kV))∧RelV p.2 q.2.2) kvs xs∧
   ∃o es ep,h.get? a=some o∧o.ExactDict∧o.data= .dict es ep∧es.toList=xs.map (entryOfKey (tupleKind (zbD P w)))∧(xs.map (·.1)).Nodup
 | .set S n=>h.SetOf (intKind P w) a S n
 | .ins C dx fs=>H dx=some (.own a)∧fs.length≤1000∧dx≠a∧h.get? a=some (PySem.W.instObj C dx)∧
   ∃mA,h.Ns1 dx mA∧(∀f,RelO (fs.lookup f) (mA f))∧PySem.Within mA (fs.map (·.1))
 | .own _=>∃o,h.get? a=some o
 | .xd fs=>∃mA,h.Ns1 a mA∧ ∀f,RelO (fs.lookup f) (mA f)
 | .rng lo hi=>∃t u v,h.get? a=some { cls:= .type "range",data:= .fields #[.int lo t, .int hi u, .int 1 v] }
 | .frz o u=>h.get? a=some o∧ObjOk H h a u
 | .tbl ps=>h.get? a=some { cls:= .none,data:= .fields ps }
 | .met f x=>h.get? a=some (PySem.W.methodObj (.ref f) (.ref x))
 | .ext φ=>φ h∧(∃o,h.get? a=some o)∧ ∀h1 h2:Heap,φ h1→(∀o,h1.get? a=some o→h2.get? a=some o)→φ h2
ñ def HOk (H:Hp) (h:Heap):Prop:=∀a o,H a=some o→ObjOk P w H h a o
end
section
variable {P:Program}{w:World}{H H':Hp}{h h':Heap}{a:Addr}{o:HO}
þ ObjOk.lt (x:ObjOk P w H h a o):a<h.objs.size:=by
 cases o with
 |lst xs=>ø⟨_,_,_,_,e⟩:=x;§Heap.lt_size e
 |tup xs=>ø⟨_,_,_,p⟩:=x;§p.lt
 |dK kvs=>ø⟨_,_,_,_,o,_,_,e,_⟩:=x;§Heap.lt_size e
 |dT kvs=>ø⟨_,_,_,_,o,_,_,e,_⟩:=x;§Heap.lt_size e
 |set S n=>ø⟨o,_,_,_,e,_⟩:=x;§Heap.lt_size e
 |ins C dx fs=>ø⟨_,_,_,e,_⟩:=x;§Heap.lt_size e
 |own y=>ø⟨_,e⟩:=x;§Heap.lt_size e
 |xd fs=>ø⟨_,⟨_,_,_,e,_⟩,_⟩:=x;§Heap.lt_size e
 |rng lo hi=>ø⟨_,_,_,e⟩:=x;§Heap.lt_size e
 |frz ob u=>ø⟨e,_⟩:=x;§Heap.lt_size e
 |tbl ps=>§Heap.lt_size (show h.get? a=some _ from x)
 |met f y=>§Heap.lt_size (show h.get? a=some _ from x)
 |ext φ=>ø⟨_,⟨_,e⟩,_⟩:=x;§Heap.lt_size e
þ Paired.mapP{α β:Type}{F G:α→β→Prop}:∀{l₁:List α}{l₂:List β},Paired F l₁ l₂→(∀a b,F a b→G a b)→Paired G l₁ l₂
 |_,_, .nil,_=> .nil
 |_,_, .cons r t,f=> .cons (f _ _ r) (Paired.mapP t f)
þ ObjOk.stay (x:ObjOk P w H h a o) (k:∀b u,(b=a∨H b=some (.own a))→h.get? b=some u→h'.get? b=some u)
  (ho:∀b,H b=some (.own a)→H' b=some (.own a)) (ht:∀b xs,H b=some (.tup xs)→H' b=some (.tup xs)):ObjOk P w H' h' a o:=by
 induction o with
 |lst xs=>ø⟨z,its,n,r,e⟩:=x;§⟨z,its,n,r,k _ _ (.inl rfl) e⟩
 |tup xs=>ø⟨z,its,r,ob,e,c⟩:=x;§⟨z,its,r,ob,k _ _ (.inl rfl) e,c⟩
 |dK kvs=>ø⟨z,y,vs,r,ob,es,ep,e,c⟩:=x;§⟨z,y,vs,r,ob,es,ep,k _ _ (.inl rfl) e,c⟩
 |dT kvs=>
  ø⟨z,y,xs,r,ob,es,ep,e,c⟩:=x;§⟨z,y,xs,Paired.mapP r λp q z=>⟨z.1,ht _ _ z.2.1,z.2.2⟩,ob,es,ep,k _ _ (.inl rfl) e,c⟩
 |set S n=>ø⟨ob,es,ep,t,e,c⟩:=x;§⟨ob,es,ep,t,k _ _ (.inl rfl) e,c⟩
 |ins C dx fs=>
  ø⟨d,z,ne,e,mA,⟨od,es,ep,e2,c⟩,r⟩:=x;§⟨ho _ d,z,ne,k _ _ (.inl rfl) e,mA,⟨od,es,ep,k _ _ (.inr d) e2,c⟩,r⟩
 |own y=>ø⟨ob,e⟩:=x;§⟨ob,k _ _ (.inl rfl) e⟩
 |xd fs=>ø⟨mA,⟨od,es,ep,e,c⟩,r⟩:=x;§⟨mA,⟨od,es,ep,k _ _ (.inl rfl) e,c⟩,r⟩
 |rng lo hi=>ø⟨t,u,v,e⟩:=x;§⟨t,u,v,k _ _ (.inl rfl) e⟩
 |frz ob u ih=>ø⟨e,q⟩:=x;§⟨k _ _ (.inl rfl) e,ih q⟩
 |tbl ps=>
  have e:h.get? a=some { cls:= .none,data:= .fields ps }:=x;show h'.get? a=some { cls:= .none,data:= .fields ps };§k a _ (.inl rfl) e
 |met f y=>
  have e:h.get? a=some (PySem.W.methodObj (.ref f) (.ref y)):=x;show h'.get? a=some (PySem.W.methodObj (.ref f) (.ref y));§k a _ (.inl rfl) e
 |ext φ=>ø⟨p,⟨o,e⟩,st⟩:=x;§⟨st _ _ p λo q=>k _ _ (.inl rfl) q,⟨o,k _ _ (.inl rfl) e⟩,st⟩
þ HOk.lt (x:HOk P w H h) (e:H a=some o):a<h.objs.size:=(x a o e).lt
þ HOk.fresh (x:HOk P w H h) (e:h.objs.size≤a):H a=none:=by
 cases q:H a with
 |none=>rfl
 |some u=>§absurd (Nat.lt_of_lt_of_le (x.lt q) e) (Nat.lt_irrefl _)
þ HOk.kept (x:HOk P w H h) (k:∀b u,h.get? b=some u→h'.get? b=some u):HOk P w H h':=λa o e=>
 (x a o e).stay (λb u _ q=>k b u q) (λ_ q=>q) λ_ _ q=>q
þ HOk.laid (x:HOk P w H h) (k:∀b u,h.get? b=some u→h'.get? b=some u) (hp:h.objs.size≤a) (new:ObjOk P w (upd H a o) h' a o):HOk P w (upd H a o) h':=λb u e=>by
 have hn:=x.fresh hp;by_cases hb:b=a
 ·subst hb;rw[zaz]at e;cases e;§new
 ·rw[zay hb]at e;§(x b u e).stay (λc v _ q=>k c v q) (λc q=>by rw[zay (zau q hn)];§q) λc xs q=>by rw[zay (zau q hn)];§q
end
ñ def Rd (H:Hp) (a:Addr) (u:HO):Prop:=H a=some u∨ ∃o,H a=some (.frz o u)
þ Rd.ok{P:Program}{w:World}{H:Hp}{h:Heap}{a:Addr}{u:HO}(r:Rd H a u) (x:HOk P w H h):ObjOk P w H h a u:=by
 rcases r with r |⟨o,r⟩
 ·§x a u r
 ·ø⟨_,q⟩:=x a _ r;§q
ñ def Mut:Option HO→Prop
 |some (.lst _)=>True
 |some (.dK _)=>True
 |some (.dT _)=>True
 |some (.set _ _)=>True
 |some (.ins _ _ _)=>True
 |some (.ext _)=>True
 |_=>False
section
variable {P:Program}{w:World}{H:Hp}{h h':Heap}{x e:Addr}{o':HO}
þ HOk.write (ok:HOk P w H h) (mu:Mut (H x)) (he:e=x∨H e=some (.own x)) (k:∀b u,b≠e→h.get? b=some u→h'.get? b=some u) (heo:∃u,h'.get? e=some u)
  (new:ObjOk P w (upd H x o') h' x o'):HOk P w (upd H x o') h':=λb u q=>by
 have nown:∀c y,H c=some (.own y)→c≠x:=λc y r z=>by subst z;rw[r]at mu;§mu
 have ntup:∀c xs,H c=some (.tup xs)→c≠x:=λc xs r z=>by subst z;rw[r]at mu;§mu
 by_cases hb:b=x
 ·subst hb;rw[zaz]at q;cases q;§new
 ·rw[zay hb]at q;by_cases hbe:b=e
  ·have q':H b=some (.own x):=by
    rcases he with z |z
    ·§absurd (hbe.trans z) hb
    ·rw[hbe];§z
   rw[q]at q';cases q';ø⟨v,hv⟩:=heo;§⟨v,by rw[hbe];§hv⟩
  ·¤(ok b u q).stay (λc v hc r=>k c v ?_ r) (λc r=>by rw[zay (nown c b r)];§r) λc xs r=>by rw[zay (ntup c xs r)];§r
   rcases hc with rfl |hc
   ·§hbe
   ·rintro rfl;rcases he with z |z
    ·§nown c b hc z
    ·rw[hc]at z;cases z;§hb rfl
end
structure Un (fs ex:List Addr) (H H':Hp) (h h':Heap):Prop where
  keep:∀b o,h.get? b=some o→H b=none→b∉fs→b∉ex→h'.get? b=some o
  slot:∀b o,h.get? b=some o→H b=none→b∈fs→b∉ex→ ∃sl,h'.get? b=some { o with slots:=sl }
  free:∀b o,h.get? b=some o→H b=none→b∉ex→H' b=none
  there:∀b o,h.get? b=some o→b∉ex→ ∃o',h'.get? b=some o'
  tups:∀b xs,H b=some (.tup xs)→H' b=some (.tup xs)
  frzs:∀b o u,H b=some (.frz o u)→H' b=some (.frz o u)
  tbls:∀b ps,H b=some (.tbl ps)→ ∃more,H' b=some (.tbl (ps++more))
section
variable {fs ex:List Addr}{H H1 H2:Hp}{h h1 h2 h':Heap}{a x e:Addr}{o:HO}
þ Un.any (u:Un fs ex H H1 h h1) {b:Addr}{ob:Obj}(q:h.get? b=some ob) (n:H b=none) (hx:b∉ex):∃sl,h1.get? b=some { ob with slots:=sl }:=by
 by_cases hb:b∈fs
 ·§u.slot b ob q n hb hx
 ·§⟨ob.slots,u.keep b ob q n hb hx⟩
þ Un.trans (a:Un fs ex H H1 h h1) (b:Un fs ex H1 H2 h1 h2):Un fs ex H H2 h h2 where
  keep:=λc ob q n hc hx=>b.keep c ob (a.keep c ob q n hc hx) (a.free c ob q n hx) hc hx
  slot:=λc ob q n hc hx=>by
    ø⟨sl,e1⟩:=a.slot c ob q n hc hx;ø⟨sl',e2⟩:=b.slot c _ e1 (a.free c ob q n hx) hc hx;§⟨sl',e2⟩
  free:=λc ob q n hx=>by
    ø⟨o',e1⟩:=a.there c ob q hx;§b.free c o' e1 (a.free c ob q n hx) hx
  there:=λc ob q hx=>by
    ø⟨o',e1⟩:=a.there c ob q hx;§b.there c o' e1 hx
  tups:=λc xs q=>b.tups c xs (a.tups c xs q)
  frzs:=λc ob xs q=>b.frzs c ob xs (a.frzs c ob xs q)
  tbls:=λc ps q=>by
    ø⟨m1,e1⟩:=a.tbls c ps q;ø⟨m2,e2⟩:=b.tbls c _ e1;§⟨m1++m2,by rw[e2,Array.append_assoc]⟩
þ Un.kept (k:∀b u,h.get? b=some u→h'.get? b=some u):Un fs ex H H h h':=
 ⟨λb ob q _ _ _=>k b ob q,λb ob q _ _ _=>⟨ob.slots,k b ob q⟩,λ_ _ _ n _=>n,λb ob q _=>⟨ob,k b ob q⟩,λ_ _ q=>q,λ_ _ _ q=>q,λ_ ps q=>⟨#[],by rw[q];simp⟩⟩
þ Un.refl:Un fs ex H H h h:=Un.kept λ_ _ q=>q
þ Un.laid (k:∀b u,h.get? b=some u→h'.get? b=some u) (hp:h.objs.size≤a) (hn:H a=none):Un fs ex H (upd H a o) h h' where
  keep:=λb u q _ _ _=>k b u q
  slot:=λb u q _ _ _=>⟨u.slots,k b u q⟩
  free:=λb u q n _=>by rw[zay (Nat.ne_of_lt (Nat.lt_of_lt_of_le (Heap.lt_size q) hp))];§n
  there:=λb u q _=>⟨u,k b u q⟩
  tups:=λb xs q=>by rw[zay (zau q hn)];§q
  frzs:=λb u xs q=>by rw[zay (zau q hn)];§q
  tbls:=λb ps q=>⟨#[],by rw[zay (zau q hn),q];simp⟩
þ Un.write (mu:Mut (H x)) (he:e=x∨H e=some (.own x)) (k:∀b u,b≠e→h.get? b=some u→h'.get? b=some u) (heo:∃u,h'.get? e=some u):Un fs ex H (upd H x o) h h':=by
 have hx:∀b,H b=none→b≠x:=λb n z=>by subst z;rw[n]at mu;§mu
 have hb:∀b,H b=none→b≠e:=λb n z=>by
  subst z;rcases he with r |r
  ·§hx b n r
  ·rw[n]at r;cases r
 have hm:∀b u,H b=some u→ ¬Mut (some u)→b≠x:=λb u q nm z=>by subst z;rw[q]at mu;§nm mu
 ¤⟨λb u q n _ _=>k b u (hb b n) q,λb u q n _ _=>⟨u.slots,k b u (hb b n) q⟩,λb u q n _=>by rw[zay (hx b n)];§n,λb u q _=>?_,
  λb xs q=>by rw[zay (hm b _ q λz=>z)];§q,λb u xs q=>by rw[zay (hm b _ q λz=>z)];§q,λb ps q=>⟨#[],by rw[zay (hm b _ q λz=>z),q];simp⟩⟩
 by_cases hbe:b=e
 ·subst hbe;§heo
 ·§⟨u,k b u hbe q⟩
end
ñ def trk (h:Heap) (H:Hp):List Addr:=(List.range h.objs.size).filter λa=>(H a).isSome
ñ def zsX (h:Heap) (H:Hp):Heap:=PySem.W.hideAll h (trk h H)
þ zqY (h:Heap) (H:Hp):(zsX h H).objs.size=h.objs.size:=PySem.W.hideAll_size _ _
þ zsM{h:Heap}{H:Hp}{b:Addr}{o:Obj}(e:h.get? b=some o) (n:H b=none):(zsX h H).get? b=some o:=
 PySem.W.hideAll_get _ e λhm=>by
  have q:(H b).isSome=true:=(List.mem_filter.mp hm).2;rw[n]at q;simp at q
þ zxa{h:Heap}{H:Hp}{b:Addr}{o:Obj}(e:(zsX h H).get? b=some o):h.get? b=some o∧H b=none:=by
 have e':h.get? b=some o:=PySem.W.of_hideAll (trk h H) e;¤⟨e',?_⟩;cases q:H b with
 |none=>rfl
 |some x=>
  have hm:b∈trk h H:=List.mem_filter.mpr ⟨List.mem_range.mpr (Heap.lt_size e'),by simp [q]⟩
  have z:(zsX h H).get? b=none:=PySem.W.hideAll_none (trk h H) hm;rw[z]at e;cases e
ñ def zvJ (g h:Heap) (L:Addr):List (Addr×Obj):=(List.range h.objs.size).filterMap λa=>if a=L∨(g.get? a).isSome=true then none else(h.get? a).map λo=>(a,o)
ñ def rest (g h:Heap) (L d:Addr):List (Addr×Obj):=(zvJ g h L).filter λp=>decide (p.1≠d)
structure Mod (K:Ƒ) (mg:Str→Option Value) (base:Heap):Prop where
  kin:K.In base
  glob:base.Ns mainGlobals mg
  blt:∃mb,base.Ns builtinsNs mb∧ ∀x:Str,x≠ "__name__" →mb x=bootBuiltins x
  nolimit:base.NoLimit
structure Cx where
  prog:Program
  w:World
  K:Ƒ
  mg:Str→Option Value
  base:Heap
  A:Around
  N:List Str
  s₀:Shared
  H₀:Hp
  env:Env
  outer:List Env
  stack:List Env
  ex:List Addr
  fn:Str→Bool
  calm:Bool
  pn:List (Addr×Obj)
  xe:Value→Shared→Prop
ñ def frs (l:List Env):List Addr:=l.filterMap (·.frame)
ñ abbrev Cx.fs (X:Cx):List Addr:=frs X.outer
ñ def Vis (sc:Scope) (x:Str):Prop:=sc.names.lookup x=some .local∨sc.names.lookup x=some .cell∨sc.names.lookup x=some .free
ñ def Loc (sc:Scope) (x:Str):Prop:=sc.names.lookup x=some .local∨sc.names.lookup x=some .cell
ñ def zCs (env:Env) (h:Heap) (m:Str→Option Value) (x:Str) (u:Value):Prop:=
 (env.kindOf x=some .local∧m x=some u)∨((env.kindOf x=some .cell∨env.kindOf x=some .free)∧ ∃c,env.cells.lookup x=some c∧h.IsCell c (some u))
structure Cx.Ok (X:Cx):Prop where
  mod:Mod X.K X.mg X.base
  kind:X.env.scope.kind= .function
  glob:X.env.globals=mainGlobals
  blt:X.env.builtins=builtinsNs
  above:X.s₀.heap.objs.size≤X.env.locals
  inj:∀x y c,X.env.cells.lookup x=some c→X.env.cells.lookup y=some c→x=y
  has:∀x,(X.env.kindOf x=some .cell∨X.env.kindOf x=some .free)→ ∃c,X.env.cells.lookup x=some c
  cab:∀x c,X.fn x=true→X.env.cells.lookup x=some c→X.s₀.heap.objs.size≤c
  hd:X.calm=true→X.A.handled=none
  frames:X.A.frames=some X.stack
  stk:X.stack=X.outer∨(X.stack=X.env::X.outer∧X.env.frame=some X.env.locals)
  exf:∀b∈X.ex,b≠X.env.locals∧ ∀x c,X.env.cells.lookup x=some c→c≠b
  bs:∀b o,X.base.get? b=some o→X.s₀.heap.get? b=some o∧X.H₀ b=none
  bsz:X.base.objs.size≤X.s₀.heap.objs.size
  noex:∀b o,X.base.get? b=some o→b∉X.ex
  exfs:∀b∈X.ex,b∉X.fs
  funs:X.s₀.heap.FunFrames X.base X.outer
  frf:∀b∈X.fs,X.H₀ b=none
structure Inv (X:Cx) (pins:List (Addr×Obj)) (σ:List (Option V)) (H:Hp) (s:Shared):Prop where
  ok:X.Ok
  os:s.os=X.s₀.os
  bare:AllBare s.gens
  base:Un X.fs X.ex X.H₀ H X.s₀.heap s.heap
  loc:∃m,s.heap.Ns X.env.locals m∧ ∀(i:Nat) (x:Str) (v:V),X.N[i]? =some x→σ[i]? =some (some v)→Vis X.env.scope x→ ∃u,RelV v u∧zCs X.env s.heap m x u
  cell:∀x c,X.env.cells.lookup x=some c→ ∃v,s.heap.IsCell c v
  free:H X.env.locals=none
  freeC:∀x c,X.env.cells.lookup x=some c→H c=none
  pin:∀p∈X.pn++pins,s.heap.get? p.1=some p.2∧H p.1=none∧p.1≠X.env.locals∧p.1∉X.fs∧ ∀v,p.2.data≠ .cell v
  hok:HOk X.prog X.w H s.heap
  len:σ.length=X.N.length
section
variable {X:Cx}{pins:List (Addr×Obj)}{σ:List (Option V)}{H H':Hp}{s:Shared}{h':Heap}
þ Cx.Ok.nofr (ok:X.Ok) {b:Addr}{o:Obj}(e:X.base.get? b=some o):b∉X.fs:=λhb=>by
 have:=(ok.funs.mem hb).1;rw[e]at this;cases this
þ Inv.bs (I:Inv X pins σ H s):∀b o,X.base.get? b=some o→s.heap.get? b=some o∧H b=none:=λb o e=>
 ⟨I.base.keep b o (I.ok.bs b o e).1 (I.ok.bs b o e).2 (I.ok.nofr e) (I.ok.noex b o e),I.base.free b o (I.ok.bs b o e).1 (I.ok.bs b o e).2 (I.ok.noex b o e)⟩
þ Inv.bk (I:Inv X pins σ H s):∀b o,X.base.get? b=some o→s.heap.get? b=some o:=λb o e=>(I.bs b o e).1
þ Inv.mod (I:Inv X pins σ H s):Mod X.K X.mg X.base:=I.ok.mod
þ Inv.kIn (I:Inv X pins σ H s):X.K.In s.heap:=I.ok.mod.kin.keeps I.bk
þ Inv.lt (I:Inv X pins σ H s):X.env.locals<s.heap.objs.size:=let ⟨_,hn,_⟩:=I.loc;hn.lt
þ Inv.sz (I:Inv X pins σ H s):X.s₀.heap.objs.size≤s.heap.objs.size:=Nat.le_trans I.ok.above (Nat.le_of_lt I.lt)
þ Inv.nofs (I:Inv X pins σ H s) {a:Addr}(h:s.heap.objs.size≤a):a∉X.fs:=λhb=>by
 ø⟨_,o,ho,_⟩:=I.ok.funs.mem hb;§absurd (Nat.lt_of_lt_of_le (Heap.lt_size ho) (Nat.le_trans I.sz h)) (Nat.lt_irrefl _)
þ Inv.cne (I:Inv X pins σ H s):∀x c,X.env.cells.lookup x=some c→c≠X.env.locals:=λx c e z=>by
 ø⟨v,o,ho,hd⟩:=I.cell x c e;ø⟨m,⟨o',es,ep,ho',hd',_⟩,_⟩:=I.loc;rw[z,ho']at ho;cases ho;rw[hd']at hd;cases hd
þ Inv.funs (I:Inv X pins σ H s):s.heap.FunFrames X.base X.outer:=by
 have all:∀(l:List Env),(∀b∈frs l,b∈X.fs)→X.s₀.heap.FunFrames X.base l→s.heap.FunFrames X.base l:=by
  intro l
  induction l with
  |nil=>intro _ _;trivial
  |cons env r ih=>
   intro hs hl;ø⟨hk,⟨L,o,hf,hn,ho,hd⟩,hr⟩:=hl;have hL:L∈X.fs:=hs L (by unfold frs;rw[List.filterMap_cons,hf];§List.mem_cons_self);ø⟨sl,e⟩:=I.base.slot L o ho (I.ok.frf L hL) hL λz=>I.ok.exfs L z hL;§⟨hk,⟨L,_,hf,hn,e,hd⟩,ih (λb hb=>hs b (by unfold frs;rw[List.filterMap_cons,hf];§List.mem_cons_of_mem _ hb)) hr⟩
 §all X.outer (λ_ hb=>hb) I.ok.funs
þ Inv.stack (I:Inv X pins σ H s):s.heap.FunFrames X.base X.stack:=by
 rcases I.ok.stk with e |⟨e,hf⟩
 ·rw[e];§I.funs
 ·rw[e];ø⟨m,hn,_⟩:=I.loc;¤.cons (by rw[I.ok.kind];decide) hf hn ?_ I.funs;§Heap.get?_none_of_le (Nat.le_trans I.ok.bsz I.ok.above)
þ Inv.stkSub (I:Inv X pins σ H s):∀b∈frs X.stack,b∈X.env.locals::X.fs:=λb hb=>by
 rcases I.ok.stk with e |⟨e,hf⟩
 ·rw[e]at hb;§List.mem_cons_of_mem _ hb
 ·rw[e]at hb;unfold frs at hb;rw[List.filterMap_cons,hf]at hb;§hb
þ Inv.stkFree (I:Inv X pins σ H s):∀b∈frs X.stack,H b=none:=λb hb=>by
 rcases List.mem_cons.mp (I.stkSub b hb) with e |hb
 ·rw[e];§I.free
 ·ø⟨_,o,ho,_⟩:=I.ok.funs.mem hb;§I.base.free b o ho (I.ok.frf b hb) λz=>I.ok.exfs b z hb
þ Inv.step{g':Array GenState}{t':Nat}{d':Drawn}{ch:List Addr}(I:Inv X pins σ H s)
  (hch:∀b∈ch,(b∈X.ex∨X.s₀.heap.objs.size≤b)∧b≠X.env.locals∧(∀x c,X.env.cells.lookup x=some c→c≠b)∧ ∀p∈X.pn++pins,p.1≠b)
  (keep:∀b o,b≠X.env.locals→b∉X.fs→b∉ch→s.heap.get? b=some o→H b=none→h'.get? b=some o)
  (slot:∀b o,b≠X.env.locals→b∈X.fs→b∉ch→s.heap.get? b=some o→H b=none→ ∃sl,h'.get? b=some { o with slots:=sl }) (free:∀b o,b∉ch→s.heap.get? b=some o→H b=none→H' b=none)
  (there:∀b o,b∉ch→s.heap.get? b=some o→ ∃o',h'.get? b=some o')
  (tups:∀b xs,H b=some (.tup xs)→H' b=some (.tup xs)) (frzs:∀b o u,H b=some (.frz o u)→H' b=some (.frz o u)) (tbls:∀b ps,H b=some (.tbl ps)→ ∃more,H' b=some (.tbl (ps++more)))
  (ns:∀m,s.heap.Ns X.env.locals m→h'.Ns X.env.locals m) (hok:HOk X.prog X.w H' h') (hg:AllBare g') :
  Inv X pins σ H' { s with heap:=h',gens:=g',drawn:=d',toks:=t' }:=by
 have neL:∀b o,X.s₀.heap.get? b=some o→b≠X.env.locals:=λb o e=>Nat.ne_of_lt (Nat.lt_of_lt_of_le (Heap.lt_size e) I.ok.above);have neC:∀b o,X.s₀.heap.get? b=some o→b∉X.ex→b∉ch:=λb o e hx hb=>by
  rcases(hch b hb).1 with z |z
  ·§hx z
  ·§absurd (Nat.lt_of_lt_of_le (Heap.lt_size e) z) (Nat.lt_irrefl _)
 have cellK:∀x c,X.env.cells.lookup x=some c→ ∀v,s.heap.IsCell c v→h'.IsCell c v:=λx c e v ⟨o,ho,hd⟩=>by
  have nch:c∉ch:=λz=>(hch c z).2.2.1 x c e rfl;by_cases hc:c∈X.fs
  ·ø⟨sl,q⟩:=slot c o (I.cne x c e) hc nch ho (I.freeC x c e);§⟨_,q,hd⟩
  ·§⟨o,keep c o (I.cne x c e) hc nch ho (I.freeC x c e),hd⟩
 ¤⟨I.ok,I.os,hg,⟨λb o e n hb hx=>?_,λb o e n hb hx=>?_,λb o e n hx=>?_,λb o e hx=>?_,λb xs e=>tups b xs (I.base.tups b xs e),λb o xs e=>frzs b o xs (I.base.frzs b o xs e),λb ps e=>?_⟩,?_,λx c e=>?_,?_,λx c e=>?_,λp hp=>?_,hok,I.len⟩
 ·§keep b o (neL b o e) hb (neC b o e hx) (I.base.keep b o e n hb hx) (I.base.free b o e n hx)
 ·ø⟨sl,e1⟩:=I.base.slot b o e n hb hx;ø⟨sl',e2⟩:=slot b _ (neL b o e) hb (neC b o e hx) e1 (I.base.free b o e n hx);§⟨sl',e2⟩
 ·ø⟨o',e1⟩:=I.base.there b o e hx;§free b o' (neC b o e hx) e1 (I.base.free b o e n hx)
 ·ø⟨o',e1⟩:=I.base.there b o e hx;§there b o' (neC b o e hx) e1
 ·ø⟨m1,e1⟩:=I.base.tbls b ps e;ø⟨m2,e2⟩:=tbls b _ e1;§⟨m1++m2,by rw[e2,Array.append_assoc]⟩
 ·ø⟨m,hn,hl⟩:=I.loc;¤⟨m,ns m hn,λi x v e1 e2 e3=>?_⟩;ø⟨u,r,l⟩:=hl i x v e1 e2 e3;¤⟨u,r,?_⟩;rcases l with l |⟨k,c,e,z⟩
  ·§.inl l
  ·§.inr ⟨k,c,e,cellK x c e _ z⟩
 ·ø⟨v,z⟩:=I.cell x c e;§⟨v,cellK x c e v z⟩
 ·ø⟨m,⟨o,_,_,ho,_⟩,_⟩:=I.loc;§free _ o (λz=>(hch _ z).2.1 rfl) ho I.free
 ·ø⟨v,o,ho,hd⟩:=I.cell x c e;§free c o (λz=>(hch c z).2.2.1 x c e rfl) ho (I.freeC x c e)
 ·ø⟨e,n,ne,nf,d⟩:=I.pin p hp;have nch:p.1∉ch:=λz=>(hch p.1 z).2.2.2 p hp rfl;§⟨keep p.1 p.2 ne nf nch e n,free p.1 p.2 nch e n,ne,nf,d⟩
þ Inv.un{t':Nat}(I:Inv X pins σ H s) (u:Un X.fs [] H H' s.heap h') (hok:HOk X.prog X.w H' h'):Inv X pins σ H' { s with heap:=h',toks:=t' }:=by
 ø⟨m,⟨o,es,ep,ho,r⟩,_⟩:=id I.loc;ø⟨sl,hL⟩:=u.any ho I.free ¢;§I.step (g':=s.gens) (d':=s.drawn) (ch:=[]) (λ_ z=>nomatch z) (λb o _ hb _ e n=>u.keep b o e n hb ¢) (λb o _ hb _ e n=>u.slot b o e n hb ¢) (λb o _ e n=>u.free b o e n ¢) (λb o _ e=>u.there b o e ¢) u.tups u.frzs u.tbls (λm' hm=>by
  ø⟨o',es',ep',ho',r'⟩:=hm;rw[ho]at ho';cases ho';§⟨_,es',ep',hL,r'⟩) hok I.bare
þ Inv.call{g':Array GenState}{t':Nat}{d':Drawn}{ch:List Addr}(I:Inv X pins σ H s) (u:Un (frs X.stack) ch H H' s.heap h') (hok:HOk X.prog X.w H' h') (hg:AllBare g')
  (hch:∀b∈ch,(b∈X.ex∨X.s₀.heap.objs.size≤b)∧b≠X.env.locals∧(∀x c,X.env.cells.lookup x=some c→c≠b)∧ ∀p∈X.pn++pins,p.1≠b) :
  Inv X pins σ H' { s with heap:=h',gens:=g',drawn:=d',toks:=t' }:=by
 ø⟨m,⟨o,es,ep,ho,r⟩,_⟩:=id I.loc;ø⟨sl,hL⟩:=u.any ho I.free λz=>(hch _ z).2.1 rfl;§I.step (ch:=ch) hch (λb o hL hb hc e n=>u.keep b o e n (λz=>(List.mem_cons.mp (I.stkSub b z)).elim hL hb) hc) (λb o _ _ hc e n=>u.any e n hc) (λb o hc e n=>u.free b o e n hc) (λb o hc e=>u.there b o e hc) u.tups u.frzs u.tbls (λm' hm=>by
  ø⟨o',es',ep',ho',r'⟩:=hm;rw[ho]at ho';cases ho';§⟨_,es',ep',hL,r'⟩) hok hg
þ Inv.turned{t':Nat}{it:Addr}(I:Inv X pins σ H s) (k:∀b o,b≠it→s.heap.get? b=some o→h'.get? b=some o) (hn:H it=none) (hL:it≠X.env.locals)
  (h1:it∈X.ex∨X.s₀.heap.objs.size≤it) (h2:∀x c,X.env.cells.lookup x=some c→c≠it) (h3:∀p∈X.pn++pins,p.1≠it):Inv X pins σ H { s with heap:=h',toks:=t' }:=by
 have nit:∀b u,H b=some u→b≠it:=λb u e z=>by rw[z,hn]at e;cases e
 ¤I.step (g':=s.gens) (d':=s.drawn) (ch:=[it]) (λb hb=>?_) (λb o _ _ hc e _=>k b o (λz=>hc (by simp [z])) e) (λb o _ _ hc e _=>⟨o.slots,k b o (λz=>hc (by simp [z])) e⟩) (λ_ _ _ _ n=>n)
  (λb o hc e=>⟨o,k b o (λz=>hc (by simp [z])) e⟩) (λ_ _ e=>e) (λ_ _ _ e=>e) (λb ps e=>⟨#[],by rw[e];simp⟩) (λm hm=>?_) (λb u e=>?_) I.bare
 ·have e:b=it:=by simpa using hb
  subst e;§⟨h1,hL,h2,h3⟩
 ·ø⟨o,es,ep,ho,r⟩:=hm;§⟨o,es,ep,k _ o (Ne.symm hL) ho,r⟩
 ·¤(I.hok b u e).stay (λc v hc q=>k c v ?_ q) (λ_ q=>q) λ_ _ q=>q;rcases hc with z |z
  ·rw[z];§nit b u e
  ·§nit c _ z
þ Inv.tok (I:Inv X pins σ H s) (t:Nat):Inv X pins σ H { s with toks:=t }:=I.un (h':=s.heap) (t':=t) Un.refl I.hok
þ Inv.kept{t':Nat}(I:Inv X pins σ H s) (k:∀b u,s.heap.get? b=some u→h'.get? b=some u):Inv X pins σ H { s with heap:=h',toks:=t' }:=I.un (Un.kept k) (I.hok.kept k)
þ Inv.laid{a:Addr}{o:HO}{t':Nat}(I:Inv X pins σ H s) (k:∀b u,s.heap.get? b=some u→h'.get? b=some u) (hp:s.heap.objs.size≤a) (new:ObjOk X.prog X.w (upd H a o) h' a o) :
  Inv X pins σ (upd H a o) { s with heap:=h',toks:=t' }:=I.un (Un.laid k hp (I.hok.fresh hp)) (I.hok.laid k hp new)
þ Inv.write{x e:Addr}{o:HO}{t':Nat}(I:Inv X pins σ H s) (mu:Mut (H x)) (he:e=x∨H e=some (.own x)) (k:∀b u,b≠e→s.heap.get? b=some u→h'.get? b=some u) (heo:∃u,h'.get? e=some u)
  (new:ObjOk X.prog X.w (upd H x o) h' x o):Inv X pins σ (upd H x o) { s with heap:=h',toks:=t' }:=I.un (Un.write mu he k heo) (I.hok.write mu he k heo new)
þ Inv.pins_of{pins':List (Addr×Obj)}(I:Inv X pins σ H s) (h:∀p∈pins',s.heap.get? p.1=some p.2∧H p.1=none∧p.1≠X.env.locals∧p.1∉X.fs∧ ∀v,p.2.data≠ .cell v):Inv X pins' σ H s:=
 ⟨I.ok,I.os,I.bare,I.base,I.loc,I.cell,I.free,I.freeC,λp hp=>(List.mem_append.mp hp).elim (λz=>I.pin p (List.mem_append_left _ z)) (h p),I.hok,I.len⟩
þ zot{N:List Str}(hN:N.Nodup) {i j:Nat}{x:Str}(a:N[i]? =some x) (b:N[j]? =some x):i=j:=by
 ø⟨h1,e1⟩:=List.getElem?_eq_some_iff.mp a;ø⟨h2,e2⟩:=List.getElem?_eq_some_iff.mp b;§(List.getElem_inj hN).mp (e1.trans e2.symm)
þ zlA{M:Model}{A:Around}{E:Value→Shared→Prop}{i:Nat}{x:Str}{v:V}{u:Value}{Q:Unit→Shared→Prop}(I:Inv X pins σ H s) (hN:X.N.Nodup) (hi:X.N[i]? =some x) (hx:Loc X.env.scope x) (r:RelV v u)
  (h:∀s',Inv X pins (σ.set i (some v)) H s'→(∃a,Heap.SameBut a s.heap s'.heap∧(a=X.env.locals∨X.env.cells.lookup x=some a))→Q () s') (hf:X.fn x=true∨X.env.scope.names.lookup x=some .local:=by first |§.inl rfl |§.inr rfl |assumption):wpAny M A (storeName X.env x u) Q E s:=by
 ø⟨m,hn,hl⟩:=id I.loc;have hcls:(X.env.scope.kind == .class || (X.env.scope.kind == .module&&X.env.locals != X.env.globals))=false:=by rw[I.ok.kind];rfl
 have hiσ:i<σ.length:=by rw[I.len];§(List.getElem?_eq_some_iff.mp hi).1
 have cne:=I.cne;have tracked:∀{a:Addr}{h':Heap},(∃o,s.heap.get? a=some o∧H a=none)→Heap.SameBut a s.heap h'→HOk X.prog X.w H h':=λ{a h'} ha hs b ob e=>by
  ø⟨_,_,hfree⟩:=ha;¤(I.hok b ob e).stay (λc w' hc q=>(hs.2 c ?_).trans q) (λ_ q=>q) λ_ _ q=>q;rintro rfl;rcases hc with rfl |hc
  ·rw[hfree]at e;cases e
  ·rw[hfree]at hc;cases hc
 rcases hx with hk |hk
 ·¤wpAny_storeName_local hk hn (λh' hn' hs=>?_) hcls;ø⟨oL,_,_,hoL,_⟩:=id hn;¤h _ ⟨I.ok,I.os,I.bare,⟨λb o e n hb hx=>?_,λb o e n hb hx=>?_,I.base.free,λb o e hx=>?_,I.base.tups,I.base.frzs,I.base.tbls⟩,⟨_,hn',λj y v' e1 e2 e3=>?_⟩,λy c e=>?_,I.free,I.freeC,λp hp=>?_,tracked ⟨oL,hoL,I.free⟩ hs,by simpa using I.len⟩ ⟨_,hs, .inl rfl⟩
  ·§(hs.2 b (Nat.ne_of_lt (Nat.lt_of_lt_of_le (Heap.lt_size e) I.ok.above))).trans (I.base.keep b o e n hb hx)
  ·ø⟨sl,e1⟩:=I.base.slot b o e n hb hx;§⟨sl,(hs.2 b (Nat.ne_of_lt (Nat.lt_of_lt_of_le (Heap.lt_size e) I.ok.above))).trans e1⟩
  ·ø⟨o',e1⟩:=I.base.there b o e hx;§⟨o',(hs.2 b (Nat.ne_of_lt (Nat.lt_of_lt_of_le (Heap.lt_size e) I.ok.above))).trans e1⟩
  ·by_cases hj:j=i
   ·subst hj;rw[hi]at e1;cases e1;rw[List.getElem?_set_self hiσ]at e2;cases e2;§⟨u,r, .inl ⟨hk,¢⟩⟩
   ·rw[List.getElem?_set_ne (Ne.symm hj)]at e2;ø⟨u',r',q⟩:=hl j y v' e1 e2 e3;¤⟨u',r',?_⟩;rcases q with⟨k,e⟩ |⟨k,c,e,z⟩
    ·¤.inl ⟨k,?_⟩;have:y≠x:=λe=>hj (zot hN e1 (e▸hi));simp [this,e]
    ·§.inr ⟨k,c,e,z.sameBut hs (cne y c e)⟩
  ·ø⟨w',z⟩:=I.cell y c e;§⟨w',z.sameBut hs (cne y c e)⟩
  ·ø⟨e,n,ne,nf,d⟩:=I.pin p hp;§⟨(hs.2 p.1 ne).trans e,n,ne,nf,d⟩
 ·have hfn:X.fn x=true:=by
   rcases hf with z |z
   ·§z
   ·rw[z]at hk;cases hk
  ø⟨c,hc⟩:=I.ok.has x (.inl hk);ø⟨w',z⟩:=I.cell x c hc;¤wpAny_storeName_cell I.ok.kind hk hc z (λh' hc' hs=>?_);ø⟨oc,hoc,hocd⟩:=id z;¤h { s with heap:=h' } ⟨I.ok,I.os,I.bare,⟨λb o e n hb hx=>?_,λb o e n hb hx=>?_,I.base.free,λb o e hx=>?_,I.base.tups,I.base.frzs,I.base.tbls⟩,⟨m,hn.sameBut hs (Ne.symm (cne x c hc)),λj y v' e1 e2 e3=>?_⟩,λy c' e=>?_,I.free,I.freeC,λp hp=>?_,tracked ⟨oc,hoc,I.freeC x c hc⟩ hs,by simpa using I.len⟩ ⟨c,hs, .inr hc⟩
  ·§(hs.2 b (Nat.ne_of_lt (Nat.lt_of_lt_of_le (Heap.lt_size e) (I.ok.cab x c hfn hc)))).trans (I.base.keep b o e n hb hx)
  ·ø⟨sl,e1⟩:=I.base.slot b o e n hb hx;§⟨sl,(hs.2 b (Nat.ne_of_lt (Nat.lt_of_lt_of_le (Heap.lt_size e) (I.ok.cab x c hfn hc)))).trans e1⟩
  ·ø⟨o',e1⟩:=I.base.there b o e hx;§⟨o',(hs.2 b (Nat.ne_of_lt (Nat.lt_of_lt_of_le (Heap.lt_size e) (I.ok.cab x c hfn hc)))).trans e1⟩
  ·by_cases hj:j=i
   ·subst hj;rw[hi]at e1;cases e1;rw[List.getElem?_set_self hiσ]at e2;cases e2;§⟨u,r, .inr ⟨.inl hk,c,hc,hc'⟩⟩
   ·rw[List.getElem?_set_ne (Ne.symm hj)]at e2;ø⟨u',r',q⟩:=hl j y v' e1 e2 e3;¤⟨u',r',?_⟩;rcases q with q |⟨k,c',e,z'⟩
    ·§.inl q
    ·¤.inr ⟨k,c',e,z'.sameBut hs ?_⟩;rintro rfl;§hj (zot hN e1 (I.ok.inj _ _ _ e hc▸hi))
  ·by_cases hcc:c'=c
   ·subst hcc;§⟨_,hc'⟩
   ·ø⟨w2,z2⟩:=I.cell y c' e;§⟨w2,z2.sameBut hs hcc⟩
  ·ø⟨e,n,ne,nf,d⟩:=I.pin p hp;¤⟨(hs.2 p.1 ?_).trans e,n,ne,nf,d⟩;intro q;rw[q,hoc]at e;have q':oc=p.2:=Option.some.inj e;§d w' (by rw[←q'];§hocd)
þ zjR{M:Model}{A:Around}{E:Value→Shared→Prop}{i:Nat}{x:Str}{v:V}{u:Value}{Q:Unit→Shared→Prop}(I:Inv X pins σ H s) (hN:X.N.Nodup) (hi:X.N[i]? =some x) (hx:Loc X.env.scope x) (r:RelV v u)
  (h:∀s',Inv X pins (σ.set i (some v)) H s'→Q () s') (hf:X.fn x=true∨X.env.scope.names.lookup x=some .local:=by first |§.inl rfl |§.inr rfl |assumption):wpAny M A (storeName X.env x u) Q E s:=
 zlA I hN hi hx r (λs' I' _=>h s' I') hf
þ Inv.call'{s':Shared}{ch:List Addr}(I:Inv X pins σ H s) (ho:s'.os=s.os) (u:Un (frs X.stack) ch H H' s.heap s'.heap) (hok:HOk X.prog X.w H' s'.heap) (hg:AllBare s'.gens)
  (hch:∀b∈ch,(b∈X.ex∨X.s₀.heap.objs.size≤b)∧b≠X.env.locals∧(∀x c,X.env.cells.lookup x=some c→c≠b)∧ ∀p∈X.pn++pins,p.1≠b):Inv X pins σ H' s':=by
 ø⟨h',g',d',t',o'⟩:=s';have e:o'=s.os:=ho;subst e;§I.call (g':=g') (t':=t') (d':=d') u hok hg hch
end
ñ abbrev XK:=Value→Option Addr→Hp→Prop
ñ abbrev St:=List (Option V)
ñ abbrev VK:=V→Hp→Prop
ñ abbrev TE:=St→Hp→VK→Prop
ñ abbrev TT:=St→Hp→(Bool→Hp→Prop)→Prop
ñ abbrev TA:=St→Hp→(List V→Hp→Prop)→Prop
structure Ends where
  nx:St→Hp→Prop
  rt:VK
  bk:St→Hp→Prop:=λ_ _=>False
  ct:St→Hp→Prop:=λ_ _=>False
ñ abbrev TS:=Ends→St→Hp→Prop
ñ def EP (X:Cx) (pins:List (Addr×Obj)) (σ:St) (Q:VK) (u:Value) (s':Shared):Prop:=∃v H',Inv X pins σ H' s'∧RelV v u∧Q v H'
ñ def TP (X:Cx) (pins:List (Addr×Obj)) (σ:St) (Q:Bool→Hp→Prop) (b:Bool) (s':Shared):Prop:=∃H',Inv X pins σ H' s'∧Q b H'
ñ def AP (X:Cx) (pins:List (Addr×Obj)) (σ:St) (Q:List V→Hp→Prop) (us:List Value) (s':Shared):Prop:=∃vs H',Inv X pins σ H' s'∧Vals vs us∧Q vs H'
ñ def SP (X:Cx) (pins:List (Addr×Obj)) (D:Ends) (f:Flow) (s':Shared):Prop:=
 match f with
 | .next=>∃σ' H',Inv X pins σ' H' s'∧D.nx σ' H'
 | .brk=>∃σ' H',Inv X pins σ' H' s'∧D.bk σ' H'
 | .cont=>∃σ' H',Inv X pins σ' H' s'∧D.ct σ' H'
 | .ret u=>∃v σ' H',Inv X pins σ' H' s'∧RelV v u∧D.rt v H'
ñ def PE (X:Cx) (e:Expr) (t:TE):Prop:=
 ∀(pins:List (Addr×Obj)) (s:Shared) (σ:St) (H:Hp) (Q:VK),Inv X pins σ H s→t σ H Q→wpAny (model X.prog X.w) X.A (eval e X.env) (EP X pins σ Q) X.xe s
ñ def PT (X:Cx) (e:Expr) (t:TT):Prop:=
 ∀(pins:List (Addr×Obj)) (s:Shared) (σ:St) (H:Hp) (Q:Bool→Hp→Prop),Inv X pins σ H s→t σ H Q→wpAny (model X.prog X.w) X.A (isTrue e X.env (eval e X.env)) (TP X pins σ Q) X.xe s
ñ def PW (X:Cx) (e:Expr) (t:TT):Prop:=
 ∀(whole:Sem Value) (pins:List (Addr×Obj)) (s:Shared) (σ:St) (H:Hp) (Q:Bool→Hp→Prop),Inv X pins σ H s→t σ H Q→wpAny (model X.prog X.w) X.A (isTrue e X.env whole) (TP X pins σ Q) X.xe s
þ PW.pt{X:Cx}{e:Expr}{t:TT}(h:PW X e t):PT X e t:=h _
ñ def PA (X:Cx) (es:List Expr) (t:TA):Prop:=
 ∀(pos:Pos) (pins:List (Addr×Obj)) (s:Shared) (σ:St) (H:Hp) (Q:List V→Hp→Prop),Inv X pins σ H s→t σ H Q→wpAny (model X.prog X.w) X.A (spliced (backTo pos (starEach es X.env))) (AP X pins σ Q) X.xe s
ñ def PS (X:Cx) (st:Stmt) (t:TS):Prop:=
 ∀(pins:List (Addr×Obj)) (s:Shared) (σ:St) (H:Hp) (D:Ends),Inv X pins σ H s→t D σ H→wpAny (model X.prog X.w) X.A (exec st X.env) (SP X pins D) X.xe s
ñ def PSs (X:Cx) (st:List Stmt) (t:TS):Prop:=
 ∀(pins:List (Addr×Obj)) (s:Shared) (σ:St) (H:Hp) (D:Ends),Inv X pins σ H s→t D σ H→wpAny (model X.prog X.w) X.A (execs st X.env) (SP X pins D) X.xe s
þ thn{α:Type}{t:Sem α}{Q Q':α→Shared→Prop}{M:Model}{A:Around}{E:Value→Shared→Prop}{s:Shared}(h:wpAny M A t Q E s) (hQ:∀a s,Q a s→Q' a s):wpAny M A t Q' E s:=wpAny_mono h hQ λ_ _ x=>x
section
variable {X:Cx}
ñ def zCM (i:Nat):TE:=λσ H Q=>∃v,σ[i]? =some (some v)∧Q v H
ñ def tC (v:V):TE:=λ_ H Q=>Q v H
þ zAe{i:Nat}{x:Str}{pos:Pos}(hN:X.N[i]? =some x) (hv:Vis X.env.scope x) (hd:(x == ("__debug__" :Str))=false:=by decide) (hcd:(x == ("__classdict__" :Str))=false:=by decide):PE X (.Name x pos) (zCM i):=by
 intro pins s σ H Q I h;ø⟨v,e,h⟩:=h;ø⟨m,hn,hl⟩:=I.loc;ø⟨u,r,l⟩:=hl i x v hN e hv;have fin:EP X pins σ Q u s:=⟨v,H,I,r,h⟩;rcases l with⟨hk,hm⟩ |⟨hk,c,hc,hcell⟩
 ·§wpAny_Name (wpAny_loadName_local I.ok.kind hk hn hm fin) hd
 ·rcases hk with hk |hk
  ·§wpAny_Name (wpAny_loadName_cell I.ok.kind hk hc hcell fin) hd
  ·§wpAny_Name (wpAny_loadName_free I.ok.kind hk hc hcell fin hcd) hd
þ zyx{i j pos}:PE X (.Constant (.int i) j pos) (tC (.int i)):=λ_ _ _ H _ I h=>wpAny_Constant_int ⟨.int i,H,I.tok _,⟨_,rfl⟩,h⟩
þ zBg{b j pos}:PE X (.Constant (.bool b) j pos) (tC (.bl b)):=λ_ _ _ H _ I h=>Constant_bool ⟨.bl b,H,I,rfl,h⟩
þ zyv{j pos}:PE X (.Constant .none j pos) (tC .non):=λ_ _ _ H _ I h=>Constant_none ⟨.non,H,I,rfl,h⟩
þ zxW{x j pos}:PE X (.Constant (.str x) j pos) (tC (.str x)):=λ_ _ _ H _ I h=>Calls.Constant_str ⟨.str x,H,I.tok _,⟨_,rfl⟩,h⟩
ñ def Gl (X:Cx) (x:Str):Prop:=X.env.kindOf x=some .globalImplicit
þ zin{E:Value→Shared→Prop}{pins:List (Addr×Obj)}{s:Shared}{σ:St}{H:Hp}{x:Str}{u:Value}{pos:Pos}{Q:Value→Shared→Prop}(I:Inv X pins σ H s) (hg:Gl X x) (hm:X.mg x=some u) (h:Q u s)
  (hd:(x == ("__debug__" :Str))=false:=by decide):wpAny (model X.prog X.w) X.A (eval (.Name x pos) X.env) Q E s:=
 Calls.Name_function_global I.ok.kind hg (Calls.loadGlobal_global (by rw[I.ok.glob];§I.mod.glob.keeps I.bk) hm h) hd
þ zim{E:Value→Shared→Prop}{pins:List (Addr×Obj)}{s:Shared}{σ:St}{H:Hp}{x:Str}{u:Value}{pos:Pos}{Q:Value→Shared→Prop}(I:Inv X pins σ H s) (hg:Gl X x) (hm:X.mg x=none) (hv:bootBuiltins x=some u) (h:Q u s)
  (hn:x≠ "__name__" :=by decide) (hd:(x == ("__debug__" :Str))=false:=by decide):wpAny (model X.prog X.w) X.A (eval (.Name x pos) X.env) Q E s:=by
 ø⟨mb,h1,h2⟩:=I.mod.blt;§Calls.Name_function_global I.ok.kind hg (Calls.loadGlobal_builtin (by rw[I.ok.glob];§I.mod.glob.keeps I.bk) hm (by rw[I.ok.blt];§h1.keeps I.bk) ((h2 x hn).trans hv) h) hd
þ zwa{x:Str}{v:V}{u:Value}{pos:Pos}(hg:Gl X x) (hm:X.mg x=some u) (r:RelV v u) (hd:(x == ("__debug__" :Str))=false:=by decide):PE X (.Name x pos) (tC v):=
 λ_ _ _ H _ I h=>zin I hg hm ⟨v,H,I,r,h⟩ hd
þ zwf{x:Str}{v:V}{u:Value}{pos:Pos}(hg:Gl X x) (hm:X.mg x=none) (hv:bootBuiltins x=some u) (r:RelV v u) (hn:x≠ "__name__" :=by decide) (hd:(x == ("__debug__" :Str))=false:=by decide):PE X (.Name x pos) (tC v):=
 λ_ _ _ H _ I h=>zim I hg hm hv ⟨v,H,I,r,h⟩ hn hd
variable {a b:Expr}{ta tb:TE}{pos:Pos}
variable {tA tB':TT}{rest:List Expr}
ñ def zCT (t u:TT):TT:=λσ H Q=>t σ H λc H1=>if c=true then u σ H1 Q else Q false H1
ñ def tOr (t u:TT):TT:=λσ H Q=>t σ H λc H1=>if c=true then Q true H1 else u σ H1 Q
ñ def zCH (t:TT):TT:=λσ H Q=>t σ H λc H1=>Q (!c) H1
þ zvI (ha:PT X a tA):PW X (.BoolOp .And [a] pos) tA:=by
 intro wh pins s σ H Q I h;¤isTrue_and (thn (ha pins s σ H Q I h) λc s1 e=>?_);cases c with
 |true=>§isTrue_and_nil e
 |false=>§e
þ zxH (ha:PT X a tA):PW X (.BoolOp .Or [a] pos) tA:=by
 intro wh pins s σ H Q I h;¤isTrue_or (thn (ha pins s σ H Q I h) λc s1 e=>?_);cases c with
 |false=>§isTrue_or_nil e
 |true=>§e
þ zyY (ha:PT X a tA) (hb:PW X (.BoolOp .And (b::rest) pos) tB'):PW X (.BoolOp .And (a::b::rest) pos) (zCT tA tB'):=by
 intro wh pins s σ H Q I h;¤isTrue_and (thn (ha pins s σ H _ I h) λc s1 ⟨H1,I1,q1⟩=>?_);cases c with
 |true=>§hb wh pins s1 σ H1 Q I1 q1
 |false=>§⟨H1,I1,q1⟩
þ zAw (ha:PT X a tA) (hb:PW X (.BoolOp .Or (b::rest) pos) tB'):PW X (.BoolOp .Or (a::b::rest) pos) (tOr tA tB'):=by
 intro wh pins s σ H Q I h;¤isTrue_or (thn (ha pins s σ H _ I h) λc s1 ⟨H1,I1,q1⟩=>?_);cases c with
 |true=>§⟨H1,I1,q1⟩
 |false=>§hb wh pins s1 σ H1 Q I1 q1
þ zzG (ha:PT X a tA):PT X (.UnaryOp .Not a pos) (zCH tA):=by
 intro pins s σ H Q I h;§isTrue_not (ha pins s σ H (λc H1=>Q (!c) H1) I h)
ñ def zAG (ta tb:TE):TE:=λσ H Q=>ta σ H λx H1=>∃c,x= .bl c∧if c=true then tb σ H1 Q else Q (.bl false) H1
ñ def zCh (ta tb:TE):TE:=λσ H Q=>ta σ H λx H1=>∃c,x= .bl c∧if c=true then Q (.bl true) H1 else tb σ H1 Q
þ zyB{op}{t:TE}(h:PE X a t):PE X (.BoolOp op [a] pos) t:=λpins s σ H Q I hw=>BoolOp_one (h pins s σ H Q I hw)
þ zyG (ha:PE X a ta) (hb:PE X (.BoolOp .And (b::rest) pos) tb):PE X (.BoolOp .And (a::b::rest) pos) (zAG ta tb):=by
 intro pins s σ H Q I h;¤BoolOp_and (thn (ha pins s σ H _ I h) λv s1 ⟨x,H1,I1,r1,q1⟩=>?_);ø⟨c,rfl,q1⟩:=q1;cases r1;¤wpAny_truthy_bool ?_;cases c with
 |true=>§hb pins s1 σ H1 Q I1 q1
 |false=>§⟨.bl false,H1,I1,rfl,q1⟩
þ zBE (ha:PE X a ta) (hb:PE X (.BoolOp .Or (b::rest) pos) tb):PE X (.BoolOp .Or (a::b::rest) pos) (zCh ta tb):=by
 intro pins s σ H Q I h;¤BoolOp_or (thn (ha pins s σ H _ I h) λv s1 ⟨x,H1,I1,r1,q1⟩=>?_);ø⟨c,rfl,q1⟩:=q1;cases r1;¤wpAny_truthy_bool ?_;cases c with
 |false=>§hb pins s1 σ H1 Q I1 q1
 |true=>§⟨.bl true,H1,I1,rfl,q1⟩
ñ def tIf (t:TT) (ta tb:TE):TE:=λσ H Q=>t σ H λc H1=>if c=true then ta σ H1 Q else tb σ H1 Q
þ ztY{c:Expr}(hc:PT X c tA) (ha:PE X a ta) (hb:PE X b tb):PE X (.IfExp c a b pos) (tIf tA ta tb):=by
 intro pins s σ H Q I h;¤wpAny_IfExp (thn (hc pins s σ H _ I h) λd s1 ⟨H1,I1,q1⟩=>?_);cases d with
 |true=>§ha pins s1 σ H1 Q I1 q1
 |false=>§hb pins s1 σ H1 Q I1 q1
end
ñ def SqL (K:Ƒ) (H:Hp) (a:Addr) (xs:List V):Prop:=
 Rd H a (.lst xs)∨
  ∃(o:Obj) (its:Array Value) (n:Nat),K.lookup a=some o∧o.cls= .type "list" ∧o.dict=none∧o.data= .seq its n∧its.size≤sizeLine∧Vals xs its.toList
ñ def SqT (K:Ƒ) (H:Hp) (a:Addr) (xs:List V):Prop:=
 Rd H a (.tup xs)∨
  ∃(o:Obj) (its:Array Value) (n:Nat),K.lookup a=some o∧o.cls= .type "tuple" ∧o.data= .seq its n∧its.size≤sizeLine∧Vals xs its.toList
ñ def zCl:Value→Option V
 | .none=>some .non
 | .bool b=>some (.bl b)
 | .int i _=>some (.int i)
 | .str x _=>some (.str x)
 | .bytes b _=>some (.byt b)
 | .float b _=>some (.flt b)
 | .ref a=>some (.ref a)
 | .type n=>some (.ty n)
 |_=>none
þ RelV.abs{x:V}{u:Value}(r:RelV x u):zCl u=some x:=by
 cases x with
 |non=>cases r;rfl
 |bl _=>cases r;rfl
 |int _=>ø⟨t,rfl⟩:=r;rfl
 |str _=>ø⟨t,rfl⟩:=r;rfl
 |byt _=>ø⟨t,rfl⟩:=r;rfl
 |flt _=>ø⟨t,rfl⟩:=r;rfl
 |ref _=>cases r;rfl
 |ty _=>cases r;rfl
þ RelV.inj{x y:V}{u:Value}(r:RelV x u) (q:RelV y u):x=y:=Option.some.inj (r.abs.symm.trans q.abs)
þ Vals.inj:∀{xs ys:List V}{us:List Value},Vals xs us→Vals ys us→xs=ys
 |_,_,_, .nil, .nil=>rfl
 |_,_,_, .cons r t, .cons r' t'=>by rw[r.inj r',Vals.inj t t']
section
variable {X:Cx}{pins:List (Addr×Obj)}{σ:St}{H:Hp}{s:Shared}{a:Addr}{xs ys:List V}
þ SqL.of{K:Ƒ}(h:H a=some (.lst xs)):SqL K H a xs:= .inl (.inl h)
þ SqT.of{K:Ƒ}(h:H a=some (.tup xs)):SqT K H a xs:= .inl (.inl h)
þ Inv.list (I:Inv X pins σ H s) (h:SqL X.K H a xs):∃its:List Value,Vals xs its∧PlainL s.heap a its.toArray∧xs.length≤sizeLine:=by
 rcases h with h |⟨o,its,n,hk,hc,hd,hs,hz,r⟩
 ·ø⟨z,its,n,r,e⟩:=h.ok I.hok;§⟨its,r,⟨_,n,e,rfl,rfl,rfl⟩,z⟩
 ·¤⟨its.toList,r,⟨o,n,I.kIn a o hk,hc,hd,by simpa using hs⟩,?_⟩
  have e:=r.length;simp only[Array.length_toList]at e;omega
þ Inv.tuple (I:Inv X pins σ H s) (h:SqT X.K H a xs):∃its:List Value,Vals xs its∧IsTup s.heap a its.toArray∧xs.length≤sizeLine:=by
 rcases h with h |⟨o,its,n,hk,hc,hs,hz,r⟩
 ·ø⟨z,its,r,p⟩:=h.ok I.hok;§⟨its,r,p,z⟩
 ·¤⟨its.toList,r,⟨o,I.kIn a o hk,hc,n,by simpa using hs⟩,?_⟩
  have e:=r.length;simp only[Array.length_toList]at e;omega
þ Inv.list_inj (I:Inv X pins σ H s) (h:SqL X.K H a xs) (h':SqL X.K H a ys):xs=ys:=by
 ø⟨its,r,⟨o,n,e,_,_,d⟩,_⟩:=I.list h;ø⟨its',r',⟨o',n',e',_,_,d'⟩,_⟩:=I.list h';rw[e]at e';cases e';rw[d]at d';injection d' with d1 _;have:its=its':=by simpa using congrArg Array.toList d1
 subst this;§r.inj r'
þ Inv.tuple_inj (I:Inv X pins σ H s) (h:SqT X.K H a xs) (h':SqT X.K H a ys):xs=ys:=by
 ø⟨its,r,⟨o,e,_,n,d⟩,_⟩:=I.tuple h;ø⟨its',r',⟨o',e',_,n',d'⟩,_⟩:=I.tuple h';rw[e]at e';cases e';rw[d]at d';injection d' with d1 _;have:its=its':=by simpa using congrArg Array.toList d1
 subst this;§r.inj r'
end
ñ abbrev Cx.wish (X:Cx) (E:Value→Shared→Prop):Cx:={ X with xe:=E }
ñ abbrev Cx.nox (X:Cx):Cx:=X.wish λ_ _=>False
þ Cx.Ok.wish{X:Cx}(ok:X.Ok) (E:Value→Shared→Prop):(X.wish E).Ok:=
 ⟨ok.mod,ok.kind,ok.glob,ok.blt,ok.above,ok.inj,ok.has,ok.cab,ok.hd,ok.frames,ok.stk,ok.exf,ok.bs,ok.bsz,ok.noex,ok.exfs,ok.funs,ok.frf⟩
þ Cx.Ok.unwish{X:Cx}{E:Value→Shared→Prop}(ok:(X.wish E).Ok):X.Ok:=
 ⟨ok.mod,ok.kind,ok.glob,ok.blt,ok.above,ok.inj,ok.has,ok.cab,ok.hd,ok.frames,ok.stk,ok.exf,ok.bs,ok.bsz,ok.noex,ok.exfs,ok.funs,ok.frf⟩
section
variable {X:Cx}{pins:List (Addr×Obj)}{σ:St}{H:Hp}{s:Shared}{E:Value→Shared→Prop}
þ Inv.wish (I:Inv X pins σ H s) (E:Value→Shared→Prop):Inv (X.wish E) pins σ H s:=⟨I.ok.wish E,I.os,I.bare,I.base,I.loc,I.cell,I.free,I.freeC,I.pin,I.hok,I.len⟩
þ Inv.unwish (I:Inv (X.wish E) pins σ H s):Inv X pins σ H s:=⟨I.ok.unwish,I.os,I.bare,I.base,I.loc,I.cell,I.free,I.freeC,I.pin,I.hok,I.len⟩
þ SP.unwish{D:Ends}{f:Flow}{s':Shared}(h:SP (X.wish E) pins D f s'):SP X pins D f s':=by
 cases f with
 |next=>ø⟨σ',H',I,q⟩:=h;§⟨σ',H',I.unwish,q⟩
 |brk=>ø⟨σ',H',I,q⟩:=h;§⟨σ',H',I.unwish,q⟩
 |cont=>ø⟨σ',H',I,q⟩:=h;§⟨σ',H',I.unwish,q⟩
 |ret u=>ø⟨v,σ',H',I,r,q⟩:=h;§⟨v,σ',H',I.unwish,r,q⟩
þ PE.nox{e:Expr}{t:TE}(h:PE X.nox e t):PE X e t:=λpins s σ H Q I hw=>
 wpAny_mono (h pins s σ H Q (I.wish _) hw) (λ_ _ ⟨v,H',I',r,q⟩=>⟨v,H',I'.unwish,r,q⟩) λ_ _ z=>False.elim z
end
section
variable {X:Cx}{st:Stmt}{rest:List Stmt}{t u:TS}{e:Expr}{te:TE}{pos:Pos}
ñ def zAV:TS:=λD σ H=>D.nx σ H
ñ def zCJ (t u:TS):TS:=λD σ H=>t { D with nx:=u D } σ H
þ pss_nil:PSs X [] zAV:=λ_ _ σ H _ I h=>wpAny_execs_nil ⟨σ,H,I,h⟩
þ zsJ (h1:PS X st t) (h2:PSs X rest u):PSs X (st::rest) (zCJ t u):=by
 intro pins s σ H D I h;¤wpAny_execs_cons (thn (h1 pins s σ H { D with nx:=u D } I h) λf s1 q=>?_);cases f with
 |next=>
  ø⟨σ',H',I',q⟩:=q;§h2 pins s1 σ' H' D I' q
 |ret v=>§q
 |brk=>§q
 |cont=>§q
þ zqM (h1:PS X st t):PSs X [st] t:=by
 intro pins s σ H D I h;¤wpAny_execs_cons (thn (h1 pins s σ H D I h) λf s1 q=>?_);cases f with
 |next=>§wpAny_execs_nil q
 |ret v=>§q
 |brk=>§q
 |cont=>§q
þ Inv.quiet{pins:List (Addr×Obj)}{σ:St}{H:Hp}{s:Shared}(I:Inv X pins σ H s):interactive X.env=false:=by simp [interactive,I.ok.kind]
ñ def zBz (te:TE):TS:=λD σ H=>te σ H λ_ H1=>D.nx σ H1
þ zxy (he:PE X e te) (hs:swapsWith e none pos.line X.env=pure false:=by rfl):PS X (.Expr e pos) (zBz te):=by
 intro pins s σ H D I h;§wpAny_Expr_any (thn (he pins s σ H _ I h) λv s1 ⟨x,H1,I1,r1,q1⟩=>⟨σ,H1,I1,q1⟩) I.quiet hs
ñ def zCU (te:TE):TS:=λD σ H=>te σ H D.rt
þ zyp (he:PE X e te):PS X (.Return (some e) pos) (zCU te):=by
 intro pins s σ H D I h;§wpAny_Return_some (thn (he pins s σ H _ I h) λv s1 ⟨x,H1,I1,r1,q1⟩=>⟨x,σ,H1,I1,r1,q1⟩)
ñ def zCV (c:TT) (t u:TS):TS:=λD σ H=>c σ H λb H1=>if b=true then t D σ H1 else u D σ H1
þ zBa{c:Expr}{a b:List Stmt}{tc:TT}(hc:PT X c tc) (ha:PSs X a t) (hb:PSs X b u):PS X (.If c a b pos) (zCV tc t u):=by
 intro pins s σ H D I h;¤wpAny_If (thn (hc pins s σ H _ I h) λd s1 ⟨H1,I1,q1⟩=>?_);cases d with
 |true=>§ha pins s1 σ H1 D I1 q1
 |false=>§hb pins s1 σ H1 D I1 q1
end
ñ abbrev TG:=V→St→Hp→(St→Hp→Prop)→Prop
ñ abbrev TGs:=List V→St→Hp→(St→Hp→Prop)→Prop
ñ def PG (X:Cx) (target:Expr) (t:TG):Prop:=
 ∀(pins:List (Addr×Obj)) (s:Shared) (σ:St) (H:Hp) (v:V) (u:Value) (Q:St→Hp→Prop),Inv X pins σ H s→RelV v u→t v σ H Q→
  wpAny (model X.prog X.w) X.A (assign target X.env u) (λ_ s'=>∃σ' H',Inv X pins σ' H' s'∧Q σ' H') X.xe s
ñ def PGs (X:Cx) (ts:List Expr) (t:TGs):Prop:=
 ∀(pins:List (Addr×Obj)) (s:Shared) (σ:St) (H:Hp) (vs:List V) (us:List Value) (Q:St→Hp→Prop),Inv X pins σ H s→Vals vs us→t vs σ H Q→
  wpAny (model X.prog X.w) X.A (assignInOrder ((assignEach ts X.env).map (·.2)) us) (λ_ s'=>∃σ' H',Inv X pins σ' H' s'∧Q σ' H') X.xe s
ñ abbrev TIp:=V→V→Hp→VK→Prop
ñ def PIp (X:Cx) (op:Operator) (t:TIp):Prop:=
 ∀(pins:List (Addr×Obj)) (s:Shared) (σ:St) (H:Hp) (x y:V) (v u:Value) (Q:VK),Inv X pins σ H s→RelV x v→RelV y u→t x y H Q→
  wpAny (model X.prog X.w) X.A (inplaceOp op v u) (EP X pins σ Q) X.xe s
section
variable {X:Cx}{pos:Pos}
ñ def zwo (i:Nat):TG:=λv σ H Q=>Q (σ.set i (some v)) H
þ zvx{i:Nat}{x:Str}(hN:X.N.Nodup) (hi:X.N[i]? =some x) (hx:Loc X.env.scope x) (hf:X.fn x=true∨X.env.scope.names.lookup x=some .local:=by first |§.inl rfl |§.inr rfl |assumption):PG X (.Name x pos) (zwo i):=by
 intro pins s σ H v u Q I r h;§wpAny_assign_Name (zjR I hN hi hx r (λs' I'=>⟨_,H,I',h⟩) hf)
ñ def zCj:TGs:=λvs σ H Q=>vs=[]∧Q σ H
ñ def zBd (t:TG) (u:TGs):TGs:=λvs σ H Q=>∃v r,vs=v::r∧t v σ H λσ' H'=>u r σ' H' Q
þ zxq:PGs X [] zCj:=by
 intro pins s σ H vs us Q I r h;ø⟨e,h⟩:=h;subst e;cases r;§assignInOrder_nil ⟨σ,H,I,h⟩
þ ztw{e:Expr}{es:List Expr}{t:TG}{u:TGs}(h1:PG X e t) (h2:PGs X es u)
  (hs:(assignEach (e::es) X.env).map (·.2)=assign e X.env::(assignEach es X.env).map (·.2):=by rfl):PGs X (e::es) (zBd t u):=by
 intro pins s σ H vs us Q I r h;ø⟨v,vr,e1,h⟩:=h;subst e1;cases r with
 |cons r rr=>
  rw[hs];¤assignInOrder_cons (thn (h1 pins s σ H _ _ _ I r h) λ_ s1 ⟨σ1,H1,I1,q1⟩=>?_);§h2 pins s1 σ1 H1 _ _ Q I1 rr q1
ñ def zDf (K:Ƒ) (n:Nat) (t:TGs):TG:=λv σ H Q=>∃a xs,v= .ref a∧SqT K H a xs∧xs.length=n∧t xs σ H Q
þ zyq{es:List Expr}{k:Nat}{t:TGs}{n:Nat}(hc:X.calm=true) (h:PGs X es t)
  (hn:(assignEach es X.env).length=n:=by rfl) (hst:(assignEach es X.env).findIdx? (·.1)=none:=by rfl):PG X (.Tuple es k pos) (zDf X.K n t):=by
 intro pins s σ H v u Q I r hw;ø⟨a,xs,e1,hq,hl,hw⟩:=hw;subst e1;cases r;ø⟨its,rv,ht,hz⟩:=I.tuple hq;¤assign_Tuple_tuple (I.ok.hd hc) ht (by simp [hn,←hl,rv.length]) hst λh' hx=>?_;have I1:Inv X pins σ H { s with heap:=h' }:=I.kept (t':=s.toks) λb o e=>hx b o (Nat.ne_of_lt (Heap.lt_size e)) e;§h pins _ σ H xs _ Q I1 (by simpa using rv) hw
ñ def zBt (te:TE) (g:TG):TS:=λD σ H=>te σ H λx H1=>g x σ H1 D.nx
þ zzs{tg e:Expr}{te:TE}{g:TG}(he:PE X e te) (hg:PG X tg g) (hs:swapsWithSole [tg] e pos.line X.env=pure false:=by rfl) (hw:swappedStores [tg] e X.env=pure none:=by rfl)
  (h1:(assignEach [tg] X.env).map (·.2)=[assign tg X.env]:=by rfl):PS X (.Assign [tg] e pos) (zBt te g):=by
 intro pins s σ H D I h;¤wpAny_Assign_stores (thn (he pins s σ H _ I h) λv s1 ⟨x,H1,I1,r1,q1⟩=>?_) hs hw;rw[h1];§thn (hg pins s1 σ H1 x v _ I1 r1 q1) λ_ s2 q=>q
þ zuJ{i:Nat}{x:Str}{e:Expr}{te:TE}{pos':Pos}(hN:X.N.Nodup) (hi:X.N[i]? =some x) (hx:Loc X.env.scope x) (he:PE X e te) (hs:swapsWith e (some (.Name x pos')) pos.line X.env=pure false:=by rfl) (hf:X.fn x=true∨X.env.scope.names.lookup x=some .local:=by first |§.inl rfl |§.inr rfl |assumption) :
  PS X (.Assign [.Name x pos'] e pos) (zBt te (zwo i)):=by
 intro pins s σ H D I h;¤wpAny_Assign_Name (thn (he pins s σ H _ I h) λv s1 ⟨y,H1,I1,r1,q1⟩=>?_) hs;§zjR I1 hN hi hx r1 (λs2 I2=>⟨_,H1,I2,q1⟩) hf
ñ def zCf (i:Nat) (te:TE) (ti:TIp):TS:=λD σ H=>∃x,σ[i]? =some (some x)∧te σ H λy H1=>ti x y H1 λz H2=>D.nx (σ.set i (some z)) H2
þ zyR{i:Nat}{x:Str}{e:Expr}{te:TE}{op:Operator}{ti:TIp}{pos':Pos}(hN:X.N.Nodup) (hi:X.N[i]? =some x) (hx:Loc X.env.scope x) (he:PE X e te) (ho:PIp X op ti) (hf:X.fn x=true∨X.env.scope.names.lookup x=some .local:=by first |§.inl rfl |§.inr rfl |assumption) :
  PS X (.AugAssign (.Name x pos') op e pos) (zCf i te ti):=by
 intro pins s σ H D I h;ø⟨v,e1,h⟩:=h;ø⟨m,hn,hl⟩:=I.loc;have vis:Vis X.env.scope x:=by rcases hx with k |k;§.inl k;§.inr (.inl k)
 ø⟨u,r,l⟩:=hl i x v hi e1 vis;¤wpAny_AugAssign_Name ?_;have go:wpAny (model X.prog X.w) X.A (eval e X.env) (λw s₂=>wpAny (model X.prog X.w) X.A (inplaceOp op u w) (λr s₃=>wpAny (model X.prog X.w) X.A (storeName X.env x r) (λ_=>SP X pins D .next) X.xe s₃) X.xe s₂) X.xe s:=by
  ¤thn (he pins s σ H _ I h) λw s1 ⟨y,H1,I1,r1,q1⟩=>?_;¤thn (ho pins s1 σ H1 v y u w _ I1 r r1 q1) λz s2 ⟨zv,H2,I2,r2,q2⟩=>?_;§zjR I2 hN hi hx r2 (λs3 I3=>⟨_,H2,I3,q2⟩) hf
 rcases l with⟨hk,hm⟩ |⟨hk,c,hc,hcell⟩
 ·§wpAny_loadName_local I.ok.kind hk hn hm go
 ·rcases hk with hk |hk
  ·§wpAny_loadName_cell I.ok.kind hk hc hcell go
  ·rcases hx with k |k
   ·have:X.env.scope.names.lookup x=some .free:=hk;rw[k]at this;cases this
   ·have:X.env.scope.names.lookup x=some .free:=hk;rw[k]at this;cases this
ñ def ipI (f:Int→Int→Int):TIp:=λx y H Q=>∃i j,x= .int i∧y= .int j∧Q (.int (f i j)) H
þ zAj:PIp X .Add (ipI λi j=>i+j):=by
 intro pins s σ H x y v u Q I r1 r2 h;ø⟨i,j,e1,e2,q⟩:=h;subst e1;subst e2;ø⟨t,rfl⟩:=r1;ø⟨t',rfl⟩:=r2;§iadd_int ⟨.int _,H,I.tok _,⟨_,rfl⟩,q⟩
end
section
variable {X:Cx}{pos:Pos}
ñ def zAb (c:TT) (tb:TS):TS:=λD σ H=>∃W:Nat→St→Hp→Prop,(∃m,W m σ H)∧ ∀m σ H,W m σ H→
 c σ H λb H1=>if b=true then ∃N:St→Hp→Prop,(∀σ' H',N σ' H'→ ∃m',m'<m∧W m' σ' H')∧tb { D with nx:=N,ct:=N,bk:=D.nx } σ H1 else D.nx σ H1
þ ztu{c:Expr}{body:List Stmt}{tc:TT}{tb:TS}(hp:PassesOwn (model X.prog X.w) X.A X.env X.xe) (hc:PT X c tc) (hb:PSs X body tb):PS X (.While c body [] pos) (zAb tc tb):=by
 intro pins s σ H D I h;ø⟨W,⟨m0,w0⟩,turn⟩:=h;¤wpAny_While (codeAny_whileLoop (λn s'=>∃σ' H',Inv X pins σ' H' s'∧W n σ' H') ?_ m0 ⟨σ,H,I,w0⟩);rintro n s1 ⟨σ1,H1,I1,w1⟩;¤wpAny_passesOwn hp (thn (hc pins s1 σ1 H1 _ I1 (turn n σ1 H1 w1)) λb s2 ⟨H2,I2,q2⟩=>?_);cases b with
 |true=>
  ø⟨N,hN,q2⟩:=q2;rw[if_pos rfl];¤wpAny_passesOwn hp (thn (hb pins s2 σ1 H2 _ I2 q2) λf s3 q3=>?_);cases f with
  |next=>
   ø⟨σ3,H3,I3,n3⟩:=q3;ø⟨m',hm,w3⟩:=hN σ3 H3 n3;§⟨m',hm,σ3,H3,I3,w3⟩
  |cont=>
   ø⟨σ3,H3,I3,n3⟩:=q3;ø⟨m',hm,w3⟩:=hN σ3 H3 n3;§⟨m',hm,σ3,H3,I3,w3⟩
  |brk=>§q3
  |ret v=>§q3
 |false=>
  rw[if_neg Bool.false_ne_true];§wpAny_execs_nil ⟨σ1,H2,I2,q2⟩
end
structure It where
  go:Nat→Hp→Prop
  yld:Nat→Hp→V→Hp→Prop
  stop:Nat→Hp→Prop
ñ def zkd (X:Cx) (pins:List (Addr×Obj)) (H:Hp) (b:Addr):Prop:=
 H b=none∧b≠X.env.locals∧b∉X.fs∧(b∈X.ex∨X.s₀.heap.objs.size≤b)∧(∀x c,X.env.cells.lookup x=some c→c≠b)∧ ∀p∈X.pn++pins,p.1≠b
þ Inv.fpOk{X:Cx}{pins:List (Addr×Obj)}{σ:St}{H H':Hp}{s:Shared}{b:Addr}(I:Inv X pins σ H s) (hb:s.heap.objs.size≤b) (hn:H' b=none):zkd X pins H' b:=by
 ¤⟨hn,Nat.ne_of_gt (Nat.lt_of_lt_of_le I.lt hb),I.nofs hb, .inr (Nat.le_trans I.sz hb),λx c e z=>?_,λp hp z=>?_⟩
 ·ø⟨v,q⟩:=I.cell x c e;§absurd (Nat.lt_of_lt_of_le q.lt (by rw[z];§hb)) (Nat.lt_irrefl _)
 ·§absurd (Nat.lt_of_lt_of_le (Heap.lt_size (I.pin p hp).1) (by rw[z];§hb)) (Nat.lt_irrefl _)
structure Turn (P:Program) (w:World) (K:Ƒ) (tg:Expr) (J:It) (fp:List Addr) (it:Addr) (tn:Nat→Heap→Prop):Prop where
  mem:it∈fp
  obj:∀i h,tn i h→ ∀b∈fp,∃o,h.get? b=some o∧ ∀v,o.data≠ .cell v
  keep:∀i h h',tn i h→(∀b∈fp,∀o,h.get? b=some o→h'.get? b=some o)→tn i h'
  item:∀(X:Cx),X.prog=P→X.w=w→X.K=K→X.calm=true→ ∀(i:Nat) (pins:List (Addr×Obj)) (s:Shared) (σ:St) (H:Hp) (E:Value→Shared→Prop),Inv X pins σ H s→(∀b∈fp,zkd X pins H b)→tn i s.heap→J.go i H→
    wpAny (model P w) X.A (pyNext (.ref it)) (λr s1=>∃u,r=some u∧
      wpAny (model P w) X.A (letOwnedTupleGo tg (.ref it) u) (λ_ s2=>∃x H',Inv X pins σ H' s2∧RelV x u∧J.yld i H x H'∧tn (i+1) s2.heap∧ ∀b∈fp,H' b=none) E s1) E s
  done:∀(X:Cx),X.prog=P→X.w=w→X.K=K→X.calm=true→ ∀(i:Nat) (pins:List (Addr×Obj)) (s:Shared) (σ:St) (H:Hp) (E:Value→Shared→Prop),Inv X pins σ H s→(∀b∈fp,zkd X pins H b)→tn i s.heap→J.stop i H→
    wpAny (model P w) X.A (pyNext (.ref it)) (λr s1=>r=none∧Inv X pins σ H s1) E s
  self:∀(A:Around) (i:Nat) (s:Shared) (Q:Value→Shared→Prop) (E:Value→Shared→Prop),tn i s.heap→Q (.ref it) s→wpAny (model P w) A (pyIter (.ref it)) Q E s
ñ abbrev TI:=St→Hp→(It→Hp→Prop)→Prop
ñ def PIE (X:Cx) (pins:List (Addr×Obj)) (σ:St) (tg:Expr) (R:It→Hp→Prop) (itv:Value) (s2:Shared):Prop:=
 ∃(it:Addr) (fp:List Addr) (tn:Nat→Heap→Prop) (J:It) (H':Hp),itv= .ref it∧Inv X pins σ H' s2∧Turn X.prog X.w X.K tg J fp it tn∧tn 0 s2.heap∧(∀b∈fp,zkd X pins H' b)∧R J H'
ñ def PI (X:Cx) (tg iter:Expr) (wi:TI):Prop:=
 ∀(pins:List (Addr×Obj)) (s:Shared) (σ:St) (H:Hp) (R:It→Hp→Prop),Inv X pins σ H s→wi σ H R→
  wpAny (model X.prog X.w) X.A (eval iter X.env) (λv s1=>wpAny (model X.prog X.w) X.A (pyIter v) (PIE X pins σ tg R) X.xe s1) X.xe s
þ zsK{M:Model}{A:Around}{E:Value→Shared→Prop}{s:Shared}{tg:Expr}{it:Addr}{u:Value}{o:Obj}{n:String}{vs:Array Value}{Q:Unit→Shared→Prop}(ho:s.heap.get? it=some o) (hc:o.cls= .type n) (hd:o.data= .fields vs)
    (hn: ["enumerate", "zip", "dict_itemiterator", "dict_reverseitemiterator", "odict_iterator", "itertools.zip_longest", "itertools.pairwise"].contains n=false) (hQ:Q () s):wpAny M A (letOwnedTupleGo tg (.ref it) u) Q E s:=by
  unfold letOwnedTupleGo;cases tg<;>first
    |§wpAny_pure hQ
    | (cases u<;>first
        |§wpAny_pure hQ
        | (¤wpAny_bind (wpAny_load ho ?_)
           rw[hc,hd];show wpAny M A (if(["enumerate", "zip", "dict_itemiterator", "dict_reverseitemiterator", "odict_iterator", "itertools.zip_longest", "itertools.pairwise"].contains n&&vs[0]? == some (rawInt _))=true then _ else _) Q E s;rw[if_neg (by intro h;rw[hn,Bool.false_and]at h;cases h)];§wpAny_pure hQ))
ñ def Itl (K:Ƒ) (a:Addr):It:=
 ⟨λi H=>∃xs x,SqL K H a xs∧xs[i]? =some x,λi H x H'=>H'=H∧ ∀xs,SqL K H a xs→xs[i]? =some x,λi H=>∃xs,SqL K H a xs∧xs.length≤i⟩
ñ def Itt (K:Ƒ) (a:Addr):It:=
 ⟨λi H=>∃xs x,SqT K H a xs∧xs[i]? =some x,λi H x H'=>H'=H∧ ∀xs,SqT K H a xs→xs[i]? =some x,λi H=>∃xs,SqT K H a xs∧xs.length≤i⟩
ñ def Itr (lo:Int) (n:Nat):It:=⟨λi _=>i<n,λi H x H'=>H'=H∧x= .int (lo+i),λi _=>n≤i⟩
þ zlI{P:Program}{w:World}{K:Ƒ}{tg:Expr}(a it:Addr):Turn P w K tg (Itl K a) [it] it (λi h=>h.IsListIter it a i) where
  mem:=by simp
  obj:=λi h st b hb=>by
    have e:b=it:=by simpa using hb
    subst e;ø⟨o,e,c,d⟩:=st;§⟨o,e,λv z=>by rw[d]at z;cases z⟩
  keep:=λi h h' st k=>st.at λo e=>k it ¢ o e
  item:=by
    intro X hP hw hK hc i pins s σ H E I hf st hg;subst hP hw hK;ø⟨xs,x,hq,hx⟩:=hg;ø⟨its,rv,p,hz⟩:=I.list hq;ø⟨u,hu,ru⟩:=rv.get hx;ø⟨f0,f1,f2,f3,f4,f5⟩:=hf it ¢;¤wpAny_pyNext_list_item st p.isList (x:=u) (by simpa using hu) λh' st' sb=>?_;have I1:Inv X pins σ H { s with heap:=h' }:=I.turned (t':=s.toks) (λb o hb e=>(sb.2 b hb).trans e) f0 f1 f3 f4 f5;ø⟨o,e,c,d⟩:=id st';§⟨u,rfl,zsK (s:={ s with heap:=h' }) e c d £ ⟨x,H,I1,ru,⟨rfl,λys hy=>by rw[I.list_inj hy hq];§hx⟩,st',λb hb=>(hf b hb).1⟩⟩
  done:=by
    intro X hP hw hK hc i pins s σ H E I hf st hg;subst hP hw hK;ø⟨xs,hq,hx⟩:=hg;ø⟨its,rv,p,hz⟩:=I.list hq;ø⟨f0,f1,f2,f3,f4,f5⟩:=hf it ¢;have hl:=rv.length;§wpAny_pyNext_list_end (I.ok.hd hc) st p.isList (by simp;omega) λh' eb=>⟨rfl,I.turned (t':=s.toks) (λb o hb e=>eb b o hb e) f0 f1 f3 f4 f5⟩
  self:=λ_ _ _ _ _ st h=>wpAny_pyIter_listiter st h
þ zpg{P:Program}{w:World}{K:Ƒ}{tg:Expr}(a it:Addr):Turn P w K tg (Itt K a) [it] it (λi h=>h.IsTupleIter it a i) where
  mem:=by simp
  obj:=λi h st b hb=>by
    have e:b=it:=by simpa using hb
    subst e;ø⟨o,e,c,d⟩:=st;§⟨o,e,λv z=>by rw[d]at z;cases z⟩
  keep:=λi h h' st k=>st.at λo e=>k it ¢ o e
  item:=by
    intro X hP hw hK hc i pins s σ H E I hf st hg;subst hP hw hK;ø⟨xs,x,hq,hx⟩:=hg;ø⟨its,rv,p,hz⟩:=I.tuple hq;ø⟨u,hu,ru⟩:=rv.get hx;ø⟨f0,f1,f2,f3,f4,f5⟩:=hf it ¢;¤wpAny_pyNext_tuple_item st (show s.heap.IsTuple a its.toArray from p) (x:=u) (by simpa using hu) λh' st' sb=>?_;have I1:Inv X pins σ H { s with heap:=h' }:=I.turned (t':=s.toks) (λb o hb e=>(sb.2 b hb).trans e) f0 f1 f3 f4 f5;ø⟨o,e,c,d⟩:=id st';§⟨u,rfl,zsK (s:={ s with heap:=h' }) e c d £ ⟨x,H,I1,ru,⟨rfl,λys hy=>by rw[I.tuple_inj hy hq];§hx⟩,st',λb hb=>(hf b hb).1⟩⟩
  done:=by
    intro X hP hw hK hc i pins s σ H E I hf st hg;subst hP hw hK;ø⟨xs,hq,hx⟩:=hg;ø⟨its,rv,p,hz⟩:=I.tuple hq;ø⟨f0,f1,f2,f3,f4,f5⟩:=hf it ¢;have hl:=rv.length;§wpAny_pyNext_tuple_end (I.ok.hd hc) st (show s.heap.IsTuple a its.toArray from p) (by simp;omega) λh' eb=>⟨rfl,I.turned (t':=s.toks) (λb o hb e=>eb b o hb e) f0 f1 f3 f4 f5⟩
  self:=λ_ _ _ _ _ st h=>wpAny_pyIter_tupleiter st h
þ zpd{P:Program}{w:World}{K:Ƒ}{tg:Expr}(it:Addr) (lo:Int) (n:Nat):Turn P w K tg (Itr lo n) [it] it (λi h=>IsRangeIter h it (lo+(i:Nat)*1) ((n:Int) - (i:Nat)) 1) where
  mem:=by simp
  obj:=λi h st b hb=>by
    have e:b=it:=by simpa using hb
    subst e;§⟨_,st,λv z=>by
      have z':Data.fields _=Data.cell v:=z;cases z'⟩
  keep:=λi h h' st k=>k it ¢ _ st
  item:=by
    intro X hP hw hK hc i pins s σ H E I hf st hg;subst hP hw hK;ø⟨f0,f1,f2,f3,f4,f5⟩:=hf it ¢;have W:=Walks.range (prog:=X.prog) (w:=X.w) (I.ok.hd hc) it lo 1 n;¤W.item i s _ _ hg st λv h' tk hv st' kk=>?_;ø⟨t,rfl⟩:=hv;have I1:Inv X pins σ H { s with heap:=h',toks:=tk }:=I.turned (λb o hb e=>kk b o (by simpa using hb) e) f0 f1 f3 f4 f5;¤⟨_,rfl,zsK (s:={ s with heap:=h',toks:=tk }) (n:= "range_iterator") st' rfl rfl £ ⟨.int (lo+i),H,I1,⟨t,?_⟩,⟨rfl,rfl⟩,st',λb hb=>(hf b hb).1⟩⟩;rw[Int.mul_one]
  done:=by
    intro X hP hw hK hc i pins s σ H E I hf st hg;subst hP hw hK;ø⟨f0,f1,f2,f3,f4,f5⟩:=hf it ¢;§wpAny_pyNext_range_end (I.ok.hd hc) st (by have:n≤i:=hg;omega) λh' eb=>⟨rfl,I.turned (t':=s.toks) (λb o hb e=>eb b o hb e) f0 f1 f3 f4 f5⟩
  self:=λ_ _ _ _ _ st h=>wpAny_pyIter_rangeiter st h
section
variable {X:Cx}{tg:Expr}
ñ def zAY (K:Ƒ) (tl:TE):TI:=λσ H R=>tl σ H λx H1=>∃a,x= .ref a∧(∃xs,SqL K H1 a xs)∧R (Itl K a) H1
þ zvT{l:Expr}{tl:TE}(hl:PE X l tl):PI X tg l (zAY X.K tl):=by
 intro pins s σ H R I h;¤thn (hl pins s σ H _ I h) λv s1 ⟨x,H1,I1,r1,q1⟩=>?_;ø⟨a,e,⟨xs,hq⟩,q⟩:=q1;subst e;cases r1;ø⟨its,rv,p,hz⟩:=I1.list hq;¤wpAny_pyIter_list p.isList ?_;¤⟨s1.heap.objs.size,[s1.heap.objs.size],_,_,H1,rfl,I1.kept (t':=s1.toks) λb o e=>Heap.get?_push_of_some _ e,zlI a _,⟨_,Heap.get?_push_size _ rfl,rfl,rfl⟩,λb hb=>?_,q⟩;have e:b=s1.heap.objs.size:=by simpa using hb
 subst e;§I1.fpOk (Nat.le_refl _) (I1.hok.fresh (Nat.le_refl _))
þ ztL{pins:List (Addr×Obj)}{σ:St}{H:Hp}{s:Shared}{R:It→Hp→Prop}{E:Value→Shared→Prop}{lo hi:Int}{t u v:Tok}{tk:Nat}(I:Inv X pins σ H s) (h1: -(2 ^ 62)≤lo) (h2:lo<2 ^ 62) (h3: -(2 ^ 62)≤hi) (h4:hi<2 ^ 62)
  (q:R (Itr lo (hi - lo).toNat) H):wpAny (model X.prog X.w) X.A (pyIter (.ref s.heap.objs.size)) (PIE X pins σ tg R) E { s with heap:=s.heap.push { cls:= .type "range",data:= .fields #[.int lo t, .int hi u, .int 1 v] },toks:=tk }:=by
 ¤wpAny_pyIter_range (IsRange.new ..) (small_one h1 h2 h3 h4) ?_;have I1:Inv X pins σ H { s with heap:=s.heap.push { cls:= .type "range",data:= .fields #[.int lo t, .int hi u, .int 1 v] },toks:=tk }:=I.kept λb o e=>Heap.get?_push_of_some _ e;¤⟨(s.heap.push { cls:= .type "range",data:= .fields #[.int lo t, .int hi u, .int 1 v] }).objs.size,[(s.heap.push { cls:= .type "range",data:= .fields #[.int lo t, .int hi u, .int 1 v] }).objs.size],_,_,H,rfl,
  I1.kept (t':=tk) λb o e=>Heap.get?_push_of_some _ e,zpd _ lo (hi - lo).toNat,?_,λb hb=>?_,q⟩
 ·have e1:lo+((0:Nat):Int)*1=lo:=by simp
  have e2:(((hi - lo).toNat:Nat):Int) - ((0:Nat):Int)=Builtin.Range.rangeSize lo hi 1:=by rw[rangeSize_one];split<;>omega
  show IsRangeIter _ _ (lo+((0:Nat):Int)*1) ((((hi - lo).toNat:Nat):Int) - ((0:Nat):Int)) 1;rw[e1,e2];§Heap.get?_push_size _ rfl
 ·have e:b=(s.heap.push { cls:= .type "range",data:= .fields #[.int lo t, .int hi u, .int 1 v] }).objs.size:=by simpa using hb
  subst e;§I1.fpOk (Nat.le_refl _) (I1.hok.fresh (Nat.le_refl _))
ñ def zBR (ta:TA):TI:=λσ H R=>ta σ H λvs H1=>∃j:Int,vs=[.int j]∧ -(2 ^ 62)≤j∧j<2 ^ 62∧R (Itr 0 j.toNat) H1
þ zqE{a:Expr}{ta:TA}{p pos:Pos}(hg:Gl X "range") (hm:X.mg "range" =none) (ha:PA X [a] ta) (hs:starEach [a] X.env=[(false,eval a X.env)]:=by rfl):PI X tg (.Call (.Name "range" p) [a] [] pos) (zBR ta):=by
 intro pins s σ H R I h;¤Call_ (zim I hg hm boot_range (PyProof.Rows.callWith_type1 (thn (ha pos pins s σ H _ I h) λus s1 ⟨vs,H1,I1,r1,q1⟩=>?_) hs rfl));ø⟨j,e,q1,q2,q⟩:=q1;subst e;cases r1 with
 |cons r rr=>
  cases rr;ø⟨t,rfl⟩:=r;§call_range_1 (ztL I1 ¥ ¥ q1 q2 (by simpa using q))
ñ def zCk (wi:TI) (g:TG) (tb:TS):TS:=λD σ H=>wi σ H λJ H1=>∃W:Nat→Nat→St→Hp→Prop,(∃m,W 0 m σ H1)∧ ∀i m σ H,W i m σ H→
 (J.stop i H∧D.nx σ H)∨(J.go i H∧ ∃N:St→Hp→Prop,(∀σ' H',N σ' H'→ ∃m',m'<m∧W (i+1) m' σ' H')∧ ∀x H',J.yld i H x H'→g x σ H' λσ2 H2=>tb { D with nx:=N,ct:=N,bk:=D.nx } σ2 H2)
ñ def zkZ (fp:List Addr) (h:Heap):List (Addr×Obj):=fp.filterMap λb=>(h.get? b).map λo=>(b,o)
þ zfl{fp:List Addr}{h:Heap}{b:Addr}{o:Obj}(hb:b∈fp) (e:h.get? b=some o):(b,o)∈zkZ fp h:=List.mem_filterMap.mpr ⟨b,hb,by rw[e];rfl⟩
þ zqn{fp:List Addr}{h:Heap}{p:Addr×Obj}(hp:p∈zkZ fp h):p.1∈fp∧h.get? p.1=some p.2:=by
 ø⟨b,hb,e⟩:=List.mem_filterMap.mp hp;cases q:h.get? b with
 |none=>rw[q]at e;cases e
 |some o=>
  rw[q]at e;have e':(b,o)=p:=Option.some.inj e;subst e';§⟨hb,q⟩
þ Inv.pinned{pins:List (Addr×Obj)}{σ:St}{H:Hp}{s:Shared}{fp:List Addr}(I:Inv X pins σ H s) (hf:∀b∈fp,zkd X pins H b) (ho:∀b∈fp,∃o,s.heap.get? b=some o∧ ∀v,o.data≠ .cell v):Inv X (pins++zkZ fp s.heap) σ H s:=
 I.pins_of λp hp=>(List.mem_append.mp hp).elim (λz=>I.pin p (List.mem_append_right _ z)) λz=>by
  ø⟨hb,e⟩:=zqn z;ø⟨f0,f1,f2,_⟩:=hf p.1 hb;ø⟨o,e',d⟩:=ho p.1 hb;rw[e]at e';cases e';§⟨e,f0,f1,f2,d⟩
þ Inv.unpinned{pins pl:List (Addr×Obj)}{σ:St}{H:Hp}{s:Shared}(I:Inv X (pins++pl) σ H s):Inv X pins σ H s:=I.pins_of λp hp=>I.pin p (List.mem_append_right _ (List.mem_append_left _ hp))
þ zzV{iter:Expr}{body:List Stmt}{wi:TI}{g:TG}{tb:TS}{pos:Pos}(hp:PassesOwn (model X.prog X.w) X.A X.env X.xe) (hc:X.calm=true) (hi:PI X tg iter wi) (hg:PG X tg g) (hb:PSs X body tb)
  (hs:∀x,foldedSetIterable iter X.env x=pure x:=by intro _;rfl):PS X (.For tg iter body [] pos) (zCk wi g tb):=by
 intro pins s σ H D I h;¤wpAny_For (thn (hi pins s σ H _ I h) λv s1 h1=>thn h1 λitv s2 h2=>?_) hs;ø⟨it,fp,tn,J,H2,e,I2,T,st2,f2,W,⟨m0,w0⟩,turn⟩:=h2;subst e;have stat:∀{H':Hp},(∀b∈fp,H' b=none)→ ∀b∈fp,zkd X pins H' b:=λhn b hb=>⟨hn b hb,(f2 b hb).2⟩;¤codeAny_forLoop_any (λn s'=>∃i σ' H',Inv X pins σ' H' s'∧tn i s'.heap∧(∀b∈fp,H' b=none)∧W i n σ' H') ?_ m0 ⟨0,σ,H2,I2,st2,λb hb=>(f2 b hb).1,w0⟩;rintro n s3 ⟨i,σ3,H3,I3,st3,fr3,w3⟩;rcases turn i n σ3 H3 w3 with⟨stop,qn⟩ |⟨go,N,hN,step⟩
 ·¤wpAny_passesOwn hp (thn (T.done X rfl rfl rfl hc i pins s3 σ3 H3 X.xe I3 (stat fr3) st3 stop) λr s4 ⟨hr,I4⟩=>?_);subst hr;§wpAny_execs_nil ⟨σ3,H3,I4,qn⟩
 ·¤wpAny_passesOwn hp (thn (T.item X rfl rfl rfl hc i pins s3 σ3 H3 X.xe I3 (stat fr3) st3 go) λr s4 ⟨u,hr,h4⟩=>?_);subst hr;¤wpAny_passesOwn hp (thn h4 λ_ s5 ⟨x,H5,I5,r5,y5,st5,fr5⟩=>?_);have I5':=I5.pinned (stat fr5) (T.obj _ _ st5);¤wpAny_passesOwn hp (thn (hg _ s5 σ3 H5 x u _ I5' r5 (step x H5 y5)) λ_ s6 ⟨σ6,H6,I6,q6⟩=>?_);¤wpAny_passesOwn hp (thn (hb _ s6 σ6 H6 _ I6 q6) λf s7 q7=>?_);have again:∀{σ7:St}{H7:Hp},Inv X (pins++zkZ fp s5.heap) σ7 H7 s7→N σ7 H7→ ∃m,m<n∧ ∃i σ' H',Inv X pins σ' H' s7∧tn i s7.heap∧(∀b∈fp,H' b=none)∧W i m σ' H':=λ{σ7 H7} I7 n7=>by
   ø⟨m',hm,w7⟩:=hN σ7 H7 n7;¤⟨m',hm,i+1,σ7,H7,I7.unpinned,T.keep _ _ _ st5 λb hb o e=>(I7.pin (b,o) (List.mem_append_right _ (List.mem_append_right _ (zfl hb e)))).1,λb hb=>?_,w7⟩;ø⟨o,e,d⟩:=T.obj _ _ st5 b hb;§(I7.pin (b,o) (List.mem_append_right _ (List.mem_append_right _ (zfl hb e)))).2.1
  cases f with
  |next=>ø⟨σ7,H7,I7,n7⟩:=q7;§again I7 n7
  |cont=>ø⟨σ7,H7,I7,n7⟩:=q7;§again I7 n7
  |brk=>ø⟨σ7,H7,I7,q7⟩:=q7;§⟨σ7,H7,I7.unpinned,q7⟩
  |ret v=>ø⟨x7,σ7,H7,I7,r7,q7⟩:=q7;§⟨x7,σ7,H7,I7.unpinned,r7,q7⟩
end
ñ abbrev R2:=V→V→Hp→VK→Prop
ñ def OpR (X:Cx) (f:Value→Value→Sem Value) (r:R2):Prop:=
 ∀(pins:List (Addr×Obj)) (s:Shared) (σ:St) (H:Hp) (x y:V) (v u:Value) (Q:VK),Inv X pins σ H s→RelV x v→RelV y u→r x y H Q→
  wpAny (model X.prog X.w) X.A (f v u) (EP X pins σ Q) X.xe s
ñ def UnR (X:Cx) (f:Value→Sem Value) (r:V→Hp→VK→Prop):Prop:=
 ∀(pins:List (Addr×Obj)) (s:Shared) (σ:St) (H:Hp) (x:V) (v:Value) (Q:VK),Inv X pins σ H s→RelV x v→r x H Q→
  wpAny (model X.prog X.w) X.A (f v) (EP X pins σ Q) X.xe s
ñ def CallR (X:Cx) (f:Value) (r:List V→Hp→VK→Prop):Prop:=
 ∀(pins:List (Addr×Obj)) (s:Shared) (σ:St) (H:Hp) (xs:List V) (us:List Value) (Q:VK),Inv X pins σ H s→Vals xs us→r xs H Q→
  wpAny (model X.prog X.w) X.A (call f us) (EP X pins σ Q) X.xe s
ñ def zCr (X:Cx) (r:V→Hp→(Bool→Hp→Prop)→Prop):Prop:=
 ∀(pins:List (Addr×Obj)) (s:Shared) (σ:St) (H:Hp) (x:V) (v:Value) (Q:Bool→Hp→Prop),Inv X pins σ H s→RelV x v→r x H Q→
  wpAny (model X.prog X.w) X.A (truthy v) (TP X pins σ Q) X.xe s
ñ def tOp (r:R2) (ta tb:TE):TE:=λσ H Q=>ta σ H λx H1=>tb σ H1 λy H2=>r x y H2 Q
ñ def tUn (r:V→Hp→VK→Prop) (ta:TE):TE:=λσ H Q=>ta σ H λx H1=>r x H1 Q
ñ def rI (C:Int→Int→Prop) (g:Int→Int→V):R2:=λx y H Q=>∃i j,x= .int i∧y= .int j∧C i j∧Q (g i j) H
ñ def rI0 (g:Int→Int→V):R2:=λx y H Q=>∃i j,x= .int i∧y= .int j∧Q (g i j) H
ñ def rU (g:Int→V):V→Hp→VK→Prop:=λx H Q=>∃i,x= .int i∧Q (g i) H
section
variable {X:Cx}{a b:Expr}{ta tb:TE}{pos:Pos}
þ zBr (ha:PE X a ta) (hb:PE X b tb) {pins:List (Addr×Obj)}{s:Shared}{σ:St}{H:Hp}{R:V→V→Hp→Prop}(I:Inv X pins σ H s)
  (h:ta σ H λx H1=>tb σ H1 λy H2=>R x y H2) {Q:Value→Shared→Prop}{f:Value→Value→Sem Value}
  (hf:∀v u s2 x y H2,Inv X pins σ H2 s2→RelV x v→RelV y u→R x y H2→wpAny (model X.prog X.w) X.A (f v u) Q X.xe s2) :
  wpAny (model X.prog X.w) X.A (eval a X.env) (λv s₁=>wpAny (model X.prog X.w) X.A (eval b X.env) (λu s₂=>wpAny (model X.prog X.w) X.A (f v u) Q X.xe s₂) X.xe s₁) X.xe s:=by
 ¤thn (ha pins s σ H _ I h) λv s1 ⟨x,H1,I1,r1,q1⟩=>?_;¤thn (hb pins s1 σ H1 _ I1 q1) λu s2 ⟨y,H2,I2,r2,q2⟩=>?_;§hf v u s2 x y H2 I2 r1 r2 q2
þ zrB{op:Operator}{r:R2}(ho:OpR X (binaryOp op) r) (ha:PE X a ta) (hb:PE X b tb):PE X (.BinOp a op b pos) (tOp r ta tb):=by
 intro pins s σ H Q I h;§wpAny_BinOp (zBr ha hb I h λv u s2 x y H2 I2 rx ry q=>ho pins s2 σ H2 x y v u Q I2 rx ry q)
þ zBM{op:UnaryOp}{r:V→Hp→VK→Prop}(ho:UnR X (unaryOp op) r) (ha:PE X a ta):PE X (.UnaryOp op a pos) (tUn r ta):=by
 intro pins s σ H Q I h;§UnaryOp_ (thn (ha pins s σ H _ I h) λv s1 ⟨x,H1,I1,r1,q1⟩=>ho pins s1 σ H1 x v Q I1 r1 q1)
þ opI{f:Value→Value→Sem Value}{C:Int→Int→Prop}{g:Int→Int→Int}
  (rule:∀(i j:Int) (t u:Tok) (s:Shared) (Q:Value→Shared→Prop) (E:Value→Shared→Prop),C i j→Q (.int (g i j) s.toks) { s with toks:=s.toks+1 }→wpAny (model X.prog X.w) X.A (f (.int i t) (.int j u)) Q E s) :
  OpR X f (rI C λi j=> .int (g i j)):=by
 intro pins s σ H x y v u Q I rx ry h;ø⟨i,j,rfl,rfl,hc,q⟩:=h;ø⟨t,rfl⟩:=rx;ø⟨t',rfl⟩:=ry;§rule i j t t' s _ _ hc ⟨.int (g i j),H,I.tok _,⟨_,rfl⟩,q⟩
þ zCe{f:Value→Value→Sem Value}{g:Int→Int→Int}
  (rule:∀(i j:Int) (t u:Tok) (s:Shared) (Q:Value→Shared→Prop) (E:Value→Shared→Prop),Q (.int (g i j) s.toks) { s with toks:=s.toks+1 }→wpAny (model X.prog X.w) X.A (f (.int i t) (.int j u)) Q E s) :
  OpR X f (rI0 λi j=> .int (g i j)):=by
 intro pins s σ H x y v u Q I rx ry h;ø⟨i,j,rfl,rfl,q⟩:=h;ø⟨t,rfl⟩:=rx;ø⟨t',rfl⟩:=ry;§rule i j t t' s _ _ ⟨.int (g i j),H,I.tok _,⟨_,rfl⟩,q⟩
þ zAv{f:Value→Value→Sem Value}{g:Int→Int→Bool}
  (rule:∀(i j:Int) (t u:Tok) (s:Shared) (Q:Value→Shared→Prop) (E:Value→Shared→Prop),Q (.bool (g i j)) s→wpAny (model X.prog X.w) X.A (f (.int i t) (.int j u)) Q E s) :
  OpR X f (rI0 λi j=> .bl (g i j)):=by
 intro pins s σ H x y v u Q I rx ry h;ø⟨i,j,rfl,rfl,q⟩:=h;ø⟨t,rfl⟩:=rx;ø⟨t',rfl⟩:=ry;§rule i j t t' s _ _ ⟨.bl (g i j),H,I,rfl,q⟩
ñ def ziZ (i j:Int):Prop:=0<j∧j<1073741824
ñ def zAU (i j:Int):Prop:=0≤j∧j≤1000000∧i.natAbs<2 ^ 64
ñ def CMul (i j:Int):Prop:=(-(2 ^ 64)<i∧i<2 ^ 64)∨(-(2 ^ 64)<j∧j<2 ^ 64)
þ CMul.ok{i j:Int}(h:CMul i j):IntMulOk i j:=by
 rcases h with⟨h1,h2⟩ |⟨h1,h2⟩
 ·§.of_left (intBits_le_64 h1 h2)
 ·§.of_right (intBits_le_64 h1 h2)
þ op_add:OpR X (binaryOp .Add) (rI0 λi j=> .int (i+j)):=zCe λ_ _ _ _ _ _ _ q=>add_int q
þ zAm:OpR X (binaryOp .Sub) (rI0 λi j=> .int (i - j)):=zCe λ_ _ _ _ _ _ _ q=>sub_int q
þ zxV:OpR X (binaryOp .Mult) (rI CMul λi j=> .int (i*j)):=opI λ_ _ _ _ _ _ _ hc q=>mul_int q hc.ok
þ zvE:OpR X (binaryOp .FloorDiv) (rI ziZ λi j=> .int (i / j)):=opI λi j _ _ _ _ _ hc q=>by
 have h1:(0:Int)<j:=hc.1;have h2:j<1073741824:=hc.2;§floordiv_int ¥ (by rw[Int.fdiv_eq_ediv_of_nonneg i ¥];§q) (.inl (PyProof.noPylong_small ¥))
þ zzv:OpR X (binaryOp .Mod) (rI (λ_ j=>0<j) λi j=> .int (i % j)):=opI λi j _ _ _ _ _ hc q=>by
 have h1:(0:Int)<j:=hc;§mod_int' ¥ (by rw[Int.fmod_eq_emod_of_nonneg i ¥];§q)
þ zyn:OpR X (binaryOp .Pow) (rI zAU λi j=> .int (i ^ j.toNat)):=opI λ_ _ _ _ _ _ _ hc q=>pow_int_small hc.1 hc.2.1 hc.2.2 q
þ unI{f:Value→Sem Value}{g:Int→Int}
  (rule:∀(i:Int) (t:Tok) (s:Shared) (Q:Value→Shared→Prop) (E:Value→Shared→Prop),Q (.int (g i) s.toks) { s with toks:=s.toks+1 }→wpAny (model X.prog X.w) X.A (f (.int i t)) Q E s) :
  UnR X f (rU λi=> .int (g i)):=by
 intro pins s σ H x v Q I rx h;ø⟨i,rfl,q⟩:=h;ø⟨t,rfl⟩:=rx;§rule i t s _ _ ⟨.int (g i),H,I.tok _,⟨_,rfl⟩,q⟩
þ zyc:UnR X (unaryOp .USub) (rU λi=> .int (-i)):=unI λ_ _ _ _ _ q=>neg_int q
end
section
variable {X:Cx}{a b c:Expr}{ta tb tc:TE}{pos:Pos}
þ zlk{pins:List (Addr×Obj)}{σ:St}{H:Hp}{s:Shared}{Q:VK}{k k':Bool}(I:Inv X pins σ H s) (q:Q (.bl k) H) (e:k=k'):EP X pins σ Q (.bool k') s:=by
 subst e;§⟨.bl k,H,I,rfl,q⟩
þ zBm:OpR X (compareOp .Lt) (rI0 λi j=> .bl (decide (i<j))):=zAv λ_ _ _ _ _ _ _ q=>lt_int q
þ op_le:OpR X (compareOp .LtE) (rI0 λi j=> .bl (decide (i≤j))):=zAv λ_ _ _ _ _ _ _ q=>le_int q
þ zya:OpR X (compareOp .Gt) (rI0 λi j=> .bl (decide (j<i))):=zAv λ_ _ _ _ _ _ _ q=>gt_int q
þ zAC:OpR X (compareOp .GtE) (rI0 λi j=> .bl (decide (j≤i))):=zAv λ_ _ _ _ _ _ _ q=>ge_int q
þ op_in_str:OpR X (compareOp .In) (λx y H Q=>∃i j,x= .str i∧y= .str j∧Q (.bl (!(Builtin.Str.occurrences j i 0 j.length 1).isEmpty)) H):=by
 intro pins s σ H x y v u Q I rx ry h;ø⟨i,j,rfl,rfl,q⟩:=h;ø⟨t,rfl⟩:=rx;ø⟨t',rfl⟩:=ry;§in_str (zlk I q rfl)
þ op_isN:OpR X (compareOp .Is) (λx y H Q=>y= .non∧Q (.bl (decide (x= .non))) H):=by
 intro pins s σ H x y v u Q I rx ry h;ø⟨rfl,q⟩:=h;cases ry;¤is_none_gen (zlk I q ?_);cases x<;>first
  | (cases rx;rfl)
  | (ø⟨t,rfl⟩:=rx;rfl)
þ op_notN:OpR X (compareOp .IsNot) (λx y H Q=>y= .non∧Q (.bl (!decide (x= .non))) H):=by
 intro pins s σ H x y v u Q I rx ry h;ø⟨rfl,q⟩:=h;cases ry;¤isnot_none_gen (zlk I q ?_);cases x<;>first
  | (cases rx;rfl)
  | (ø⟨t,rfl⟩:=rx;rfl)
þ op_notin_str:OpR X (compareOp .NotIn) (λx y H Q=>∃i j,x= .str i∧y= .str j∧Q (.bl (!(!(Builtin.Str.occurrences j i 0 j.length 1).isEmpty))) H):=by
 intro pins s σ H x y v u Q I rx ry h;ø⟨i,j,rfl,rfl,q⟩:=h;ø⟨t,rfl⟩:=rx;ø⟨t',rfl⟩:=ry;§notIn_str (zlk I q rfl)
þ OpR.or{f:Value→Value→Sem Value}{r r':R2}(h:OpR X f r) (h':OpR X f r'):OpR X f (λx y H Q=>r x y H Q∨r' x y H Q):=by
 intro pins s σ H x y v u Q I rx ry q;rcases q with q |q
 ·§h pins s σ H x y v u Q I rx ry q
 ·§h' pins s σ H x y v u Q I rx ry q
þ nomark (b:Expr) {op:CmpOp}(h:op≠ .In:=by decide) (h2:op≠ .NotIn:=by decide):behindInMarks op b=false:=by
 have e1:(op == CmpOp.In)=false:=by cases op<;>first |rfl |§absurd rfl h
 have e2:(op == CmpOp.NotIn)=false:=by cases op<;>first |rfl |§absurd rfl h2
 cases b<;>simp [behindInMarks,e1,e2]
þ zwb{op:CmpOp}{r:R2}(ho:OpR X (compareOp op) r) (ha:PE X a ta) (hb:PE X b tb) (hm:behindInMarks op b=false):PE X (.Compare a [op] [b] pos) (tOp r ta tb):=by
 intro pins s σ H Q I h;§wpAny_Compare1 (zBr ha hb I h λv u s2 x y H2 I2 rx ry q=>ho pins s2 σ H2 x y v u Q I2 rx ry q) hm
ñ def zBC (t:TE):TT:=λσ H Q=>t σ H λx H'=>∃k,x= .bl k∧Q k H'
þ zwv{op:CmpOp}{r:R2}(ho:OpR X (compareOp op) r) (ha:PE X a ta) (hb:PE X b tb) (hm:behindInMarks op b=false):PT X (.Compare a [op] [b] pos) (zBC (tOp r ta tb)):=by
 intro pins s σ H Q I h;¤wpAny_isTrue_Compare1 (thn (ha pins s σ H _ I h) λv s1 ⟨x,H1,I1,r1,q1⟩=>thn (hb pins s1 σ H1 _ I1 q1) λu s2 ⟨y,H2,I2,r2,q2⟩=>
  thn (ho pins s2 σ H2 x y v u _ I2 r1 r2 q2) λc s3 ⟨z,H3,I3,r3,k,e,q3⟩=>?_) hm
 subst e;cases r3;§wpAny_truthy_bool ⟨H3,I3,q3⟩
ñ def zyP (r r':R2) (ta tb tc:TE):TE:=λσ H Q=>ta σ H λx H1=>tb σ H1 λy H2=>r x y H2 λz H3=>∃k,z= .bl k∧
 (if k=true then tc σ H3 λw' H4=>r' y w' H4 Q else Q (.bl false) H3)
þ zue{op op':CmpOp}{r r':R2}(ho:OpR X (compareOp op) r) (ho':OpR X (compareOp op') r') (ha:PE X a ta) (hb:PE X b tb) (hc:PE X c tc)
  (hm:lastMarks [op,op'] [b,c]=false:=by with_unfolding_all rfl):PE X (.Compare a [op,op'] [b,c] pos) (zyP r r' ta tb tc):=by
 intro pins s σ H Q I h;¤Compare_chain (thn (ha pins s σ H _ I h) λv s1 ⟨x,H1,I1,r1,q1⟩=>chain_link (thn (hb pins s1 σ H1 _ I1 q1) λu s2 ⟨y,H2,I2,r2,q2⟩=>
  thn (ho pins s2 σ H2 x y v u _ I2 r1 r2 q2) λd s3 ⟨z,H3,I3,r3,k,e,q3⟩=>?_)) hm
 subst e;cases r3;¤wpAny_truthy_bool ?_;cases k with
 |false=>§ite_ff ⟨.bl false,H3,I3,rfl,q3⟩
 |true=>§ite_tt (chain_last (thn (hc pins s3 σ H3 _ I3 q3) λw' s4 ⟨z',H4,I4,r4,q4⟩=>ho' pins s4 σ H4 y z' u w' Q I4 r2 r4 q4))
ñ def zAr (K:Ƒ) (x:V) (H:Hp) (k:Bool):Prop:=
 match x with
 | .non=>k=false
 | .bl b=>k=b
 | .int i=>k=(i != 0)
 | .str y=>y.length≤sizeLine∧k=((y.length:Int) != 0)
 | .byt y=>y.size≤sizeLine∧k=((y.size:Int) != 0)
 | .ref p=>(∃xs,SqL K H p xs∧k= !xs.isEmpty)∨(∃xs,SqT K H p xs∧k= !xs.isEmpty)∨ ∃kvs,H p=some (.dK kvs)∧k= !kvs.isEmpty
 |_=>False
þ zpr{κ:Type}{kvs:List (κ×V)}{vs:List (κ×Value)}(r:KV kvs vs):(!vs.isEmpty)= !kvs.isEmpty:=by
 cases r<;>rfl
þ zjc{xs:List V}{its:List Value}(r:Vals xs its):(!its.toArray.isEmpty)= !xs.isEmpty:=by
 cases r<;>simp
þ ziD:(sizeLine:Nat)<2 ^ 63:=by rw[sizeLine_eq];decide
þ zva:zCr X (λx H Q=>∃k,zAr X.K x H k∧Q k H):=by
 intro pins s σ H x v Q I rx h;ø⟨k,e,q⟩:=h;have hl:=ziD;have hs:sizeLine=16777216:=sizeLine_eq;cases x with
 |non=>
  cases rx;have e':k=false:=e;subst e';§truthy_none ⟨H,I,q⟩
 |bl b=>
  cases rx;have e':k=b:=e;subst e';§wpAny_truthy_bool ⟨H,I,q⟩
 |int i=>
  ø⟨t,rfl⟩:=rx;have e':k=(i != 0):=e;subst e';§PySem.P.truthy_int ⟨H,I,q⟩
 |str y=>
  ø⟨t,rfl⟩:=rx;obtain⟨hy,e'⟩:y.length≤sizeLine∧k=((y.length:Int) != 0):=e;subst e';§PySem.P.truthy_str ¥ ⟨H,I.tok _,q⟩
 |byt y=>
  ø⟨t,rfl⟩:=rx;obtain⟨hy,e'⟩:y.size≤sizeLine∧k=((y.size:Int) != 0):=e;subst e';§PySem.W.truthy_bytes ¥ ⟨H,I.tok _,q⟩
 |ref p=>
  cases rx;have e':(∃xs,SqL X.K H p xs∧k= !xs.isEmpty)∨(∃xs,SqT X.K H p xs∧k= !xs.isEmpty)∨ ∃kvs,H p=some (.dK kvs)∧k= !kvs.isEmpty:=e;rcases e' with⟨xs,hx,e'⟩ |⟨xs,hx,e'⟩ |⟨kvs,hx,e'⟩
  ·subst e';ø⟨its,r,pl,hz⟩:=I.list hx;have hlen:=r.length;§wpAny_truthy_list pl.isList (by ŝ[List.size_toArray];omega) ⟨H,I.tok _,by rw[zjc r];§q⟩
  ·subst e';ø⟨its,r,pl,hz⟩:=I.tuple hx;have hlen:=r.length;§truthy_tuple pl (by ŝ[List.size_toArray];omega) ⟨H,I.tok _,by rw[zjc r];§q⟩
  ·subst e';obtain⟨hz,hS,vs,r,m⟩:kvs.length≤sizeLine∧(p == sysModules)=false∧ ∃vs,KV kvs vs∧s.heap.DictOf (zbD X.prog X.w) p vs:=I.hok p _ hx;have hlen:kvs.length=vs.length:=Paired.length r;§wpAny_truthy_dict hS m ¥ ⟨H,I.tok _,by rw[zpr r];§q⟩
 |_=>§(show False from e).elim
þ ztT (ha:PE X a ta) (he:∀whole,isTrue a X.env whole=(do let v ←whole;standAt a.pos;holding [v] (truthy v))) :
  PT X a (λσ H Q=>ta σ H λx H'=>∃k,zAr X.K x H' k∧Q k H'):=by
 intro pins s σ H Q I h;§isTrue_plain (thn (ha pins s σ H _ I h) λv s1 ⟨x,H1,I1,r1,q1⟩=>zva pins s1 σ H1 x v Q I1 r1 q1) (he _)
þ op_add_str:OpR X (binaryOp .Add) (λx y H Q=>∃i j,x= .str i∧y= .str j∧i.length+j.length≤sizeLine∧Q (.str (i++j)) H):=by
 intro pins s σ H x y v u Q I rx ry h;ø⟨i,j,rfl,rfl,hz,q⟩:=h;ø⟨t,rfl⟩:=rx;ø⟨t',rfl⟩:=ry;§add_str (λt' tk=>⟨.str (i++j),H,I.tok _,⟨_,rfl⟩,q⟩) hz
þ ziw{x:V}{us:List Value}(r:Vals [x] us):∃u,us=[u]∧RelV x u:=by
 cases r with
 |cons r1 r2=>cases r2;§⟨_,rfl,r1⟩
þ zyw{x y:V}{us:List Value}(r:Vals [x,y] us):∃u w',us=[u,w']∧RelV x u∧RelV y w':=by
 cases r with
 |cons r1 r2=>
  cases r2 with
  |cons r3 r4=>cases r4;§⟨_,_,rfl,r1,r3⟩
þ zrD (hc:X.calm=true):CallR X (.builtin "min") (λxs H Q=>∃i j,xs=[.int i, .int j]∧Q (.int (if j<i then j else i)) H):=by
 intro pins s σ H xs us Q I r h;ø⟨i,j,rfl,q⟩:=h;ø⟨u,w',rfl,⟨t,rfl⟩,⟨t',rfl⟩⟩:=zyw r;¤min_two_ints (I.ok.hd hc) λh' tk k=>⟨_,H,I.kept k,?_,q⟩;by_cases hj:j<i
 ·rw[if_pos hj,if_pos hj];§⟨_,rfl⟩
 ·rw[if_neg hj,if_neg hj];§⟨_,rfl⟩
þ zqk:CallR X (.type "int") (λxs H Q=>(∃i,xs=[.int i]∧Q (.int i) H)∨ ∃k,xs=[.bl k]∧Q (.int (if k then 1 else 0)) H):=by
 intro pins s σ H xs us Q I r h;rcases h with⟨i,rfl,q⟩ |⟨k,rfl,q⟩
 ·ø⟨u,rfl,t,rfl⟩:=ziw r;§call_int_int ⟨.int i,H,I,⟨_,rfl⟩,q⟩
 ·ø⟨u,rfl,r1⟩:=ziw r;cases r1;§call_int_bool ⟨.int (if k then 1 else 0),H,I.tok _,⟨_,rfl⟩,q⟩
end
structure ObjM (h:Heap) (x dx C:Addr) (mA:Str→Option Value):Prop where
  obj:h.get? x=some (PySem.W.instObj C dx)
  ns:h.Ns1 dx mA
  ne:dx≠x
þ zsl{h:Heap}{dx:Addr}{mA:Str→Option Value}(n:h.Ns1 dx mA):∃od,h.get? dx=some od∧ ∀name,PySem.W.lookIn name od=some (mA name):=by
 ø⟨o,es,ep,ho,hd,hk,_,hm⟩:=n;¤⟨o,ho,λname=>?_⟩;have e:=hm name;unfold nsFind findBy at e;rw[←Array.find?_toList]at e;unfold PySem.W.lookIn;rw[hd];dsimp only;split
 ·rename_i y q;rw[q]at e;§congrArg some e
 ·rename_i q;rw[q]at e;have a:es.toList.any (·.refKey)=false:=by
   rw[List.any_eq_false];intro y hy;ø⟨z,t,hkey⟩:=hk y (Array.mem_toList_iff.mp hy);simp [DictEntry.refKey,hkey]
  have a':¬es.toList.any (·.refKey)=true:=by rw[a];§Bool.false_ne_true
  rw[if_neg a'];§congrArg some e
þ ObjM.look{h:Heap}{x dx C:Addr}{mA:Str→Option Value}(I:ObjM h x dx C mA):∃od,PySem.W.InstAt h x (PySem.W.instObj C dx) C (some od)∧ ∀name,PySem.W.lookIn name od=some (mA name):=
 let ⟨od,ho,hl⟩:=zsl I.ns
 ⟨od,⟨I.obj,rfl,rfl,ho⟩,hl⟩
section
variable {P:Program}{w:World}{H:Hp}{h:Heap}{a C dx:Addr}{fs:List (Str×V)}
þ zxf (hok:HOk P w H h) (e:H a=some (.ins C dx fs)):∃mA,ObjM h a dx C mA∧(∀f,RelO (fs.lookup f) (mA f))∧PySem.Within mA (fs.map (·.1))∧fs.length≤1000∧H dx=some (.own a):=by
 ø⟨d,z,ne,ob,mA,n,r,q⟩:=(show ObjOk P w H h a (.ins C dx fs) from hok a _ e);§⟨mA,⟨ob,n,ne⟩,r,q,z,d⟩
end
structure Cls (K:Ƒ) (C:Addr):Prop where
  pg:PySem.W.plainGet K C Str.empty=true
  hd:PySem.W.hasDictIn K C=true
  po:PySem.W.plainOver K C=true
  sa:PySem.W.findIn K (.ref C) "__setattr__" =some (some (.builtin "object.__setattr__"))
þ Cls.get{K:Ƒ}{C:Addr}(c:Cls K C) (f:Str):PySem.W.plainGet K C f=true:=c.pg
section
variable {X:Cx}{pins:List (Addr×Obj)}{σ:St}{H:Hp}{s:Shared}{A:Around}{E:Value→Shared→Prop}{Q:Value→Shared→Prop}{c:Value}{b:Bool}
inductive TyOf (K:Ƒ) (H:Hp):V→Value→Prop where
  |non:TyOf K H .non (.type "NoneType")
  |bl (x:Bool):TyOf K H (.bl x) (.type "bool")
  |int (i:Int):TyOf K H (.int i) (.type "int")
  |str (x:Str):TyOf K H (.str x) (.type "str")
  |flt (x:UInt64):TyOf K H (.flt x) (.type "float")
  |lst {a:Addr}{xs:List V}(e:H a=some (.lst xs)):TyOf K H (.ref a) (.type "list")
  |frz {a:Addr}{o:Obj}{xs:List V}(e:H a=some (.frz o (.lst xs))):TyOf K H (.ref a) (.type "list")
  |tup {a:Addr}{xs:List V}(e:H a=some (.tup xs)):TyOf K H (.ref a) (.type "tuple")
  |dK {a:Addr}{kvs:List (Key×V)}(e:H a=some (.dK kvs)):TyOf K H (.ref a) (.type "dict")
  |dT {a:Addr}{kvs:List (List Key×V)}(e:H a=some (.dT kvs)):TyOf K H (.ref a) (.type "dict")
  |ins {a C dx:Addr}{fs:List (Str×V)}(e:H a=some (.ins C dx fs)) (cl:Cls K C) (ha:PySem.W.findIn K (.ref C) "__class__" =some (some (.builtin "object.__class__")))
      (hn:PySem.W.specialIn K (.builtin "object.__class__") "__get__" =some (some (.builtin "getset_descriptor.__get__"))) (htk:PySem.W.takesIn K (.builtin "object.__class__")=some true)
      (hm:PySem.W.mroIn K C (.type "object")=some true):TyOf K H (.ref a) (.ref C)
þ zqB{x:V}{u t:Value}(I:Inv X pins σ H s) (rx:RelV x u) (ty:TyOf X.K H x t) (e:PySem.W.kitOne X.K t c=some b) (h:∀tk,Q (.bool b) { s with toks:=tk }) :
  wpAny (model X.prog X.w) A (call (.builtin "isinstance") [u,c]) Q E s:=by
 cases ty with
 |non=>cases(show u=Value.none from rx);§PySem.W.kia_one PySem.W.kitx_none I.kIn True.intro e (λz=>nomatch z) h
 |bl y=>cases(show u=Value.bool y from rx);§PySem.W.kia_one PySem.W.kitx_bool I.kIn True.intro e (λz=>nomatch z) h
 |int i=>ø⟨t,q⟩:=(show ∃t,u=Value.int i t from rx);cases q;§PySem.W.kia_one PySem.W.kitx_int I.kIn True.intro e (λz=>nomatch z) h
 |str y=>ø⟨t,q⟩:=(show ∃t,u=Value.str y t from rx);cases q;§PySem.W.kia_one PySem.W.kitx_str I.kIn True.intro e (λz=>nomatch z) h
 |flt y=>ø⟨t,q⟩:=(show ∃t,u=Value.float y t from rx);cases q;§PySem.W.kia_one PySem.W.kitx_float I.kIn True.intro e (λz=>nomatch z) h
 | @lst a xs ea=>
  cases(show u=Value.ref a from rx);ø⟨_,_,n,_,h1⟩:=(show ObjOk X.prog X.w H s.heap a (.lst xs) from I.hok a _ ea);§PySem.W.kia_one PySem.W.kitx_list I.kIn ⟨_,h1,rfl⟩ e (λz=>nomatch z) h
 | @frz a ob xs ea=>
  cases(show u=Value.ref a from rx);ø⟨_,_,_,n,_,h1⟩:=(show ObjOk X.prog X.w H s.heap a (.frz ob (.lst xs)) from I.hok a _ ea);§PySem.W.kia_one PySem.W.kitx_list I.kIn ⟨_,h1,rfl⟩ e (λz=>nomatch z) h
 | @tup a xs ea=>
  cases(show u=Value.ref a from rx);ø⟨_,_,_,p⟩:=(show ObjOk X.prog X.w H s.heap a (.tup xs) from I.hok a _ ea);ø⟨o,h1,h2,_⟩:=p;§PySem.W.kia_one PySem.W.kitx_tuple I.kIn ⟨o,h1,h2⟩ e (λz=>nomatch z) h
 | @dK a kvs ea=>
  cases(show u=Value.ref a from rx);ø⟨_,_,vs,_,p⟩:=(show ObjOk X.prog X.w H s.heap a (.dK kvs) from I.hok a _ ea);ø⟨o,es,ep,h1,h2,_⟩:=p;§PySem.W.kia_one PySem.W.kitx_dict I.kIn ⟨o,h1,h2.1⟩ e (λz=>nomatch z) h
 | @dT a kvs ea=>
  cases(show u=Value.ref a from rx);ø⟨_,_,xs,_,o,es,ep,h1,h2,_⟩:=(show ObjOk X.prog X.w H s.heap a (.dT kvs) from I.hok a _ ea);§PySem.W.kia_one PySem.W.kitx_dict I.kIn ⟨o,h1,h2.1⟩ e (λz=>nomatch z) h
 | @ins a C dx fs ea cl ha hn htk hm=>
  cases(show u=Value.ref a from rx);ø⟨mA,O,_⟩:=zxf I.hok ea;ø⟨od,J,_⟩:=O.look;§PySem.W.kia_one (PySem.W.kitx_own (cl.get _) cl.hd ha hn htk hm) I.kIn J e (λz=>nomatch z) h
end
structure Room (k:Nat) (A:Around):Prop where
  hd:A.handled=none
  dp:A.depth+3*k+5<recursionLimit
  un:A.units+16*k+200<cLine
þ Room.deeper{k:Nat}{A:Around}(r:Room (k+1) A) (env:Env):Room k (A.deeper env):=
 ⟨r.hd,by have:=r.dp;show A.depth+1+3*k+5<_;omega,by have:=r.un;show A.units+3+16*k+200<_;omega⟩
þ Room.depth{k:Nat}{A:Around}(r:Room k A):A.depth<recursionLimit:=by have:=r.dp;omega
þ Room.units{k:Nat}{A:Around}(r:Room k A):A.units+64<cLine:=by have:=r.un;omega
ñ def zCN:TA:=λ_ H Q=>Q [] H
ñ def zAN (ta:TE) (tr:TA):TA:=λσ H Q=>ta σ H λx H1=>tr σ H1 λxs H2=>Q (x::xs) H2
section
variable {X:Cx}{e:Expr}{es:List Expr}{te:TE}{t:TA}{pos:Pos}
þ pa_nil:PA X [] zCN:=λ_ _ _ _ H Q I h=>Calls.spliced_nil ⟨[],H,I, .nil,h⟩
þ zdy (ha:PE X e te) (hr:PA X es t) (hs:starEach (e::es) X.env=(false,eval e X.env)::starEach es X.env:=by rfl):PA X (e::es) (zAN te t):=by
 intro pos pins s σ H Q I h;rw[hs];show wpAny _ _ (spliced ((false,eval e X.env)::backTo pos (starEach es X.env))) _ _ s;¤Calls.spliced_cons (thn (ha pins s σ H _ I h) λu s1 ⟨x,H1,I1,r1,q1⟩=>?_);§thn (hr pos pins s1 σ H1 _ I1 q1) λus s2 ⟨xs,H2,I2,r2,q2⟩=>⟨x::xs,H2,I2, .cons r1 r2,q2⟩
ñ def zCm (t:TA):TE:=λσ H Q=>t σ H λxs H1=>xs.length≤sizeLine∧ ∀p,H1 p=none→Q (.ref p) (upd H1 p (.tup xs))
ñ def zDl (t:TA):TE:=λσ H Q=>t σ H λxs H1=>xs.length≤sizeLine∧ ∀p,H1 p=none→Q (.ref p) (upd H1 p (.lst xs))
þ zyy{x1}(h:PA X es t):PE X (.Tuple es x1 pos) (zCm t):=by
 intro pins s σ H Q I hq;¤wpAny_Tuple_spliced (thn (h pos pins s σ H _ I hq) λus s1 ⟨xs,H1,I1,r,z,q⟩=>⟨by rw[←r.length];§z,?_⟩);have hf:H1 s1.heap.objs.size=none:=I1.hok.fresh (Nat.le_refl _);¤⟨.ref s1.heap.objs.size,upd H1 s1.heap.objs.size (.tup xs),I1.laid (t':=s1.toks) (λb u e=>Heap.get?_push_of_some _ e) (Nat.le_refl _) ?_,rfl,q _ hf⟩;§⟨z,us,r,⟨_,Heap.get?_push_size _ rfl,rfl,_,rfl⟩⟩
þ zxJ (h:PA X es t):PE X (.List es pos) (zDl t):=by
 intro pins s σ H Q I hq;¤wpAny_List_spliced (thn (h pos pins s σ H _ I hq) λus s1 ⟨xs,H1,I1,r,z,q⟩=>⟨by rw[←r.length];§z,?_⟩);have hf:H1 s1.heap.objs.size=none:=I1.hok.fresh (Nat.le_refl _);¤⟨.ref s1.heap.objs.size,upd H1 s1.heap.objs.size (.lst xs),I1.laid (t':=s1.toks) (λb u e=>Heap.get?_push_of_some _ e) (Nat.le_refl _) ?_,rfl,q _ hf⟩;§⟨z,us,0,r,Heap.get?_push_size _ rfl⟩
end
ñ abbrev Sp:=List V→Hp→VK→XK→Prop
ñ abbrev CXT:=List Env→Hp→Shared→XK→Value→Shared→Prop
structure Env0 (P:Program) (w:World) (K:Ƒ) (mg:Str→Option Value) (base:Heap) (A:Around) (outer:List Env) (s:Shared) (H:Hp):Prop where
  frames:A.frames=some outer
  mod:Mod K mg base
  bs:∀b o,base.get? b=some o→s.heap.get? b=some o∧H b=none
  bsz:base.objs.size≤s.heap.objs.size
  funs:s.heap.FunFrames base outer
  frf:∀b∈frs outer,H b=none
  hok:HOk P w H s.heap
  bare:AllBare s.gens
ñ def CE (outer:List Env) (P:Program) (w:World) (H:Hp) (s:Shared) (Q:VK) (u:Value) (s':Shared):Prop:=
 ∃v H',s'.os=s.os∧AllBare s'.gens∧Un (frs outer) [] H H' s.heap s'.heap∧HOk P w H' s'.heap∧RelV v u∧Q v H'
ñ def CR (CX:CXT) (outer:List Env) (P:Program) (w:World) (H:Hp) (s:Shared) (Q:VK) (E:XK) (r:Result) (s':Shared):Prop:=
 match r with
 | .ok (.ret u)=>CE outer P w H s Q u s'
 | .ok _=>False
 | .error e=>CX outer H s E e s'
structure FnOk (P:Program) (w:World) (K:Ƒ) (mg:Str→Option Value) (base:Heap) (CX:CXT) (k:Nat) (f:Addr) (fd:FuncData) (ps:List Str) (sp:Sp):Prop where
  len:∀vs H Q E,sp vs H Q E→vs.length=ps.length
  run:∀(A:Around) (outer:List Env) (s:Shared) (H:Hp) (args:Args) (us:List Value) (vs:List V) (Q:VK) (E:XK),Room k A→Env0 P w K mg base A outer s H→BindsTo s fd args (ps.zip us)→Vals vs us→sp vs H Q E→
    codeAny (model P w) A (.call (.ref f) args) (CR CX outer P w H s Q E) s
section
variable {X:Cx}{pins:List (Addr×Obj)}{σ:St}{H:Hp}{s:Shared}
þ Inv.env0 (I:Inv X pins σ H s):Env0 X.prog X.w X.K X.mg X.base X.A X.stack s H:=
 ⟨I.ok.frames,I.ok.mod,I.bs,Nat.le_trans I.ok.bsz I.sz,I.stack,I.stkFree,I.hok,I.bare⟩
end
ñ def Binds (K:Ƒ) (fd:FuncData) (ps:List Str) (ds:List Value):Prop:=
 ∀(s:Shared) (us:List Value),K.In s.heap→(us++ds).length=ps.length→BindsTo s fd ⟨us,[]⟩ (ps.zip (us++ds))
þ Binds.all{K:Ƒ}{fd:FuncData}{ps:List Str}(h:∀us:List Value,us.length=ps.length→bindArgs fd ⟨us,[]⟩=pure (ps.zip us)):Binds K fd ps []:=λs us _ hl=>by
 rw[List.append_nil]at hl⊢;§.of_eq (h us hl)
structure FnScope (N P:List Str) (sc:Scope):Prop where
  kind:sc.kind= .function
  co:sc.isCoroutine=false
  gen:sc.isGenerator=false
  nd:N.Nodup
  pre:N.take P.length=P
  par:∀x∈P,sc.names.lookup x=some .local∨sc.names.lookup x=some .cell
  nofree:∀y∈sc.names,y.2≠ .free
þ zku{kindOf:Str→Option NameKind}{x:Str}:∀{binds:List (Str×Value)}{m:Str→Option Value},(∀v,(x,v)∉binds)→bindL kindOf binds m x=m x
 | [],_,_=>rfl
 | (n,v)::r,m,h=>by
  unfold bindL;rw[zku λw hw=>h w (List.mem_cons_of_mem _ hw)];split
  ·have:x≠n:=by rintro rfl;§h v List.mem_cons_self
   simp [this]
  ·rfl
þ zkn{kindOf:Str→Option NameKind}{x:Str}:∀{binds:List (Str×Value)}{m:Str→Option Value},(∀v,(x,v)∉binds)→bindC kindOf binds m x=m x
 | [],_,_=>rfl
 | (n,v)::r,m,h=>by
  unfold bindC;rw[zkn λw hw=>h w (List.mem_cons_of_mem _ hw)];split
  ·rfl
  ·have:x≠n:=by rintro rfl;§h v List.mem_cons_self
   simp [this]
þ zkH{kindOf:Str→Option NameKind}{x:Str}{v:Value}:∀{P:List Str}{vs:List Value}{i:Nat}{m:Str→Option Value},P.Nodup→P[i]? =some x→vs[i]? =some v→kindOf x=some .local→
  bindL kindOf (P.zip vs) m x=some v
 | [],_,_,_,_,h,_,_=>by simp at h
 |_::_,[],_,_,_,_,h,_=>by simp at h
 |p::P,w::vs,0,m,nd,h1,h2,hk=>by
  simp at h1 h2;subst h1;subst h2;show bindL kindOf ((p,w)::P.zip vs) m p=_;unfold bindL;rw[zku λv hv=>(List.nodup_cons.mp nd).1 (List.of_mem_zip hv).1,if_pos hk];simp
 |p::P,w::vs,i+1,m,nd,h1,h2,hk=>by
  show bindL kindOf ((p,w)::P.zip vs) m x=_;unfold bindL;§zkH (i:=i) (List.nodup_cons.mp nd).2 (by simpa using h1) (by simpa using h2) hk
þ zkM{kindOf:Str→Option NameKind}{x:Str}{v:Value}:∀{P:List Str}{vs:List Value}{i:Nat}{m:Str→Option Value},P.Nodup→P[i]? =some x→vs[i]? =some v→kindOf x≠some .local→
  bindC kindOf (P.zip vs) m x=some v
 | [],_,_,_,_,h,_,_=>by simp at h
 |_::_,[],_,_,_,_,h,_=>by simp at h
 |p::P,w::vs,0,m,nd,h1,h2,hk=>by
  simp at h1 h2;subst h1;subst h2;show bindC kindOf ((p,w)::P.zip vs) m p=_;unfold bindC;rw[zkn λv hv=>(List.nodup_cons.mp nd).1 (List.of_mem_zip hv).1,if_neg hk];simp
 |p::P,w::vs,i+1,m,nd,h1,h2,hk=>by
  show bindC kindOf ((p,w)::P.zip vs) m x=_;unfold bindC;§zkM (i:=i) (List.nodup_cons.mp nd).2 (by simpa using h1) (by simpa using h2) hk
ñ def start (N:List Str) (vs:List V):St:=vs.map some++List.replicate (N.length - vs.length) none
ñ def zvn (CX:CXT) (P:Program) (w:World) (K:Ƒ) (mg:Str→Option Value) (base:Heap) (N:List Str) (qual:Str) (scope:Scope) (f:Addr) (cd:Value) (A:Around) (outer:List Env) (s:Shared) (H:Hp) (E:XK):Cx where
  prog:=P
  w:=w
  K:=K
  mg:=mg
  base:=base
  A:=A.deeper (envOfC qual scope s.heap.objs.size f cd)
  N:=N
  s₀:=s
  H₀:=H
  env:=envOfC qual scope s.heap.objs.size f cd
  outer:=outer
  stack:=envOfC qual scope s.heap.objs.size f cd::outer
  ex:=[]
  calm:=true
  fn:=λ_=>true
  pn:=[]
  xe:=λe s'=>wpAny (model P w) (A.deeper (envOfC qual scope s.heap.objs.size f cd)) (leaving (envOfC qual scope s.heap.objs.size f cd) e) (λ_ s''=>CX outer H s E e s'') (λe' s''=>CX outer H s E e' s'') s'
þ znc{sc:Scope}{n:Nat}{x:Str}(h:sc.names.lookup x=some .cell):∃c,(cellsFrom n sc.names []).lookup x=some c:=by
 have q:=PySem.W.cellsFrom_some sc.names n [] (.inl h);§Option.isSome_iff_exists.mp q
þ zqv{CX:CXT}{P:Program}{w:World}{K:Ƒ}{mg:Str→Option Value}{base:Heap}{N ps:List Str}{qual:Str}{scope:Scope}{f:Addr}{cd:Value}{A:Around}{outer:List Env}{s s1:Shared}{H:Hp}{E:XK}{us:List Value}{vs:List V}
  (S:FnScope N ps scope) (hd:A.handled=none) (e0:Env0 P w K mg base A outer s H) (hl:vs.length=ps.length) (r:Vals vs us)
  (x:InCallC s s.heap.objs.size (bindL (envOfC qual scope s.heap.objs.size f cd).kindOf (ps.zip us) λ_=>none) (cellsFrom (s.heap.objs.size+1) scope.names []) (bindC (envOfC qual scope s.heap.objs.size f cd).kindOf (ps.zip us) λ_=>none) s1) :
  Inv (zvn CX P w K mg base N qual scope f cd A outer s H E) [] (start N vs) H s1:=by
 have hpl:ps.length≤N.length:=by have:=congrArg List.length S.pre;rw[List.length_take]at this;omega
 ø⟨h1,tk,rfl,hk⟩:=x.done;have noA:∀b:Addr,b∉(zvn CX P w K mg base N qual scope f cd A outer s H E).ex:=λb z=>absurd (show b∈([]:List Addr) from z) ¢;¤⟨⟨e0.mod,S.kind,rfl,rfl,Nat.le_refl _,λy z c h1 h2=>?_,λy hy=>?_,λy c _ h=>?_,λ_=>hd,Around.frames_deeper e0.frames, .inr ⟨rfl,rfl⟩,λb z=>absurd z (noA b),e0.bs,e0.bsz,λb _ _=>noA b,λb z=>absurd z (noA b),e0.funs,e0.frf⟩,
  rfl,e0.bare,Un.kept hk,⟨_,x.toInCall.ns,λi y v h1 h2 h3=>?_⟩,λy c h=>⟨_,x.cell y c h⟩,e0.hok.fresh (Nat.le_refl _),λy c h=>?_,λp hp=>absurd (show p∈([]:List (Addr×Obj)) from hp) ¢,e0.hok.kept hk,?_⟩
 ·§name_of_addr x.apart (PySem.mem_of_lookup h1) (PySem.mem_of_lookup h2)
 ·have hy:scope.names.lookup y=some .cell∨scope.names.lookup y=some .free:=hy;rcases hy with hy |hy
  ·§znc hy
  ·§absurd rfl (S.nofree _ (PySem.mem_of_lookup hy))
 ·§Nat.le_of_lt (x.above y c (PySem.mem_of_lookup h))
 ·have hi:i<vs.length:=by
   unfold start at h2;by_cases hi:i<vs.length
   ·§hi
   ·rw[List.getElem?_append_right (by simpa using hi)]at h2;rw[List.getElem?_replicate]at h2;split at h2<;>cases h2
  have ha:vs[i]? =some v:=by
   unfold start at h2;rw[List.getElem?_append_left (by simpa using hi),List.getElem?_map]at h2;cases e:vs[i]? with
   |none=>rw[e]at h2;cases h2
   |some a=>rw[e]at h2;cases h2;rfl
  ø⟨u,hu,rv⟩:=r.get ha;have hp:ps[i]? =some y:=by
   rw[←S.pre,List.getElem?_take_of_lt ¥];§h1
  have ndP:ps.Nodup:=by rw[←S.pre];§S.nd.sublist (List.take_sublist _ _)
  ¤⟨u,rv,?_⟩;rcases S.par y (List.mem_of_getElem? hp) with k |k
  ·§.inl ⟨k,zkH ndP hp hu k⟩
  ·ø⟨c,e⟩:=znc (n:=s.heap.objs.size+1) k;¤.inr ⟨.inl k,c,e,?_⟩;have q:=x.cell y c e;rw[zkM ndP hp hu (by show scope.names.lookup y≠_;rw[k];decide)]at q;§q
 ·§e0.hok.fresh (Nat.le_of_lt (x.above y c (PySem.mem_of_lookup h)))
 ·unfold start;show _=N.length;rw[List.length_append,List.length_map,List.length_replicate];omega
þ zBD{CX:CXT}{P:Program}{w:World}{K:Ƒ}{mg:Str→Option Value}{base:Heap}{k:Nat}{f:Addr}{name qual:Str}{params:Arguments}{body:List Stmt}{scope:Scope}{dV kV doc pm cdv ct oc:Value}{an od:Option Addr}
  {osl:Array (Option Value)}{N ps:List Str}{sp:Sp}(lk:K.lookup f=some ⟨oc,od, .func (PySem.W.fnOf name qual params body scope dV kV doc pm an cdv ct),osl⟩) (hcd:PySem.W.codeIn K cdv qual=true) (S:FnScope N ps scope)
  (len:∀vs H Q E,sp vs H Q E→vs.length=ps.length)
  (hbody:∀(A:Around) (outer:List Env) (s:Shared) (H:Hp) (vs:List V) (Q:VK) (E:XK),Room k (A.deeper (envOfC qual scope s.heap.objs.size f cdv))→sp vs H Q E→
   ∃t,PSs (zvn CX P w K mg base N qual scope f cdv A outer s H E) body t∧t { nx:=λ_ H'=>Q .non H',rt:=Q } (start N vs) H) :
  FnOk P w K mg base CX (k+1) f (PySem.W.fnOf name qual params body scope dV kV doc pm an cdv ct) ps sp:=by
 ¤⟨len,λA outer s H args us vs Q E hr e0 hb r hsp=>?_⟩;have hl:=len _ _ _ _ hsp;have KX:K.In s.heap:=e0.mod.kin.keeps λb o e=>(e0.bs b o e).1;have lim:s.heap.NoLimit:=e0.mod.nolimit.keeps λb o e=>(e0.bs b o e).1;have hkind:∀y∈ps.zip us,scope.names.lookup y.1=some .local∨(scope.names.lookup y.1=some .cell∧((cellsFrom (s.heap.objs.size+1) scope.names []).lookup y.1).isSome=true):=λ⟨n,v⟩ hy=>by
  rcases S.par n (List.of_mem_zip hy).1 with q |q
  ·§.inl q
  ·§.inr ⟨q,PySem.W.cellsFrom_some _ _ _ (.inl q)⟩
 ¤codeAny_call_function hr.depth (KX _ _ lk) rfl S.co S.gen rfl (PySem.W.codeRec_of KX hcd) (hb _ _ _ _ ?_);¤wpAny_newFunctionEnv_cells S.kind hkind λenv he s1 x=>?_;subst he;¤⟨lim.keeps x.toInCall.keep,codeAny_func ?_⟩;ø⟨t,ht,hq⟩:=hbody A outer s H vs Q E (hr.deeper _) hsp;have I:Inv (zvn CX P w K mg base N qual scope f cdv A outer s H E) [] (start N vs) H s1:=zqv S hr.hd e0 hl r x;¤wpAny_mono (ht [] s1 (start N vs) H _ I hq) (λfl s' hs=>?_) λe s' hs=>hs;have fin:∀{σ':St}{H':Hp}{v:V}{u:Value},Inv (zvn CX P w K mg base N qual scope f cdv A outer s H E) [] σ' H' s'→RelV v u→Q v H'→CE outer P w H s Q u s':=
  λ{σ' H' v u} J rv q=>⟨v,H',J.os,J.bare,J.base,J.hok,rv,q⟩
 cases fl with
 |ret u=>
  ø⟨v,σ',H',J,rv,q⟩:=hs;§fin J rv q
 |next=>
  ø⟨σ',H',J,q⟩:=hs;§fin (v:=V.non) (u:=Value.none) J rfl q
 |brk=>
  ø⟨_,_,_,q⟩:=hs;§False.elim q
 |cont=>
  ø⟨_,_,_,q⟩:=hs;§False.elim q
section
variable {X:Cx}{x:Str}{p pos:Pos}{e:Expr}{es:List Expr}{t:TA}{id T:String}{r:List V→Hp→VK→Prop}
ñ def tCB (r:List V→Hp→VK→Prop) (t:TA):TE:=λσ H Q=>t σ H λvs H1=>r vs H1 Q
þ zjo (hc:CallR X (.builtin id) r) (hg:Gl X x) (hm:X.mg x=none) (hv:bootBuiltins x=some (.builtin id)) (ha:PA X (e::es) t) (hn:x≠ "__name__" :=by decide) (hdb:(x == ("__debug__" :Str))=false:=by decide)
  (he:starEach (e::es) X.env=(false,eval e X.env)::starEach es X.env:=by rfl) (hpl:(backTo pos (starEach es X.env)).any (·.1)=false:=by rfl):PE X (.Call (.Name x p) (e::es) [] pos) (tCB r t):=by
 intro pins s σ H Q I h;¤wpAny_Call_Name_kw (zim I hg hm hv ?_ hn hdb);§PyProof.Rows.callWith_builtin1 (thn (ha pos pins s σ H _ I h) λus s1 ⟨vs,H1,I1,r1,q1⟩=>hc pins s1 σ H1 vs us Q I1 r1 q1) he hpl
þ zhR (hc:CallR X (.type T) r) (hg:Gl X x) (hm:X.mg x=none) (hv:bootBuiltins x=some (.type T)) (ha:PA X (e::es) t) (hn:x≠ "__name__" :=by decide) (hdb:(x == ("__debug__" :Str))=false:=by decide)
  (he:starEach (e::es) X.env=(false,eval e X.env)::starEach es X.env:=by rfl) (hpl:(backTo pos (starEach es X.env)).any (·.1)=false:=by rfl):PE X (.Call (.Name x p) (e::es) [] pos) (tCB r t):=by
 intro pins s σ H Q I h;¤wpAny_Call_Name_kw (zim I hg hm hv ?_ hn hdb);§PyProof.Rows.callWith_type1 (thn (ha pos pins s σ H _ I h) λus s1 ⟨vs,H1,I1,r1,q1⟩=>hc pins s1 σ H1 vs us Q I1 r1 q1) he hpl
end
end L2
namespace HT
open PySem PyProof.Rows
section
variable {prog:Program}{w:World}{A:Around}{E:Value→Shared→Prop}{s:Shared}
þ cat_tup{t b:Addr}{vs ws:List Value}{Q:Value→Shared→Prop}(ht:IsTup s.heap t vs.toArray) (hb:IsTup s.heap b ws.toArray) (hv:vs≠ [])
  (h1:ws=[]→Q (.ref t) s) (h2:ws≠ []→Q (.ref s.heap.objs.size) { s with heap:=s.heap.push { cls:= .type "tuple",data:= .seq (vs++ws).toArray } })
  (hsz:vs.length+ws.length≤sizeLine):wpAny (model prog w) A (binaryOp .Add (.ref t) (.ref b)) Q E s:=by
 ø⟨⟨cls,dd,data,sl⟩,ho,hc,n,hd⟩:=id ht;ø⟨⟨cls2,dd2,data2,sl2⟩,ho2,hc2,n2,hd2⟩:=id hb;simp only at hc hd hc2 hd2;subst hc hd hc2 hd2;have e:vs.toArray++ws.toArray=(vs++ws).toArray:=by simp
 by_cases hw:ws=[]
 ·§concat_meets ⟨_,ho,rfl⟩ ⟨_,ho2,rfl⟩ noFill_tuple_add seq_tuple_add PySem.F.slot_tuple_add PySem.F.entry_tuple_add (PySem.F.args_tuple_add_2 _ _)
   (tuple_addW1 t b vs.toArray ws.toArray n n2 dd dd2 sl sl2 (by simpa using hv) (by simp [hw])) ⟨ho,ho2,h1 hw⟩
 ·¤concat_meets ⟨_,ho,rfl⟩ ⟨_,ho2,rfl⟩ noFill_tuple_add seq_tuple_add PySem.F.slot_tuple_add PySem.F.entry_tuple_add (PySem.F.args_tuple_add_2 _ _)
   (tuple_addW2 t b vs.toArray ws.toArray n n2 dd dd2 sl sl2 (by simpa using hv) (by simpa using hw) (by rw[List.size_toArray,List.size_toArray];§hsz)) ⟨ho,ho2,?_⟩
  rw[e];§h2 hw
ñ def sIx (n d:Nat):Option Int→Nat
 |none=>d
 |some v=>if v<0 then(v+(n:Int)).toNat else min v.toNat n
þ sIx_none (n d:Nat):sIx n d none=d:=rfl
þ sIx_nat (n d k:Nat):sIx n d (some (k:Int))=min k n:=by
 show(if(k:Int)<0 then((k:Int)+(n:Int)).toNat else min (k:Int).toNat n)=min k n;rw[if_neg ¥,Int.toNat_natCast]
þ sIx_le (n d:Nat) (hd:d≤n) (o:Option Int):sIx n d o≤n:=by
 cases o with
 |none=>§hd
 |some v=>
  show(if v<0 then(v+(n:Int)).toNat else min v.toNat n)≤n;by_cases hv:v<0
  ·rw[if_pos hv];omega
  ·rw[if_neg hv];§Nat.min_le_right _ _
þ zsy (v:Int) (n d:Nat):(if v<0 then max (v+(n:Int)) 0 else min v (n:Int))=((sIx n d (some v):Nat):Int):=by
 show(if v<0 then max (v+(n:Int)) 0 else min v (n:Int))=(((if v<0 then(v+(n:Int)).toNat else min v.toNat n):Nat):Int);by_cases hv:v<0
 ·ŝ[if_pos hv];omega
 ·ŝ[if_neg hv];omega
þ zoR (lo hi:Option Int) (n:Nat):Builtin.Slice.sliceAdjust lo hi 1 (n:Int)=(((sIx n 0 lo:Nat):Int),((sIx n n hi:Nat):Int)):=by
 have h1:¬((1:Int)<0):=by omega
 unfold Builtin.Slice.sliceAdjust;ŝ[h1,if_false];¤Prod.ext ?_ ?_
 ·cases lo with
  |none=>rfl
  |some v=>§zsy v n 0
 ·cases hi with
  |none=>rfl
  |some v=>§zsy v n n
þ zpo (i j:Nat):Builtin.Slice.slicePlaces (i:Int) (j:Int) 1=j - i:=by
 unfold Builtin.Slice.slicePlaces;have h1:(1:Int) > 0:=by omega
 ŝ[h1,if_true,Int.ediv_one];split<;>omega
þ ziL{v:Value}{o:Option Int}{Q:Option Int→Shared→Prop}(p:IsPart v o) (h:Q o s):wpAny (model prog w) A (Builtin.Slice.slicePartIndex v) Q E s:=by
 cases p with
 |none=>§slicePart_none h
 |int i t=>§slicePart_int h
þ sliceApplied_gen{sl:Addr}{vl vu:Value}{lo hi:Option Int}{n:Nat}{Q:Int×Int×Nat→Shared→Prop}(hs:s.heap.IsSliceOf sl vl vu .none) (pl:IsPart vl lo) (pu:IsPart vu hi)
  (h:Q (((sIx n 0 lo:Nat):Int),1,sIx n n hi - sIx n 0 lo) s):wpAny (model prog w) A (Builtin.Slice.sliceApplied (.ref sl) (pure (n:Int))) Q E s:=by
 ø⟨os,hos,hcs,hds⟩:=id hs;unfold Builtin.Slice.sliceApplied Builtin.Slice.sliceFields;¤wpAny_bind (wpAny_bind (wpAny_field hos hds (x:=vl) rfl (wpAny_bind (wpAny_field hos hds (x:=vu) rfl (wpAny_bind (wpAny_field hos hds (x:= .none) rfl (wpAny_pure ?_)))))));¤wpAny_bind (slicePart_none ?_);show wpAny _ _ (if((1:Int) == 0)=true then _ else _) _ _ s;rw[if_neg £];¤wpAny_bind (ziL pl (wpAny_bind (ziL pu (wpAny_bind (wpAny_pure ?_)))));show wpAny _ _ (match Builtin.Slice.sliceAdjust lo hi 1 (n:Int) with | (lo,hi)=>pure (lo,(1:Int),Builtin.Slice.slicePlaces lo hi 1)) _ _ s;rw[zoR lo hi n];show wpAny _ _ (pure (((sIx n 0 lo:Nat):Int),(1:Int),Builtin.Slice.slicePlaces ((sIx n 0 lo:Nat):Int) ((sIx n n hi:Nat):Int) 1)) _ _ s;rw[zpo];§wpAny_pure h
þ zug (xs:Array Value) (i k:Nat):((List.range k).filterMap λ(m:Nat)=>xs[((i:Int)+(m:Int)*1).toNat]?).toArray=((xs.toList.drop i).take k).toArray:=by
 have e:(λ(m:Nat)=>xs[((i:Int)+(m:Int)*1).toNat]?)=λm=>xs[i+m]? :=by
  funext m;have:((i:Int)+(m:Int)*1).toNat=i+m:=by omega
  rw[this]
 rw[e];have:=pick_run xs i k;rw[List.filterMap_map]at this;have e2:((λx=>xs[x]?)∘λx=>i+x)=λm=>xs[i+m]? :=rfl;rw[e2]at this;rw[this]
þ getItem_tuple_cut{t sl:Addr}{items:Array Value}{vl vu:Value}{lo hi:Option Int}{Q:Value→Shared→Prop}(ht:IsTup s.heap t items) (hs:s.heap.IsSliceOf sl vl vu .none) (pl:IsPart vl lo) (pu:IsPart vu hi)
  (hw:¬(sIx items.size 0 lo=0∧sIx items.size items.size hi=items.size))
  (h:Q (.ref s.heap.objs.size) { s with heap:=s.heap.push { cls:= .type "tuple",data:= .seq ((items.toList.drop (sIx items.size 0 lo)).take (sIx items.size items.size hi - sIx items.size 0 lo)).toArray } })
  (hsz:items.size≤sizeLine):wpAny (model prog w) A (getItem (.ref t) (.ref sl)) Q E s:=by
 have htake:sizeOk (.seq ((items.toList.drop (sIx items.size 0 lo)).take (sIx items.size items.size hi - sIx items.size 0 lo)).toArray):=by
  show((items.toList.drop (sIx items.size 0 lo)).take (sIx items.size items.size hi - sIx items.size 0 lo)).toArray.size≤sizeLine;rw[List.size_toArray,List.length_take,List.length_drop,Array.length_toList];omega
 have hj:sIx items.size items.size hi≤items.size:=sIx_le _ _ (Nat.le_refl _) hi;ø⟨os,hos,hcs,hds⟩:=id hs;have hTs:s.TypeIs (.ref sl) "slice" :=⟨os,hos,hcs⟩;unfold getItem
 try with_reducible ¤wpAny_holding ?_
 first |¤wpAny_bind (wpAny_pure ?_) |skip
 ¤wpAny_bind (wpAny_sequenceKey ht.typeIs £ ?_);¤wpAny_bind (wpAny_callSpecial?_slot (name:=Str.ofString "__getitem__") ht.typeIs PyProof.Rows.slot_tuple_getitem
  (wpAny_call_entry PyProof.Rows.slot_tuple_getitem ht.typeIs entry_tuple_getitem ?_ (args_tuple_getitem _ _)))
 show wpAny _ _ (Builtin.Tuple.tupleItemsOf (.ref t) >>= _) _ _ s;¤wpAny_bind (tupleItemsOf_ ht ?_);¤wpAny_bind (wpAny_typeOf hTs ?_);rw[if_pos £];¤wpAny_bind (sliceApplied_gen hs pl pu ?_);have hno:¬((((sIx items.size 0 lo:Nat):Int) == 0&&(1:Int) == 1&&(sIx items.size items.size hi - sIx items.size 0 lo) == items.size)=true):=by
  intro q;rw[Bool.and_eq_true,Bool.and_eq_true]at q;have q1:((sIx items.size 0 lo:Nat):Int)=0:=eq_of_beq q.1.1;have q2:sIx items.size items.size hi - sIx items.size 0 lo=items.size:=eq_of_beq q.2;§hw ⟨¥,¥⟩
 show wpAny _ _ (if(((sIx items.size 0 lo:Nat):Int) == 0&&(1:Int) == 1&&(sIx items.size items.size hi - sIx items.size 0 lo) == items.size)=true then _ else _) _ _ s;rw[if_neg hno,zug]
 first
  |§wpAny_bind (m:=Builtin.Tuple.tupleExact _) (wpAny_newObj_type (wpAny_pure ⟨_,rfl,wpAny_pure h⟩) htake)
  |§wpAny_bind (m:=Builtin.Tuple.tupleExact _) (wpAny_newObj_type (wpAny_bind (wpAny_pure (wpAny_pure ⟨_,rfl,wpAny_pure h⟩))) htake)
  |§wpAny_bind (wpAny_bind (m:=Builtin.Tuple.tupleExact _) (wpAny_newObj_type (wpAny_pure (wpAny_pure ⟨_,rfl,wpAny_pure h⟩)) htake))
  |§wpAny_bind (wpAny_bind (m:=Builtin.Tuple.tupleExact _) (wpAny_newObj_type (wpAny_pure ⟨_,rfl,wpAny_pure h⟩) htake))
end
end HT
namespace L2
open PySem PySem.Spec PyProof.Rows
ñ abbrev TO:=St→Hp→(Option Int→Hp→Prop)→Prop
ñ def PO (X:Cx) (e:Option Expr) (t:TO):Prop:=
 ∀(pins:List (Addr×Obj)) (s:Shared) (σ:St) (H:Hp) (Q:Option Int→Hp→Prop),Inv X pins σ H s→t σ H Q→
  wpAny (model X.prog X.w) X.A (evalPart e X.env) (λu s'=>∃o H',Inv X pins σ H' s'∧IsPart u o∧Q o H') X.xe s
ñ def zxc:TO:=λ_ H Q=>Q none H
ñ def zBA (t:TE):TO:=λσ H Q=>t σ H λx H1=>∃i,x= .int i∧Q (some i) H1
section
variable {X:Cx}{e:Expr}{te:TE}{lo hi:Option Expr}{tl th:TO}{pos p2:Pos}
þ po_none:PO X none zxc:=by
 intro pins s σ H Q I h;rw[evalPart_none];§wpAny_pure ⟨none,H,I, .none,h⟩
þ zwl (h:PE X e te):PO X (some e) (zBA te):=by
 intro pins s σ H Q I hw;rw[evalPart_some];¤thn (h pins s σ H _ I hw) λu s1 ⟨x,H1,I1,r1,q1⟩=>?_;ø⟨i,rfl,q⟩:=q1;ø⟨t,rfl⟩:=r1;§⟨some i,H1,I1, .int i t,q⟩
ñ def SlR (X:Cx) (r:V→Option Int→Option Int→Hp→VK→Prop):Prop:=
 ∀(pins:List (Addr×Obj)) (s:Shared) (σ:St) (H:Hp) (x:V) (v vl vu:Value) (lo hi:Option Int) (sl:Addr) (Q:VK),Inv X pins σ H s→RelV x v→s.heap.IsSliceOf sl vl vu .none→IsPart vl lo→IsPart vu hi→r x lo hi H Q→
  ∃T id,typeLookup (.type T) "__getitem__" =pure (some (.builtin id))∧s.TypeIs v T∧wpAny (model X.prog X.w) X.A (getItem v (.ref sl)) (EP X pins σ Q) X.xe s
þ SlR.or{r r':V→Option Int→Option Int→Hp→VK→Prop}(h:SlR X r) (h':SlR X r'):SlR X (λx lo hi H Q=>r x lo hi H Q∨r' x lo hi H Q):=by
 intro pins s σ H x v vl vu lo hi sl Q I rx hs pl pu q;rcases q with q |q
 ·§h pins s σ H x v vl vu lo hi sl Q I rx hs pl pu q
 ·§h' pins s σ H x v vl vu lo hi sl Q I rx hs pl pu q
ñ def tSl (r:V→Option Int→Option Int→Hp→VK→Prop) (te:TE) (tl th:TO):TE:=λσ H Q=>te σ H λx H1=>tl σ H1 λl H2=>th σ H2 λu H3=>r x l u H3 Q
þ zoj{r:V→Option Int→Option Int→Hp→VK→Prop}(hr:SlR X r) (he:PE X e te) (hl:PO X lo tl) (hu:PO X hi th):PE X (.Subscript e (.Slice lo hi none p2) pos) (tSl r te tl th):=by
 intro pins s σ H Q I h;¤Subscript_ (thn (he pins s σ H _ I h) λv s1 ⟨x,H1,I1,r1,q1⟩=>?_);¤wpAny_Slice (thn (hl pins s1 σ H1 _ I1 q1) λvl s2 ⟨l,H2,I2,pl,q2⟩=>thn (hu pins s2 σ H2 _ I2 q2) λvu s3 ⟨u,H3,I3,pu,q3⟩=>?_);rw[evalPart_none];¤wpAny_pure ?_;have I4:Inv X pins σ H3 { s3 with heap:=s3.heap.push { cls:= .type "slice",data:= .fields #[vl,vu, .none] } }:=I3.kept (t':=s3.toks) λb ob q=>Heap.get?_push_of_some _ q;ø⟨T,id,hT,ht,hg⟩:=hr pins { s3 with heap:=s3.heap.push { cls:= .type "slice",data:= .fields #[vl,vu, .none] } } σ H3 x v vl vu l u s3.heap.objs.size Q I4 r1 (Heap.IsSliceOf.new ..) pl pu q3;show wpAny (model X.prog X.w) X.A (subscriptTail e (.Slice lo hi none p2) v (.ref s3.heap.objs.size)) (EP X pins σ Q) X.xe { s3 with heap:=s3.heap.push { cls:= .type "slice",data:= .fields #[vl,vu, .none] } };§tail_any (ops:=[.ref s3.heap.objs.size,v]) ht hT hg (by with_unfolding_all rfl)
ñ def zpV (xs:List V) (lo hi:Option Int):List V:=(xs.drop (HT.sIx xs.length 0 lo)).take (HT.sIx xs.length xs.length hi - HT.sIx xs.length 0 lo)
þ zhK (xs:List V) (lo hi:Option Int):(zpV xs lo hi).length≤xs.length:=by
 unfold zpV;rw[List.length_take,List.length_drop];omega
ñ def zCu (K:Ƒ):V→Option Int→Option Int→Hp→VK→Prop:=λx lo hi H Q=>∃a xs,x= .ref a∧SqT K H a xs∧
 ¬(HT.sIx xs.length 0 lo=0∧HT.sIx xs.length xs.length hi=xs.length)∧ ∀p,H p=none→Q (.ref p) (upd H p (.tup (zpV xs lo hi)))
þ zzi:SlR X (zCu X.K):=by
 intro pins s σ H x v vl vu lo hi sl Q I rx hs pl pu h;ø⟨a,xs,rfl,hx,hw,q⟩:=h;cases rx;ø⟨its,r,ht,hz⟩:=I.tuple hx;have hlen:its.toArray.size=xs.length:=by rw[List.size_toArray];§r.length.symm
 ¤⟨"tuple",_,PyProof.Rows.slot_tuple_getitem.lookup,ht.typeIs,?_⟩;¤HT.getItem_tuple_cut ht hs pl pu (by rw[hlen];§hw) ?_ (by rw[hlen];§hz);rw[hlen];¤⟨.ref s.heap.objs.size,_,I.laid (t':=s.toks) (o:= .tup (zpV xs lo hi)) (λb ob q=>Heap.get?_push_of_some _ q) (Nat.le_refl _) ?_,rfl,q _ (I.hok.fresh (Nat.le_refl _))⟩;§⟨Nat.le_trans (zhK xs lo hi) hz,_,(r.drop (HT.sIx xs.length 0 lo)).take (HT.sIx xs.length xs.length hi - HT.sIx xs.length 0 lo),IsTup.new _ _⟩
ñ def zwK (K:Ƒ):R2:=λx y H Q=>∃a b xs ys,x= .ref a∧y= .ref b∧SqT K H a xs∧SqT K H b ys∧xs≠ []∧xs.length+ys.length≤sizeLine∧
 (ys=[]→Q (.ref a) H)∧(ys≠ []→ ∀p,H p=none→Q (.ref p) (upd H p (.tup (xs++ys))))
þ Vals.nil_iff{xs:List V}{us:List Value}(r:Vals xs us):us=[]↔xs=[]:=by
 cases r with
 |nil=>simp
 |cons _ _=>simp
þ op_catT:OpR X (binaryOp .Add) (zwK X.K):=by
 intro pins s σ H x y v u Q I rx ry h;ø⟨a,b,xs,ys,rfl,rfl,ha,hb,hx,hz,q1,q2⟩:=h;cases rx;cases ry;ø⟨its,r1,p1,_⟩:=I.tuple ha;ø⟨its2,r2,p2,_⟩:=I.tuple hb;¤HT.cat_tup p1 p2 (λz=>hx (r1.nil_iff.mp z)) (λz=>⟨.ref a,H,I,rfl,q1 (r2.nil_iff.mp z)⟩) (λz=>?_) (by rw[←r1.length,←r2.length];§hz);¤⟨.ref s.heap.objs.size,_,I.laid (t':=s.toks) (o:= .tup (xs++ys)) (λb ob q=>Heap.get?_push_of_some _ q) (Nat.le_refl _) ?_,rfl,q2 (λw=>z (r2.nil_iff.mpr w)) _ (I.hok.fresh (Nat.le_refl _))⟩;§⟨by rw[List.length_append];§hz,_,r1.append r2,IsTup.new _ _⟩
end
ñ def ixN (n:Nat) (i:Int):Option Nat:=if 0≤i then(if i<n then some i.toNat else none) else if -(n:Int)≤i then some (i+n).toNat else none
ñ def atI {α:Type}(xs:List α) (i:Int):Option α:=(ixN xs.length i).bind λj=>xs[j]?
þ zwy{n:Nat}{i:Int}{j:Nat}(h:ixN n i=some j):seqIndex? i n=some j∧j<n∧ -(n:Int)≤i∧i<n:=by
 unfold ixN at h;by_cases h0:0≤i
 ·rw[if_pos h0]at h;by_cases h1:i<n
  ·rw[if_pos h1]at h;have e:i.toNat=j:=Option.some.inj h;§⟨by rw[seqIndex_of h0 h1,e],¥,¥,h1⟩
  ·rw[if_neg h1]at h;cases h
 ·rw[if_neg h0]at h;by_cases h1: -(n:Int)≤i
  ·rw[if_pos h1]at h;have e:(i+n).toNat=j:=Option.some.inj h;§⟨by rw[seqIndex_neg ¥ h1,e],¥,h1,¥⟩
  ·rw[if_neg h1]at h;cases h
þ zmc{α:Type}{xs:List α}{i:Int}{v:α}(h:atI xs i=some v):∃j,seqIndex? i xs.length=some j∧xs[j]? =some v∧j<xs.length∧ -(xs.length:Int)≤i∧i<xs.length:=by
 unfold atI at h;cases e:ixN xs.length i with
 |none=>rw[e]at h;cases h
 |some j=>
  rw[e]at h;ø⟨h1,h2,h3,h4⟩:=zwy e;§⟨j,h1,h,h2,h3,h4⟩
þ zvR{α:Type}{xs:List α}{j:Nat}{v:α}(h:xs[j]? =some v):atI xs (j:Int)=some v:=by
 have hj:j<xs.length:=(List.getElem?_eq_some_iff.mp h).1;have e:ixN xs.length (j:Int)=some j:=by
  unfold ixN;rw[if_pos ¥,if_pos ¥];simp
 unfold atI;rw[e];§h
ñ def zml (b:Expr):Prop:=∀o i,subscripted b false o i=operate [o,i] (getItem o i)
ñ def IxR (X:Cx) (r:R2):Prop:=
 ∀(value slice:Expr) (pins:List (Addr×Obj)) (s:Shared) (σ:St) (H:Hp) (x y:V) (v u:Value) (Q:VK),Inv X pins σ H s→RelV x v→RelV y u→r x y H Q→
  subscripted slice false v u=operate [v,u] (getItem v u)→wpAny (model X.prog X.w) X.A (subscriptTail value slice v u) (EP X pins σ Q) X.xe s
ñ def MtR (X:Cx) (id:String) (r:V→List V→Hp→VK→Prop):Prop:=
 ∀(pins:List (Addr×Obj)) (s:Shared) (σ:St) (H:Hp) (x:V) (xs:List V) (v:Value) (us:List Value) (Q:VK),Inv X pins σ H s→RelV x v→Vals xs us→r x xs H Q→
  wpAny (model X.prog X.w) X.A (call (.builtin id) (v::us)) (EP X pins σ Q) X.xe s
section
variable {X:Cx}{a b:Expr}{ta tb:TE}{pos:Pos}
þ IxR.or{r r':R2}(h:IxR X r) (h':IxR X r'):IxR X (λx y H Q=>r x y H Q∨r' x y H Q):=by
 intro value slice pins s σ H x y v u Q I rx ry q hs;rcases q with q |q
 ·§h value slice pins s σ H x y v u Q I rx ry q hs
 ·§h' value slice pins s σ H x y v u Q I rx ry q hs
þ MtR.or{id:String}{r r':V→List V→Hp→VK→Prop}(h:MtR X id r) (h':MtR X id r'):MtR X id (λx xs H Q=>r x xs H Q∨r' x xs H Q):=by
 intro pins s σ H x xs v us Q I rx rs q;rcases q with q |q
 ·§h pins s σ H x xs v us Q I rx rs q
 ·§h' pins s σ H x xs v us Q I rx rs q
þ zyA{r:R2}(hr:IxR X r) (ha:PE X a ta) (hb:PE X b tb) (hs:zml b):PE X (.Subscript a b pos) (tOp r ta tb):=by
 intro pins s σ H Q I h;§Subscript_ (zBr ha hb I h λv u s2 x y H2 I2 rx ry q=>hr a b pins s2 σ H2 x y v u Q I2 rx ry q (hs _ _))
ñ def zBZ (K:Ƒ):R2:=λx y H Q=>∃p xs i v,x= .ref p∧y= .int i∧SqL K H p xs∧atI xs i=some v∧Q v H
ñ def zCd (K:Ƒ):R2:=λx y H Q=>∃p xs i v,x= .ref p∧y= .int i∧SqT K H p xs∧atI xs i=some v∧Q v H
ñ def zCa:R2:=λx y H Q=>∃z i c,x= .str z∧y= .int i∧z.length≤sizeLine∧atI z.cps.toList i=some c∧Q (.str ⟨#[c]⟩) H
þ ix_list:IxR X (zBZ X.K):=by
 intro value slice pins s σ H x y v u Q I rx ry h hs;ø⟨p,xs,i,z,rfl,rfl,hq,he,q⟩:=h;cases rx;ø⟨t,rfl⟩:=ry;ø⟨its,r,pl,hz⟩:=I.list hq;ø⟨j,h1,h2,h3,h4,h5⟩:=zmc he;ø⟨w,ew,rw'⟩:=r.get h2;have hl:=r.length;have hn:=ziD;have fin:EP X pins σ Q w s:=⟨z,H,I,rw',q⟩;by_cases h0:0≤i
 ·have hj:i.toNat=j:=by
   rw[seqIndex_of h0 h5]at h1;§Option.some.inj h1
  §item_listR pl.isList h0 ¥ (by rw[hj];simpa using ew) fin hs
 ·have hj:(i+(its.toArray.size:Int)).toNat=j:=by
   rw[seqIndex_neg ¥ h4]at h1;rw[List.size_toArray,←hl];§Option.some.inj h1
  §subscriptTail_builtinR (x:=w) pl.isList.typeIs slot_list_getitem.lookup
   (wpAny_getItem_list_neg (Q:=λr s'=>r=w∧EP X pins σ Q r s') pl.isList ¥ (by rw[List.size_toArray]<;>omega) ¥ (by rw[hj];simpa using ew) ⟨rfl,fin⟩) hs
þ ix_tup:IxR X (zCd X.K):=by
 intro value slice pins s σ H x y v u Q I rx ry h hs;ø⟨p,xs,i,z,rfl,rfl,hq,he,q⟩:=h;cases rx;ø⟨t,rfl⟩:=ry;ø⟨its,r,pl,hz⟩:=I.tuple hq;ø⟨j,h1,h2,h3,h4,h5⟩:=zmc he;ø⟨w,ew,rw'⟩:=r.get h2;have hl:=r.length;have hn:=ziD;have fin:EP X pins σ Q w s:=⟨z,H,I,rw',q⟩;§subscriptTail_builtinR (x:=w) pl.typeIs slot_tuple_getitem.lookup
  (getItem_tuple (j:=j) (Q:=λr s'=>r=w∧EP X pins σ Q r s') pl ¥ ¥ (by rw[List.size_toArray,←hl];§h1) (by simpa using ew) ⟨rfl,fin⟩) hs
þ zyJ:IxR X zCa:=by
 intro value slice pins s σ H x y v u Q I rx ry h hs;ø⟨z,i,c,rfl,rfl,hz,he,q⟩:=h;ø⟨t,rfl⟩:=rx;ø⟨t',rfl⟩:=ry;ø⟨j,h1,h2,h3,h4,h5⟩:=zmc he;have hl:z.cps.toList.length=z.length:=by simp [Str.length]
 rw[hl]at h1 h4 h5;have hn:=ziD;§tail_any (typeIs_str s z t) slot_str_getitem.lookup (getItem_str (c:=c) (by
  have e1:decide (i< -(2 ^ 63:Int))=false:=decide_eq_false ¥;have e2:decide (i≥2 ^ 63)=false:=decide_eq_false ¥;rw[e1,e2,Bool.or_false]) (by rw[h1];simpa using h2) ⟨.str ⟨#[c]⟩,H,I.tok _,⟨_,rfl⟩,q⟩) hs
ñ def rIx (K:Ƒ):R2:=λx y H Q=>zBZ K x y H Q∨zCd K x y H Q∨zCa x y H Q
þ zvb:IxR X (rIx X.K):=ix_list.or (ix_tup.or zyJ)
þ zlb (lo hi:Option Int) (n:Nat):(sliceBounds lo hi none n).1=((HT.sIx n 0 lo:Nat):Int)∧(sliceBounds lo hi none n).2.1=((HT.sIx n n hi:Nat):Int)∧(sliceBounds lo hi none n).2.2=1:=by
 ¤⟨?_,?_,rfl⟩
 ·cases lo with
  |none=>simp [sliceBounds,HT.sIx]
  |some i=>
   ŝ[sliceBounds,HT.sIx,Option.getD_none,show(1:Int) > 0 by decide,if_true]
   by_cases h:i<0
   ·ŝ[h,if_true]<;>omega
   ·ŝ[h,if_false]<;>omega
 ·cases hi with
  |none=>simp [sliceBounds,HT.sIx]
  |some i=>
   ŝ[sliceBounds,HT.sIx,Option.getD_none,show(1:Int) > 0 by decide,if_true]
   by_cases h:i<0
   ·ŝ[h,if_true]<;>omega
   ·ŝ[h,if_false]<;>omega
þ zjZ (its:List Value) (lo hi:Option Int):slicePick its.toArray lo hi none=((its.drop (HT.sIx its.length 0 lo)).take (HT.sIx its.length its.length hi - HT.sIx its.length 0 lo)).toArray:=by
 ø⟨h1,h2,h3⟩:=zlb lo hi its.toArray.size;unfold slicePick;rw[h1,h2,h3];ŝ[sliceRange_one,pick_run,List.size_toArray]<;>rfl
ñ def zCp (K:Ƒ):V→Option Int→Option Int→Hp→VK→Prop:=λx lo hi H Q=>∃a xs,x= .ref a∧SqL K H a xs∧ ∀p,H p=none→Q (.ref p) (upd H p (.lst (zpV xs lo hi)))
þ zrQ:SlR X (zCp X.K):=by
 intro pins s σ H x v vl vu lo hi sl Q I rx hs pl pu h;ø⟨a,xs,rfl,hx,q⟩:=h;cases rx;ø⟨its,r,ht,hz⟩:=I.list hx;have hlen:=r.length;¤⟨"list",_,slot_list_getitem.lookup,ht.isList.typeIs,?_⟩;¤wpAny_getItem_list_slice ht.isList hs pl pu .none ¢ ?_ (by rw[List.size_toArray]<;>omega);rw[zjZ,←hlen];¤⟨.ref s.heap.objs.size,_,I.laid (t':=s.toks) (o:= .lst (zpV xs lo hi)) (λb ob q=>Heap.get?_push_of_some _ q) (Nat.le_refl _) ?_,rfl,q _ (I.hok.fresh (Nat.le_refl _))⟩;§⟨Nat.le_trans (zhK xs lo hi) hz,_,0,(r.drop (HT.sIx xs.length 0 lo)).take (HT.sIx xs.length xs.length hi - HT.sIx xs.length 0 lo),Heap.get?_push_size _ rfl⟩
þ call_len_seq:CallR X (.builtin "len") (λxs H Q=>∃p ys,xs=[.ref p]∧(SqL X.K H p ys∨SqT X.K H p ys)∧Q (.int ys.length) H):=by
 intro pins s σ H xs us Q I r h;ø⟨p,ys,rfl,hq,q⟩:=h;ø⟨u,rfl,rx⟩:=ziw r;cases rx;have hn:=ziD;rcases hq with hq |hq
 ·ø⟨its,r',pl,hz⟩:=I.list hq;have hlen:=r'.length;§Calls.call_len_list pl.isList (by ŝ[List.size_toArray]<;>omega) ⟨.int ys.length,H,I.tok _,⟨s.toks+1,by rw[List.size_toArray,hlen]⟩,q⟩
 ·ø⟨its,r',pl,hz⟩:=I.tuple hq;have hlen:=r'.length;§len_tuple pl (by ŝ[List.size_toArray]<;>omega) ⟨.int ys.length,H,I.tok _,⟨s.toks+1,by rw[List.size_toArray,hlen]⟩,q⟩
þ zlp:CallR X (.builtin "len") (λxs H Q=>∃z,xs=[.str z]∧z.length≤sizeLine∧Q (.int z.length) H):=by
 intro pins s σ H xs us Q I r h;ø⟨z,rfl,hz,q⟩:=h;ø⟨u,rfl,t,rfl⟩:=ziw r;have hn:=ziD;§len_str ¥ ⟨.int z.length,H,I.tok _,⟨_,rfl⟩,q⟩
þ CallR.or{f:Value}{r r':List V→Hp→VK→Prop}(h:CallR X f r) (h':CallR X f r'):CallR X f (λxs H Q=>r xs H Q∨r' xs H Q):=by
 intro pins s σ H xs us Q I rs q;rcases q with q |q
 ·§h pins s σ H xs us Q I rs q
 ·§h' pins s σ H xs us Q I rs q
þ zkh:CallR X (.type "list") (λxs H Q=>∃p ys,xs=[.ref p]∧(SqL X.K H p ys∨SqT X.K H p ys)∧ ∀l,H l=none→Q (.ref l) (upd H l (.lst ys))):=by
 intro pins s σ H xs us Q I r h;ø⟨p,ys,rfl,hq,q⟩:=h;ø⟨u,rfl,rx⟩:=ziw r;cases rx;have fin:∀(its:List Value),Vals ys its→ys.length≤sizeLine→ ∀(h':Heap) (c':Nat),(∀b o',s.heap.get? b=some o'→h'.get? b=some o')→
   h'.get? s.heap.objs.size=some { cls:= .type "list",dict:=none,data:= .seq its.toArray c',slots:= #[] }→EP X pins σ Q (.ref s.heap.objs.size) { s with heap:=h' }:=λits r' hz h' c' kp e=>
  ⟨.ref s.heap.objs.size,_,I.laid (t':=s.toks) kp (Nat.le_refl _) (show ObjOk X.prog X.w _ h' _ (.lst ys) from⟨hz,its,c',r',e⟩),rfl,q _ (I.hok.fresh (Nat.le_refl _))⟩
 rcases hq with hq |hq
 ·ø⟨its,r',pl,hz⟩:=I.list hq;have hlen:=r'.length;ø⟨o,ho,hc,n,hd⟩:=pl.isList;§call_list_seq p (.inl rfl) ho hc hd (λh' c' kp e=>fin its r' hz h' c' kp e) (by ŝ[List.size_toArray]<;>omega)
 ·ø⟨its,r',pl,hz⟩:=I.tuple hq;have hlen:=r'.length;ø⟨o,ho,hc,n,hd⟩:=pl;§call_list_seq p (.inr rfl) ho hc hd (λh' c' kp e=>fin its r' hz h' c' kp e) (by ŝ[List.size_toArray]<;>omega)
þ zgt:CallR X (.type "tuple") (λxs H Q=>∃p ys,xs=[.ref p]∧((SqL X.K H p ys∧ ∀l,H l=none→Q (.ref l) (upd H l (.tup ys)))∨(SqT X.K H p ys∧Q (.ref p) H))):=by
 intro pins s σ H xs us Q I r h;ø⟨p,ys,rfl,h⟩:=h;ø⟨u,rfl,rx⟩:=ziw r;cases rx;rcases h with⟨hq,q⟩ |⟨hq,q⟩
 ·ø⟨its,r',pl,hz⟩:=I.list hq;have hlen:=r'.length;¤call_tuple_list pl.isList (λh' kp=>?_) (by ŝ[List.size_toArray]<;>omega);have I1:Inv X pins σ H { s with heap:=h' }:=I.kept (t':=s.toks) kp;have I2:Inv X pins σ (upd H h'.objs.size (.tup ys)) { s with heap:=h'.push { cls:= .type "tuple",data:= .seq its.toArray } }:=
   I1.laid (t':=s.toks) (λb o e=>Heap.get?_push_of_some _ e) (Nat.le_refl _) (show ObjOk X.prog X.w _ _ _ (.tup ys) from⟨hz,its,r',IsTup.new _ _⟩)
  §⟨.ref h'.objs.size,_,I2,rfl,q _ (I1.hok.fresh (Nat.le_refl _))⟩
 ·ø⟨its,r',pl,hz⟩:=I.tuple hq;§call_tuple_same pl ⟨.ref p,H,I,rfl,q⟩
ñ def tyV (K:Ƒ) (T:String) (x:V) (H:Hp):Prop:=match x with
 | .str _=>T= "str"
 | .int _=>T= "int"
 | .ref p=>(T= "list" ∧ ∃xs,SqL K H p xs)∨(T= "tuple" ∧ ∃o,K.lookup p=some o∧o.cls= .type "tuple" ∧o.dict=none)∨
   (T= "dict" ∧((∃kvs,H p=some (.dK kvs))∨ ∃kvs,H p=some (.dT kvs)))∨(T= "set" ∧ ∃S n,H p=some (.set S n))
 |_=>False
þ zvj{pins:List (Addr×Obj)}{σ:St}{H:Hp}{s:Shared}{T:String}{x:V}{v:Value}(I:Inv X pins σ H s) (r:RelV x v) (ty:tyV X.K T x H) :
  s.TypeIs v T∧ ∀a,v= .ref a→ ∃ob,s.heap.get? a=some ob∧ob.dict=none:=by
 cases x with
 |str z=>
  ø⟨t,rfl⟩:=r;cases(show T= "str" from ty);§⟨typeIs_str s z t,λ_ e=>nomatch e⟩
 |int i=>
  ø⟨t,rfl⟩:=r;cases(show T= "int" from ty);§⟨typeIs_int s i t,λ_ e=>nomatch e⟩
 |ref p=>
  cases r;rcases ty with⟨rfl,xs,hq⟩ |⟨rfl,o,hk,hc,hd⟩ |⟨rfl,hk⟩ |⟨rfl,S,n,hk⟩
  ·ø⟨its,_,pl,_⟩:=I.list hq;¤⟨pl.isList.typeIs,λa e=>?_⟩;cases e;ø⟨o,n,e,c,hd,_⟩:=pl;§⟨o,e,hd⟩
  ·¤⟨⟨o,I.kIn p o hk,hc⟩,λa e=>?_⟩;cases e;§⟨o,I.kIn _ o hk,hd⟩
  ·have z:∃o,s.heap.get? p=some o∧o.ExactDict:=by
    rcases hk with⟨kvs,hk⟩ |⟨kvs,hk⟩
    ·ø⟨_,_,_,_,o,_,_,e,ex,_⟩:=I.hok p _ hk;§⟨o,e,ex⟩
    ·ø⟨_,_,_,_,o,_,_,e,ex,_⟩:=I.hok p _ hk;§⟨o,e,ex⟩
   ø⟨o,e,ex⟩:=z;¤⟨⟨o,e,ex.1⟩,λa e2=>?_⟩;cases e2;§⟨o,e,ex.2.1⟩
  ·ø⟨o,_,_,_,e,ex,_⟩:=I.hok p _ hk;¤⟨⟨o,e,ex.1⟩,λa e2=>?_⟩;cases e2;§⟨o,e,ex.2.1⟩
 |_=>§False.elim ty
ñ def zCQ (K:Ƒ) (T:String) (r:V→List V→Hp→VK→Prop) (to:TE):TE:=λσ H Q=>to σ H λx H1=>tyV K T x H1∧r x [] H1 Q
ñ def tBM (K:Ƒ) (T:String) (r:V→List V→Hp→VK→Prop) (to:TE) (t:TA):TE:=λσ H Q=>to σ H λx H1=>tyV K T x H1∧t σ H1 λxs H2=>r x xs H2 Q
variable {o e:Expr}{es:List Expr}{to:TE}{t:TA}{name:Str}{apos cpos:Pos}{T id:String}{r:V→List V→Hp→VK→Prop}
þ zxO (pa:PlainAttrs T) (slot:Slot T name id) (hty:typeOf (.builtin id)=pure (.type "method_descriptor")) (hm:MtR X id r) (ho:PE X o to)
  (hbase:attributeBase o name X.env (eval o X.env)=eval o X.env:=by rfl) (hline:(apos.endLine == cpos.line)=true:=by rfl):PE X (.Call (.Attribute o name apos) [] [] cpos) (zCQ X.K T r to):=by
 intro pins s σ H Q I h;¤wpAny_Call_method0_late hbase hline (thn (ho pins s σ H _ I h) λv s1 ⟨x,H1,I1,r1,ty,q1⟩=>?_);ø⟨h1,h2⟩:=zvj I1 r1 ty;§⟨T,id,pa,slot,hty,h1,h2,Calls.callWith_builtin rfl (PySem.evalArgs_none (hm pins s1 σ H1 x [] v [] Q I1 r1 .nil q1))⟩
þ zyf (pa:PlainAttrs T) (slot:Slot T name id) (hty:typeOf (.builtin id)=pure (.type "method_descriptor")) (hm:MtR X id r) (ho:PE X o to) (ha:PA X (e::es) t)
  (hbase:attributeBase o name X.env (eval o X.env)=eval o X.env:=by rfl)
  (hfew:((backTo cpos (starEach (e::es) X.env)).all (λx=> !x.1)&&(backToKw cpos (keywordEach [] X.env)).all (λx=>x.1.isSome)
   &&decide ((e::es).length+([]:List Keyword).length+(if([]:List Keyword).isEmpty then 0 else 1)<30))=true:=by rfl)
  (hline:(apos.endLine == cpos.line)=true:=by rfl) (hs:starEach (e::es) X.env=(false,eval e X.env)::starEach es X.env:=by rfl) (hplain:(backTo cpos (starEach es X.env)).any (·.1)=false:=by rfl) :
  PE X (.Call (.Attribute o name apos) (e::es) [] cpos) (tBM X.K T r to t):=by
 intro pins s σ H Q I h;¤wpAny_Call_method_late hbase hfew hline rfl (thn (ho pins s σ H _ I h) λv s1 ⟨x,H1,I1,r1,ty,q1⟩=>?_);ø⟨h1,h2⟩:=zvj I1 r1 ty;¤⟨T,id,pa,slot,hty,h1,h2,?_⟩;have hA:=ha cpos pins s1 σ H1 _ I1 q1;rw[hs]at hA⊢;¤Calls.callWith_builtin (by show(false || (backTo cpos (starEach es X.env)).any (·.1))=false;rw[hplain]<;>rfl) (Calls.evalArgs_plain ?_)
 §thn hA λus s2 ⟨vs,H2,I2,r2,q2⟩=>hm pins s2 σ H2 x vs v us Q I2 r1 r2 q2
end
ñ def MtM (X:Cx) (id:String) (r:V→List V→Hp→VK→Prop):Prop:=
 ∀(pins:List (Addr×Obj)) (s:Shared) (σ:St) (H:Hp) (x:V) (xs:List V) (v:Value) (us:List Value) (Q:VK),Inv X pins σ H s→RelV x v→Vals xs us→r x xs H Q→
  wpAny (model X.prog X.w) X.A (call (.builtin id) (v::us)) (EP X pins σ Q) X.xe s
þ Vals.one:∀{x:V}{us:List Value},Vals [x] us→ ∃u,us=[u]∧RelV x u
 |_,_, .cons r .nil=>⟨_,rfl,r⟩
þ Vals.rep{xs:List V}{us:List Value}(h:Vals xs us):∀k:Nat,Vals (List.replicate k xs).flatten (List.replicate k us).flatten
 |0=> .nil
 |k+1=>by
  rw[List.replicate_succ,List.replicate_succ,List.flatten_cons,List.flatten_cons];§Vals.append h (Vals.rep h k)
þ zkJ (its:List Value):∀(k:Nat) (acc:List Value),
  List.foldl (λx1 x2=>x1++x2) acc.toArray (List.replicate k its.toArray)=(acc++(List.replicate k its).flatten).toArray
 |0,acc=>by simp
 |k+1,acc=>by
  have e:acc.toArray++its.toArray=(acc++its).toArray:=by simp
  have e2:(acc++its)++(List.replicate k its).flatten=acc++(List.replicate (k+1) its).flatten:=by
   rw[List.replicate_succ,List.flatten_cons,List.append_assoc]
  rw[←e2,←zkJ its k (acc++its),←e,List.replicate_succ,List.foldl_cons]
section
variable {X:Cx}{pins:List (Addr×Obj)}{σ:St}{H:Hp}{s:Shared}{l:Addr}{xs ys:List V}
þ Inv.lset{its its':List Value}{n:Nat}{f:Array Value→Array Value}{t':Nat}(I:Inv X pins σ H s) (hH:H l=some (.lst xs))
  (e:s.heap.get? l=some { cls:= .type "list",data:= .seq its.toArray n }) (hf:f its.toArray=its'.toArray) (hv:Vals ys its') (hz:ys.length≤sizeLine) :
  Inv X pins σ (upd H l (.lst ys)) { s with heap:=s.heap.update l (Obj.mapSeq f),toks:=t' }:=by
 have q:=PySem.IsL.update e f;rw[hf]at q;¤I.write (x:=l) (e:=l) (by rw[hH];§trivial) (.inl rfl) (λb' u hb hu=>(Heap.get?_update_other s.heap (Obj.mapSeq f) (Ne.symm hb)).trans hu) ⟨_,q⟩ ?_;§⟨hz,its',_,hv,q⟩
þ Inv.lnew{its:List Value}{t':Nat}(I:Inv X pins σ H s) (hv:Vals ys its) (hz:ys.length≤sizeLine) :
  Inv X pins σ (upd H s.heap.objs.size (.lst ys)) { s with heap:=s.heap.push { cls:= .type "list",data:= .seq its.toArray },toks:=t' }:=
 I.laid (λ_ _ q=>Heap.get?_push_of_some _ q) (Nat.le_refl _) ⟨hz,its,0,hv,Heap.get?_push_size _ rfl⟩
þ Inv.fresh (I:Inv X pins σ H s):H s.heap.objs.size=none:=I.hok.fresh (Nat.le_refl _)
þ Inv.lstM (I:Inv X pins σ H s) (hH:H l=some (.lst xs)):xs.length≤sizeLine∧ ∃(its:List Value) (n:Nat),Vals xs its∧xs.length=its.length∧s.heap.get? l=some { cls:= .type "list",data:= .seq its.toArray n }:=by
 ø⟨z,its,n,r,e⟩:=I.hok l _ hH;§⟨z,its,n,r,r.length,e⟩
þ zjA{n:Nat}(h:n≤sizeLine):Builtin.List.listTooLong n=false:=by
 unfold Builtin.List.listTooLong;§decide_eq_false ¥
end
section
variable {X:Cx}
ñ def zrX:V→List V→Hp→VK→Prop:=λx vs H Q=>∃l xs y,x= .ref l∧vs=[y]∧H l=some (.lst xs)∧xs.length<sizeLine∧Q .non (upd H l (.lst (xs++[y])))
þ zkK:MtM X "list.append" zrX:=by
 intro pins s σ H x vs v us Q I rx rv h;ø⟨l,xs,y,rfl,rfl,hH,hz,q⟩:=h;cases rx;ø⟨u,rfl,ru⟩:=rv.one;ø⟨z,its,n,r,hl,e⟩:=I.lstM hH;¤call_meets F.slot_list_append ⟨_,e,rfl⟩ F.entry_list_append (F.args_list_append_2 _ _) (PySem.list_append l its.toArray n u (by rw[List.size_toArray];omega)) ⟨e,?_⟩;¤⟨.non,_,I.lset (its':=its++[u]) hH e ¢ (r.append (.cons ru .nil)) ?_,rfl,q⟩;rw[List.length_append,List.length_singleton];omega
ñ def zqt:V→List V→Hp→VK→Prop:=λx vs H Q=>∃l b xs zs,x= .ref l∧vs=[.ref b]∧H l=some (.lst xs)∧H b=some (.lst zs)∧xs.length+zs.length≤sizeLine∧Q .non (upd H l (.lst (xs++zs)))
þ zqI:MtM X "list.extend" zqt:=by
 intro pins s σ H x vs v us Q I rx rv h;ø⟨l,b,xs,zs,rfl,rfl,hH,hB,hz,q⟩:=h;cases rx;ø⟨u,rfl,ru⟩:=rv.one;cases ru;ø⟨z,its,n,r,hl,e⟩:=I.lstM hH;ø⟨z2,its2,n2,r2,hl2,e2⟩:=I.lstM hB;have hsz:its.toArray.size+its2.toArray.size≤sizeLine:=by rw[List.size_toArray,List.size_toArray];omega
 have hlong:¬(!its.toArray.isEmpty&&Builtin.List.listTooLong (its.toArray.size+its2.toArray.size))=true:=by
  rw[zjA hsz,Bool.and_false];§Bool.false_ne_true
 ¤call_meets F.slot_list_extend ⟨_,e,rfl⟩ F.entry_list_extend (F.args_list_extend_2 _ _)
  (AutoSeq1.list_extend_list_list_0 l its.toArray n b its2.toArray n2 hlong (by rw[List.size_toArray];omega) ¥) ⟨e,e2,?_⟩
 ¤⟨.non,_,I.lset (its':=its++its2) hH e ¢ (r.append r2) ?_,rfl,q⟩;rw[List.length_append];omega
ñ def zAW:R2:=λx y H Q=>∃l b xs zs,x= .ref l∧y= .ref b∧H l=some (.lst xs)∧H b=some (.lst zs)∧xs.length+zs.length≤sizeLine∧ ∀p,H p=none→Q (.ref p) (upd H p (.lst (xs++zs)))
þ znJ:OpR X (binaryOp .Add) zAW:=by
 intro pins s σ H x y v u Q I rx ry h;ø⟨l,b,xs,zs,rfl,rfl,hH,hB,hz,q⟩:=h;cases rx;cases ry;ø⟨z,its,n,r,hl,e⟩:=I.lstM hH;ø⟨z2,its2,n2,r2,hl2,e2⟩:=I.lstM hB;¤PySem.P.add_list e e2 ?_ (by rw[List.size_toArray,List.size_toArray];omega);have ea:its.toArray++its2.toArray=(its++its2).toArray:=by simp
 rw[ea];§⟨.ref _,_,I.lnew (t':=s.toks) (r.append r2) (by rw[List.length_append];omega),rfl,q _ I.fresh⟩
ñ def zDc:R2:=λx y H Q=>∃l k xs,x= .ref l∧y= .int k∧H l=some (.lst xs)∧ -(2 ^ 63)≤k∧k<2 ^ 63∧xs.length*k.toNat≤sizeLine∧
 ∀p,H p=none→Q (.ref p) (upd H p (.lst (List.replicate k.toNat xs).flatten))
þ zwM{α:Type}(xs:List α) (k:Nat):(List.replicate k xs).flatten.length=k*xs.length:=by
 induction k with
 |zero=>simp
 |succ k ih=>rw[List.replicate_succ,List.flatten_cons,List.length_append,ih,Nat.succ_mul,Nat.add_comm]
þ zyg:OpR X (binaryOp .Mult) zDc:=by
 intro pins s σ H x y v u Q I rx ry h;ø⟨l,k,xs,rfl,rfl,hH,h1,h2,hz,q⟩:=h;cases rx;ø⟨t,rfl⟩:=ry;ø⟨z,its,n,r,hl,e⟩:=I.lstM hH;have hlen:its.toArray.size*k.toNat≤sizeLine:=by rw[List.size_toArray,←hl];§hz
 have hcap:¬its.toArray.size*k.toNat > (2 ^ 63 - 1) / 8:=by
  have:(sizeLine:Nat)≤(2 ^ 63 - 1) / 8:=by decide
  omega
 have hfit:¬(!Builtin.List.listFitsIndex k)=true:=by
  rw[fitsIndex_both h1 h2];§Bool.false_ne_true
 have hlong:¬Builtin.List.listTooLong (its.toArray.size*k.toNat)=true:=by
  rw[zjA hlen];§Bool.false_ne_true
 have hnew:List.foldl (λx1 x2=>x1++x2) #[] (List.replicate (if its.toArray.isEmpty=true then 0 else k.toNat) its.toArray)=(List.replicate k.toNat its).flatten.toArray:=by
  have f0:∀m:Nat,List.foldl (λx1 x2=>x1++x2) #[] (List.replicate m its.toArray)=(List.replicate m its).flatten.toArray:=λm=>by
   have:=zkJ its m [];rw[List.nil_append]at this;§this
  rw[f0];cases its with
  |nil=>simp
  |cons a r'=>rw[if_neg ¢]
 ¤wpAny_binaryOp_repeat_ref (T:= "list") (U:= "int") £ ⟨_,e,rfl⟩ (λs'=>typeIs_int s' k t) noFill_list_mul F.fills_int_mul F.slot_int_rmul repeat_list F.slot_int_index.lookup
  (call_meets F.slot_int_rmul (typeIs_int s k t) F.entry_int_rmul (F.args_int_rmul_2 _ _) (int___rmul___int_list k t l its.toArray n)
   ⟨e,rfl,⟨_,e,rfl⟩,call_meets F.slot_list_mul ⟨_,e,rfl⟩ F.entry_list_mul (F.args_list_mul_2 _ _) (AutoListH.list___mul___list_int_3 l its.toArray n k t hfit hcap hlong) ⟨e,?_⟩⟩)
 rw[hnew];§⟨.ref _,_,I.lnew (t':=s.toks) (r.rep k.toNat) (by rw[zwM,Nat.mul_comm];§hz),rfl,q _ I.fresh⟩
end
end L2
namespace Att
open PySem PySem.W PySem.Calls PyProof.Rows
þ zhQ{P:Params}{h:Heap}:∀(ns:List Int) (vs:List Value),WellAll P h vs (ns.map WData.int)→IntsAre vs ns:=by
 intro ns
 induction ns with
 |nil=>
  intro vs w;rw[List.map_nil]at w;cases w;§.nil
 |cons n ns ih=>
  intro vs w;rw[List.map_cons]at w;cases w with
  |cons a b=>
   cases a;§.cons _ _ (ih _ b)
þ zqJ{l:OpenLaw}{n:Nat}(hn:l.most=some n) {P:Params}{h:Heap}{args:List WData}{vals:List Value}
  (hpre:l.row.toRowW.claim.pre args=true) (hwl:WellAll P h vals args) :
  ∃a vs ns,vals=[Value.ref a]∧args=[WData.list (ns.map WData.int)]∧h.get? a=some { cls:= .type "list",data:= .seq vs.toArray }∧IntsAre vs ns∧ns.length≤n:=by
 have hsh:WShape.hasAll [] args [.list .int]=true:=(pre_splitW hpre).1;have hc:l.pre.holds [] { args:=args }=true:=(pre_splitW hpre).2;ø⟨d,r,rfl,h1,h2⟩:=hasAllW_cons hsh;obtain rfl:=hasAllW_nil h2;ø⟨xs,rfl,h3⟩:=hasW_list h1;ø⟨ns,rfl⟩:=items_int h3;have hlen:ns.length≤n:=by
  unfold OpenLaw.pre at hc;have h4:(WTm.not (.lt (.lit (.int (n:Int))) (.len (.arg 0)))).holds [] { args:=[.list (ns.map .int)] }=true:=by
   have h4:=(holds_andW hc).1;rw[hn]at h4;§h4
  have h5:=condW_of h4 (w_not (w_lt w_lit (w_len_list (w_arg rfl))));rw[List.length_map]at h5;¤Nat.le_of_not_lt λq=>?_;have q':(n:Int)<((ns.length:Nat):Int):=by omega
  first
   | (rw[decide_eq_true q']at h5;§absurd h5 £)
   | (simp at h5;omega)
 cases hwl with
 |cons w1 w2=>
  cases w2;cases w1 with
  |list ho hall=>§⟨_,_,ns,rfl,rfl,ho,zhQ ns _ hall,hlen⟩
þ zrM (l:OpenLaw) (args:List WData):l.row.toRowW.claim.post args (.bool true) args=true:=
 postW_of (r:=l.row.toRowW) (X:=(true == true))
  (show WShape.has [] (.bool true) .bool=true by first |rfl |decide |simp [WShape.has,WShape.arms,WShape.armsAll])
  (show(WTm.eq .res (.lit (.bool true))).value [] { args:=args,res:=some (.bool true),after:=args }=some (.bool (true == true)) from w_eq_bool (w_res rfl) w_lit) rfl
þ attach_call{l:OpenLaw}{n:Nat}{q:Program}{loose:List Str}{XP:(Str→Option Value)→Heap→Prop}{YP:World→Heap→Prop}{d:DefRec}
  (hn:l.most=some n) (hdf:d.params.defaults=[])
  (call:∀(w:World) (s₀ s₁:Shared) (mg mb:Str→Option Value) (fa:Addr) (o:Obj) (pm cd doc:Value) (a:Addr) (vs:List Value) (ns:List Int),
   Ground q loose [] XP w s₀ mg mb s₁.heap→YP w s₁.heap→
   s₁.heap.get? fa=some o→o.data= .func (docDef d.name d.params d.body d.scope pm cd doc)→s₁.heap.CodeRec cd d.name→mg d.name=some (.ref fa)→
   s₁.heap.get? a=some { cls:= .type "list",data:= .seq vs.toArray }→IntsAre vs ns→ns.length≤n→s₁.gens= #[]→
   codeAny (model l.prog w) callerA (.call (.ref fa) ⟨[.ref a],[]⟩) (λr s'=>r= .ok (.ret (.bool true))∧OldK s₁.heap s'.heap∧s'.os=s₁.os∧AllBare s'.gens) s₁) :
  WalkO q loose XP YP l.row.toRowW d [] (λf vs=>PySem.call f vs):=by
 intro w s₀ s₁ mg mb G Y fa o pm cd doc dV kV ho hd hcd hD hmg hg args vals as hpre hlay hrd hwl hlo;obtain rfl:dV= .none:=Dflts.none hD hdf;obtain rfl:kV= .none:=Dflts.noKw hD;ø⟨a,vs,ns,rfl,rfl,hobj,hints,hlen⟩:=zqJ hn hpre hwl;¤enter_call (codeAny_mono (call w s₀ s₁ mg mb fa o pm cd doc a vs ns G Y ho (fd_plain hd) hcd hmg hobj hints hlen hg) λr s' hq=>?_);ø⟨rfl,h2,h3,h4⟩:=hq;§⟨.inl ⟨.bool true, .bool true,[],rfl,λ_=>rfl, .bool true,zrM l _,λ_=>⟨List.Pairwise.nil,λ_ hm=>(nomatch hm)⟩⟩,h2,h3,h4⟩
end Att
namespace L2
open PySem PySem.Spec PyProof.Rows
þ zlc:∀{vs:List Value}{ns:List Int},IntsAre vs ns→Vals (ns.map V.int) vs
 |_,_, .nil=> .nil
 |_,_, .cons n t h=> .cons ⟨t,rfl⟩ (zlc h)
ñ def zAq (H:Hp):Prop:=∀b,H b=none∨ ∃o xs,H b=some (.frz o (.lst xs))
þ zuh{P:Program}{w:World}{K:Ƒ}{mg mb:Str→Option Value}{CX:CXT}{k:Nat}{fa a:Addr}{fd:FuncData}{x:Str}{sp:Sp}{s₁:Shared}{vs:List Value}{ns:List Int}
  (KX:K.In s₁.heap) (hns:s₁.heap.Ns mainGlobals mg) (hb:s₁.heap.Ns builtinsNs mb) (hbb:∀x:Str,x≠ "__name__" →mb x=bootBuiltins x) (hlim:s₁.heap.NoLimit) (hg:s₁.gens= #[])
  (ha:s₁.heap.get? a=some { cls:= .type "list",data:= .seq vs.toArray }) (hi:IntsAre vs ns) (hl:ns.length≤sizeLine) (hr:Room k callerA)
  (F:∀base:Heap,K.In base→base.Ns mainGlobals mg→FnOk P w K mg base CX k fa fd [x] sp) (hbind:∀(s:Shared) (u:Value),BindsTo s fd ⟨[u],[]⟩ [(x,u)])
  (hsp:∀H:Hp,zAq H→SqL K H a (ns.map V.int)→sp [.ref a] H (λv _=>v= .bl true) λ_ _ _=>False)
  (hCX:∀H e s',CX [] H s₁ (λ_ _ _=>False) e s'→False) :
  codeAny (model P w) callerA (.call (.ref fa) ⟨[.ref a],[]⟩) (λr s'=>r= .ok (.ret (.bool true))∧OldK s₁.heap s'.heap∧s'.os=s₁.os∧AllBare s'.gens) s₁:=by
 have rv:=zlc hi;have lenV:=hi.length;have core:∀H:Hp,zAq H→SqL K H a (ns.map V.int)→HOk P w H s₁.heap→(∀b,H b≠none→b=a)→(H a≠none→K.lookup a=none)→
   codeAny (model P w) callerA (.call (.ref fa) ⟨[.ref a],[]⟩) (λr s'=>r= .ok (.ret (.bool true))∧OldK s₁.heap s'.heap∧s'.os=s₁.os∧AllBare s'.gens) s₁:=by
  intro H hO hS hok hA hK;have base_of:∀{b:Addr}{o:Obj},s₁.heap.get? b=some o→H b=none→(zsX s₁.heap H).get? b=some o:=λe n=>zsM e n;have noA:∀{b:Addr}{o:Obj}{es:Array DictEntry}{ep:Nat},s₁.heap.get? b=some o→o.data= .dict es ep→H b=none:=λ{b o es ep} e d=>by
   cases q:H b with
   |none=>rfl
   |some u=>
    have e':b=a:=hA b (by rw[q];simp);subst e';rw[ha]at e;cases e;have d':Data.seq vs.toArray _=Data.dict es ep:=d;cases d'
  have nsK:∀{b:Addr}{m:Str→Option Value},s₁.heap.Ns b m→(zsX s₁.heap H).Ns b m:=λ{b m} ⟨o,es,ep,e,d,r⟩=>⟨o,es,ep,base_of e (noA e d),d,r⟩;have hKb:K.In (zsX s₁.heap H):=λb o e=>base_of (KX b o e) (by
   cases q:H b with
   |none=>rfl
   |some u=>
    have e':b=a:=hA b (by rw[q];simp);subst e';rw[hK (by rw[q];simp)]at e;cases e)
  have hM:Mod K mg (zsX s₁.heap H):=⟨hKb,nsK hns,⟨mb,nsK hb,hbb⟩,let ⟨mc,h1,h2⟩:=hlim;⟨mc,nsK h1,h2⟩⟩;have e0:Env0 P w K mg (zsX s₁.heap H) callerA [] s₁ H:=⟨rfl,hM,λb o e=>zxa e,Nat.le_of_eq (zqY _ _),trivial,λb hb=>absurd (show b∈([]:List Addr) from hb) ¢,hok, .of_eq hg⟩;¤codeAny_mono ((F _ hKb (nsK hns)).run callerA [] s₁ H ⟨[.ref a],[]⟩ [.ref a] [.ref a] _ _ hr e0 (hbind s₁ (.ref a)) (.cons rfl .nil) (hsp H hO hS)) λr s' h=>?_;cases r with
  |error e=>§(hCX H e s' h).elim
  |ok fl=>
   cases fl with
   |next=>§False.elim h
   |brk=>§False.elim h
   |cont=>§False.elim h
   |ret u=>
    ø⟨v,H',os,bare,un,hok',r',q⟩:=h;have q':v= .bl true:=q;subst q';obtain rfl:u=Value.bool true:=r';¤⟨rfl,OldK.of_keep λb o e=>?_,os,bare⟩;cases q:H b with
    |none=>§un.keep b o e q (by intro z;§absurd (show b∈([]:List Addr) from z) ¢) ¢
    |some u=>
     rcases hO b with z |⟨ob,xs,z⟩
     ·rw[q]at z;cases z
     ·have z2:=un.frzs b ob _ z;ø⟨e1,_⟩:=hok b _ z;ø⟨e2,_⟩:=hok' b _ z2;rw[e]at e1;cases e1;§e2
 cases hk:K.lookup a with
 |some o=>
  have e:=KX a o hk;rw[ha]at e;cases e;¤core (λ_=>none) (λ_=> .inl rfl) (.inr ⟨_,vs.toArray,_,hk,rfl,rfl,rfl,by rw[List.size_toArray,lenV];§hl,by simpa using rv⟩) (λb u z=>by have z':(none:Option HO)=some u:=z;cases z') (λb z=>absurd rfl z) λz=>absurd rfl z
 |none=>
  ¤core (λb=>if b=a then some (.frz { cls:= .type "list",data:= .seq vs.toArray } (.lst (ns.map V.int))) else none) (λb=>?_) (.inl (.inr ⟨{ cls:= .type "list",data:= .seq vs.toArray },if_pos rfl⟩)) (λb u z=>?_) (λb z=>?_) λ_=>hk
  ·by_cases hb:b=a
   ·§.inr ⟨_,_,if_pos hb⟩
   ·§.inl (if_neg hb)
  ·by_cases hb:b=a
   ·have z':=(if_pos hb).symm.trans z;cases z';subst hb;§⟨ha,by rw[List.length_map];§hl,vs,_,rv,ha⟩
   ·have z':=(if_neg hb).symm.trans z;cases z'
  ·by_cases hb:b=a
   ·§hb
   ·§absurd (if_neg hb) z
þ zxi{l:PySem.W.OpenLaw}{n k:Nat}{q:Program}{loose:List Str}{XP:(Str→Option Value)→Heap→Prop}{YP:World→Heap→Prop}{d:DefRec}{K:Params→Ƒ}{CX:World→CXT}{sp:World→Sp}{x:Str}
  (hn:l.most=some n) (hn2:n≤sizeLine) (hdf:d.params.defaults=[]) (hr:Room k callerA)
  (hY:∀(w:World) (h:Heap),YP w h→(K w.params).In h)
  (F:∀(w:World) (mg:Str→Option Value) (fa:Addr) (h:Heap),(K w.params).In h→h.Ns mainGlobals mg→mg d.name=some (.ref fa)→
   ∃fd:FuncData,(∀(s:Shared) (u:Value),BindsTo s fd ⟨[u],[]⟩ [(x,u)])∧
    ∀base:Heap,(K w.params).In base→base.Ns mainGlobals mg→FnOk l.prog w (K w.params) mg base (CX w) k fa fd [x] (sp w))
  (hsp:∀(w:World) (H:Hp) (a:Addr) (ns:List Int),ns.length≤n→zAq H→SqL (K w.params) H a (ns.map V.int)→sp w [.ref a] H (λv _=>v= .bl true) λ_ _ _=>False)
  (hCX:∀(w:World) (H:Hp) (s:Shared) (e:Value) (s':Shared),CX w [] H s (λ_ _ _=>False) e s'→False) :
  PySem.W.WalkO q loose XP YP l.row.toRowW d [] (λf vs=>PySem.call f vs):=by
 ¤Att.attach_call hn hdf λw s₀ s₁ mg mb fa o pm cd doc a vs ns G Y ho hd hcd hmg hobj hints hlen hg=>?_;have KX:=hY w _ Y;ø⟨fd,hb,hF⟩:=F w mg fa _ KX G.T.g hmg;§zuh KX G.T.g G.T.b G.T.builtins G.T.nolimit hg hobj hints (Nat.le_trans hlen hn2) hr hF hb (λH hO hS=>hsp w H a ns hlen hO hS) λH e s'=>hCX w H s₁ e s'
ñ def zio (s:Stmt):Arguments:=match s with
 | .FunctionDef _ a _ _ _ _ _ _ _ _=>a
 |_=>{ posonlyargs:=[],args:=[],vararg:=none,kwonlyargs:=[],kw_defaults:=[],kwarg:=none,defaults:=[] }
ñ def zgI (s:Stmt):List Stmt:=match s with
 | .FunctionDef _ _ b _ _ _ _ _ _ _=>b
 |_=>[]
ñ def zaj (s:Stmt):Scope:=match s with
 | .FunctionDef _ _ _ _ _ _ sc _ _ _=>sc
 |_=>{ kind:= .function,names:=[],isGenerator:=false,isCoroutine:=false }
structure Fun (K:Ƒ) (x qual:Str) (st:Stmt) (f:Addr) (fd:FuncData):Prop where
  ex:∃(oc:Value) (od:Option Addr) (kV doc pm:Value) (an:Option Addr) (cdv ct:Value) (osl:Array (Option Value)),
    fd=PySem.W.fnOf x qual (zio st) (zgI st) (zaj st) .none kV doc pm an cdv ct∧K.lookup f=some ⟨oc,od, .func fd,osl⟩∧PySem.W.codeIn K cdv qual=true
  kp:PySem.W.keepIn K (.ref f)=true
section
variable {K:Ƒ}
þ Fun.binds{x qual:Str}{st:Stmt}{f:Addr}{fd:FuncData}{ps:List Str}(F:Fun K x qual st f fd)
  (h:∀(kV doc pm:Value) (an:Option Addr) (cdv ct:Value) (us:List Value),us.length=ps.length→bindArgs (PySem.W.fnOf x qual (zio st) (zgI st) (zaj st) .none kV doc pm an cdv ct) ⟨us,[]⟩=pure (ps.zip us)):Binds K fd ps []:=by
 ø⟨oc,od,kV,doc,pm,an,cdv,ct,osl,rfl,lk,hcd⟩:=F.ex;§.all (h kV doc pm an cdv ct)
þ zzr{x qual:Str}{st:Stmt}{f:Addr}{oc:Value}{od an:Option Addr}{osl:Array (Option Value)}{kV doc pm cdv ct:Value}(l:K.lookup f=some ⟨oc,od, .func (PySem.W.fnOf x qual (zio st) (zgI st) (zaj st) .none kV doc pm an cdv ct),osl⟩)
  (c:PySem.W.codeIn K cdv qual=true) (k:PySem.W.keepIn K (.ref f)=true):Fun K x qual st f (PySem.W.fnOf x qual (zio st) (zgI st) (zaj st) .none kV doc pm an cdv ct):=⟨⟨oc,od,kV,doc,pm,an,cdv,ct,osl,rfl,l,c⟩,k⟩
end
þ zDj{A B:Prop}(h:B):if false=true then A else B:=by
 rw[if_neg Bool.false_ne_true];§h
þ zCE{A B:Prop}(h:A):if true=true then A else B:=by
 rw[if_pos rfl];§h
ñ def Same (H H':Hp):Prop:=∀b o,H b=some o→H' b=some o
þ Same.trans{H H1 H2:Hp}(a:Same H H1) (b:Same H1 H2):Same H H2:=λc o h=>b c o (a c o h)
section
variable {κ:Type} [DecidableEq κ]
ñ def zno (kvs:List (κ×V)) (k:κ):Option V:=(kvs.find? λkv=>decide (kv.1=k)).map (·.2)
ñ def zqG (kvs:List (κ×V)) (k:κ) (v:V):List (κ×V):=
 if(kvs.any λkv=>decide (kv.1=k))=true then kvs.map (λkv=>if kv.1=k then(kv.1,v) else kv) else kvs++[(k,v)]
þ zhb{p:κ×V}{r:List (κ×V)}{k:κ}(e:p.1=k):zno (p::r) k=some p.2:=by simp [zno,List.find?_cons,e]
þ zhn{p:κ×V}{r:List (κ×V)}{k:κ}(e:¬p.1=k):zno (p::r) k=zno r k:=by simp [zno,List.find?_cons,e]
þ zos (k:κ):∀kvs:List (κ×V),(kvs.any λkv=>decide (kv.1=k))=(zno kvs k).isSome
 | []=>rfl
 |p::r=>by
  rw[List.any_cons];by_cases e:p.1=k
  ·ŝ[zhb e,decide_eq_true e,Bool.true_or,Option.isSome_some]
  ·rw[zhn e,decide_eq_false e,Bool.false_or];§zos k r
þ zmP (kvs:List (κ×V)) (k:κ) (v:V):(zqG kvs k v).length≤kvs.length+1:=by
 unfold zqG;split
 ·rw[List.length_map];omega
 ·rw[List.length_append,List.length_cons,List.length_nil];omega
þ RelO.isSome_eq{o:Option V}{u:Option Value}(r:RelO o u):o.isSome=u.isSome:=by
 cases o with
 |none=>cases u with
  |none=>rfl
  |some _=>§(show False from r).elim
 |some _=>cases u with
  |none=>§(show False from r).elim
  |some _=>rfl
þ RelO.getD{o:Option V}{u:Option Value}{d:V}{d':Value}(r:RelO o u) (rd:RelV d d'):RelV (o.getD d) (u.getD d'):=by
 cases o with
 |none=>cases u with
  |none=>§rd
  |some _=>§(show False from r).elim
 |some _=>cases u with
  |none=>§(show False from r).elim
  |some _=>§r
þ KV.val{kvs:List (κ×V)}{vs:List (κ×Value)}(r:KV kvs vs) (k:κ):RelO (zno kvs k) (valueAt vs k):=by
 unfold KV at r
 induction r with
 |nil=>§True.intro
 | @cons p q ps qs h t ih=>
  ø⟨h1,h2⟩:=h;by_cases e:p.1=k
  ·have e':q.1=k:=h1.symm.trans e;have b:valueAt (q::qs) k=some q.2:=by simp [valueAt,List.find?_cons,e']
   rw[zhb e,b];§h2
  ·have e':¬q.1=k:=λz=>e (h1.trans z);have b:valueAt (q::qs) k=valueAt qs k:=by simp [valueAt,List.find?_cons,e']
   rw[zhn e,b];§ih
þ KV.length{kvs:List (κ×V)}{vs:List (κ×Value)}(r:KV kvs vs):kvs.length=vs.length:=Paired.length r
end
þ zyK{P:Program}{w:World}{k:Key}{u:Value}(r:RelV (kV k) u):(zbD P w).is k u=true:=by
 cases k with
 |inl i=>ø⟨t,e⟩:=(show ∃t,u=Value.int i t from r);subst e;§zmi P w i t
 |inr x=>ø⟨t,e⟩:=(show ∃t,u=Value.str x t from r);subst e;§zlW P w x t
þ zli{P:Program}{w:World}:∀{ks:List Key}{us:List Value},Vals (ks.map kV) us→ItemsAre (zbD P w) ks us
 | [],_,r=>by rw[List.map_nil]at r;cases r;§.nil
 |k::ks,_,r=>by
  rw[List.map_cons]at r;cases r with
  |cons h t=>§.cons (zyK h) (zli t)
ñ abbrev KT (H:Hp):List (List Key×V)→List (List Key×Addr×Value)→Prop:=Paired λp q=>p.1=q.1∧H q.2.1=some (.tup (p.1.map kV))∧RelV p.2 q.2.2
þ KT.val{H:Hp}{kvs:List (List Key×V)}{xs:List (List Key×Addr×Value)}(r:KT H kvs xs) (k:List Key):RelO (zno kvs k) ((atKey xs k).map (·.2)):=by
 induction r with
 |nil=>§True.intro
 | @cons p q ps qs h t ih=>
  ø⟨h1,_,h2⟩:=h;by_cases e:p.1=k
  ·have e':q.1=k:=h1.symm.trans e;have b:atKey (q::qs) k=some q.2:=by simp [atKey,List.find?_cons,e']
   rw[zhb e,b];§h2
  ·have e':¬q.1=k:=λz=>e (h1.trans z);have b:atKey (q::qs) k=atKey qs k:=by simp [atKey,List.find?_cons,e']
   rw[zhn e,b];§ih
þ KT.repl{H:Hp}{kvs:List (List Key×V)}{xs:List (List Key×Addr×Value)}(r:KT H kvs xs) (k:List Key) {y:V}{u:Value}(ry:RelV y u) :
  KT H (kvs.map λkv=>if kv.1=k then(kv.1,y) else kv) (xs.map (putAt k u)):=by
 induction r with
 |nil=>§.nil
 | @cons p q ps qs h t ih=>
  rw[List.map_cons,List.map_cons];¤.cons ?_ ih;ø⟨h1,h2,h3⟩:=h;unfold putAt;by_cases e:p.1=k
  ·rw[if_pos e,if_pos (h1.symm.trans e)];§⟨h1,h2,ry⟩
  ·rw[if_neg e,if_neg (λz=>e (h1.trans z))];§⟨h1,h2,h3⟩
þ KT.put{H:Hp}{kvs:List (List Key×V)}{xs:List (List Key×Addr×Value)}(r:KT H kvs xs) (k:List Key) {b:Addr}{y:V}{u:Value}(hb:H b=some (.tup (k.map kV))) (ry:RelV y u) :
  KT H (zqG kvs k y) (storedH xs k b u):=by
 have e:(kvs.any λkv=>decide (kv.1=k))=(atKey xs k).isSome:=by
  rw[zos,(r.val k).isSome_eq,Option.isSome_map]
 unfold zqG storedH;rw[e];by_cases q:(atKey xs k).isSome=true
 ·rw[if_pos q,if_pos q];§r.repl k ry
 ·rw[if_neg q,if_neg q];§Paired.snoc r ⟨rfl,hb,ry⟩
þ KT.keeps{H H':Hp}{kvs:List (List Key×V)}{xs:List (List Key×Addr×Value)}(r:KT H kvs xs) (ht:∀b ys,H b=some (.tup ys)→H' b=some (.tup ys)):KT H' kvs xs:=
 Paired.mapP r λ_ _ z=>⟨z.1,ht _ _ z.2.1,z.2.2⟩
section
variable {P:Program}{w:World}{H:Hp}{h:Heap}{a:Addr}
þ zyz{u:HO}(ok:HOk P w H h) (e:Rd H a u):ObjOk P w H h a u:=e.ok ok
þ zBI{kvs:List (Key×V)}(ok:HOk P w H h) (e:Rd H a (.dK kvs)):kvs.length≤sizeLine∧(a == sysModules)=false∧ ∃vs,KV kvs vs∧h.DictOf (zbD P w) a vs:=
 show ObjOk P w H h a (.dK kvs) from zyz ok e
þ zqh{ks:List Key}(ok:HOk P w H h) (e:H a=some (.tup (ks.map kV))):(tupleKind (zbD P w)).is h ks a:=by
 ø⟨_,its,r,o,h1,h2,n,h3⟩:=(show ObjOk P w H h a (.tup (ks.map kV)) from ok a _ e);§⟨o,its.toArray,n,h1,h2,h3,by simpa using zli r⟩
þ zBn{kvs:List (List Key×V)}(ok:HOk P w H h) (e:Rd H a (.dT kvs)):kvs.length≤sizeLine∧(a == sysModules)=false∧
  ∃xs,KT H kvs xs∧h.DictOfH (tupleKind (zbD P w)) a xs:=by
 ø⟨z,y,xs,r,o,es,ep,h1,h2,h3,h4,h5⟩:=(show ObjOk P w H h a (.dT kvs) from zyz ok e);¤⟨z,y,xs,r,o,es,ep,h1,h2,h3,h4,λx hx=>?_,h5⟩;have all:∀{l:List (List Key×V)}{m:List (List Key×Addr×Value)},KT H l m→ ∀x∈m,(tupleKind (zbD P w)).is h x.1 x.2.1:=by
  intro l m q
  induction q with
  |nil=>intro x hx;§nomatch hx
  | @cons p q ps qs hq t ih=>
   intro x hx;rcases List.mem_cons.mp hx with e |hx
   ·subst e;§zqh ok (by rw[←hq.1];§hq.2.1)
   ·§ih x hx
 §all r x hx
end
ñ def DGet (H:Hp) (a:Addr) (y:V) (r:Option V):Prop:=
 (∃kvs k,Rd H a (.dK kvs)∧y=kV k∧r=zno kvs k)∨ ∃kvs k b,Rd H a (.dT kvs)∧y= .ref b∧H b=some (.tup (k.map kV))∧r=zno kvs k
þ DGet.t{H:Hp}{a b:Addr}{kvs:List (List Key×V)}{k:List Key}(e:H a=some (.dT kvs)) (eb:H b=some (.tup (k.map kV))):DGet H a (.ref b) (zno kvs k):= .inr ⟨kvs,k,b, .inl e,rfl,eb,rfl⟩
section
variable {X:Cx}{pins:List (Addr×Obj)}{σ:St}{H:Hp}{s:Shared}{a:Addr}{y:V}{u:Value}{o:Option V}{A:Around}{E:Value→Shared→Prop}
þ Inv.big (I:Inv X pins σ H s):sysModules<s.heap.objs.size:=by
 have h:mainGlobals<s.heap.objs.size:=(I.mod.glob.keeps I.bk).lt;§Nat.lt_trans £ h
þ zCy{Q:Value→Shared→Prop}(hu:A.units+1<cLine) (I:Inv X pins σ H s) (g:DGet H a y o) (ry:RelV y u) (h:∀s',Inv X pins σ H s'→Q (.bool o.isSome) s') :
  wpAny (model X.prog X.w) A (compareOp .In u (.ref a)) Q E s:=by
 rcases g with⟨kvs,k,e,ey,l⟩ |⟨kvs,k,b,e,ey,eb,l⟩
 ·subst ey;ø⟨z,hd,vs,rel,dd⟩:=zBI I.hok e;¤wpAny_in_of (zyK ry) hd dd.mapOf ?_;rw[←(rel.val k).isSome_eq,←l];§h _ (I.tok _)
 ·subst ey;cases(show u=Value.ref b from ry);ø⟨z,hd,xs,rel,dd⟩:=zBn I.hok e;¤wpAny_in_heap (tupleKind_room_in1 hu) (zqh I.hok eb) hd dd ?_;have q:=(rel.val k).isSome_eq;rw[Option.isSome_map]at q;rw[←q,←l];§h _ (I.tok _)
end
end L2
namespace Att
open PySem PySem.W PySem.Calls PyProof.Rows
end Att
namespace L2
open PySem PySem.Spec PyProof.Rows
section
variable {prog:Program}{w:World}{A:Around}{R:Result→Shared→Prop}{s:Shared}
þ zlt{elt target iter:Expr}{ifs:List Expr}{scope:Scope}{pos:Pos}{it acc:Value}{env:Env}(I:Nat→Shared→Prop)
  (turn:∀n s,I n s→wpAny (model prog w) A (pyNext it) (λr s₁=>match r with
   |none=>R (.ok .next) s₁
   |some v=>wpAny (model prog w) A (letOwnedTupleGo target it v) (λ_ s₀=>wpAny (model prog w) A (assign target env v) (λ_ s₂=>
     wpAny (model prog w) A (forIn ifs true λc r=>if r=true then do let ok ←isTrue c env (eval c env);pure (ForInStep.yield ok) else pure (ForInStep.yield r)) (λok s₃=>
      if ok=true then wpAny (model prog w) A (eval elt env) (λx s₄=>
       wpAny (model prog w) A (call (.builtin "list.append") [acc,x]) (λ_ s₅=>∃m,m<n∧I m s₅) (λ_ _=>False) s₄) (λ_ _=>False) s₃
      else ∃m,m<n∧I m s₃) (λ_ _=>False) s₂) (λ_ _=>False) s₀) (λ_ _=>False) s₁) (λ_ _=>False) s)
  (n:Nat) (h:I n s) :
  codeAny (model prog w) A (.compLoop (.ListComp elt [⟨target,iter,ifs,0⟩] scope pos) 0 it acc env) R s:=by
 ¤codeAny_loop rfl I (λn s hI=>?_) n h;show wpAny _ A ((compTurn (.ListComp elt [⟨target,iter,ifs,0⟩] scope pos) 0 it acc env).onRaise (λx=>do noteFrame x env;theTreesLotGoes x)) _ _ s;¤wpAny_noted ?_;rw[compTurn_list];¤wpAny_bind (wpAny_standAt (wpAny_bind (wpAny_mono (turn n s hI) (λr s₁ h₁=>?_) λ_ _ h'=>h'.elim)));cases r with
 |none=>§wpAny_pure h₁
 |some v=>
  ¤wpAny_bind (wpAny_mono h₁ (λ_ s₀ h₀=>?_) λ_ _ h'=>h'.elim);¤wpAny_bind (wpAny_mono h₀ (λ_ s₂ h₂=>wpAny_bind (wpAny_mono h₂ (λok s₃ h₃=>?_) λ_ _ h'=>h'.elim)) λ_ _ h'=>h'.elim);cases ok with
  |false=>§wpAny_pure ⟨rfl,h₃⟩
  |true=>
   §wpAny_bind (wpAny_bind (wpAny_mono h₃ (λx s₄ h₄=>wpAny_bind (wpAny_mono h₄ (λ_ s₅ h₅=>wpAny_pure (wpAny_pure ⟨rfl,h₅⟩)) λ_ _ h'=>h'.elim)) λ_ _ h'=>h'.elim))
end
ñ def ziu (cells:List (Str×Addr)):List (Str×NameKind)→List (Str×Addr)→List (Str×Addr)
 | [],acc=>acc
 | (n,k)::r,acc=>if(k == NameKind.free)=true then ziu cells r ((n,(cells.lookup n).getD 0)::acc) else ziu cells r acc
þ zoX{scope:Scope}{env:Env}(h:∀y∈scope.names,y.2= .free→ ∃c,env.cells.lookup y.1=some c) :
  closureFor scope env=pure (ziu env.cells scope.names []):=by
 have go:∀(l:List (Str×NameKind)) (acc:List (Str×Addr)),(∀y∈l,y.2= .free→ ∃c,env.cells.lookup y.1=some c)→
   (forIn l acc λ(x:Str×NameKind) (cs:List (Str×Addr))=>(if(x.2 == NameKind.free)=true then(do let a ←cellOf env x.1;pure (ForInStep.yield ((x.1,a)::cs))) else pure (ForInStep.yield cs):Sem (ForInStep (List (Str×Addr)))))=(pure (ziu env.cells l acc):Sem (List (Str×Addr))):=by
  intro l
  induction l with
  |nil=>intro acc _;rfl
  |cons x l ih=>
   intro acc hl;ø⟨n,k⟩:=x;have hr:=λy hy=>hl y (List.mem_cons_of_mem _ hy);rw[List.forIn_cons];by_cases hk:k= .free
   ·subst hk;ø⟨c,hc⟩:=hl (n, .free) List.mem_cons_self rfl;have hc':env.cells.lookup n=some c:=hc;have e:cellOf env n=pure c:=by unfold cellOf;rw[hc']
    have e2:ziu env.cells ((n,NameKind.free)::l) acc=ziu env.cells l ((n,c)::acc):=by
     show(if(NameKind.free == NameKind.free)=true then ziu env.cells l ((n,(env.cells.lookup n).getD 0)::acc) else ziu env.cells l acc)=_;rw[if_pos (by rfl),hc'];rfl
    dsimp only;rw[if_pos (by rfl),e,pure_bind,pure_bind,e2];§ih _ hr
   ·have hb:¬(k == NameKind.free)=true:=by simpa using hk
    have e2:ziu env.cells ((n,k)::l) acc=ziu env.cells l acc:=by
     show(if(k == NameKind.free)=true then ziu env.cells l ((n,(env.cells.lookup n).getD 0)::acc) else ziu env.cells l acc)=_;rw[if_neg hb]
    dsimp only;rw[if_neg hb,pure_bind,e2];§ih _ hr
 have q:=go scope.names [] h;unfold closureFor
 first
  |§(bind_pure _).trans q
  | (ŝ[bind_pure];§q)
  | (ŝ[pure_bind,bind_assoc,bind_pure];§q)
þ zju{cells:List (Str×Addr)}{x:Str}{c:Addr}:∀(l:List (Str×NameKind)) (acc:List (Str×Addr)),(∀y∈l,y.2= .free→ ∃c,cells.lookup y.1=some c)→
  (ziu cells l acc).lookup x=some c→acc.lookup x=some c∨cells.lookup x=some c
 | [],acc,_,h=> .inl h
 | (n,k)::r,acc,hl,h=>by
  have hr:=λy hy=>hl y (List.mem_cons_of_mem (n,k) hy);by_cases hk:k= .free
  ·subst hk;have h':(ziu cells r ((n,(cells.lookup n).getD 0)::acc)).lookup x=some c:=h;rcases zju r _ hr h' with q |q
   ·rw[List.lookup_cons]at q;cases e:x == n with
    |true=>
     rw[e]at q;ø⟨d,hd⟩:=hl (n, .free) List.mem_cons_self rfl;have hd':cells.lookup n=some d:=hd;have e1:x=n:=eq_of_beq e;rw[hd']at q;have q':d=c:=Option.some.inj q;§.inr (by rw[e1,hd',q'])
    |false=>
     rw[e]at q;§.inl q
   ·§.inr q
  ·have hb:¬(k == NameKind.free)=true:=by simpa using hk
   have h':(if(k == NameKind.free)=true then ziu cells r ((n,(cells.lookup n).getD 0)::acc) else ziu cells r acc).lookup x=some c:=h;rw[if_neg hb]at h';§zju r acc hr h'
þ zhv{cells:List (Str×Addr)}{x:Str}:∀(l:List (Str×NameKind)) (acc:List (Str×Addr)),((x,NameKind.free)∈l∨ ∃c,acc.lookup x=some c)→ ∃c,(ziu cells l acc).lookup x=some c
 | [],acc,h=>by
  rcases h with h |h
  ·cases h
  ·§h
 | (n,k)::r,acc,h=>by
  by_cases hk:k= .free
  ·subst hk;¤zhv r ((n,(cells.lookup n).getD 0)::acc) ?_;cases e:x == n with
   |true=>§.inr ⟨_,by rw[List.lookup_cons,e]⟩
   |false=>
    rcases h with h |⟨c,h⟩
    ·rcases List.mem_cons.mp h with q |q
     ·have:x=n:=congrArg Prod.fst q;rw[this]at e;simp at e
     ·§.inl q
    ·§.inr ⟨c,by rw[List.lookup_cons,e];§h⟩
  ·have hb:¬(k == NameKind.free)=true:=by simpa using hk
   show ∃c,(if(k == NameKind.free)=true then ziu cells r ((n,(cells.lookup n).getD 0)::acc) else ziu cells r acc).lookup x=some c;rw[if_neg hb];¤zhv r acc ?_;rcases h with h |h
   ·rcases List.mem_cons.mp h with q |q
    ·§absurd (congrArg Prod.snd q).symm hk
    ·§.inl q
   ·§.inr h
þ zdP{env:Env}{x:Str}{k:NameKind}:∀{names:List (Str×NameKind)},(∀y∈names,y.2≠ .cell)→
  (names.map λ(n,k)=>if(k == NameKind.free&&env.scope.kind == .function&&env.kindOf n == some .cell) then(n,NameKind.cell) else(n,k)).lookup x=some k→(k= .cell∨k= .free)→(x,NameKind.free)∈names
 | [],_,h,_=>by simp at h
 | (n,j)::r,hc,h,hk=>by
  have h':List.lookup x ((if(j == NameKind.free&&env.scope.kind == .function&&env.kindOf n == some .cell)=true then(n,NameKind.cell) else(n,j)) ::
   (r.map λ(n,k)=>if(k == NameKind.free&&env.scope.kind == .function&&env.kindOf n == some .cell) then(n,NameKind.cell) else(n,k)))=some k:=h
  have hr:=λy hy=>hc y (List.mem_cons_of_mem (n,j) hy);have hj:j≠ .cell:=hc (n,j) List.mem_cons_self;cases e:x == n with
  |true=>
   have e1:x=n:=eq_of_beq e;subst e1;by_cases c:(j == NameKind.free&&env.scope.kind == .function&&env.kindOf x == some .cell)=true
   ·have c1:(j == NameKind.free)=true:=by
     cases q:(j == NameKind.free) with
     |true=>rfl
     |false=>rw[q]at c;simp at c
    have c2:j= .free:=by simpa using c1
    rw[c2];§List.mem_cons_self
   ·rw[if_neg c]at h';simp only[List.lookup_cons,beq_self_eq_true]at h';have h2:j=k:=Option.some.inj h';rcases hk with z |z
    ·§absurd (h2.trans z) hj
    ·rw[h2,z];§List.mem_cons_self
  |false=>
   by_cases c:(j == NameKind.free&&env.scope.kind == .function&&env.kindOf n == some .cell)=true
   ·rw[if_pos c]at h';simp only[List.lookup_cons,e]at h';§List.mem_cons_of_mem _ (zdP hr h' hk)
   ·rw[if_neg c]at h';simp only[List.lookup_cons,e]at h';§List.mem_cons_of_mem _ (zdP hr h' hk)
þ zeS{env:Env}{x:Str}:∀{names:List (Str×NameKind)},names.lookup x=some .free→
  (names.map λ(n,k)=>if(k == NameKind.free&&env.scope.kind == .function&&env.kindOf n == some .cell) then(n,NameKind.cell) else(n,k)).lookup x=some .cell∨
  (names.map λ(n,k)=>if(k == NameKind.free&&env.scope.kind == .function&&env.kindOf n == some .cell) then(n,NameKind.cell) else(n,k)).lookup x=some .free
 | [],h=>by simp at h
 | (n,j)::r,h=>by
  show List.lookup x ((if(j == NameKind.free&&env.scope.kind == .function&&env.kindOf n == some .cell)=true then(n,NameKind.cell) else(n,j)) ::
   (r.map λ(n,k)=>if(k == NameKind.free&&env.scope.kind == .function&&env.kindOf n == some .cell) then(n,NameKind.cell) else(n,k)))=_∨
   List.lookup x ((if(j == NameKind.free&&env.scope.kind == .function&&env.kindOf n == some .cell)=true then(n,NameKind.cell) else(n,j)) ::
   (r.map λ(n,k)=>if(k == NameKind.free&&env.scope.kind == .function&&env.kindOf n == some .cell) then(n,NameKind.cell) else(n,k)))=_
  cases e:x == n with
  |true=>
   simp only[List.lookup_cons,e]at h;have h2:j= .free:=Option.some.inj h;subst h2;by_cases c:(NameKind.free == NameKind.free&&env.scope.kind == .function&&env.kindOf n == some .cell)=true
   ·rw[if_pos c];ŝ[List.lookup_cons,e];§.inl trivial
   ·rw[if_neg c];ŝ[List.lookup_cons,e];§.inr trivial
  |false=>
   simp only[List.lookup_cons,e]at h;by_cases c:(j == NameKind.free&&env.scope.kind == .function&&env.kindOf n == some .cell)=true
   ·rw[if_pos c];ŝ[List.lookup_cons,e];§zeS h
   ·rw[if_neg c];ŝ[List.lookup_cons,e];§zeS h
ñ def zbK (X:Cx) (scope:Scope) (N:List Str) (s:Shared) (H:Hp) (fp:List Addr) (pins:List (Addr×Obj)):Cx:=
 { X with N:=N,s₀:=s,H₀:=H,env:=compEnvC scope (ziu X.env.cells scope.names []) s.heap.objs.size X.env,outer:=X.stack,stack:=X.stack,ex:=fp,fn:=λ_=>false,pn:=X.pn++pins,xe:=λ_ _=>False }
structure CompSc (X:Cx) (scope:Scope) (N:List Str) (k:Nat) (fr:List Nat):Prop where
  kind:scope.kind= .function
  nd:N.Nodup
  len:N.length=k+fr.length
  cell:(scope.names.all λy=>y.2 != NameKind.cell)=true
  loc:(scope.names.all λy=>y.2 != NameKind.local || scope.names.lookup y.1 == some NameKind.local)=true
  free:(scope.names.all λy=>y.2 != NameKind.free || X.env.kindOf y.1 == some NameKind.cell || X.env.kindOf y.1 == some NameKind.free)=true
  frs:((N.drop k).all λx=>scope.names.lookup x == some NameKind.free)=true
  pl:N.drop k=fr.map λj=>X.N.getD j Str.empty
  plen:(fr.all λj=>decide (j<X.N.length))=true
ñ def zhS (σ:St) (fr:List Nat):St:=fr.map λj=>(σ[j]?).join
ñ def zmT (σ:St) (k:Nat) (fr:List Nat):St:=List.replicate k none++zhS σ fr
section
variable {X:Cx}{scope:Scope}{N:List Str}{k:Nat}{fr:List Nat}
þ CompSc.cell' (S:CompSc X scope N k fr):∀y∈scope.names,y.2≠ .cell:=λy hy=>by
 have q:=List.all_eq_true.mp S.cell y hy;simpa using q
þ CompSc.loc' (S:CompSc X scope N k fr):∀y∈scope.names,y.2= .local→scope.names.lookup y.1=some .local:=λy hy e=>by
 have q:=List.all_eq_true.mp S.loc y hy;rw[e]at q;simpa using q
þ CompSc.kinds (S:CompSc X scope N k fr):∀y∈scope.names,y.2= .free→X.env.kindOf y.1=some .cell∨X.env.kindOf y.1=some .free:=λy hy e=>by
 have q:=List.all_eq_true.mp S.free y hy;rw[e]at q;simpa using q
þ CompSc.hasCell (S:CompSc X scope N k fr) (ok:X.Ok):∀y∈scope.names,y.2= .free→ ∃c,X.env.cells.lookup y.1=some c:=λy hy e=>ok.has y.1 (S.kinds y hy e)
þ CompSc.sub (S:CompSc X scope N k fr) (ok:X.Ok) {x:Str}{c:Addr}(h:(ziu X.env.cells scope.names []).lookup x=some c):X.env.cells.lookup x=some c:=by
 rcases zju scope.names [] (S.hasCell ok) h with q |q
 ·simp at q
 ·§q
end
section
variable {X:Cx}{pins:List (Addr×Obj)}{σ:St}{H:Hp}{s:Shared}{scope:Scope}{N:List Str}{k:Nat}{fr:List Nat}{fp:List Addr}
þ zwE (I:Inv X pins σ H s) (S:CompSc X scope N k fr) (hfp:∀b∈fp,zkd X pins H b) (hob:∀b∈fp,∃o,s.heap.get? b=some o):(zbK X scope N s H fp pins).Ok where
  mod:=I.ok.mod
  kind:=S.kind
  glob:=I.ok.glob
  blt:=I.ok.blt
  above:=Nat.le_refl _
  inj:=λx y c h1 h2=>I.ok.inj x y c (S.sub I.ok h1) (S.sub I.ok h2)
  has:=λx hx=>zhv scope.names [] (.inl (by
    rcases hx with hx |hx
    · §zdP S.cell' hx (.inl rfl)
    · §zdP S.cell' hx (.inr rfl)))
  cab:=λx c h _=>absurd h (by show ¬(false=true);decide)
  hd:=I.ok.hd
  frames:=I.ok.frames
  stk:= .inl rfl
  exf:=λb hb=>⟨by
    ø⟨o,e⟩:=hob b hb;§Nat.ne_of_lt (Heap.lt_size e),λx c h=>(hfp b hb).2.2.2.2.1 x c (S.sub I.ok h)⟩
  bs:=I.bs
  bsz:=Nat.le_trans I.ok.bsz I.sz
  noex:=λb o e hb=>by
    rcases(hfp b hb).2.2.2.1 with z |z
    · §I.ok.noex b o e z
    · §absurd (Nat.lt_of_lt_of_le (Heap.lt_size (I.ok.bs b o e).1) z) (Nat.lt_irrefl _)
  exfs:=λb hb z=>by
    rcases List.mem_cons.mp (I.stkSub b z) with q |q
    · §(hfp b hb).2.1 q
    · §(hfp b hb).2.2.1 q
  funs:=I.stack
  frf:=I.stkFree
þ zvU (I:Inv X pins σ H s) (S:CompSc X scope N k fr) {H':Hp}{b:Addr}(hb:b∈fp) (hf:zkd X pins H b) (hob:∃o,s.heap.get? b=some o) (hn:H' b=none):zkd (zbK X scope N s H fp pins) [] H' b:=by
 ¤⟨hn,?_,λz=>?_, .inl hb,λx c h=>hf.2.2.2.2.1 x c (S.sub I.ok h),λp hp=>?_⟩
 ·ø⟨o,e⟩:=hob;§Nat.ne_of_lt (Heap.lt_size e)
 ·rcases List.mem_cons.mp (I.stkSub b z) with q |q
  ·§hf.2.1 q
  ·§hf.2.2.1 q
 ·rcases List.mem_append.mp hp with z |z
  ·§hf.2.2.2.2.2 p z
  ·cases z
þ zpu{j:Nat}{v:V}(h:(zhS σ fr)[j]? =some (some v)):∃i,fr[j]? =some i∧σ[i]? =some (some v):=by
 unfold zhS at h;rw[List.getElem?_map]at h;cases e:fr[j]? with
 |none=>rw[e]at h;cases h
 |some i=>
  rw[e]at h;have h':(σ[i]?).join=some v:=Option.some.inj h;¤⟨i,rfl,?_⟩;cases q:σ[i]? with
  |none=>rw[q]at h';cases h'
  |some o=>
   rw[q]at h';have h2:o=some v:=h';rw[h2]
þ ztv (I:Inv X pins σ H s) (S:CompSc X scope N k fr) (hfp:∀b∈fp,zkd X pins H b) (hob:∀b∈fp,∃o,s.heap.get? b=some o) {h1:Heap}{tk:Nat}{m:Str→Option Value}
    (hns:h1.Ns s.heap.objs.size m) (hk:∀b o,s.heap.get? b=some o→h1.get? b=some o):Inv (zbK X scope N s H fp pins) [] (zmT σ k fr) H { s with heap:=h1,toks:=tk } where
  ok:=zwE I S hfp hob
  os:=rfl
  bare:=I.bare
  base:=Un.kept hk
  loc:=⟨m,hns,λi x v e1 e2 e3=>by
    have e2':(List.replicate k (none:Option V)++zhS σ fr)[i]? =some (some v):=e2;have hi:k≤i:=by
      ¤Nat.le_of_not_lt λz=>?_;rw[List.getElem?_append_left (by simpa using z),List.getElem?_replicate]at e2';split at e2'<;>cases e2'
    rw[List.getElem?_append_right (by simpa using hi),List.length_replicate]at e2';ø⟨j,f1,f2⟩:=zpu e2';have e1':N[i]? =some x:=e1;have d1:(N.drop k)[i - k]? =some x:=by
      rw[List.getElem?_drop];have:k+(i - k)=i:=by omega
      rw[this];§e1'
    have d2:=d1;rw[S.pl,List.getElem?_map,f1]at d2;have d3:X.N.getD j Str.empty=x:=Option.some.inj d2;have jl:j<X.N.length:=of_decide_eq_true (List.all_eq_true.mp S.plen j (List.mem_of_getElem? f1));have d4:X.N[j]? =some x:=by
      rw[List.getD_eq_getElem?_getD,List.getElem?_eq_getElem jl]at d3;rw[List.getElem?_eq_getElem jl];§congrArg some d3
    have fk:scope.names.lookup x=some .free:=by
      have q:=List.all_eq_true.mp S.frs x (List.mem_of_getElem? d1);simpa using q
    have hmem:(x,NameKind.free)∈scope.names:=PySem.mem_of_lookup fk;have kd:=S.kinds _ hmem rfl;have vis:Vis X.env.scope x:=by
      rcases kd with z |z
      · §.inr (.inl z)
      · §.inr (.inr z)
    ø⟨m0,_,hl⟩:=I.loc;ø⟨u,ru,lk⟩:=hl j x v d4 f2 vis;¤⟨u,ru, .inr ⟨zeS fk,?_⟩⟩;have kd':X.env.kindOf x=some .cell∨X.env.kindOf x=some .free:=kd;rcases lk with⟨z,_⟩ |⟨_,c,hc,hcell⟩
    · rcases kd' with q |q<;>(rw[z]at q;cases q)
    · ø⟨c',hc'⟩:=zhv (cells:=X.env.cells) scope.names [] (.inl hmem);have e:=S.sub I.ok hc';rw[hc]at e;cases e;§⟨c,hc',hcell.keeps hk⟩⟩
  cell:=λx c h=>by
    ø⟨v,z⟩:=I.cell x c (S.sub I.ok h);§⟨v,z.keeps hk⟩
  free:=I.hok.fresh (Nat.le_refl _)
  freeC:=λx c h=>I.freeC x c (S.sub I.ok h)
  pin:=λp hp=>by
    have hp':p∈X.pn++pins:=by
      rcases List.mem_append.mp hp with z |z
      · §z
      · cases z
    ø⟨e,n,ne,nf,d⟩:=I.pin p hp';¤⟨hk _ _ e,n,Nat.ne_of_lt (Heap.lt_size e),λz=>?_,d⟩;rcases List.mem_cons.mp (I.stkSub p.1 z) with q |q
    · §ne q
    · §nf q
  hok:=I.hok.kept hk
  len:=by
    show(List.replicate k (none:Option V)++zhS σ fr).length=N.length;rw[List.length_append,List.length_replicate,S.len];unfold zhS;rw[List.length_map]
þ zlr{σ':St}{H':Hp}{s':Shared}{h':Heap}(I:Inv X pins σ H s) (hfp:∀b∈fp,zkd X pins H b) (J:Inv (zbK X scope N s H fp pins) [] σ' H' s') (sb:Heap.SameBut s.heap.objs.size s'.heap h'):Inv X pins σ H' { s' with heap:=h' }:=by
 have neC:∀b o,s.heap.get? b=some o→b≠s.heap.objs.size:=λb o e=>Nat.ne_of_lt (Heap.lt_size e);have frC:H' s.heap.objs.size=none:=J.free;¤Inv.call' (s':={ s' with heap:=h' }) (ch:=fp) I J.os ⟨λb o e n hf hx=>?_,λb o e n hf hx=>?_,λb o e n hx=>J.base.free b o e n hx,λb o e hx=>?_,J.base.tups,J.base.frzs,J.base.tbls⟩ (λb o e=>?_) J.bare λb hb=>⟨(hfp b hb).2.2.2.1,(hfp b hb).2.1,(hfp b hb).2.2.2.2.1,(hfp b hb).2.2.2.2.2⟩
 ·§(sb.2 b (neC b o e)).trans (J.base.keep b o e n hf hx)
 ·ø⟨sl,q⟩:=J.base.slot b o e n hf hx;§⟨sl,(sb.2 b (neC b o e)).trans q⟩
 ·ø⟨o',q⟩:=J.base.there b o e hx;§⟨o',(sb.2 b (neC b o e)).trans q⟩
 ·¤(J.hok b o e).stay (λc v hc q=>(sb.2 c ?_).trans q) (λ_ q=>q) λ_ _ q=>q;rintro rfl;rcases hc with rfl |hc
  ·rw[frC]at e;cases e
  ·rw[frC]at hc;cases hc
end
ñ def PTs (X:Cx) (ifs:List Expr) (t:TT):Prop:=
 ∀(pins:List (Addr×Obj)) (s:Shared) (σ:St) (H:Hp) (Q:Bool→Hp→Prop),Inv X pins σ H s→t σ H Q→
  wpAny (model X.prog X.w) X.A (forIn ifs true λc r=>if r=true then do let ok ←isTrue c X.env (eval c X.env);pure (ForInStep.yield ok) else pure (ForInStep.yield r)) (TP X pins σ Q) X.xe s
ñ def zCL:TT:=λ_ H Q=>Q true H
þ zxu{X:Cx}:PTs X [] zCL:=λ_ _ _ H _ I h=>wpAny_tests_nil ⟨H,I,h⟩
þ zvu{X:Cx}{c:Expr}{t:TT}(h:PT X c t):PTs X [c] t:=λpins s σ H Q I q=>wpAny_tests_one (h pins s σ H Q I q)
ñ def zBJ (X:Cx) (scope:Scope) (N:List Str) (tg:Expr) (ifs:List Expr) (elt:Expr) (l:Addr) (x:V) (σ:St) (H:Hp) (M:St→Hp→Prop):Prop:=
 ∀(s₀:Shared) (H₀:Hp) (fp:List Addr) (pn:List (Addr×Obj)),∃(g:TG) (tt:TT) (te:TE),PG (zbK X scope N s₀ H₀ fp pn) tg g∧PTs (zbK X scope N s₀ H₀ fp pn) ifs tt∧PE (zbK X scope N s₀ H₀ fp pn) elt te∧
  g x σ H λσ2 H2=>tt σ2 H2 λb H3=>if b=true then te σ2 H3 λy H4=>∃ys,H4 l=some (.lst ys)∧ys.length<sizeLine∧M σ2 (upd H4 l (.lst (ys++[y]))) else M σ2 H3
ñ def zwO (X:Cx) (scope:Scope) (N:List Str) (k:Nat) (fr:List Nat) (tg:Expr) (ifs:List Expr) (elt:Expr) (σ:St) (Q:VK) (J:It) (H1:Hp):Prop:=∀l,H1 l=none→
 ∃W:Nat→Nat→St→Hp→Prop,(∃m,W 0 m (zmT σ k fr) (upd H1 l (.lst [])))∧ ∀i m σ' H',W i m σ' H'→
  (J.stop i H'∧Q (.ref l) H')∨(J.go i H'∧ ∃M:St→Hp→Prop,(∀σ'' H'',M σ'' H''→ ∃m',m'<m∧W (i+1) m' σ'' H'')∧ ∀x H2,J.yld i H' x H2→zBJ X scope N tg ifs elt l x σ' H2 M)
ñ def ztF (X:Cx) (scope:Scope) (N:List Str) (k:Nat) (fr:List Nat) (tg:Expr) (ifs:List Expr) (elt:Expr) (wi:TI):TE:=λσ H Q=>wi σ H λJ H1=>zwO X scope N k fr tg ifs elt σ Q J H1
þ zlw{X:Cx}{use:Option (Value→Sem Unit)}{Qf:Value→Shared→Prop}{pins:List (Addr×Obj)}{s:Shared}{σ:St}{H:Hp}{Q:VK}{scope:Scope}{N:List Str}{k:Nat}{fr:List Nat}{tg iter elt:Expr}{ifs:List Expr}{wi:TI}{pos:Pos}(hx:X.xe=λ_ _=>False) (hc:X.calm=true) (S:CompSc X scope N k fr) (hi:PI X tg iter wi) (I:Inv X pins σ H s)
  (fin:∀{s3 s6:Shared}{H3 H5:Hp}{fp:List Addr}{σ5:St}{l:Addr}{a:Flow},Inv X pins σ H3 s3→(∀b∈fp,zkd X pins H3 b)→Inv (zbK X scope N s3 H3 fp pins) [] σ5 H5 s6→Q (.ref l) H5→compPost (model X.prog X.w) X.A X.xe use Qf (.ref l) s3.heap.objs.size (.ok a) s6)
  (h:ztF X scope N k fr tg ifs elt wi σ H Q)
  (hs:∀x,foldedSetIterable iter X.env x=pure x:=by intro _;rfl):wpAny (model X.prog X.w) X.A (comprehension (.ListComp elt [⟨tg,iter,ifs,0⟩] scope pos) scope X.env (firstIterPos [⟨tg,iter,ifs,0⟩] pos) (newList []) (firstAsync [⟨tg,iter,ifs,0⟩]) (firstIter [⟨tg,iter,ifs,0⟩] X.env) use) Qf X.xe s:=by
 ¤wpAny_comprehension_free (use:=use) rfl hs (zoX (S.hasCell I.ok)) S.kind S.loc' (thn (hi pins s σ H _ I h) λv s1 h1=>thn h1 λitv s2 h2=>?_);ø⟨it,fp,tn,J,H2,e,I2,T,st2,f2,h2⟩:=h2;subst e;have fr2:H2 s2.heap.objs.size=none:=I2.hok.fresh (Nat.le_refl _);ø⟨W,⟨m0,w0⟩,turn⟩:=h2 s2.heap.objs.size fr2;¤wpAny_newList ?_ (by show 0≤sizeLine;§Nat.zero_le _);have I3:Inv X pins σ (upd H2 s2.heap.objs.size (.lst [])) { s2 with heap:=s2.heap.push { cls:= .type "list",data:= .seq ([]:List Value).toArray } }:=I2.lnew (t':=s2.toks) (ys:=[]) .nil (Nat.zero_le _);have old:∀b o,s2.heap.get? b=some o→(s2.heap.push { cls:= .type "list",data:= .seq ([]:List Value).toArray }).get? b=some o:=λb o e=>Heap.get?_push_of_some _ e;have fpo2:∀b∈fp,∃o,s2.heap.get? b=some o:=λb hb=>by
  ø⟨o,e,_⟩:=T.obj _ _ st2 b hb;§⟨o,e⟩
 have fpo:∀b∈fp,∃o,(s2.heap.push { cls:= .type "list",data:= .seq ([]:List Value).toArray }).get? b=some o:=λb hb=>by
  ø⟨o,e⟩:=fpo2 b hb;§⟨o,old b o e⟩
 have f3:∀b∈fp,zkd X pins (upd H2 s2.heap.objs.size (.lst [])) b:=λb hb=>by
  ø⟨o,e⟩:=fpo2 b hb;¤⟨?_,(f2 b hb).2⟩;rw[zay (Nat.ne_of_lt (Heap.lt_size e))];§(f2 b hb).1
 generalize hs3:({ s2 with heap:=s2.heap.push { cls:= .type "list",data:= .seq ([]:List Value).toArray } }:Shared)=s3 at I3⊢;have st3:tn 0 s3.heap:=by
  rw[←hs3];§T.keep _ _ _ st2 λb _ o e=>old b o e
 have fpo3:∀b∈fp,∃o,s3.heap.get? b=some o:=by rw[←hs3];§fpo
 clear fpo old hs3;¤wpAny_newFunctionEnv S.cell' (by intro y hy;simp at hy) (λh1 hns1 hsb1=>?_) S.kind;have hk1:∀b o,s3.heap.get? b=some o→h1.get? b=some o:=λb o e=>hsb1.extBut b o (Nat.ne_of_lt (Heap.lt_size e)) (Heap.get?_push_of_some _ e);have I4:=ztv (tk:=s3.toks+([]:List (Str×Value)).length) I3 S f3 fpo3 hns1 hk1;have st4:tn 0 h1:=T.keep _ _ _ st3 λb _ o e=>hk1 b o e;have stat:∀{H':Hp},(∀b∈fp,H' b=none)→ ∀b∈fp,zkd (zbK X scope N s3 (upd H2 s2.heap.objs.size (.lst [])) fp pins) [] H' b:=λhn b hb=>zvU I3 S hb (f3 b hb) (fpo3 b hb) (hn b hb);have loop:∀s4:Shared,s4={ s3 with heap:=h1,toks:=s3.toks+([]:List (Str×Value)).length }→
   codeAny (model X.prog X.w) X.A (.compLoop (.ListComp elt [⟨tg,iter,ifs,0⟩] scope pos) 0 (.ref it) (.ref s2.heap.objs.size) (compEnvC scope (ziu X.env.cells scope.names []) s3.heap.objs.size X.env))
    (compPost (model X.prog X.w) X.A X.xe use Qf (.ref s2.heap.objs.size) s3.heap.objs.size) s4:=by
  rintro s4 rfl;¤zlt (λn s'=>∃i σ' H',Inv (zbK X scope N s3 (upd H2 s2.heap.objs.size (.lst [])) fp pins) [] σ' H' s'∧tn i s'.heap∧(∀b∈fp,H' b=none)∧W i n σ' H') ?_ m0 ⟨0,_,_,I4,st4,λb hb=>(f3 b hb).1,w0⟩;rintro n s5 ⟨i,σ5,H5,I5,st5,fr5,w5⟩;rcases turn i n σ5 H5 w5 with⟨stop,qn⟩ |⟨go,M,hM,step⟩
  ·¤thn (T.done (zbK X scope N s3 (upd H2 s2.heap.objs.size (.lst [])) fp pins) rfl rfl rfl hc i [] s5 σ5 H5 _ I5 (stat fr5) st5 stop) λr s6 ⟨hr,I6⟩=>?_;subst hr;§fin I3 f3 I6 qn
  ·¤thn (T.item (zbK X scope N s3 (upd H2 s2.heap.objs.size (.lst [])) fp pins) rfl rfl rfl hc i [] s5 σ5 H5 _ I5 (stat fr5) st5 go) λr s6 ⟨u,hr,h6⟩=>?_;subst hr;¤thn h6 λ_ s7 ⟨x,H7,I7,r7,y7,st7,fr7⟩=>?_;have I7':=I7.pinned (stat fr7) (T.obj _ _ st7);ø⟨g,tt,te,hg,ht,he,q⟩:=step x H7 y7 s3 (upd H2 s2.heap.objs.size (.lst [])) fp pins;have again:∀{s8:Shared}{σ8:St}{H8:Hp},Inv (zbK X scope N s3 (upd H2 s2.heap.objs.size (.lst [])) fp pins) ([]++zkZ fp s7.heap) σ8 H8 s8→M σ8 H8→
     ∃m,m<n∧ ∃i σ' H',Inv (zbK X scope N s3 (upd H2 s2.heap.objs.size (.lst [])) fp pins) [] σ' H' s8∧tn i s8.heap∧(∀b∈fp,H' b=none)∧W i m σ' H':=λ{s8 σ8 H8} I8 n8=>by
    ø⟨m',hm,w8⟩:=hM σ8 H8 n8;¤⟨m',hm,i+1,σ8,H8,I8.unpinned,T.keep _ _ _ st7 λb hb o e=>(I8.pin (b,o) (List.mem_append_right _ (List.mem_append_right _ (zfl hb e)))).1,λb hb=>?_,w8⟩;ø⟨o,e,d⟩:=T.obj _ _ st7 b hb;§(I8.pin (b,o) (List.mem_append_right _ (List.mem_append_right _ (zfl hb e)))).2.1
   ¤thn (hg _ s7 σ5 H7 x u _ I7' r7 q) λ_ s8 ⟨σ8,H8,I8,q8⟩=>?_;¤thn (ht _ s8 σ8 H8 _ I8 q8) λb s9 ⟨H9,I9,q9⟩=>?_;cases b with
   |false=>§again I9 q9
   |true=>
    ¤thn (he _ s9 σ8 H9 _ I9 q9) λy s10 ⟨yv,H10,I10,r10,ys,hl,hz,qM⟩=>?_;§thn (zkK _ s10 σ8 H10 (.ref s2.heap.objs.size) [yv] (.ref s2.heap.objs.size) [y] (λ_ H'=>M σ8 H') I10 rfl (.cons r10 .nil) ⟨_,ys,yv,rfl,rfl,hl,hz,qM⟩) λ_ s11 ⟨_,H11,I11,_,q11⟩=>again I11 q11
 §codeAny_compStart_list (loop _ rfl) (T.self _ 0 _ _ _ st4 (loop _ rfl))
þ zwe{X:Cx}{scope:Scope}{N:List Str}{k:Nat}{fr:List Nat}{tg iter elt:Expr}{ifs:List Expr}{wi:TI}{pos:Pos}(hx:X.xe=λ_ _=>False) (hc:X.calm=true) (S:CompSc X scope N k fr) (hi:PI X tg iter wi)
  (hs:∀x,foldedSetIterable iter X.env x=pure x:=by intro _;rfl):PE X (.ListComp elt [⟨tg,iter,ifs,0⟩] scope pos) (ztF X scope N k fr tg ifs elt wi):=by
 intro pins s σ H Q I h;rw[eval_ListComp];¤zlw hx hc S hi I (λ{s3 s6 H3 H5 fp σ5 l a} I3 f3 I6 qn=>?_) h hs;ø⟨m6,ns6,_⟩:=I6.loc;§⟨m6,ns6,λh' sb=>⟨.ref l,H5,zlr I3 f3 I6 sb,rfl,qn⟩⟩
þ zwp{X:Cx}{scope:Scope}{N:List Str}{k:Nat}{fr:List Nat}{tg iter elt:Expr}{ifs:List Expr}{wi:TI}{pos spos pos':Pos}{i:Nat}{x:Str}(hx:X.xe=λ_ _=>False) (hc:X.calm=true) (S:CompSc X scope N k fr) (hi:PI X tg iter wi)
  (hN:X.N.Nodup) (hxi:X.N[i]? =some x) (hxl:Loc X.env.scope x) (hw:swapsWith (.ListComp elt [⟨tg,iter,ifs,0⟩] scope pos) (some (.Name x pos')) spos.line X.env=pure true) (hf:X.fn x=true∨X.env.scope.names.lookup x=some .local)
  (hs:∀x,foldedSetIterable iter X.env x=pure x:=by intro _;rfl):PS X (.Assign [.Name x pos'] (.ListComp elt [⟨tg,iter,ifs,0⟩] scope pos) spos) (zBt (ztF X scope N k fr tg ifs elt wi) (zwo i)):=by
 intro pins s σ H D I h;rw[exec_Assign_Name_used x pos' _ spos hw];¤wpAny_bind (wpAny_standAt (wpAny_bind ?_));rw[arm_evalThenUse_ListComp];¤wpAny_bind ?_;¤zlw (Qf:=λ_ s'=>wpAny (model X.prog X.w) X.A (pure ()) (λ_ s2=>wpAny (model X.prog X.w) X.A (pure Flow.next) (SP X pins D) X.xe s2) X.xe s') hx hc S hi I (λ{s3 s6 H3 H5 fp σ5 l a} I3 f3 I6 qn=>?_) h hs;have IX:Inv X pins σ H5 s6:=zlr (h':=s6.heap) I3 f3 I6 ⟨rfl,λ_ _=>rfl⟩;ø⟨m6,ns6,_⟩:=I6.loc;have ns6:s6.heap.Ns s3.heap.objs.size m6:=ns6;have frC:H5 s3.heap.objs.size=none:=I6.free;have fC:zkd X pins H5 s3.heap.objs.size:=I3.fpOk (Nat.le_refl _) frC;¤wpAny_assign_Name (zlA IX hN hxi hxl (v:= .ref l) rfl (λs7 I7 ⟨b,sb,hb⟩=>?_) hf);have hbC:s3.heap.objs.size≠b:=by
  rcases hb with rfl |hb
  ·§fC.2.1
  ·§Ne.symm (fC.2.2.2.2.1 _ _ hb)
 ¤⟨m6,ns6.sameBut sb hbC,λh' sb2=>wpAny_pure (wpAny_pure ⟨_,H5,?_,qn⟩)⟩;¤Inv.call' (s':={ s7 with heap:=h' }) (ch:=[s3.heap.objs.size]) I7 rfl ⟨λc o e n hfs hex=>?_,λc o e n hfs hex=>?_,λc o e n _=>n,λc o e hex=>?_,λ_ _ q=>q,λ_ _ _ q=>q,λ_ ps q=>⟨#[],by simpa using q⟩⟩ (λc o e=>?_) I7.bare λc hcm=>?_
 ·§(sb2.2 c (λz=>hex (by simp [z]))).trans e
 ·§⟨o.slots,(sb2.2 c (λz=>hex (by simp [z]))).trans e⟩
 ·§⟨o,(sb2.2 c (λz=>hex (by simp [z]))).trans e⟩
 ·¤(I7.hok c o e).stay (λd v hd q=>(sb2.2 d ?_).trans q) (λ_ q=>q) λ_ _ q=>q;rintro rfl;rcases hd with rfl |hd
  ·rw[frC]at e;cases e
  ·rw[frC]at hd;cases hd
 ·rw[List.mem_singleton.mp hcm];§⟨fC.2.2.2.1,fC.2.1,fC.2.2.2.2.1,fC.2.2.2.2.2⟩
ñ def Its (x:Str):It:=⟨λi _=>i<x.cps.size,λi H v H'=>H'=H∧ ∃c,x.cps[i]? =some c∧v= .str ⟨#[c]⟩,λi _=>i=x.cps.size⟩
þ zom{P:Program}{w:World}{K:Ƒ}{tg:Expr}(it:Addr) (x:Str) (t:Tok) (ty:String)
    (hn: ["enumerate", "zip", "dict_itemiterator", "dict_reverseitemiterator", "odict_iterator", "itertools.zip_longest", "itertools.pairwise"].contains ty=false)
    (hW:∀A':Around,A'.handled=none→Walks P w A' it [it] [it] x.cps.size (SignAt x) (λi h=>h.IsStrIter it ty x t i))
    (hself:∀(A:Around) (i:Nat) (s:Shared) (Q:Value→Shared→Prop) (E:Value→Shared→Prop),s.heap.IsStrIter it ty x t i→Q (.ref it) s→wpAny (model P w) A (pyIter (.ref it)) Q E s) :
    Turn P w K tg (Its x) [it] it (λi h=>h.IsStrIter it ty x t i) where
  mem:=by simp
  obj:=λi h st b hb=>by
    have e:b=it:=by simpa using hb
    subst e;ø⟨o,e,c,d⟩:=st;§⟨o,e,λv z=>by rw[d]at z;cases z⟩
  keep:=λi h h' st k=>by
    ø⟨o,e,r⟩:=st;§⟨o,k it ¢ o e,r⟩
  item:=by
    intro X hP hw hK hc i pins s σ H E I hf st hg;subst hP hw hK;ø⟨f0,f1,f2,f3,f4,f5⟩:=hf it ¢;¤(hW X.A (I.ok.hd hc)).item i s _ _ hg st λv h' tk hv st' kk=>?_;ø⟨c,u,hc',rfl⟩:=hv;have I1:Inv X pins σ H { s with heap:=h',toks:=tk }:=I.turned (λb o hb e=>kk b o (by simpa using hb) e) f0 f1 f3 f4 f5;ø⟨o,e,c',d⟩:=id st';§⟨_,rfl,zsK (s:={ s with heap:=h',toks:=tk }) e c' d hn ⟨.str ⟨#[c]⟩,H,I1,⟨u,rfl⟩,⟨rfl,c,hc',rfl⟩,st',λb hb=>(hf b hb).1⟩⟩
  done:=by
    intro X hP hw hK hc i pins s σ H E I hf st hg;subst hP hw hK;ø⟨f0,f1,f2,f3,f4,f5⟩:=hf it ¢;have hi:i=x.cps.size:=hg;subst hi;§(hW X.A (I.ok.hd hc)).done s _ _ st λh' tk kk=>⟨rfl,I.turned (λb o hb e=>kk b o (by simpa using hb) e) f0 f1 f3 f4 f5⟩
  self:=hself
ñ def TupsOn (H H':Hp):Prop:=∀b xs,H b=some (.tup xs)→H' b=some (.tup xs)
þ TupsOn.trans{H H1 H2:Hp}(a:TupsOn H H1) (b:TupsOn H1 H2):TupsOn H H2:=λc xs h=>b c xs (a c xs h)
section
variable {X:Cx}
þ zlq:OpR X (compareOp .LtE) (λx y H Q=>∃i j,x= .str i∧y= .str j∧Q (.bl (!decide (j.cps.toList<i.cps.toList))) H):=by
 intro pins s σ H x y v u Q I rx ry h;ø⟨i,j,rfl,rfl,q⟩:=h;ø⟨t,rfl⟩:=rx;ø⟨t',rfl⟩:=ry;§PySem.P.le_str (zlk I q rfl)
þ znK (a b:Nat):(([a]:List Nat)< [b])↔a<b:=by
 rw[List.cons_lt_cons_iff];constructor
 ·rintro(h |⟨_,h⟩)
  ·§h
  ·§absurd h (List.lt_irrefl _)
 ·§.inl
ñ def rSlS:V→Option Int→Option Int→Hp→VK→Prop:=λx lo hi H Q=>∃z,x= .str z∧z.length≤sizeLine∧Q (.str (Txt.slice z lo hi)) H
þ sl_str:SlR X rSlS:=by
 intro pins s σ H x v vl vu lo hi sl Q I rx hs pl pu h;ø⟨z,rfl,hz,q⟩:=h;ø⟨t,rfl⟩:=rx;¤⟨"str",_,F.slot_str_getitem.lookup,typeIs_str _ _ _,?_⟩;ø⟨o,ho,hc,hd⟩:=hs;have fin:∀t' k,EP X pins σ Q (.str (Txt.slice z lo hi) t') { s with toks:=k }:=λt' k=>⟨.str _,H,I.tok _,⟨t',rfl⟩,q⟩;have le:=Nat.le_trans (Txt.slice_le z lo hi) hz;cases pl with
 |none=>
  cases pu with
  |none=>§wpAny_getItem_str_slice (l:=none) (u:=none) (st:=none) ⟨o,ho,hc,hd⟩ rfl (post_val_or_str ⟨le,fin⟩)
  |int j u=>§wpAny_getItem_str_slice (l:=none) (u:=some (j,u)) (st:=none) ⟨o,ho,hc,hd⟩ rfl (post_val_or_str ⟨le,fin⟩)
 |int i w=>
  cases pu with
  |none=>§wpAny_getItem_str_slice (l:=some (i,w)) (u:=none) (st:=none) ⟨o,ho,hc,hd⟩ rfl (post_val_or_str ⟨le,fin⟩)
  |int j u=>§wpAny_getItem_str_slice (l:=some (i,w)) (u:=some (j,u)) (st:=none) ⟨o,ho,hc,hd⟩ rfl (post_val_or_str ⟨le,fin⟩)
ñ def zAs (xs:List Nat) (lo hi:Option Int):List Nat:=(xs.drop (HT.sIx xs.length 0 lo)).take (HT.sIx xs.length xs.length hi - HT.sIx xs.length 0 lo)
þ zuw (lo hi:Option Int) (n:Nat):Builtin.Str.strSliceIndices lo hi 1 n=sliceRange ((HT.sIx n 0 lo:Nat):Int) ((HT.sIx n n hi:Nat):Int) 1:=by
 have one:(1:Int) > 0:=by decide
 have a:∀(v:Option Int) (d:Nat),(match v with |none=>(d:Int) |some i=>(if(1:Int) > 0 then max 0 (min (if i<0 then i+(n:Int) else i) (n:Int)) else max (-1) (min (if i<0 then i+(n:Int) else i) ((n:Int) - 1))))=((HT.sIx n d v:Nat):Int):=by
  intro v d;cases v with
  |none=>rfl
  |some i=>
   ŝ[HT.sIx,one,if_true];by_cases h:i<0
   ·ŝ[h,if_true];omega
   ·ŝ[h,if_false];omega
 have l:=a lo 0;have u:=a hi n;unfold Builtin.Str.strSliceIndices;simp only[one,if_true]at l u⊢
 first
  |rw[l,u]
  | (cases lo<;>cases hi<;>simp_all)
þ zsk (z:Str) (lo hi:Option Int):(Txt.slice z lo hi).cps.toList=zAs z.cps.toList lo hi:=by
 have hn:z.length=z.cps.toList.length:=by simp [Str.length]
 have hp:(Builtin.Str.strSliceIndices lo hi 1 z.length).filterMap (z.cps[·]?)=zAs z.cps.toList lo hi:=by
  rw[zuw,sliceRange_one,pick_run,hn];rfl
 unfold Txt.slice;split
 ·rename_i h;have h1:(Builtin.Str.strSliceIndices lo hi 1 z.length).length=z.length:=by simpa using h
  rw[zuw,sliceRange_one,List.length_map,List.length_range]at h1;have le1:=HT.sIx_le z.length z.length (Nat.le_refl _) hi;unfold zAs;rw[←hn];have e0:HT.sIx z.length 0 lo=0∨z.length=0:=by omega
  have hz:z.cps.toList.length=z.length:=hn.symm;rcases e0 with e0 |e0
  ·rw[e0,List.drop_zero,List.take_of_length_le ¥]
  ·have:z.cps.toList=[]:=List.eq_nil_of_length_eq_zero ¥;rw[this];simp
 ·show(List.filterMap _ _).toArray.toList=_;rw[hp]
þ zsQ (hc:X.calm=true):CallR X (.builtin "all") (λxs H Q=>∃(p:Addr) (bs:List Bool),xs=[.ref p]∧SqL X.K H p (bs.map V.bl)∧Q (.bl (bs.all id)) H):=by
 intro pins s σ H xs us Q I r h;ø⟨p,bs,rfl,hq,q⟩:=h;ø⟨u,rfl,rx⟩:=ziw r;cases rx;ø⟨its,r',pl,hz⟩:=I.list hq;have hlen:bs.length=its.length:=by have:=r'.length;rw[List.length_map]at this;§this
 have hp:p<s.heap.objs.size:=by ø⟨o,n,e,_⟩:=pl;§Heap.lt_size e
 have hd:X.A.in1.handled=none:=I.ok.hd hc;have get:∀(i:Nat) (v:Value),its.toArray[i]? =some v→v= .bool (bs.getD i false):=λi v e=>by
  have e':its[i]? =some v:=by simpa using e
  have hi:i<bs.length:=by rw[hlen];§(List.getElem?_eq_some_iff.mp e').1
  ø⟨u,hu,ru⟩:=r'.get (i:=i) (x:= .bl (bs.getD i false)) (by rw[List.getElem?_map,List.getElem?_eq_getElem hi,List.getD_eq_getElem?_getD,List.getElem?_eq_getElem hi];rfl);rw[e']at hu;cases hu;§ru
 ¤call_all_walk (wpAny_pyIter_list pl.isList ?_);¤⟨s.heap.objs.size,_,_,_,_,_,λi=>bs.getD i false,rfl,Walks.list hd _ p (Nat.ne_of_lt hp) its.toArray,⟨⟨_,Heap.get?_push_size _ rfl,rfl,rfl⟩,pl.isList.push _⟩,λi v s' Q' E' hP hQ=>?_,λh' tk hk=>?_⟩
 ·rw[get i v hP];§wpAny_truthy_bool hQ
 ·have e:(List.range its.toArray.size).all (λi=>bs.getD i false)=bs.all id:=by
   rw[List.size_toArray,←hlen];have:bs=(List.range bs.length).map λi=>bs.getD i false:=by
    apply List.ext_getElem?;intro i;rw[List.getElem?_map];by_cases hi:i<bs.length
    ·rw[List.getElem?_range hi,List.getElem?_eq_getElem hi];show some bs[i]=some (bs.getD i false);rw[List.getD_eq_getElem?_getD,List.getElem?_eq_getElem hi];rfl
    ·rw[List.getElem?_eq_none ¥,List.getElem?_eq_none (by simpa using hi)];rfl
   conv=>rhs;rw[this]
   rw[List.all_map];rfl
  have I1:Inv X pins σ H { s with heap:=h',toks:=tk }:=I.kept λb o e=>hk b o (λz=>by
   have z':b=s.heap.objs.size:=by simpa using z
   rw[z']at e;§absurd (Heap.lt_size e) (Nat.lt_irrefl _)) (Heap.get?_push_of_some _ e)
  §⟨.bl _,H,I1,by rw[e];§rfl,q⟩
þ ztZ:CallR X (.builtin "isinstance") (λxs H Q=>∃x t c b,xs=[x, .ty c]∧TyOf X.K H x t∧PySem.W.kitOne X.K t (.type c)=some b∧Q (.bl b) H):=by
 intro pins s σ H xs us Q I r h;ø⟨x,t,c,b,rfl,ty,e,q⟩:=h;ø⟨u,v,rfl,rx,ry⟩:=zyw r;cases(show v=Value.type c from ry);§zqB I rx ty e λtk=>⟨.bl b,H,I.tok _,rfl,q⟩
end
section
variable {X:Cx}
þ zfH (l:Addr) (items:Array Value) (n:Nat) (b:Addr) (items2:Array Value) (n2:Nat) (dd:Option Addr) (sl:Array (Option Value)) (hs0:¬(!items.isEmpty&&Builtin.List.listTooLong (items.size+items2.size))=true) (hs1:items.size≤sizeLine) (hs2:items.size+items2.size≤sizeLine+1) :
  Meets (Builtin.«list.extend» ⟨[.ref l, .ref b],[]⟩) (λ_ R s=>s.heap.get? l=some { cls:= .type "list",dict:=none,data:= .seq items n,slots:= #[] }∧s.heap.get? b=some { cls:= .type "tuple",dict:=dd,data:= .seq items2 n2,slots:=sl }∧R (.ok (.ret Value.none)) { s with heap:=s.heap.update l (Obj.mapSeq λx=>x++items2),toks:=s.toks }):=
 .of_wp λprog w A R s h=>by
  ø⟨hp,g,d,tk,os⟩:=s;ø⟨hl,hb,h⟩:=h;have f1:=AutoSeq1.idx_int;have f2:=AutoSeq1.sub_tuple_tuple;have f3:=AutoSeq1.sub_list_list;have f4:=AutoSeq1.sub_tuple_list;have f5:=AutoSeq1.sub_list_tuple;have hz':(items++items2).size≤sizeLine+1:=by rw[Array.size_append];§hs2
  wp_walk using(wpAny_updateSeq hl rfl (hz:=hs1) (_hz':=hz')),AutoSeq1.wpAny_loadPart' hl,AutoSeq1.wpAny_loadPart' hb;§⟨_,rfl,h⟩
ñ def znQ (K:Ƒ):V→List V→Hp→VK→Prop:=λx vs H Q=>∃l b xs zs,x= .ref l∧vs=[.ref b]∧H l=some (.lst xs)∧SqT K H b zs∧xs.length+zs.length≤sizeLine∧Q .non (upd H l (.lst (xs++zs)))
þ zpF:MtM X "list.extend" (znQ X.K):=by
 intro pins s σ H x vs v us Q I rx rv h;ø⟨l,b,xs,zs,rfl,rfl,hH,hB,hz,q⟩:=h;cases rx;ø⟨u,rfl,ru⟩:=rv.one;cases ru;ø⟨z,its,n,r,hl,e⟩:=I.lstM hH;ø⟨its2,r2,ht,hz2⟩:=I.tuple hB;ø⟨⟨cls,dd,data,sl⟩,e2,hc,n2,hd⟩:=ht;simp only at hc hd;subst hc hd;have hl2:=r2.length;have hsz:its.toArray.size+its2.toArray.size≤sizeLine:=by rw[List.size_toArray,List.size_toArray];omega
 have hlong:¬(!its.toArray.isEmpty&&Builtin.List.listTooLong (its.toArray.size+its2.toArray.size))=true:=by
  rw[zjA hsz,Bool.and_false];§Bool.false_ne_true
 ¤call_meets F.slot_list_extend ⟨_,e,rfl⟩ F.entry_list_extend (F.args_list_extend_2 _ _)
  (zfH l its.toArray n b its2.toArray n2 dd sl hlong (by rw[List.size_toArray];omega) ¥) ⟨e,e2,?_⟩
 ¤⟨.non,_,I.lset (its':=its++its2) hH e ¢ (r.append r2) ?_,rfl,q⟩;rw[List.length_append];omega
ñ def zxF (K:Ƒ):V→List V→Hp→VK→Prop:=λx vs H Q=>∃(z:Str) (b:Addr) (ys:List Str),x= .str z∧vs=[.ref b]∧SqL K H b (ys.map V.str)∧(ys.map (·.length)).sum+ys.length*z.length≤16777216∧Q (.str (Str.join z ys)) H
þ zxe{ys:List Str}:∀{us:List Value},Vals (ys.map V.str) us→StrsAre us ys:=by
 induction ys with
 |nil=>
  intro us r;cases r;§.nil
 |cons y ys ih=>
  intro us r;cases r with
  |cons a b=>
   ø⟨t,rfl⟩:=a;§.cons y t (ih b)
þ zwz:MtM X "str.join" (zxF X.K):=by
 intro pins s σ H x vs v us Q I rx rv h;ø⟨z,b,ys,rfl,rfl,hB,hz,q⟩:=h;ø⟨t,rfl⟩:=rx;ø⟨u,rfl,ru⟩:=rv.one;cases ru;ø⟨its,r,pl,_⟩:=I.list hB;¤join_list pl.isList (by simpa using zxe r) hz λt' k=>⟨.str (Str.join z ys),H,I.tok _,⟨t',?_⟩,q⟩;show Value.str (Builtin.Str.glued z ys) t'=_;rw[StrLaws.glued_eq_join]
end
inductive W where
  |non |bl (b:Bool) |int (i:Int) |str (x:Str) |tup (ws:List W) |ref (a:Addr) |scr (ns:List Int)
inductive Ob where
  |lst (ws:List W)
  |dct (kvs:List (List Int×W))
  |ins (C:Addr) (fs:List (Str×W))
ñ abbrev Sto:=Addr→Option Ob
ñ def put (S:Sto) (a:Addr) (o:Ob):Sto:=λb=>if b=a then some o else S b
ñ def FzL (K:Ƒ) (H:Hp) (a:Addr) (xs:List V):Prop:=
 (∃o,H a=some (.frz o (.lst xs)))∨
  ∃(o:Obj) (its:Array Value) (n:Nat),K.lookup a=some o∧o.cls= .type "list" ∧o.dict=none∧o.data= .seq its n∧its.size≤sizeLine∧Vals xs its.toList
mutual
inductive Rep (K:Ƒ) (H:Hp):W→V→Prop
 |non:Rep K H .non .non
 |bl (b:Bool):Rep K H (.bl b) (.bl b)
 |int (i:Int):Rep K H (.int i) (.int i)
 |str (x:Str):Rep K H (.str x) (.str x)
 |ref (a:Addr):Rep K H (.ref a) (.ref a)
 |scr {a:Addr}{ns:List Int}:FzL K H a (ns.map V.int)→Rep K H (.scr ns) (.ref a)
 |tup {a:Addr}{vs:List V}{ws:List W}:H a=some (.tup vs)→Reps K H ws vs→Rep K H (.tup ws) (.ref a)
inductive Reps (K:Ƒ) (H:Hp):List W→List V→Prop
 |nil:Reps K H [] []
 |cons {w:W}{v:V}{ws:List W}{vs:List V}:Rep K H w v→Reps K H ws vs→Reps K H (w::ws) (v::vs)
end
structure Ext (H:Hp) (S:Sto) (H':Hp) (S':Sto):Prop where
  tup:∀b xs,H b=some (.tup xs)→H' b=some (.tup xs)
  frz:∀b o u,H b=some (.frz o u)→H' b=some (.frz o u)
  fr:∀b xs,H b=some (.lst xs)→S b=none→H' b=some (.lst xs)∧S' b=none
  all:∀b o,H b=some o→ ∃o',H' b=some o'
ñ def Sub (S S':Sto):Prop:=∀a o,S a=some o→S' a=some o
section
variable {K:Ƒ}{H H' H1 H2:Hp}{S S' S1 S2:Sto}
þ zag{a:Addr}{o:Ob}:put S a o a=some o:=by unfold put;rw[if_pos rfl]
þ zaF{a b:Addr}{o:Ob}(h:b≠a):put S a o b=S b:=by unfold put;rw[if_neg h]
þ zaX{a:Addr}{o o':Ob}:put (put S a o) a o'=put S a o':=by funext b;unfold put;split<;>rfl
þ Ext.refl:Ext H S H S:=⟨λ_ _ h=>h,λ_ _ _ h=>h,λ_ _ h g=>⟨h,g⟩,λ_ o h=>⟨o,h⟩⟩
þ Ext.trans (a:Ext H S H1 S1) (b:Ext H1 S1 H2 S2):Ext H S H2 S2:=⟨λc xs h=>b.tup c xs (a.tup c xs h),λc o u h=>b.frz c o u (a.frz c o u h),
 λc o h g=>by
  ø⟨h1,g1⟩:=a.fr c o h g;§b.fr c o h1 g1,λc o h=>by
  ø⟨o1,h1⟩:=a.all c o h;§b.all c o1 h1⟩
þ Ext.new{p:Addr}{o:HO}(h:H p=none):Ext H S (upd H p o) S:=
  ⟨λb xs e=>by rw[zay (zau e h)];§e,λb ob u e=>by rw[zay (zau e h)];§e,
   λb ob e g=>⟨by rw[zay (zau e h)];§e,g⟩,λb ob e=>⟨ob,by rw[zay (zau e h)];§e⟩⟩
þ Ext.newS{p:Addr}{o:HO}{ob:Ob}(h:H p=none):Ext H S (upd H p o) (put S p ob):=
  ⟨λb xs e=>by rw[zay (zau e h)];§e,λb ob u e=>by rw[zay (zau e h)];§e,
   λb ob e g=>⟨by rw[zay (zau e h)];§e,by rw[zaF (zau e h)];§g⟩,λb ob e=>⟨ob,by rw[zay (zau e h)];§e⟩⟩
þ Ext.mut{p:Addr}{o u:HO}{ob ob0:Ob}(h:H p=some u) (hs:S p=some ob0) (ht:∀xs,u≠ .tup xs) (hf:∀ob q,u≠ .frz ob q):Ext H S (upd H p o) (put S p ob):=
  ⟨λb xs e=>by rw[zay (ztn e h λz=>ht xs z.symm)];§e,λb ob q e=>by rw[zay (ztn e h λz=>hf ob q z.symm)];§e,
   λb ob e g=>by
     have hb:b≠p:=by rintro rfl;rw[hs]at g;cases g
     §⟨by rw[zay hb];§e,by rw[zaF hb];§g⟩,λb ob e=>by
     by_cases hb:b=p
     · subst hb;§⟨o,zaz⟩
     · §⟨ob,by rw[zay hb];§e⟩⟩
þ Ext.lst{p:Addr}{o:HO}{ob ob0:Ob}{xs:List V}(h:H p=some (.lst xs)) (hs:S p=some ob0):Ext H S (upd H p o) (put S p ob):= .mut h hs (λ_ z=>nomatch z) λ_ _ z=>nomatch z
þ Ext.drop (h:Sub S' S):Ext H S H S':=⟨λ_ _ h=>h,λ_ _ _ h=>h,λb o e g=>⟨e,by
 cases q:S' b with
 |none=>rfl
 |some z=>rw[h b z q]at g;cases g⟩,λ_ o h=>⟨o,h⟩⟩
þ Ext.free (e:Ext H S H' S') {p:Addr}(h:H' p=none):H p=none:=by
 cases q:H p with
 |none=>rfl
 |some o=>ø⟨o',z⟩:=e.all p o q;rw[h]at z;cases z
þ Ext.fz{a:Addr}{xs:List V}(e:Ext H S H' S') (h:FzL K H a xs):FzL K H' a xs:=by
 rcases h with⟨o,h⟩ |h
 ·§.inl ⟨o,e.frz _ _ _ h⟩
 ·§.inr h
þ FzL.sq{a:Addr}{xs:List V}(h:FzL K H a xs):SqL K H a xs:=by
 rcases h with⟨o,h⟩ |h
 ·§.inl (.inr ⟨o,h⟩)
 ·§.inr h
mutual
þ Rep.ext (e:Ext H S H' S') {w:W}{v:V}:Rep K H w v→Rep K H' w v
 | .non=> .non
 | .bl b=> .bl b
 | .int i=> .int i
 | .str x=> .str x
 | .ref a=> .ref a
 | .scr h=> .scr (e.fz h)
 | .tup h hs=> .tup (e.tup _ _ h) (Reps.ext e hs)
þ Reps.ext (e:Ext H S H' S') {ws:List W}{vs:List V}:Reps K H ws vs→Reps K H' ws vs
 | .nil=> .nil
 | .cons h hs=> .cons (Rep.ext e h) (Reps.ext e hs)
end
þ Reps.length:∀{ws:List W}{vs:List V},Reps K H ws vs→ws.length=vs.length
 |_,_, .nil=>rfl
 |_,_, .cons _ hs=>congrArg (· +1) (Reps.length hs)
þ Reps.get:∀{ws:List W}{vs:List V}{i:Nat}{w:W},Reps K H ws vs→ws[i]? =some w→ ∃v,vs[i]? =some v∧Rep K H w v
 |_,_,_,_, .nil,e=>by simp at e
 |_,_,0,_, .cons h _,e=>by simp at e;subst e;§⟨_,rfl,h⟩
 |_,_,i+1,w, .cons _ hs,e=>by
  ø⟨v,h1,h2⟩:=Reps.get (i:=i) (w:=w) hs (by simpa using e);§⟨v,by simpa using h1,h2⟩
þ Reps.append:∀{ws us:List W}{vs xs:List V},Reps K H ws vs→Reps K H us xs→Reps K H (ws++us) (vs++xs)
 |_,_,_,_, .nil,h=>h
 |_,_,_,_, .cons r t,h=> .cons r (Reps.append t h)
þ Reps.take:∀{ws:List W}{vs:List V}(n:Nat),Reps K H ws vs→Reps K H (ws.take n) (vs.take n)
 |_,_,0,_=> .nil
 |_,_,_+1, .nil=> .nil
 |_,_,n+1, .cons r t=> .cons r (Reps.take n t)
þ Reps.drop:∀{ws:List W}{vs:List V}(n:Nat),Reps K H ws vs→Reps K H (ws.drop n) (vs.drop n)
 |_,_,0,r=>r
 |_,_,_+1, .nil=> .nil
 |_,_,n+1, .cons _ t=>Reps.drop n t
þ Reps.one{w:W}{v:V}(h:Rep K H w v):Reps K H [w] [v]:= .cons h .nil
þ Reps.ofInts:∀(ns:List Int),Reps K H (ns.map W.int) (ns.map V.int)
 | []=> .nil
 |n::ns=> .cons (.int n) (Reps.ofInts ns)
end
ñ def RepO (K:Ƒ) (H:Hp) (a:Addr):Ob→Prop
 | .lst ws=>∃vs,H a=some (.lst vs)∧Reps K H ws vs
 | .dct kvs=>∃ps:List (List Key×V),H a=some (.dT ps)∧Paired (λq p=>p.1=q.1.map Sum.inl∧Rep K H q.2 p.2) kvs ps
 | .ins C fs=>False
ñ def RepS (K:Ƒ) (H:Hp) (S:Sto):Prop:=∀a o,S a=some o→RepO K H a o
section
variable {K:Ƒ}{H H':Hp}{S S' S0 S0':Sto}{a b p:Addr}{o:Ob}
þ Sub.refl:Sub S S:=λ_ _ h=>h
þ Sub.trans{S1 S2 S3:Sto}(h:Sub S1 S2) (g:Sub S2 S3):Sub S1 S3:=λa o e=>g a o (h a o e)
þ RepS.sub (h:RepS K H S') (q:Sub S S'):RepS K H S:=λa o e=>h a o (q a o e)
þ RepO.some (h:RepO K H a o):∃u,H a=some u:=by
 cases o with
 |lst ws=>ø⟨vs,e,_⟩:=h;§⟨_,e⟩
 |dct kvs=>ø⟨vs,e,_⟩:=h;§⟨_,e⟩
 |ins C fs=>§h.elim
þ RepS.free (h:RepS K H S) (e:H p=none):S p=none:=by
 cases q:S p with
 |none=>rfl
 |some o=>ø⟨u,z⟩:=(h p o q).some;rw[e]at z;cases z
þ RepO.keep (e:Ext H S0 H' S0') (k:∀u,H a=Option.some u→H' a=Option.some u) (h:RepO K H a o):RepO K H' a o:=by
 cases o with
 |lst ws=>ø⟨vs,e1,r⟩:=h;§⟨vs,k _ e1,r.ext e⟩
 |dct kvs=>ø⟨vs,e1,r⟩:=h;§⟨vs,k _ e1,Paired.mapP r λ_ _ z=>⟨z.1,z.2.ext e⟩⟩
 |ins C fs=>§h.elim
þ RepS.new{u:HO}(h:RepS K H S) (e:H p=none):RepS K (upd H p u) S:=λa o q=>
 (h a o q).keep (.new (S:=S) e) λv z=>by rw[zay (zau z e)];§z
þ RepS.put_lst{ws:List W}{vs:List V}(h:RepS K H S) (e:H p=none) (r:Reps K (upd H p (.lst vs)) ws vs):RepS K (upd H p (.lst vs)) (put S p (.lst ws)):=λa o q=>by
 by_cases ha:a=p
 ·subst ha;rw[zag]at q;cases q;§⟨vs,zaz,r⟩
 ·rw[zaF ha]at q;§h.new e a o q
þ RepS.set_lst{ws0 ws:List W}{vs:List V}(h:RepS K H S) (e:S a=some (.lst ws0)) (r:Reps K H ws vs):Ext H S (upd H a (.lst vs)) (put S a (.lst ws))∧RepS K (upd H a (.lst vs)) (put S a (.lst ws)):=by
 ø⟨vs0,e0,_⟩:=h a _ e;have x:Ext H S (upd H a (.lst vs)) (put S a (.lst ws)):= .lst e0 e;¤⟨x,λb o q=>?_⟩;by_cases hb:b=a
 ·subst hb;rw[zag]at q;cases q;§⟨vs,zaz,r.ext x⟩
 ·rw[zaF hb]at q;§(h b o q).keep x λu z=>by rw[zay hb];§z
end
ñ abbrev WSt:=List (Option W)
ñ abbrev WK:=W→Sto→Prop
ñ abbrev WX:=Str→WSt→Sto→Prop
ñ abbrev WE:=WX→WSt→Sto→WK→Prop
ñ abbrev WT:=WX→WSt→Sto→(Bool→Sto→Prop)→Prop
ñ abbrev WA:=WX→WSt→Sto→(List W→Sto→Prop)→Prop
structure WEnds where
  nx:WSt→Sto→Prop
  rt:WK
  bk:WSt→Sto→Prop:=λ_ _=>False
  ct:WSt→Sto→Prop:=λ_ _=>False
ñ abbrev WS:=WX→WEnds→WSt→Sto→Prop
ñ abbrev WG:=W→WSt→Sto→(WSt→Sto→Prop)→Prop
ñ abbrev WSp:=List W→Sto→WK→(Str→Sto→Prop)→Prop
ñ abbrev WI:=WX→WSt→Sto→(List W→(Sto→Prop)→Sto→Prop)→Prop
ñ abbrev WL:=WX→WSt→Sto→(List W→Sto→Prop)→Prop
ñ def RpO (K:Ƒ) (H:Hp):Option W→Option V→Prop
 |none,_=>True
 |some w,some v=>Rep K H w v
 |some _,none=>False
ñ def RpSt (K:Ƒ) (H:Hp) (σW:WSt) (σ:St):Prop:=Paired (RpO K H) σW σ
section
variable {K:Ƒ}{H H':Hp}{S S':Sto}
þ RpO.ext (e:Ext H S H' S'):∀{w:Option W}{v:Option V},RpO K H w v→RpO K H' w v
 |none,_,_=>trivial
 |some _,some _,h=>Rep.ext e h
 |some _,none,h=>h.elim
þ RpSt.ext (e:Ext H S H' S') {σW:WSt}{σ:St}(h:RpSt K H σW σ):RpSt K H' σW σ:=Paired.mapP h λ_ _ r=>RpO.ext e r
þ RpSt.get:∀{σW:WSt}{σ:St}{i:Nat}{w:W},RpSt K H σW σ→σW[i]? =some (some w)→ ∃v,σ[i]? =some (some v)∧Rep K H w v
 |_,_,_,_, .nil,e=>by simp at e
 |_,_,0,_, .cons (b:=b) h _,e=>by
  simp at e;subst e;cases b with
  |none=>§(show False from h).elim
  |some v=>§⟨v,rfl,h⟩
 |_,_,i+1,w, .cons _ hs,e=>by
  ø⟨v,h1,h2⟩:=RpSt.get (i:=i) (w:=w) hs (by simpa using e);§⟨v,by simpa using h1,h2⟩
þ RpSt.set{w:W}{v:V}(h:Rep K H w v):∀{σW:WSt}{σ:St}(i:Nat),RpSt K H σW σ→RpSt K H (σW.set i (some w)) (σ.set i (some v))
 |_,_,_, .nil=> .nil
 |_,_,0, .cons _ t=> .cons h t
 |_,_,i+1, .cons q t=> .cons q (RpSt.set h i t)
end
ñ def Wish (K:Ƒ) (H:Hp) (S:Sto) (QW:WK) (Q:VK):Prop:=∀w S' v H',Ext H S H' S'→Rep K H' w v→RepS K H' S'→QW w S'→Q v H'
ñ def zAo (K:Ƒ) (t:WSt→Sto→WK→Prop):TE:=λσ H Q=>∃σW S QW,RpSt K H σW σ∧RepS K H S∧t σW S QW∧Wish K H S QW Q
ñ def zwD (K:Ƒ) (t:WSt→Sto→(Bool→Sto→Prop)→Prop):TT:=λσ H Q=>∃σW S QW,RpSt K H σW σ∧RepS K H S∧t σW S QW∧ ∀b S' H',Ext H S H' S'→RepS K H' S'→QW b S'→Q b H'
ñ def zBQ (K:Ƒ) (t:WSt→Sto→(List W→Sto→Prop)→Prop):TA:=λσ H Q=>∃σW S QW,RpSt K H σW σ∧RepS K H S∧t σW S QW∧ ∀ws S' vs H',Ext H S H' S'→Reps K H' ws vs→RepS K H' S'→QW ws S'→Q vs H'
ñ def Goes (K:Ƒ) (H:Hp) (S:Sto) (P:WSt→Sto→Prop) (Q:St→Hp→Prop):Prop:=∀σW S' σ H',Ext H S H' S'→RpSt K H' σW σ→RepS K H' S'→P σW S'→Q σ H'
structure Meets (K:Ƒ) (H:Hp) (S:Sto) (DW:WEnds) (D:Ends):Prop where
  nx:Goes K H S DW.nx D.nx
  rt:Wish K H S DW.rt D.rt
  bk:Goes K H S DW.bk D.bk
  ct:Goes K H S DW.ct D.ct
ñ def zzx (K:Ƒ) (t:WEnds→WSt→Sto→Prop):TS:=λD σ H=>∃σW S DW,RpSt K H σW σ∧RepS K H S∧t DW σW S∧Meets K H S DW D
ñ def zAS (K:Ƒ) (t:WG):TG:=λv σ H Q=>∃w σW S P,Rep K H w v∧RpSt K H σW σ∧RepS K H S∧t w σW S P∧Goes K H S P Q
ñ def ItW (K:Ƒ) (J:It) (ws:List W) (G:Sto→Prop) (H0:Hp) (S0:Sto):Prop:=∀i S H,Ext H0 S0 H S→RepS K H S→G S→
 (∀w,ws[i]? =some w→J.go i H∧ ∀x H',J.yld i H x H'→Ext H S H' S∧RepS K H' S∧Rep K H' w x)∧(i=ws.length→J.stop i H)
ñ def zzb (K:Ƒ) (t:WSt→Sto→(List W→(Sto→Prop)→Sto→Prop)→Prop):TI:=λσ H R=>∃σW S QW,RpSt K H σW σ∧RepS K H S∧t σW S QW∧
 ∀ws G S' J H',Ext H S H' S'→RepS K H' S'→G S'→ItW K J ws G H' S'→QW ws G S'→R J H'
ñ def zAl (K:Ƒ) (t:WSt→Sto→(List W→Sto→Prop)→Prop):TE:=λσ H Q=>∃σW S QW,RpSt K H σW σ∧RepS K H S∧t σW S QW∧
 ∀ws S' vs a H',Ext H S H' S'→H a=none→H' a=some (.lst vs)→S' a=none→Reps K H' ws vs→RepS K H' S'→QW ws S'→Q (.ref a) H'
ñ def zdn (K:Ƒ) (sp:WSp):Sp:=λvs H Q E=>∃ws S QW EW,Reps K H ws vs∧RepS K H S∧sp ws S QW EW∧Wish K H S QW Q∧
 ∀cl C S' H',PySem.W.nsIn K mainGlobals cl=some (some (.ref C))→RepS K H' S'→EW cl S'→E (.ref C) none H'
ñ def Fly (g h:Heap) (H:Hp) (a C:Addr):Prop:=g.get? a=none∧H a=none∧ ∃oe vs T oT ts,h.get? a=some oe∧oe.cls= .ref C∧oe.data= .fields vs∧vs[1]? =some (.ref T)∧
 g.get? T=none∧H T=none∧T≠a∧h.get? T=some oT∧oT.data= .fields ts∧ts[3]? =some .none
ñ def CX1 (P:Program) (w:World):CXT:=λouter H s E e s'=>∃a C H',e= .ref a∧s'.os=s.os∧AllBare s'.gens∧Un (frs outer) [] H H' s.heap s'.heap∧HOk P w H' s'.heap∧Fly s.heap s'.heap H' a C∧E (.ref C) none H'
structure Hook (X:Cx) (E:WX):Prop where
  own:PassesOwn (model X.prog X.w) X.A X.env X.xe
  far:∀(pins:List (Addr×Obj)) (σ:St) (H:Hp) (s:Shared) (σW:WSt) (cl:Str) (C a:Addr) (H':Hp) (S':Sto) (s':Shared),Inv X pins σ H s→RpSt X.K H σW σ→PySem.W.nsIn X.K mainGlobals cl=some (some (.ref C))→
    s'.os=s.os→AllBare s'.gens→Un (frs X.stack) [] H H' s.heap s'.heap→HOk X.prog X.w H' s'.heap→Fly s.heap s'.heap H' a C→RepS X.K H' S'→E cl σW S'→X.xe (.ref a) s'
  near:∀(pins:List (Addr×Obj)) (σ:St) (H:Hp) (s:Shared) (σW:WSt) (cl:Str) (C a:Addr) (S:Sto) (h':Heap) (args:List Value),Inv X pins σ H s→RpSt X.K H σW σ→PySem.W.nsIn X.K mainGlobals cl=some (some (.ref C))→
    Heap.MadeExcOf s.heap h' a (.ref C) args→RepS X.K H S→E cl σW S→X.xe (.ref a) { s with heap:=h' }
ñ def JE (X:Cx) (e:Expr) (t:WE):Prop:=∀E,Hook X E→PE X e (zAo X.K (t E))
ñ def JT (X:Cx) (e:Expr) (t:WT):Prop:=∀E,Hook X E→PT X e (zwD X.K (t E))
ñ def JW (X:Cx) (e:Expr) (t:WT):Prop:=∀E,Hook X E→PW X e (zwD X.K (t E))
ñ def JA (X:Cx) (es:List Expr) (t:WA):Prop:=∀E,Hook X E→PA X es (zBQ X.K (t E))
ñ def JS (X:Cx) (st:Stmt) (t:WS):Prop:=∀E,Hook X E→PS X st (zzx X.K (t E))
ñ def JSs (X:Cx) (st:List Stmt) (t:WS):Prop:=∀E,Hook X E→PSs X st (zzx X.K (t E))
ñ def JG (X:Cx) (tg:Expr) (t:WG):Prop:=∀E,Hook X E→PG X tg (zAS X.K t)
ñ def JI (X:Cx) (tg iter:Expr) (t:WI):Prop:=∀E,Hook X E→PI X tg iter (zzb X.K (t E))
ñ def JL (X:Cx) (e:Expr) (t:WL):Prop:=∀E,Hook X E→PE X e (zAl X.K (t E))
þ PE.mono{X:Cx}{e:Expr}{t t':TE}(h:PE X e t) (q:∀σ H Q,t' σ H Q→t σ H Q):PE X e t':=λpins s σ H Q I z=>h pins s σ H Q I (q σ H Q z)
þ PT.mono{X:Cx}{e:Expr}{t t':TT}(h:PT X e t) (q:∀σ H Q,t' σ H Q→t σ H Q):PT X e t':=λpins s σ H Q I z=>h pins s σ H Q I (q σ H Q z)
þ PW.mono{X:Cx}{e:Expr}{t t':TT}(h:PW X e t) (q:∀σ H Q,t' σ H Q→t σ H Q):PW X e t':=λwh pins s σ H Q I z=>h wh pins s σ H Q I (q σ H Q z)
þ PA.mono{X:Cx}{e:List Expr}{t t':TA}(h:PA X e t) (q:∀σ H Q,t' σ H Q→t σ H Q):PA X e t':=λpos pins s σ H Q I z=>h pos pins s σ H Q I (q σ H Q z)
þ PS.mono{X:Cx}{e:Stmt}{t t':TS}(h:PS X e t) (q:∀D σ H,t' D σ H→t D σ H):PS X e t':=λpins s σ H D I z=>h pins s σ H D I (q D σ H z)
þ PSs.mono{X:Cx}{e:List Stmt}{t t':TS}(h:PSs X e t) (q:∀D σ H,t' D σ H→t D σ H):PSs X e t':=λpins s σ H D I z=>h pins s σ H D I (q D σ H z)
þ PG.mono{X:Cx}{e:Expr}{t t':TG}(h:PG X e t) (q:∀v σ H Q,t' v σ H Q→t v σ H Q):PG X e t':=λpins s σ H v u Q I r z=>h pins s σ H v u Q I r (q v σ H Q z)
þ PI.mono{X:Cx}{tg e:Expr}{t t':TI}(h:PI X tg e t) (q:∀σ H R,t' σ H R→t σ H R):PI X tg e t':=λpins s σ H R I z=>h pins s σ H R I (q σ H R z)
ñ def wVar (i:Nat):WE:=λ_ σ S Q=>match σ[i]? with
 |some (some w)=>Q w S
 |_=>False
ñ def wC (w:W):WE:=λ_ _ S Q=>Q w S
section
variable {X:Cx}
þ jv (i:Nat) {x:Str}{pos:Pos}(hN:X.N[i]? =some x:=by rfl) (hv:Vis X.env.scope x:=by first |§Or.inl rfl |§Or.inr (Or.inl rfl) |§Or.inr (Or.inr rfl)) (hd:(x == ("__debug__" :Str))=false:=by decide)
  (hcd:(x == ("__classdict__" :Str))=false:=by decide):JE X (.Name x pos) (wVar i):=λE hE=>(zAe hN hv hd hcd).mono λσ H Q ⟨σW,S,QW,hσ,hS,ht,hQ⟩=>by
 unfold wVar at ht;split at ht
 ·rename_i w e;ø⟨v,e',r⟩:=hσ.get e;§⟨v,e',hQ w S v H .refl r hS ht⟩
 ·§ht.elim
þ zpO{e:Expr}{v:V}{w:W}(h:PE X e (tC v)) (r:∀K H,Rep K H w v):JE X e (wC w):=λE hE=>h.mono λσ H Q ⟨σW,S,QW,hσ,hS,ht,hQ⟩=>hQ w S v H .refl (r _ _) hS ht
þ zae{i j pos}:JE X (.Constant (.int i) j pos) (wC (.int i)):=zpO zyx λ_ _=> .int i
þ zfq{b j pos}:JE X (.Constant (.bool b) j pos) (wC (.bl b)):=zpO zBg λ_ _=> .bl b
þ zcM{j pos}:JE X (.Constant .none j pos) (wC .non):=zpO zyv λ_ _=> .non
þ zfA{x j pos}:JE X (.Constant (.str x) j pos) (wC (.str x)):=zpO zxW λ_ _=> .str x
þ zdF{x:Str}{i:Int}{u:Tok}{pos:Pos}(hg:Gl X x) (hm:X.mg x=some (.int i u)) (hd:(x == ("__debug__" :Str))=false:=by decide):JE X (.Name x pos) (wC (.int i)):=zpO (v:= .int i) (zwa hg hm ⟨u,rfl⟩ hd) λ_ _=> .int i
end
ñ abbrev W2:=W→W→Sto→WK→Prop
ñ def wOp (r:W2) (a b:WE):WE:=λE σ S Q=>a E σ S λx S1=>b E σ S1 λy S2=>r x y S2 Q
ñ def OpW (K:Ƒ) (r:R2) (wr:W2):Prop:=∀H x y wx wy S (Q:VK) (QW:WK),Rep K H wx x→Rep K H wy y→RepS K H S→wr wx wy S QW→Wish K H S QW Q→r x y H Q
þ Wish.from{K:Ƒ}{H H':Hp}{S S':Sto}{QW:WK}{Q:VK}(h:Wish K H S QW Q) (e:Ext H S H' S'):Wish K H' S' QW Q:=λw S v H'' e' r hS q=>h w S v H'' (e.trans e') r hS q
þ Goes.from{K:Ƒ}{H H':Hp}{S S':Sto}{P:WSt→Sto→Prop}{Q:St→Hp→Prop}(h:Goes K H S P Q) (e:Ext H S H' S'):Goes K H' S' P Q:=λσW S σ H'' e' r hS q=>h σW S σ H'' (e.trans e') r hS q
þ Meets.from{K:Ƒ}{H H':Hp}{S S':Sto}{DW:WEnds}{D:Ends}(h:Meets K H S DW D) (e:Ext H S H' S'):Meets K H' S' DW D:=⟨h.nx.from e,h.rt.from e,h.bk.from e,h.ct.from e⟩
section
variable {X:Cx}{a b:Expr}{pos:Pos}
þ zhc{K:Ƒ}{ta tb:WSt→Sto→WK→Prop}{wr:W→W→Sto→WK→Prop}{σ:St}{H:Hp}{Q:VK}{R:V→V→Hp→Prop}
  (h:zAo K (λσ S Q=>ta σ S λx S1=>tb σ S1 λy S2=>wr x y S2 Q) σ H Q)
  (hR:∀H2 x y wx wy S (QW:WK),Rep K H2 wx x→Rep K H2 wy y→RepS K H2 S→wr wx wy S QW→Wish K H2 S QW Q→R x y H2) :
  zAo K ta σ H λx H1=>zAo K tb σ H1 λy H2=>R x y H2:=by
 ø⟨σW,S,QW,hσ,hS,ht,hQ⟩:=h;¤⟨σW,S,_,hσ,hS,ht,λw1 S1 v1 H1 e1 r1 hS1 h1=>?_⟩;¤⟨σW,S1,_,hσ.ext e1,hS1,h1,λw2 S2 v2 H2 e2 r2 hS2 h2=>?_⟩;§hR H2 v1 v2 w1 w2 S2 QW (r1.ext e2) r2 hS2 h2 (hQ.from (e1.trans e2))
þ zpz{op:Operator}{r:R2}{wr:W2}{ta tb:WE}(ho:OpR X (binaryOp op) r) (hw:OpW X.K r wr) (ha:JE X a ta) (hb:JE X b tb):JE X (.BinOp a op b pos) (wOp wr ta tb):=λE hE=>
 (zrB ho (ha E hE) (hb E hE)).mono λσ H Q h=>zhc h λH2 x y wx wy S QW rx ry hS q hQ=>hw H2 x y wx wy S Q QW rx ry hS q hQ
þ zsg{op:CmpOp}{r:R2}{wr:W2}{ta tb:WE}(ho:OpR X (compareOp op) r) (hw:OpW X.K r wr) (ha:JE X a ta) (hb:JE X b tb) (hm:behindInMarks op b=false):JE X (.Compare a [op] [b] pos) (wOp wr ta tb):=λE hE=>
 (zwb ho (ha E hE) (hb E hE) hm).mono λσ H Q h=>zhc h λH2 x y wx wy S QW rx ry hS q hQ=>hw H2 x y wx wy S Q QW rx ry hS q hQ
end
þ ObjOk.ex{P:Program}{w:World}{H:Hp}{h:Heap}{a:Addr}{o:HO}(x:ObjOk P w H h a o):∃u,h.get? a=some u:=by
 cases o with
 |lst xs=>ø⟨_,_,_,_,e⟩:=x;§⟨_,e⟩
 |tup xs=>ø⟨_,_,_,o,e,_⟩:=x;§⟨_,e⟩
 |dK kvs=>ø⟨_,_,_,_,o,_,_,e,_⟩:=x;§⟨_,e⟩
 |dT kvs=>ø⟨_,_,_,_,o,_,_,e,_⟩:=x;§⟨_,e⟩
 |set S n=>ø⟨o,_,_,_,e,_⟩:=x;§⟨_,e⟩
 |ins C dx fs=>ø⟨_,_,_,e,_⟩:=x;§⟨_,e⟩
 |own y=>§x
 |xd fs=>ø⟨_,⟨_,_,_,e,_⟩,_⟩:=x;§⟨_,e⟩
 |rng lo hi=>ø⟨_,_,_,e⟩:=x;§⟨_,e⟩
 |frz ob u=>ø⟨e,_⟩:=x;§⟨_,e⟩
 |tbl ps=>§⟨_,show h.get? a=some _ from x⟩
 |met f y=>§⟨_,show h.get? a=some _ from x⟩
 |ext φ=>§x.2.1
ñ def unt (H:Hp) (S:Sto):Hp:=λb=>match H b with
 |some (.lst xs)=>match S b with
  |none=>none
  |some _=>some (.lst xs)
 |o=>o
ñ def rtk (H:Hp) (S:Sto) (H':Hp):Hp:=λb=>match unt H S b with
 |none=>match H b with
  |some o=>some o
  |none=>H' b
 |some _=>match H' b with
  |some o=>some o
  |none=>some (.ext λh=>∃o,h.get? b=some o)
section
variable {w:World}{K:Ƒ}{H:Hp}{S:Sto}{h:Heap}{b:Addr}{o:HO}
þ znN (e:unt H S b=some o):H b=some o:=by
 unfold unt at e;split at e
 ·rename_i xs q;split at e
  ·cases e
  ·rw[q];§e
 ·§e
þ zfB (e:H b=none):unt H S b=none:=by unfold unt;rw[e]
þ znn (e:H b=some o) (n:∀xs,o≠ .lst xs):unt H S b=some o:=by
 unfold unt;rw[e];cases o<;>first |rfl |§absurd rfl (n _)
þ zuE{u:Ob}(e:H b=some o) (hs:S b=some u):unt H S b=some o:=by
 unfold unt;rw[e];cases o<;>first |rfl | (dsimp only;rw[hs])
þ zsh{xs:List V}(e:H b=some (.lst xs)) (hs:S b=none):unt H S b=none:=by
 unfold unt;rw[e];dsimp only;rw[hs]
þ zAc (e:unt H S b=none) (q:H b=some o):(∃xs,o= .lst xs)∧S b=none:=by
 unfold unt at e;rw[q]at e;cases o<;>first |cases e |skip;rename_i xs;dsimp only at e;split at e
 ·§⟨⟨xs,rfl⟩, ‹_›⟩
 ·cases e
mutual
þ Rep.mv{H1:Hp}(t:∀b xs,H b=some (.tup xs)→H1 b=some (.tup xs)) (f:∀b o u,H b=some (.frz o u)→H1 b=some (.frz o u)) {w:W}{v:V}:Rep K H w v→Rep K H1 w v
 | .non=> .non
 | .bl b=> .bl b
 | .int i=> .int i
 | .str x=> .str x
 | .ref a=> .ref a
 | .scr h=> .scr (by
  rcases h with⟨o,h⟩ |h
  ·§.inl ⟨o,f _ _ _ h⟩
  ·§.inr h)
 | .tup h hs=> .tup (t _ _ h) (Reps.mv t f hs)
þ Reps.mv{H1:Hp}(t:∀b xs,H b=some (.tup xs)→H1 b=some (.tup xs)) (f:∀b o u,H b=some (.frz o u)→H1 b=some (.frz o u)) {ws:List W}{vs:List V}:Reps K H ws vs→Reps K H1 ws vs
 | .nil=> .nil
 | .cons h hs=> .cons (Rep.mv t f h) (Reps.mv t f hs)
end
þ zic:∀b xs,H b=some (.tup xs)→unt H S b=some (.tup xs):=λb xs e=>znn e λ_ z=>nomatch z
þ zjz:∀b o u,H b=some (.frz o u)→unt H S b=some (.frz o u):=λb o u e=>znn e λ_ z=>nomatch z
þ RepS.unt (r:RepS K H S):RepS K (unt H S) S:=λa o e=>by
 have q:=r a o e;cases o with
 |lst ws=>ø⟨vs,z,rs⟩:=q;§⟨vs,zuE z e,Reps.mv zic zjz rs⟩
 |dct kvs=>ø⟨ps,z,rs⟩:=q;§⟨ps,zuE z e,Paired.mapP rs λ_ _ z=>⟨z.1,Rep.mv zic zjz z.2⟩⟩
 |ins C fs=>§q.elim
þ HOk.unt (x:HOk P w H h):HOk P w (unt H S) h:=λa o e=>
 (x a o (znN e)).stay (λ_ _ _ q=>q) (λb q=>znn q λ_ z=>nomatch z) λb xs q=>zic b xs q
þ zfu (ok:HOk P w H h) (un:Un fs [] (unt H S) H' h h') (e:H' b=some o):rtk H S H' b=some o:=by
 unfold rtk;split
 ·rename_i q;split
  ·rename_i u z;ø⟨ob,eo⟩:=(ok b u z).ex;rw[un.free b ob eo q ¢]at e;cases e
  ·§e
 ·rw[e]
þ zoe (un:Un fs [] (unt H S) H' h h') (ok:HOk P w H h):Un fs [] H (rtk H S H') h h' where
  keep:=λb o e n hb hx=>un.keep b o e (zfB n) hb hx
  slot:=λb o e n hb hx=>un.slot b o e (zfB n) hb hx
  free:=λb o e n hx=>by
    unfold rtk;rw[zfB n,n];§un.free b o e (zfB n) hx
  there:=un.there
  tups:=λb xs e=>zfu ok un (un.tups b xs (zic b xs e))
  frzs:=λb o u e=>zfu ok un (un.frzs b o u (zjz b o u e))
  tbls:=λb ps e=>by
    ø⟨m,z⟩:=un.tbls b ps (znn e λ_ z=>nomatch z);§⟨m,zfu ok un z⟩
þ zuO (un:Un fs [] (unt H S) H' h h') (ok:HOk P w H h) (ok':HOk P w H' h') (hf:∀b∈fs,H b=none):HOk P w (rtk H S H') h':=λb o e=>by
 have back:∀{o},H' b=some o→ObjOk P w (rtk H S H') h' b o:=λ{o} q=>(ok' b o q).stay (λ_ _ _ z=>z) (λc z=>zfu ok un z) λc xs z=>zfu ok un z;unfold rtk at e;split at e
 ·rename_i q;split at e
  ·rename_i u z;cases e;ø⟨⟨xs,rfl⟩,_⟩:=zAc q z;ø⟨l,its,n,r,g⟩:=ok b _ z;§⟨l,its,n,r,un.keep b _ g q (λhb=>by rw[hf b hb]at z;cases z) ¢⟩
  ·§back e
 ·rename_i u q;split at e
  ·rename_i u' z;cases e;§back z
  ·rename_i z;cases e;ø⟨ob,eo⟩:=(ok b u (znN q)).ex;ø⟨ob',eo'⟩:=un.there b ob eo ¢;§⟨⟨ob',eo'⟩,⟨ob',eo'⟩,λh1 h2 ⟨o,z⟩ k=>⟨o,k o z⟩⟩
þ zxm (e:H b=some o):∃o',rtk H S H' b=some o':=by
 unfold rtk;split
 ·rw[e];§⟨_,rfl⟩
 ·split
  ·§⟨_,rfl⟩
  ·§⟨_,rfl⟩
þ zqe (un:Un fs [] (unt H S) H' h h') (ok:HOk P w H h) (r:RepS K H' S'):Ext H S (rtk H S H') S' where
  tup:=λb xs e=>(zoe un ok).tups b xs e
  frz:=λb o u e=>(zoe un ok).frzs b o u e
  fr:=λb xs e hs=>by
    ¤⟨?_,?_⟩
    · unfold rtk;rw[zsh e hs,e]
    · cases q:S' b with
      |none=>rfl
      |some u=>
        ø⟨v,z⟩:=(r b u q).some;ø⟨ob,eo⟩:=(ok b _ e).ex;rw[un.free b ob eo (zsh e hs) ¢]at z;cases z
  all:=λb o e=>zxm e
þ zvk (un:Un fs [] (unt H S) H' h h') (ok:HOk P w H h):Ext H' S' (rtk H S H') S' where
  tup:=λb xs e=>zfu ok un e
  frz:=λb o u e=>zfu ok un e
  fr:=λb xs e hs=>⟨zfu ok un e,hs⟩
  all:=λb o e=>⟨o,zfu ok un e⟩
þ zyo (un:Un fs [] (unt H S) H' h h') (ok:HOk P w H h) (r:RepS K H' S'):RepS K (rtk H S H') S':=λa o e=>(r a o e).keep (zvk (S':=S') un ok) λu z=>zfu ok un z
end
þ zzX{X:Cx}{k:Nat}{f:Addr}{fd:FuncData}{ps:List Str}{c:WSp}{E:WX}{pins:List (Addr×Obj)}{σ:St}{σW:WSt}{H:Hp}{S:Sto}{s:Shared}{Q:VK}{QW:WK}{us:List Value}{vs:List V}{ws:List W}
  (F:FnOk X.prog X.w X.K X.mg X.base (CX1 X.prog X.w) k f fd ps (zdn X.K c)) (hr:Room k X.A) (hb:Binds X.K fd ps []) (I:Inv X pins σ H s) (r:Vals vs us) (rs:Reps X.K H ws vs) (hσ:RpSt X.K H σW σ) (hS:RepS X.K H S)
  (h:c ws S QW λcl S'=>E cl σW S') (hQ:Wish X.K H S QW Q)
  (hx:∀(cl:Str) (C a:Addr) (H':Hp) (S':Sto) (s':Shared),PySem.W.nsIn X.K mainGlobals cl=some (some (.ref C))→s'.os=s.os→AllBare s'.gens→Un (frs X.stack) [] H H' s.heap s'.heap→HOk X.prog X.w H' s'.heap→Fly s.heap s'.heap H' a C→Ext H S H' S'→RepS X.K H' S'→E cl σW S'→X.xe (.ref a) s'):wpAny (model X.prog X.w) X.A (call (.ref f) us) (EP X pins σ Q) X.xe s:=by
 have e0:=I.env0;have sp:zdn X.K c vs (unt H S) (λv H'=>∃w S',Rep X.K H' w v∧RepS X.K H' S'∧QW w S') (λcv _ H'=>∃cl C S',cv= .ref C∧PySem.W.nsIn X.K mainGlobals cl=some (some (.ref C))∧RepS X.K H' S'∧E cl σW S'):=
  ⟨ws,S,QW,_,Reps.mv zic zjz rs,hS.unt,h,λw S' v H' _ r1 r2 q=>⟨w,S',r1,r2,q⟩,λcl C S' H' hn hS' q=>⟨cl,C,S',rfl,hn,hS',q⟩⟩
 have e1:Env0 X.prog X.w X.K X.mg X.base X.A X.stack s (unt H S):=⟨e0.frames,e0.mod,λb o e=>⟨(e0.bs b o e).1,zfB (e0.bs b o e).2⟩,e0.bsz,e0.funs,λb hb=>zfB (e0.frf b hb),e0.hok.unt,e0.bare⟩;have hl:us.length=ps.length:=by rw[←r.length];§F.len _ _ _ _ sp
 have hb':=hb s us I.kIn (by rw[List.append_nil];§hl);rw[List.append_nil]at hb';¤wpAny_call (codeAny_mono (F.run X.A X.stack s (unt H S) ⟨us,[]⟩ us vs _ _ hr e1 hb' r sp) λrr s' hq=>?_);cases rr with
 |error e=>
  ø⟨a,C,H',rfl,os,bare,un,ok',fly,cl,C',S',ec,hn,hS',q⟩:=hq;cases ec;¤hx cl C a (rtk H S H') S' s' hn os bare (zoe un I.hok) (zuO un I.hok ok' e0.frf) ?_ (zqe un I.hok hS') (zyo un I.hok hS') q;ø⟨g1,g2,oe,vs',T,oT,ts,a1,a2,a3,a4,a5,a6,a7⟩:=fly;have free:∀{b:Addr},s.heap.get? b=none→H' b=none→rtk H S H' b=none:=λ{b} q1 q2=>by
   have hn:H b=none:=by
    cases z:H b with
    |none=>rfl
    |some u=>ø⟨ob,eo⟩:=(I.hok b u z).ex;rw[q1]at eo;cases eo
   unfold rtk;rw[zfB hn,hn];§q2
  §⟨g1,free g1 g2,oe,vs',T,oT,ts,a1,a2,a3,a4,a5,free a5 a6,a7⟩
 |ok fl=>
  cases fl with
  |ret u=>
   ø⟨v,H',os,bare,un,ok',rv,w,S',r1,r2,q⟩:=hq;§⟨v,rtk H S H',I.call' os (zoe un I.hok) (zuO un I.hok ok' e0.frf) bare (λ_ z=>nomatch z),rv,hQ w S' v _ (zqe un I.hok r2) (r1.ext (zvk (S':=S') un I.hok)) (zyo un I.hok r2) q⟩
  |next=>§False.elim hq
  |brk=>§False.elim hq
  |cont=>§False.elim hq
þ zAP{X:Cx}{k:Nat}{f:Addr}{fd:FuncData}{ps:List Str}{c:WSp}{E:WX}{pins:List (Addr×Obj)}{σ:St}{σW:WSt}{H:Hp}{S:Sto}{s:Shared}{Q:VK}{QW:WK}{us:List Value}{vs:List V}{ws:List W}
  (F:FnOk X.prog X.w X.K X.mg X.base (CX1 X.prog X.w) k f fd ps (zdn X.K c)) (hr:Room k X.A) (hb:Binds X.K fd ps []) (hE:Hook X E) (I:Inv X pins σ H s) (r:Vals vs us) (rs:Reps X.K H ws vs) (hσ:RpSt X.K H σW σ) (hS:RepS X.K H S)
  (h:c ws S QW λcl S'=>E cl σW S') (hQ:Wish X.K H S QW Q):wpAny (model X.prog X.w) X.A (call (.ref f) us) (EP X pins σ Q) X.xe s:=
 zzX (E:=E) F hr hb I r rs hσ hS h hQ λcl C a H' S' s' hn os bare un ok fly _ hS' q=>hE.far pins σ H s σW cl C a H' S' s' I hσ hn os bare un ok fly hS' q
þ zsx{X:Cx}{pins:List (Addr×Obj)}{σ:St}{H':Hp}{s':Shared}{a C:Addr}{hid:List Addr}{h':Heap}(I:Inv X pins σ H' s') (hst:X.stack=X.env::X.outer) (hf:X.env.frame=some X.env.locals) (hex:X.ex=[])
  (h0:∀b∈hid,X.s₀.heap.get? b=none∧H' b=none) (ha:a∈hid) (L:Heap.Left (PySem.W.hideAll s'.heap (hid++frs X.stack)) X.stack a (.ref C) s'.heap h') :
  Un X.fs [] X.H₀ H' X.s₀.heap h'∧HOk X.prog X.w H' h'∧Fly X.s₀.heap h' H' a C:=by
 ø⟨st,ff,tr,sl⟩:=L;have keepB:∀b o,s'.heap.get? b=some o→b∉hid→b∉frs X.stack→h'.get? b=some o:=λb o e h1 h2=>st b o (PySem.W.hideAll_get _ e λz=>(List.mem_append.mp z).elim h1 h2);have nh:∀b o,X.s₀.heap.get? b=some o→b∉hid:=λb o e hb=>by rw[(h0 b hb).1]at e;cases e
 have slotB:∀b o,b∈frs X.stack→s'.heap.get? b=some o→ ∃sl,h'.get? b=some { o with slots:=sl }:=λb o hb e=>by
  ø⟨_,o',eo',nf⟩:=I.stack.mem hb;rw[e]at eo';cases eo';§sl b o e nf
 have nx:∀b:Addr,b∉X.ex:=λb=>by rw[hex];simp
 have fsS:∀b∈X.fs,b∈frs X.stack:=λb hb=>by
  rw[hst];unfold frs;rw[List.filterMap_cons,hf];§List.mem_cons_of_mem _ hb
 ¤⟨⟨λb o e n hb _=>?_,λb o e n hb _=>?_,λb o e n _=>I.base.free b o e n (nx b),λb o e _=>?_,I.base.tups,I.base.frzs,I.base.tbls⟩,λb o e=>?_,(h0 a ha).1,(h0 a ha).2,?_⟩
 ·¤keepB b o (I.base.keep b o e n hb (nx b)) (nh b o e) λz=>?_;rcases List.mem_cons.mp (I.stkSub b z) with q |q
  ·§absurd (Nat.lt_of_lt_of_le (Heap.lt_size e) I.ok.above) (by rw[q];§Nat.lt_irrefl _)
  ·§hb q
 ·ø⟨sl1,e1⟩:=I.base.slot b o e n hb (nx b);ø⟨sl2,e2⟩:=slotB b _ (fsS b hb) e1;§⟨sl2,e2⟩
 ·ø⟨o',e1⟩:=I.base.there b o e (nx b);by_cases hb:b∈frs X.stack
  ·ø⟨sl2,e2⟩:=slotB b _ hb e1;§⟨_,e2⟩
  ·§⟨o',keepB b o' e1 (nh b o e) hb⟩
 ·¤(I.hok b o e).stay (λc u hc q=>?_) (λ_ q=>q) λ_ _ q=>q;have tk:∃v,H' c=some v:=by
   rcases hc with z |z
   ·§⟨o,by rw[z];§e⟩
   ·§⟨_,z⟩
  ø⟨v,tk⟩:=tk;§keepB c u q (λz=>by rw[(h0 c z).2]at tk;cases tk) λz=>by rw[I.stkFree c z]at tk;cases tk
 ·ø⟨oe,vs,T,oT,ts,e1,e2,e3,e4,e5,e6,e7,e8,e9⟩:=tr;have nf:T∉frs X.stack:=λhb=>by
   ø⟨_,o,eo,nf⟩:=ff.mem hb;rw[e7]at eo;cases eo;§nf ts e8
  have both:X.s₀.heap.get? T=none∧H' T=none:=by
   by_cases hT:T∈hid
   ·§h0 T hT
   ·have z:s'.heap.get? T=none:=by
     cases q:s'.heap.get? T with
     |none=>rfl
     |some o=>
      rw[PySem.W.hideAll_get _ q λz=>(List.mem_append.mp z).elim hT nf]at e5;cases e5
    constructor
    ·cases q:X.s₀.heap.get? T with
     |none=>rfl
     |some o=>ø⟨o',q'⟩:=I.base.there T o q (nx T);rw[z]at q';cases q'
    ·cases q:H' T with
     |none=>rfl
     |some u=>ø⟨o',q'⟩:=(I.hok T u q).ex;rw[z]at q';cases q'
  §⟨oe,vs,T,oT,ts,e1,e2,e3,e4,both.1,both.2,e6,e7,e8,e9⟩
þ zjX{h base:Heap}{l:List Env}{hid:List Addr}(hl:h.FunFrames base l):h.FunFrames (PySem.W.hideAll h (hid++frs l)) l:=
 PySem.W.funFrames_hide hl λenv he a ha=>List.mem_append_right _ (List.mem_filterMap.mpr ⟨env,he,ha⟩)
þ ztM{P:Program}{w:World}{K:Ƒ}{mg:Str→Option Value}{base:Heap}{N:List Str}{qual:Str}{scope:Scope}{f:Addr}{cdv:Value}{A:Around}{outer:List Env}{s:Shared}{H:Hp}{E:XK}{EW:Str→Sto→Prop}
    (hEW:∀cl C S' H',PySem.W.nsIn K mainGlobals cl=some (some (.ref C))→RepS K H' S'→EW cl S'→E (.ref C) none H'):Hook (zvn (CX1 P w) P w K mg base N qual scope f cdv A outer s H E) (λc _ S'=>EW c S') where
  own:=PassesOwn.leaving
  far:=λpins σ H1 s1 σW cl C a H' S' s' I hσ hn os bare un ok fly hS q=>by
    have I':=I.call' os un ok bare (λ_ z=>nomatch z);ø⟨g1,g2,oe,vs,T,oT,ts,e1,e2,e3,e4,g3,g4,e5,e6,e7,e8⟩:=fly;have s0:∀{b:Addr},s1.heap.get? b=none→s.heap.get? b=none:=λ{b} z=>by
      cases q:s.heap.get? b with
      |none=>rfl
      |some o=>ø⟨o',q'⟩:=I.base.there b o q (by §λz=>nomatch z);rw[z]at q';cases q'
    ¤wpAny_leaving_next (base:=PySem.W.hideAll s'.heap ([a,T]++frs (envOfC qual scope s.heap.objs.size f cdv::outer))) I'.ok.frames (zjX I'.stack) rfl ⟨oe,vs,T,oT,ts,e1,e2,e3,e4,PySem.W.hideAll_none _ ¢,e5,e6,e7,e8⟩ (λb o z=>PySem.W.of_hideAll _ z) (PySem.W.hideAll_none _ ¢) λh' L=>?_;ø⟨u1,u2,u3⟩:=zsx (hid:=[a,T]) I' rfl rfl rfl (λb hb=>by
      rcases List.mem_cons.mp hb with rfl |hb
      · §⟨s0 g1,g2⟩
      · rw[List.mem_singleton.mp hb];§⟨s0 g3,g4⟩) ¢ L
    §⟨a,C,H',rfl,I'.os,I'.bare,u1,u2,u3,hEW cl C S' H' hn hS q⟩
  near:=λpins σ H1 s1 σW cl C a S h' args I hσ hn me hS q=>by
    have I':=I.kept (t':=s1.toks) me.keeps;ø⟨t,e1,_,_⟩:=me.there;have s0:s.heap.get? a=none:=by
      cases q:s.heap.get? a with
      |none=>rfl
      |some o=>ø⟨o',q'⟩:=I.base.there a o q (by §λz=>nomatch z);rw[me.new]at q';cases q'
    have h1:H1 a=none:=by
      cases q:H1 a with
      |none=>rfl
      |some u=>ø⟨o',q'⟩:=(I.hok a u q).ex;rw[me.new]at q';cases q'
    ¤wpAny_leaving_first (base:=PySem.W.hideAll h' ([a]++frs (envOfC qual scope s.heap.objs.size f cdv::outer))) (s:={ s1 with heap:=h' }) I'.ok.frames (zjX I'.stack) rfl e1 (λb o z=>PySem.W.of_hideAll _ z) (PySem.W.hideAll_none _ ¢) rfl rfl λh'' L=>?_;ø⟨u1,u2,u3⟩:=zsx (hid:=[a]) I' rfl rfl rfl (λb hb=>by rw[List.mem_singleton.mp hb];§⟨s0,h1⟩) ¢ L
    §⟨a,C,H1,rfl,I'.os,I'.bare,u1,u2,u3,hEW cl C S H1 hn hS q⟩
ñ def zcY (S:Sto) (a:Addr) (Q:List W→Prop):Prop:=match S a with
 |some (.lst ws)=>Q ws
 |_=>False
þ zai{S:Sto}{a:Addr}{Q:List W→Prop}{ws:List W}(h:S a=some (.lst ws)):zcY S a Q=Q ws:=by unfold zcY;rw[h]
þ zbr{S:Sto}{a:Addr}{Q:List W→Prop}(h:zcY S a Q):∃ws,S a=some (.lst ws)∧Q ws:=by
 unfold zcY at h;split at h
 ·§⟨_, ‹_›,h⟩
 ·§h.elim
ñ def zsI:W→Sto→(Bool→Sto→Prop)→Prop
 | .non,S,Q=>Q false S
 | .bl b,S,Q=>Q b S
 | .int i,S,Q=>Q (i != 0) S
 | .str x,S,Q=>x.length≤sizeLine∧Q ((x.length:Int) != 0) S
 | .tup ws,S,Q=>Q (!ws.isEmpty) S
 | .ref a,S,Q=>zcY S a λws=>Q (!ws.isEmpty) S
 | .scr ns,S,Q=>Q (!ns.isEmpty) S
ñ def zgM (t:WE):WT:=λE σ S Q=>t E σ S λw S'=>zsI w S' Q
ñ def wTb (t:WE):WT:=λE σ S Q=>t E σ S λw S'=>match w with
 | .bl b=>Q b S'
 |_=>False
ñ def znO (t u:WT):WT:=λE σ S Q=>t E σ S λc S1=>if c=true then u E σ S1 Q else Q false S1
ñ def wOr (t u:WT):WT:=λE σ S Q=>t E σ S λc S1=>if c=true then Q true S1 else u E σ S1 Q
ñ def ztp (t:WT):WT:=λE σ S Q=>t E σ S λc S1=>Q (!c) S1
ñ def zso (t u:WE):WE:=λE σ S Q=>t E σ S λw S1=>match w with
 | .bl true=>u E σ S1 Q
 | .bl false=>Q (.bl false) S1
 |_=>False
ñ def zBl (t u:WE):WE:=λE σ S Q=>t E σ S λw S1=>match w with
 | .bl false=>u E σ S1 Q
 | .bl true=>Q (.bl true) S1
 |_=>False
ñ def wIf (c:WT) (t u:WE):WE:=λE σ S Q=>c E σ S λb S1=>if b=true then t E σ S1 Q else u E σ S1 Q
ñ def zcq (c:WT) (t u:WS):WS:=λE D σ S=>c E σ S λb S1=>if b=true then t E D σ S1 else u E D σ S1
ñ def wNext:WS:=λ_ D σ S=>D.nx σ S
ñ def zat (t u:WS):WS:=λE D σ S=>t E { D with nx:=u E D } σ S
ñ def wRet (e:WE):WS:=λE D σ S=>e E σ S D.rt
ñ def zcL (e:WE):WS:=λE D σ S=>e E σ S λ_ S1=>D.nx σ S1
ñ def wGN (i:Nat):WG:=λw σ S Q=>Q (σ.set i (some w)) S
ñ def wAsg (e:WE) (g:WG):WS:=λE D σ S=>e E σ S λw S1=>g w σ S1 D.nx
ñ abbrev WGs:=List W→WSt→Sto→(WSt→Sto→Prop)→Prop
ñ def zdY:WGs:=λws σ S Q=>match ws with
 | []=>Q σ S
 |_=>False
ñ def zaE (g:WG) (u:WGs):WGs:=λws σ S Q=>match ws with
 | []=>False
 |w::r=>g w σ S λσ' S'=>u r σ' S' Q
ñ def wGT (u:WGs):WG:=λw σ S Q=>match w with
 | .tup ws=>u ws σ S Q
 |_=>False
section
variable {X:Cx}{a b c e:Expr}{pos:Pos}{ta tb:WE}{tc tA tB':WT}{st:Stmt}{rest:List Stmt}{t u:WS}
þ zpR{K:Ƒ}{H:Hp}{w:W}{v:V}{S:Sto}{QW:Bool→Sto→Prop}(r:Rep K H w v) (hS:RepS K H S) (h:zsI w S QW):∃k,zAr K v H k∧QW k S:=by
 cases r with
 |non=>§⟨false,rfl,h⟩
 |bl b=>§⟨b,rfl,h⟩
 |int i=>§⟨_,rfl,h⟩
 |str x=>§⟨_,⟨h.1,rfl⟩,h.2⟩
 |ref a=>
  ø⟨ws,e,h⟩:=zbr h;ø⟨vs,e1,r1⟩:=hS a _ e;¤⟨_, .inl ⟨vs, .of e1,rfl⟩,?_⟩;have q:vs.isEmpty=ws.isEmpty:=by cases r1<;>rfl
  rw[q];§h
 | @scr a ns f=>
  ¤⟨_, .inl ⟨_,f.sq,rfl⟩,?_⟩;have q:(ns.map V.int).isEmpty=ns.isEmpty:=by cases ns<;>rfl
  rw[q];§h
 | @tup a vs ws f hs=>
  ¤⟨_, .inr (.inl ⟨vs, .of f,rfl⟩),?_⟩;have q:vs.isEmpty=ws.isEmpty:=by cases hs<;>rfl
  rw[q];§h
þ zbE (ha:JE X a ta) (he:∀whole,isTrue a X.env whole=(do let v ←whole;standAt a.pos;holding [v] (truthy v)):=by intro _;rfl):JT X a (zgM ta):=λE hE=>
 (ztT (ha E hE) he).mono λσ H Q ⟨σW,S,QW,hσ,hS,ht,hQ⟩=>⟨σW,S,_,hσ,hS,ht,λw S1 v H1 e1 r1 hS1 h1=>by
  ø⟨k,hk,q⟩:=zpR r1 hS1 h1;§⟨k,hk,hQ k S1 H1 e1 hS1 q⟩⟩
þ zgh{op:CmpOp}{r:R2}{wr:W2}(ho:OpR X (compareOp op) r) (hw:OpW X.K r wr) (ha:JE X a ta) (hb:JE X b tb) (hm:behindInMarks op b=false):JT X (.Compare a [op] [b] pos) (wTb (wOp wr ta tb)):=λE hE=>
 (zwv ho (ha E hE) (hb E hE) hm).mono λσ H Q ⟨σW,S,QW,hσ,hS,ht,hQ⟩=>by
  ¤zhc (Q:=λv H1=>∃k,v= .bl k∧Q k H1) ⟨σW,S,λw S'=>match w with
   | .bl b=>QW b S'
   |_=>False,hσ,hS,ht,λw S1 v H1 e1 r1 hS1 h1=>?_⟩ λH2 x y wx wy S QW rx ry hS q hQ=>hw H2 x y wx wy S _ QW rx ry hS q hQ
  cases r1 with
  |bl k=>§⟨k,rfl,hQ k S1 H1 e1 hS1 h1⟩
  |_=>§h1.elim
þ zhB (ha:JT X a tA):JT X (.UnaryOp .Not a pos) (ztp tA):=λE hE=>
 (zzG (ha E hE)).mono λσ H Q ⟨σW,S,QW,hσ,hS,ht,hQ⟩=>⟨σW,S,_,hσ,hS,ht,λb S1 H1 e1 hS1 h1=>hQ _ S1 H1 e1 hS1 h1⟩
þ JW.jt (h:JW X a tA):JT X a tA:=λE hE=>(h E hE).pt
þ zeB (ha:JT X a tA):JW X (.BoolOp .And [a] pos) tA:=λE hE=>zvI (ha E hE)
þ zly (ha:JT X a tA):JW X (.BoolOp .Or [a] pos) tA:=λE hE=>zxH (ha E hE)
þ zgl{rest:List Expr}(ha:JT X a tA) (hb:JW X (.BoolOp .And (b::rest) pos) tB'):JW X (.BoolOp .And (a::b::rest) pos) (znO tA tB'):=λE hE=>
 (zyY (ha E hE) (hb E hE)).mono λσ H Q ⟨σW,S,QW,hσ,hS,ht,hQ⟩=>⟨σW,S,_,hσ,hS,ht,λb S1 H1 e1 hS1 h1=>by
  cases b with
  |true=>§⟨σW,S1,_,hσ.ext e1,hS1,h1,λb S2 H2 e2 hS2 h2=>hQ b S2 H2 (e1.trans e2) hS2 h2⟩
  |false=>§hQ _ S1 H1 e1 hS1 h1⟩
þ zqc{rest:List Expr}(ha:JT X a tA) (hb:JW X (.BoolOp .Or (b::rest) pos) tB'):JW X (.BoolOp .Or (a::b::rest) pos) (wOr tA tB'):=λE hE=>
 (zAw (ha E hE) (hb E hE)).mono λσ H Q ⟨σW,S,QW,hσ,hS,ht,hQ⟩=>⟨σW,S,_,hσ,hS,ht,λb S1 H1 e1 hS1 h1=>by
  cases b with
  |false=>§⟨σW,S1,_,hσ.ext e1,hS1,h1,λb S2 H2 e2 hS2 h2=>hQ b S2 H2 (e1.trans e2) hS2 h2⟩
  |true=>§hQ _ S1 H1 e1 hS1 h1⟩
þ zoi{op}(h:JE X a ta):JE X (.BoolOp op [a] pos) ta:=λE hE=>zyB (h E hE)
þ zrk{rest:List Expr}(ha:JE X a ta) (hb:JE X (.BoolOp .And (b::rest) pos) tb):JE X (.BoolOp .And (a::b::rest) pos) (zso ta tb):=λE hE=>
 (zyG (ha E hE) (hb E hE)).mono λσ H Q ⟨σW,S,QW,hσ,hS,ht,hQ⟩=>⟨σW,S,_,hσ,hS,ht,λw S1 v H1 e1 r1 hS1 h1=>by
  cases r1 with
  |bl k=>
   ¤⟨k,rfl,?_⟩;cases k with
   |true=>§⟨σW,S1,_,hσ.ext e1,hS1,h1,hQ.from e1⟩
   |false=>§hQ _ S1 _ H1 e1 (.bl false) hS1 h1
  |_=>§h1.elim⟩
þ zBV{rest:List Expr}(ha:JE X a ta) (hb:JE X (.BoolOp .Or (b::rest) pos) tb):JE X (.BoolOp .Or (a::b::rest) pos) (zBl ta tb):=λE hE=>
 (zBE (ha E hE) (hb E hE)).mono λσ H Q ⟨σW,S,QW,hσ,hS,ht,hQ⟩=>⟨σW,S,_,hσ,hS,ht,λw S1 v H1 e1 r1 hS1 h1=>by
  cases r1 with
  |bl k=>
   ¤⟨k,rfl,?_⟩;cases k with
   |false=>§⟨σW,S1,_,hσ.ext e1,hS1,h1,hQ.from e1⟩
   |true=>§hQ _ S1 _ H1 e1 (.bl true) hS1 h1
  |_=>§h1.elim⟩
þ zBk (hc:JT X c tc) (ha:JE X a ta) (hb:JE X b tb):JE X (.IfExp c a b pos) (wIf tc ta tb):=λE hE=>
 (ztY (hc E hE) (ha E hE) (hb E hE)).mono λσ H Q ⟨σW,S,QW,hσ,hS,ht,hQ⟩=>⟨σW,S,_,hσ,hS,ht,λk S1 H1 e1 hS1 h1=>by
  cases k with
  |true=>§⟨σW,S1,_,hσ.ext e1,hS1,h1,hQ.from e1⟩
  |false=>§⟨σW,S1,_,hσ.ext e1,hS1,h1,hQ.from e1⟩⟩
þ zaw:JSs X [] wNext:=λE hE=>pss_nil.mono λD σ H ⟨σW,S,DW,hσ,hS,ht,hD⟩=>hD.nx σW S σ H .refl hσ hS ht
þ zad (h1:JS X st t) (h2:JSs X rest u):JSs X (st::rest) (zat t u):=λE hE=>
 (zsJ (h1 E hE) (h2 E hE)).mono λD σ H ⟨σW,S,DW,hσ,hS,ht,hD⟩=>
  ⟨σW,S,{ DW with nx:=u E DW },hσ,hS,ht,⟨λσW' S' σ' H' e r hS' q=>⟨σW',S',DW,r,hS',q,hD.from e⟩,hD.rt,hD.bk,hD.ct⟩⟩
þ zah (h1:JS X st t):JSs X [st] t:=λE hE=>zqM (h1 E hE)
þ zaQ (he:JE X e ta) (hs:swapsWith e none pos.line X.env=pure false:=by rfl):JS X (.Expr e pos) (zcL ta):=λE hE=>
 (zxy (he E hE) hs).mono λD σ H ⟨σW,S,DW,hσ,hS,ht,hD⟩=>⟨σW,S,_,hσ,hS,ht,λw S1 v H1 e1 r1 hS1 h1=>hD.nx σW S1 σ H1 e1 (hσ.ext e1) hS1 h1⟩
þ zal (he:JE X e ta):JS X (.Return (some e) pos) (wRet ta):=λE hE=>
 (zyp (he E hE)).mono λD σ H ⟨σW,S,DW,hσ,hS,ht,hD⟩=>⟨σW,S,_,hσ,hS,ht,hD.rt⟩
þ zaM{a b:List Stmt}(hc:JT X c tc) (ha:JSs X a t) (hb:JSs X b u):JS X (.If c a b pos) (zcq tc t u):=λE hE=>
 (zBa (hc E hE) (ha E hE) (hb E hE)).mono λD σ H ⟨σW,S,DW,hσ,hS,ht,hD⟩=>⟨σW,S,_,hσ,hS,ht,λk S1 H1 e1 hS1 h1=>by
  cases k with
  |true=>§⟨σW,S1,DW,hσ.ext e1,hS1,h1,hD.from e1⟩
  |false=>§⟨σW,S1,DW,hσ.ext e1,hS1,h1,hD.from e1⟩⟩
þ zap{i:Nat}{x:Str}(hN:X.N.Nodup) (hi:X.N[i]? =some x) (hx:Loc X.env.scope x) (hf:X.fn x=true∨X.env.scope.names.lookup x=some .local:=by first |§.inl rfl |§.inr rfl |assumption):JG X (.Name x pos) (wGN i):=λE hE=>
 (zvx hN hi hx hf).mono λv σ H Q ⟨w,σW,S,P,r,hσ,hS,ht,hP⟩=>hP _ S _ H .refl (hσ.set r i) hS ht
ñ def JGs (X:Cx) (tgs:List Expr) (t:WGs):Prop:=∀E,Hook X E→PGs X tgs (λvs σ H Q=>∃ws σW S P,Reps X.K H ws vs∧RpSt X.K H σW σ∧RepS X.K H S∧t ws σW S P∧Goes X.K H S P Q)
þ zew:JGs X [] zdY:=λE hE pins s σ H vs us Q I r h=>by
 ø⟨ws,σW,S,P,rs,hσ,hS,ht,hP⟩:=h;unfold zdY at ht;split at ht
 ·cases rs;§zxq pins s σ H [] us Q I r ⟨rfl,hP σW S σ H .refl hσ hS ht⟩
 ·§ht.elim
þ zaP{es:List Expr}{g:WG}{gs:WGs}(h1:JG X e g) (h2:JGs X es gs)
  (hs:(assignEach (e::es) X.env).map (·.2)=assign e X.env::(assignEach es X.env).map (·.2):=by rfl):JGs X (e::es) (zaE g gs):=λE hE pins s σ H vs us Q I r h=>by
 ø⟨ws,σW,S,P,rs,hσ,hS,ht,hP⟩:=h;unfold zaE at ht;split at ht
 ·§ht.elim
 ·cases rs with
  |cons r1 r2=>
   ¤ztw (h1 E hE) (h2 E hE) hs pins s σ H _ us Q I r ⟨_,_,rfl,⟨_,σW,S,_,r1,hσ,hS,ht,λσW' S' σ' H' e' rr hS' q=>?_⟩⟩;§⟨_,σW',S',P,r2.ext e',rr,hS',q,hP.from e'⟩
þ zfR{es:List Expr}{k n:Nat}{gs:WGs}(h:JGs X es gs) (hlen:∀ws σ S P,gs ws σ S P→ws.length=n)
  (hn:(assignEach es X.env).length=n:=by rfl) (hst:(assignEach es X.env).findIdx? (·.1)=none:=by rfl) (hcl:X.calm=true:=by rfl):JG X (.Tuple es k pos) (wGT gs):=λE hE=>
 (zyq hcl (h E hE) hn hst).mono λv σ H Q ⟨w,σW,S,P,r,hσ,hS,ht,hP⟩=>by
  cases r with
  |tup f hs=>§⟨_,_,rfl, .of f,by rw[←hs.length];§hlen _ _ _ _ ht,⟨_,σW,S,P,hs,hσ,hS,ht,hP⟩⟩
  |_=>§ht.elim
þ zxG{tg:Expr}{g:WG}(he:JE X e ta) (hg:JG X tg g) (hs:swapsWithSole [tg] e pos.line X.env=pure false:=by rfl) (hw:swappedStores [tg] e X.env=pure none:=by rfl)
  (h1:(assignEach [tg] X.env).map (·.2)=[assign tg X.env]:=by rfl):JS X (.Assign [tg] e pos) (wAsg ta g):=λE hE=>
 (zzs (he E hE) (hg E hE) hs hw h1).mono λD σ H ⟨σW,S,DW,hσ,hS,ht,hD⟩=>⟨σW,S,_,hσ,hS,ht,λw S1 v H1 e1 r1 hS1 h1=>⟨w,σW,S1,_,r1,hσ.ext e1,hS1,h1,hD.nx.from e1⟩⟩
þ zao{i:Nat}{x:Str}{pos':Pos}(hN:X.N.Nodup) (hi:X.N[i]? =some x) (hx:Loc X.env.scope x) (he:JE X e ta) (hs:swapsWith e (some (.Name x pos')) pos.line X.env=pure false:=by rfl)
  (hf:X.fn x=true∨X.env.scope.names.lookup x=some .local:=by first |§.inl rfl |§.inr rfl |assumption):JS X (.Assign [.Name x pos'] e pos) (wAsg ta (wGN i)):=λE hE=>
 (zuJ hN hi hx (he E hE) hs hf).mono λD σ H ⟨σW,S,DW,hσ,hS,ht,hD⟩=>⟨σW,S,_,hσ,hS,ht,λw S1 v H1 e1 r1 hS1 h1=>hD.nx _ S1 _ H1 e1 ((hσ.ext e1).set r1 i) hS1 h1⟩
end
ñ def waNil:WA:=λ_ _ S Q=>Q [] S
ñ def zab (t:WE) (u:WA):WA:=λE σ S Q=>t E σ S λw S1=>u E σ S1 λws S2=>Q (w::ws) S2
ñ def zce (t:WA):WE:=λE σ S Q=>t E σ S λws S1=>ws.length≤sizeLine∧Q (.tup ws) S1
ñ def zdL (t:WA):WL:=λE σ S Q=>t E σ S λws S1=>ws.length≤sizeLine∧Q ws S1
ñ def zdm (t:WL):WE:=λE σ S Q=>t E σ S λws S1=>∀a,S1 a=none→Q (.ref a) (put S1 a (.lst ws))
section
variable {X:Cx}{e:Expr}{es:List Expr}{te:WE}{ta:WA}{tl:WL}{pos:Pos}
þ zac:JA X [] waNil:=λE hE=>pa_nil.mono λσ H Q ⟨σW,S,QW,hσ,hS,ht,hQ⟩=>hQ [] S [] H .refl .nil hS ht
þ zaa (ha:JE X e te) (hr:JA X es ta) (hs:starEach (e::es) X.env=(false,eval e X.env)::starEach es X.env:=by rfl):JA X (e::es) (zab te ta):=λE hE=>
 (zdy (ha E hE) (hr E hE) hs).mono λσ H Q ⟨σW,S,QW,hσ,hS,ht,hQ⟩=>⟨σW,S,_,hσ,hS,ht,λw S1 v H1 e1 r1 hS1 h1=>⟨σW,S1,_,hσ.ext e1,hS1,h1,λws S2 vs H2 e2 r2 hS2 h2=>
  hQ (w::ws) S2 (v::vs) H2 (e1.trans e2) (.cons (r1.ext e2) r2) hS2 h2⟩⟩
þ zav{x1}(h:JA X es ta):JE X (.Tuple es x1 pos) (zce ta):=λE hE=>
 (zyy (h E hE)).mono λσ H Q ⟨σW,S,QW,hσ,hS,ht,hQ⟩=>⟨σW,S,_,hσ,hS,ht,λws S1 vs H1 e1 r1 hS1 h1=>by
  ¤⟨by rw[←r1.length];§h1.1,λp hp=>hQ (.tup ws) S1 _ _ (e1.trans (.new hp)) (.tup zaz (r1.ext (.new (S:=S1) hp))) (hS1.new hp) h1.2⟩⟩
þ zaK (h:JA X es ta):JL X (.List es pos) (zdL ta):=λE hE=>
 (zxJ (h E hE)).mono λσ H Q ⟨σW,S,QW,hσ,hS,ht,hQ⟩=>⟨σW,S,_,hσ,hS,ht,λws S1 vs H1 e1 r1 hS1 h1=>by
  ¤⟨by rw[←r1.length];§h1.1,λp hp=>hQ ws S1 vs p _ (e1.trans (.new hp)) (e1.free hp) zaz (hS1.free hp) (r1.ext (.new (S:=S1) hp)) (hS1.new hp) h1.2⟩⟩
þ zaL (h:JL X e tl):JE X e (zdm tl):=λE hE=>
 (h E hE).mono λσ H Q ⟨σW,S,QW,hσ,hS,ht,hQ⟩=>⟨σW,S,_,hσ,hS,ht,λws S1 vs a H1 e1 fa ea na r1 hS1 h1=>by
  ¤hQ (.ref a) (put S1 a (.lst ws)) (.ref a) H1 ⟨e1.tup,e1.frz,λb o q g=>by
   have hb:b≠a:=by rintro rfl;rw[fa]at q;cases q
   rw[zaF hb];§e1.fr b o q g,e1.all⟩ (.ref a) (λb o q=>?_) (h1 a na)
  by_cases hb:b=a
  ·subst hb;rw[zag]at q;cases q;§⟨vs,ea,r1⟩
  ·rw[zaF hb]at q;§hS1 b o q⟩
end
ñ def zan (c:WSp) (t:WA):WE:=λE σ S Q=>t E σ S λws S1=>c ws S1 Q λcl S2=>E cl σ S2
ñ def zcd (n k:Nat) (body:WS):WSp:=λws S Q E=>ws.length=k∧body (λc _ S'=>E c S') { nx:=λ_ S'=>∃S'',Sub S'' S'∧Q .non S'',rt:=λw S'=>∃S'',Sub S'' S'∧Q w S'' } (ws.map some++List.replicate (n - k) none) S
section
variable {X:Cx}{k:Nat}{f:Addr}{fd:FuncData}{ps:List Str}{c:WSp}{x:Str}{p pos:Pos}{e:Expr}{es:List Expr}{t:WA}
þ zaf (F:FnOk X.prog X.w X.K X.mg X.base (CX1 X.prog X.w) k f fd ps (zdn X.K c)) (hr:Room k X.A) (hg:Gl X x) (hm:X.mg x=some (.ref f)) (hk:PySem.W.keepIn X.K (.ref f)=true) (hb:Binds X.K fd ps [])
  (ha:JA X (e::es) t) (hdb:(x == ("__debug__" :Str))=false:=by decide) (he:starEach (e::es) X.env=(false,eval e X.env)::starEach es X.env:=by rfl) (hpl:(backTo pos (starEach es X.env)).any (·.1)=false:=by rfl) :
  JE X (.Call (.Name x p) (e::es) [] pos) (zan c t):=λE hE pins s σ H Q I h=>by
 ø⟨σW,S,QW,hσ,hS,ht,hQ⟩:=h;¤wpAny_Call_Name_kw (zin I hg hm ?_ hdb);¤PySem.W.callWith_K (h₀:=X.base) I.ok.mod.kin hk (thn (ha E hE pos pins s σ H (λvs H1=>∃ws S1,Reps X.K H1 ws vs∧RpSt X.K H1 σW σ∧RepS X.K H1 S1∧c ws S1 QW (λcl S'=>E cl σW S')∧Wish X.K H1 S1 QW Q) I
  ⟨σW,S,_,hσ,hS,ht,λws S1 vs H1 e1 r1 hS1 h1=>⟨ws,S1,r1,hσ.ext e1,hS1,h1,hQ.from e1⟩⟩) λus s1 ⟨vs,H1,I1,r,ws,S1,r1,hσ1,hS1,h1,hQ1⟩=>⟨I1.kIn,?_⟩) he hpl
 §zAP F hr hb hE I1 r r1 hσ1 hS1 h1 hQ1
þ zql{K:Ƒ}{H:Hp}{N:List Str}{ws:List W}{vs:List V}(h:Reps K H ws vs):RpSt K H (ws.map some++List.replicate (N.length - ws.length) none) (start N vs):=by
 have go:∀{ws:List W}{vs:List V}(m:Nat),Reps K H ws vs→RpSt K H (ws.map some++List.replicate m none) (vs.map some++List.replicate m none):=by
  intro ws
  induction ws with
  |nil=>
   intro vs m h;cases h
   induction m with
   |zero=>§.nil
   |succ m ih=>§.cons trivial ih
  |cons w ws ih=>
   intro vs m h;cases h with
   |cons r rs=>§.cons r (ih m rs)
 unfold start;rw[←h.length];§go _ h
þ zaG{P:Program}{w:World}{K:Ƒ}{mg:Str→Option Value}{base:Heap}{x qual:Str}{st:Stmt}{f:Addr}{fd:FuncData}{N ps:List Str}{r n k:Nat}{body:WS}(F:Fun K x qual st f fd) (S:FnScope N ps (zaj st)) (hn:N.length=n) (hk:ps.length=k)
  (hbody:∀(cdv:Value) (A:Around) (outer:List Env) (s:Shared) (H:Hp) (E:XK),Room r (A.deeper (envOfC qual (zaj st) s.heap.objs.size f cdv))→
   JSs (zvn (CX1 P w) P w K mg base N qual (zaj st) f cdv A outer s H E) (zgI st) body):FnOk P w K mg base (CX1 P w) (r+1) f fd ps (zdn K (zcd n k body)):=by
 ø⟨oc,od,kV,doc,pm,an,cdv,ct,osl,rfl,lk,hcd⟩:=F.ex;¤zBD lk hcd S (λvs H Q E h=>?_) λA outer s H vs Q E hr h=>?_
 ·ø⟨ws,S,QW,EW,rs,_,h,_⟩:=h;rw[←rs.length,h.1,hk]
 ·ø⟨ws,S',QW,EW,rs,hS,h,hQ,hEW⟩:=h;¤⟨_,hbody cdv A outer s H E hr (λc _ S'=>EW c S') (ztM hEW),?_⟩;¤⟨_,S',{ nx:=λ_ S'=>∃S'',Sub S'' S'∧QW .non S'',rt:=λw S'=>∃S'',Sub S'' S'∧QW w S'' },zql (N:=N) rs,hS,by rw[hn,h.1];§h.2,⟨λσW S1 σ H1 e1 rr hS1 q=>?_,λw S1 v H1 e1 rr hS1 q=>?_,λ_ _ _ _ _ _ _ q=>q,λ_ _ _ _ _ _ _ q=>q⟩⟩
  ·ø⟨S2,sb,q⟩:=q;§hQ .non S2 .non H1 (e1.trans (.drop sb)) .non (hS1.sub sb) q
  ·ø⟨S2,sb,q⟩:=q;§hQ w S2 v H1 (e1.trans (.drop sb)) rr (hS1.sub sb) q
end
ñ def zdt (C:Int→Int→Prop) (g:Int→Int→W):W2
 | .int i, .int j,S,Q=>C i j∧Q (g i j) S
 |_,_,_,_=>False
ñ def zfX (g:Int→Int→W):W2
 | .int i, .int j,S,Q=>Q (g i j) S
 |_,_,_,_=>False
þ zjY{K:Ƒ}{C:Int→Int→Prop}{g:Int→Int→Int}:OpW K (rI C λi j=> .int (g i j)) (zdt C λi j=> .int (g i j)):=λH x y wx wy S Q QW rx ry hS h hQ=>by
 cases rx<;>cases ry<;>first |§⟨_,_,rfl,rfl,h.1,hQ _ S _ H .refl (.int _) hS h.2⟩ |§h.elim
þ zul{K:Ƒ}{g:Int→Int→Int}:OpW K (rI0 λi j=> .int (g i j)) (zfX λi j=> .int (g i j)):=λH x y wx wy S Q QW rx ry hS h hQ=>by
 cases rx<;>cases ry<;>first |§⟨_,_,rfl,rfl,hQ _ S _ H .refl (.int _) hS h⟩ |§h.elim
þ zhe{K:Ƒ}{g:Int→Int→Bool}:OpW K (rI0 λi j=> .bl (g i j)) (zfX λi j=> .bl (g i j)):=λH x y wx wy S Q QW rx ry hS h hQ=>by
 cases rx<;>cases ry<;>first |§⟨_,_,rfl,rfl,hQ _ S _ H .refl (.bl _) hS h⟩ |§h.elim
ñ def zeo:W2
 | .int i, .int j,S,Q=>Q (.int (i+j)) S
 | .str x, .str y,S,Q=>x.length+y.length≤sizeLine∧Q (.str (x++y)) S
 | .tup xs, .tup ys,S,Q=>xs.length+ys.length≤sizeLine∧Q (.tup (xs++ys)) S
 | .ref a, .ref b,S,Q=>zcY S a λxs=>zcY S b λys=>xs.length+ys.length≤sizeLine∧ ∀p,S p=none→Q (.ref p) (put S p (.lst (xs++ys)))
 |_,_,_,_=>False
section
variable {X:Cx}
þ Reps.nil_r{K:Ƒ}{H:Hp}{ws:List W}(h:Reps K H ws []):ws=[]:=by cases h;rfl
þ op_catT0:OpR X (binaryOp .Add) (λx y H Q=>∃a b ys,x= .ref a∧y= .ref b∧SqT X.K H a []∧SqT X.K H b ys∧Q (.ref b) H):=by
 intro pins s σ H x y v u Q I rx ry h;ø⟨a,b,ys,rfl,rfl,ha,hb,q⟩:=h;cases rx;cases ry;ø⟨its,r1,p1,_⟩:=I.tuple ha;ø⟨its2,r2,p2,_⟩:=I.tuple hb;cases r1;ø⟨⟨cls,dd,data,sl⟩,ho,hc,n,hd⟩:=id p1;ø⟨⟨cls2,dd2,data2,sl2⟩,ho2,hc2,n2,hd2⟩:=id p2;simp only at hc hd hc2 hd2;subst hc hd hc2 hd2;§concat_meets ⟨_,ho,rfl⟩ ⟨_,ho2,rfl⟩ noFill_tuple_add seq_tuple_add PySem.F.slot_tuple_add PySem.F.entry_tuple_add (PySem.F.args_tuple_add_2 _ _)
   (tuple_addW0 a b _ _ n n2 dd dd2 sl sl2 ¢) ⟨ho,ho2,⟨.ref b,H,I,rfl,q⟩⟩
þ zsr:OpR X (binaryOp .Add) (λx y H Q=>(rI0 λi j=> .int (i+j)) x y H Q∨(∃i j,x= .str i∧y= .str j∧i.length+j.length≤sizeLine∧Q (.str (i++j)) H)∨
  (∃a b ys,x= .ref a∧y= .ref b∧SqT X.K H a []∧SqT X.K H b ys∧Q (.ref b) H)∨zwK X.K x y H Q∨zAW x y H Q):=op_add.or (op_add_str.or (op_catT0.or (op_catT.or znJ)))
þ zwS{K:Ƒ}:OpW K (λx y H Q=>(rI0 λi j=> .int (i+j)) x y H Q∨(∃i j,x= .str i∧y= .str j∧i.length+j.length≤sizeLine∧Q (.str (i++j)) H)∨
  (∃a b ys,x= .ref a∧y= .ref b∧SqT K H a []∧SqT K H b ys∧Q (.ref b) H)∨zwK K x y H Q∨zAW x y H Q) zeo:=λH x y wx wy S Q QW rx ry hS h hQ=>by
 cases rx with
 |int i=>
  cases ry with
  |int j=>§.inl ⟨i,j,rfl,rfl,hQ _ S _ H .refl (.int _) hS h⟩
  |_=>§h.elim
 |str i=>
  cases ry with
  |str j=>§.inr (.inl ⟨i,j,rfl,rfl,h.1,hQ _ S _ H .refl (.str _) hS h.2⟩)
  |_=>§h.elim
 | @tup a vs ws f hs=>
  cases ry with
  | @tup b us zs g ks=>
   cases hs with
   |nil=>§.inr (.inr (.inl ⟨a,b,us,rfl,rfl, .of f, .of g,hQ (.tup zs) S _ H .refl (.tup g ks) hS h.2⟩))
   |cons h1 h2=>
    ¤.inr (.inr (.inr (.inl ⟨a,b,_,us,rfl,rfl, .of f, .of g,¢,?_,λe=>?_,λe p hp=>?_⟩)))
    ·rw[←(Reps.cons h1 h2).length,←ks.length];§h.1
    ·subst e;have e':=ks.nil_r;subst e';have q:=h.2;rw[List.append_nil]at q;§hQ _ S _ H .refl (.tup f (.cons h1 h2)) hS q
    ·§hQ _ S _ _ (.new hp) (.tup zaz (((Reps.cons h1 h2).append ks).ext (.new (S:=S) hp))) (hS.new hp) h.2
  |_=>§h.elim
 |ref a=>
  cases ry with
  |ref b=>
   ø⟨xs,ea,h⟩:=zbr h;ø⟨ys,eb,h⟩:=zbr h;ø⟨vs,e1,r1⟩:=hS a _ ea;ø⟨us,e2,r2⟩:=hS b _ eb;¤.inr (.inr (.inr (.inr ⟨a,b,vs,us,rfl,rfl,e1,e2,by rw[←r1.length,←r2.length];§h.1,λp hp=>?_⟩)))
   §hQ _ _ _ _ (.newS hp) (.ref p) (hS.put_lst hp ((r1.append r2).ext (.new (S:=S) hp))) (h.2 p (hS.free hp))
  |_=>§h.elim
 |_=>§h.elim
variable {a b:Expr}{pos:Pos}{ta tb:WE}
þ zbk (ha:JE X a ta) (hb:JE X b tb):JE X (.BinOp a .Add b pos) (wOp zeo ta tb):=zpz zsr zwS ha hb
þ znz (ha:JE X a ta) (hb:JE X b tb):JE X (.BinOp a .Sub b pos) (wOp (zfX λi j=> .int (i - j)) ta tb):=zpz zAm zul ha hb
þ zuZ (ha:JE X a ta) (hb:JE X b tb):JE X (.BinOp a .Mult b pos) (wOp (zdt CMul λi j=> .int (i*j)) ta tb):=zpz zxV zjY ha hb
þ zcA (ha:JE X a ta) (hb:JE X b tb):JE X (.BinOp a .FloorDiv b pos) (wOp (zdt ziZ λi j=> .int (i / j)) ta tb):=zpz zvE zjY ha hb
þ zcs (ha:JE X a ta) (hb:JE X b tb):JE X (.BinOp a .Mod b pos) (wOp (zdt (λ_ j=>0<j) λi j=> .int (i % j)) ta tb):=zpz zzv zjY ha hb
þ zyW (ha:JE X a ta) (hb:JE X b tb):JE X (.BinOp a .Pow b pos) (wOp (zdt zAU λi j=> .int (i ^ j.toNat)) ta tb):=zpz zyn zjY ha hb
ñ def zlP (t:WE):WE:=λE σ S Q=>t E σ S λw S1=>match w with
 | .int i=>Q (.int (-i)) S1
 |_=>False
þ zeU (ha:JE X a ta):JE X (.UnaryOp .USub a pos) (zlP ta):=λE hE=>
 (zBM zyc (ha E hE)).mono λσ H Q ⟨σW,S,QW,hσ,hS,ht,hQ⟩=>⟨σW,S,_,hσ,hS,ht,λw S1 v H1 e1 r1 hS1 h1=>by
  cases r1 with
  |int i=>§⟨i,rfl,hQ _ S1 _ H1 e1 (.int _) hS1 h1⟩
  |_=>§h1.elim⟩
ñ def zBU (t u:WE):WL:=λE σ S Q=>t E σ S λx S1=>u E σ S1 λy S2=>match x,y with
 | .ref a, .ref b=>zcY S2 a λxs=>zcY S2 b λys=>xs.length+ys.length≤sizeLine∧Q (xs++ys) S2
 |_,_=>False
end
ñ def zgv (f:W→W→Option Bool):List W→List W→Option Bool
 | [],[]=>some true
 | [],_=>some false
 |_,[]=>some false
 |x::xs,y::ys=>match f x y,zgv f xs ys with
  |some a,some b=>some (a&&b)
  |_,_=>none
ñ def eqF (S:Sto):Nat→W→W→Option Bool
 |0,_,_=>none
 |n+1,w,u=>match w,u with
  | .non, .non=>some true
  | .bl a, .bl b=>some (a == b)
  | .int a, .int b=>some (a == b)
  | .str a, .str b=>some (a == b)
  | .tup _, .int _=>some false
  | .int _, .tup _=>some false
  | .tup xs, .tup ys=>zgv (eqF S n) xs ys
  | .ref a, .ref b=>match S a with
   |some (.lst xs)=>match S b with
    |some (.lst ys)=>zgv (eqF S n) xs ys
    |_=>none
   |_=>none
  |_,_=>none
þ zof{f:W→W→Option Bool}:∀{xs ys:List W}{b:Bool},zgv f xs ys=some b→
  (∀j,j<xs.length→j<ys.length→ ∃c,f (xs.getD j .non) (ys.getD j .non)=some c)∧
  ((List.range (min xs.length ys.length)).all (λj=>(f (xs.getD j .non) (ys.getD j .non)).getD true)&&xs.length == ys.length)=b
 | [],[],b,h=>by
  have:true=b:=Option.some.inj h;subst this;§⟨λj h=>absurd h ¢,¢⟩
 | [],y::ys,b,h=>by
  have:false=b:=Option.some.inj h;subst this;§⟨λj h=>absurd h ¢,¢⟩
 |x::xs,[],b,h=>by
  have:false=b:=Option.some.inj h;subst this;§⟨λj _ h=>absurd h ¢,¢⟩
 |x::xs,y::ys,b,h=>by
  unfold zgv at h;split at h
  ·rename_i c d e1 e2;have hb:(c&&d)=b:=Option.some.inj h;ø⟨h1,h2⟩:=zof e2;¤⟨λj j1 j2=>?_,?_⟩
   ·cases j with
    |zero=>§⟨c,by simpa using e1⟩
    |succ j=>simpa using h1 j (by simpa using j1) (by simpa using j2)
   ·have hm:min (xs.length+1) (ys.length+1)=min xs.length ys.length+1:=by omega
    have hl:(xs.length+1 == ys.length+1)=(xs.length == ys.length):=by simp
    rw[List.length_cons,List.length_cons,hm,List.range_succ_eq_map,List.all_cons,List.all_map,hl];have q:((λj=>(f ((x::xs).getD j .non) ((y::ys).getD j .non)).getD true)∘Nat.succ)=λj=>(f (xs.getD j .non) (ys.getD j .non)).getD true:=by
     funext j;simp
    rw[q,Bool.and_assoc,h2];have q0:(f ((x::xs).getD 0 .non) ((y::ys).getD 0 .non)).getD true=c:=by simp [e1]
    rw[q0,hb]
  ·cases h
section
variable {X:Cx}{pins:List (Addr×Obj)}{σ:St}{H:Hp}{s:Shared}{S:Sto}
þ zjT (I:Inv X pins σ H s):∀(n:Nat) {wx wy:W}{v:V}{b:Bool},Rep X.K H wx v→Rep X.K H wy v→RepS X.K H S→eqF S n wx wy=some b→b=true
 |0,_,_,_,_,_,_,_,h=>by cases h
 |n+1,wx,wy,v,b,rx,ry,hS,h=>by
  have list:∀{ws us:List W}{vs:List V}{b:Bool},Reps X.K H ws vs→Reps X.K H us vs→zgv (eqF S n) ws us=some b→b=true:=by
   intro ws
   induction ws with
   |nil=>
    intro us vs b r1 r2 e;cases r1;cases r2;§(Option.some.inj e).symm
   |cons w ws ih=>
    intro us vs b r1 r2 e;cases r1 with
    |cons a1 a2=>
     cases r2 with
     |cons c1 c2=>
      unfold zgv at e;split at e
      ·rename_i c d e1 e2;have q1:=zjT I n a1 c1 hS e1;have q2:=ih a2 c2 e2;have:=Option.some.inj e;rw[q1,q2]at this;§this.symm
      ·cases e
  cases rx with
  |non=>cases ry;§(Option.some.inj h).symm
  |bl k=>cases ry;have:=Option.some.inj h;simpa using this.symm
  |int k=>cases ry;have:=Option.some.inj h;simpa using this.symm
  |str k=>cases ry;have:=Option.some.inj h;simpa using this.symm
  |ref a=>
   cases ry with
   |ref _=>
    have h':(match S a with
     |some (.lst xs)=>match S a with
      |some (.lst ys)=>zgv (eqF S n) xs ys
      |_=>none
     |_=>none)=some b:=h
    cases e:S a with
    |none=>rw[e]at h';cases h'
    |some o=>
     rw[e]at h';cases o with
     |lst ws=>
      ø⟨vs,_,r⟩:=hS a _ e;§list r r h'
     |dct _=>cases h'
     |ins _ _=>cases h'
   |scr _=>cases h
   |tup _ _=>cases h
  |scr f=>cases ry<;>cases h
  |tup f hs=>
   cases ry with
   |ref _=>cases h
   |scr _=>cases h
   |tup g ks=>
    have e:=I.tuple_inj (.of f) (.of g);subst e;§list hs ks h
þ zla{A:Around}:A.in1.units=A.units+1:=rfl
þ znd (I:Inv X pins σ H s) (hS:RepS X.K H S):∀(n:Nat) {A:Around}{wx wy:W}{x y:V}{u v:Value}{b:Bool},A.units+n<cLine→Rep X.K H wx x→Rep X.K H wy y→RelV x u→RelV y v→eqF S n wx wy=some b→
  SeqAt.EqAt A s u v b∧SeqAt.RcAt A s u v b∧SeqAt.RcNeAt A s u v (!b)
 |0,_,_,_,_,_,_,_,_,_,_,_,_,_,h=>by cases h
 |n+1,A,wx,wy,x,y,u,v,b,hu,rx,ry,ru,rv,h=>by
  have hu0:A.units<cLine:=by omega
  have items:∀{ws zs:List W}{xs ys:List V}{us vs:List Value}{b:Bool},Reps X.K H ws xs→Reps X.K H zs ys→Vals xs us→Vals ys vs→zgv (eqF S n) ws zs=some b→
    (∀j (h1:j<us.toArray.size) (h2:j<vs.toArray.size),SeqAt.EqAt A.in1 s us.toArray[j] vs.toArray[j] ((eqF S n (ws.getD j .non) (zs.getD j .non)).getD true))∧
    ((List.range (min us.toArray.size vs.toArray.size)).all (λj=>(eqF S n (ws.getD j .non) (zs.getD j .non)).getD true)&&us.toArray.size == vs.toArray.size)=b:=by
   intro ws zs xs ys us vs b r1 r2 q1 q2 e;ø⟨h1,h2⟩:=zof e;have l1:=r1.length;have l2:=r2.length;have l3:=q1.length;have l4:=q2.length;¤⟨λj j1 j2=>?_,?_⟩
   ·rw[List.size_toArray]at j1 j2;ø⟨c,hc⟩:=h1 j ¥ ¥;have jw:j<ws.length:=by omega
    have jz:j<zs.length:=by omega
    ø⟨x',ex,rx'⟩:=r1.get (List.getElem?_eq_getElem jw);ø⟨y',ey,ry'⟩:=r2.get (List.getElem?_eq_getElem jz);ø⟨u',eu,ru'⟩:=q1.get ex;ø⟨v',ev,rv'⟩:=q2.get ey;have e1:us.toArray[j]=u':=by
     ø⟨_,e⟩:=List.getElem?_eq_some_iff.mp eu;simpa using e
    have e2:vs.toArray[j]=v':=by
     ø⟨_,e⟩:=List.getElem?_eq_some_iff.mp ev;simpa using e
    have g1:ws.getD j .non=ws[j]:=by rw[List.getD_eq_getElem?_getD,List.getElem?_eq_getElem jw];rfl
    have g2:zs.getD j .non=zs[j]:=by rw[List.getD_eq_getElem?_getD,List.getElem?_eq_getElem jz];rfl
    rw[e1,e2,hc];rw[g1,g2]at hc;§(znd I hS n (by rw[zla];omega) rx' ry' ru' rv' hc).1
   ·rw[List.size_toArray,List.size_toArray,←l3,←l4,←l1,←l2];§h2
  cases rx with
  |non=>
   cases(show u=Value.none from ru);cases ry with
   |non=>cases(show v=Value.none from rv);cases h;§⟨.same _, .none_none, .none_none⟩
   |_=>cases h
  |bl k=>
   cases(show u=Value.bool k from ru);cases ry with
   |bl j=>cases(show v=Value.bool j from rv);cases h;§⟨.bool_bool _ _, .bool_bool _ _, .bool_bool _ _⟩
   |_=>cases h
  |int k=>
   ø⟨t0,rfl⟩:=ru;cases ry with
   |int j=>ø⟨t,rfl⟩:=rv;cases h;§⟨.int_int _ _ _ _, .int_int _ _ _ _, .int_int _ _ _ _⟩
   |tup f hs=>cases(show v=Value.ref _ from rv);cases h;ø⟨its,_,p,_⟩:=I.tuple (.of f);§⟨.int_tuple _ _ p hu0, .int_tuple _ _ p hu0, .int_tuple _ _ p hu0⟩
   |_=>cases h
  |str k=>
   ø⟨t0,rfl⟩:=ru;cases ry with
   |str j=>ø⟨t,rfl⟩:=rv;cases h;§⟨.str_str _ _ _ _, .str_str _ _ _ _, .str_str _ _ _ _⟩
   |_=>cases h
  | @tup a xs ws f hs=>
   cases(show u=Value.ref a from ru);ø⟨its,q1,p,_⟩:=I.tuple (.of f);cases ry with
   |int j=>ø⟨t,rfl⟩:=rv;cases h;§⟨.tuple_int _ _ p hu0, .tuple_int _ _ p hu0, .tuple_int _ _ p hu0⟩
   | @tup c ys zs g ks=>
    cases(show v=Value.ref c from rv);ø⟨its2,q2,p2,_⟩:=I.tuple (.of g);ø⟨h1,h2⟩:=items hs ks q1 q2 h;have rc:SeqAt.RcAt A s (.ref a) (.ref c) b:=by
     have:=SeqAt.RcAt.tuples p p2 hu0 h1;rw[h2]at this;§this
    have rn:SeqAt.RcNeAt A s (.ref a) (.ref c) (!b):=by
     have:=SeqAt.RcNeAt.tuples p p2 hu0 h1;rw[h2]at this;§this
    ¤⟨?_,rc,rn⟩;by_cases e:a=c
    ·subst e;have:=zjT I (n+1) (.tup f hs) (.tup g ks) hS h;rw[this];§.same _
    ·§.of_refs e rc
   |_=>cases h
  |ref a=>
   cases(show u=Value.ref a from ru);cases ry with
   |ref c=>
    cases(show v=Value.ref c from rv);have h':(match S a with
     |some (.lst xs)=>match S c with
      |some (.lst ys)=>zgv (eqF S n) xs ys
      |_=>none
     |_=>none)=some b:=h
    cases e:S a with
    |none=>rw[e]at h';cases h'
    |some o=>
     rw[e]at h';cases o with
     |dct _=>cases h'
     |ins _ _=>cases h'
     |lst ws=>
      cases e2:S c with
      |none=>rw[e2]at h';cases h'
      |some o2=>
       rw[e2]at h';cases o2 with
       |dct _=>cases h'
       |ins _ _=>cases h'
       |lst zs=>
        ø⟨xs,f,hs⟩:=hS a _ e;ø⟨ys,g,ks⟩:=hS c _ e2;ø⟨its,q1,p,_⟩:=I.list (.of f);ø⟨its2,q2,p2,_⟩:=I.list (.of g);ø⟨h1,h2⟩:=items hs ks q1 q2 h';have both:SeqAt.RcAt A s (.ref a) (.ref c) b∧SeqAt.RcNeAt A s (.ref a) (.ref c) (!b):=by
         by_cases hz:its.toArray.size=its2.toArray.size
         ·have t1:=SeqAt.RcAt.lists p.isList p2.isList hz hu0 h1;have t2:=SeqAt.RcNeAt.lists p.isList p2.isList hz hu0 h1;rw[←hz,Nat.min_self,beq_self_eq_true,Bool.and_true]at h2;rw[h2]at t1 t2;§⟨t1,t2⟩
         ·have hz':(its.toArray.size != its2.toArray.size)=true:=by simpa using hz
          have hz2:(its.toArray.size == its2.toArray.size)=false:=by simpa using hz
          rw[hz2,Bool.and_false]at h2;subst h2;§⟨.lists_lengths p.isList p2.isList hz' hu0, .lists_lengths p.isList p2.isList hz' hu0⟩
        ¤⟨?_,both.1,both.2⟩;by_cases ee:a=c
        ·subst ee;have:=zjT I (n+1) (.ref a) (.ref a) hS h;rw[this];§.same _
        ·§.of_refs ee both.1
   |_=>cases h
  |scr f=>cases ry<;>cases h
end
ñ def oEq (neg:Bool):W2:=λx y S Q=>match eqF S 60 x y with
 |some b=>Q (.bl (if neg then !b else b)) S
 |none=>False
ñ def zBp (K:Ƒ) (neg:Bool):R2:=λx y H Q=>∃wx wy S b,Rep K H wx x∧Rep K H wy y∧RepS K H S∧eqF S 60 wx wy=some b∧Q (.bl (if neg then !b else b)) H
section
variable {X:Cx}
þ zuD (hu:X.A.units+60<cLine):OpR X (compareOp .Eq) (zBp X.K false):=by
 intro pins s σ H x y v u Q I rx ry h;ø⟨wx,wy,S,b,r1,r2,hS,e,q⟩:=h;§(znd I hS 60 hu r1 r2 rx ry e).2.1 _ _ _ _ ⟨.bl b,H,I,rfl,q⟩
þ zAi (hu:X.A.units+60<cLine):OpR X (compareOp .NotEq) (zBp X.K true):=by
 intro pins s σ H x y v u Q I rx ry h;ø⟨wx,wy,S,b,r1,r2,hS,e,q⟩:=h;§(znd I hS 60 hu r1 r2 rx ry e).2.2 _ _ _ _ ⟨.bl (!b),H,I,rfl,q⟩
þ zri{K:Ƒ}{neg:Bool}:OpW K (zBp K neg) (oEq neg):=λH x y wx wy S Q QW rx ry hS h hQ=>by
 unfold oEq at h;split at h
 ·rename_i b e;§⟨wx,wy,S,b,rx,ry,hS,e,hQ _ S _ H .refl (.bl _) hS h⟩
 ·§h.elim
variable {a b c:Expr}{pos:Pos}{ta tb:WE}
þ zvy{k:Nat}(hr:Room k X.A) (ha:JE X a ta) (hb:JE X b tb):JE X (.Compare a [.Eq] [b] pos) (wOp (oEq false) ta tb):=zsg (zuD (by have:=hr.units;omega)) zri ha hb (nomark b)
þ zeL{k:Nat}(hr:Room k X.A) (ha:JE X a ta) (hb:JE X b tb):JT X (.Compare a [.Eq] [b] pos) (wTb (wOp (oEq false) ta tb)):=zgh (zuD (by have:=hr.units;omega)) zri ha hb (nomark b)
þ zxr{k:Nat}(hr:Room k X.A) (ha:JE X a ta) (hb:JE X b tb):JT X (.Compare a [.NotEq] [b] pos) (wTb (wOp (oEq true) ta tb)):=zgh (zAi (by have:=hr.units;omega)) zri ha hb (nomark b)
ñ abbrev oLt:W2:=zfX λi j=> .bl (decide (i<j))
ñ abbrev oGt:W2:=zfX λi j=> .bl (decide (j<i))
ñ abbrev oGe:W2:=zfX λi j=> .bl (decide (j≤i))
ñ def oLe:W2
 | .int i, .int j,S,Q=>Q (.bl (decide (i≤j))) S
 | .str i, .str j,S,Q=>Q (.bl (!decide (j.cps.toList<i.cps.toList))) S
 |_,_,_,_=>False
þ zuV{K:Ƒ}:OpW K (λx y H Q=>rI0 (λi j=> .bl (decide (i≤j))) x y H Q∨(∃i j,x= .str i∧y= .str j∧Q (.bl (!decide (j.cps.toList<i.cps.toList))) H)) oLe:=λH x y wx wy S Q QW rx ry hS h hQ=>by
 cases rx with
 |int i=>
  cases ry with
  |int j=>§.inl ⟨i,j,rfl,rfl,hQ _ S _ H .refl (.bl _) hS h⟩
  |_=>§h.elim
 |str i=>
  cases ry with
  |str j=>§.inr ⟨i,j,rfl,rfl,hQ _ S _ H .refl (.bl _) hS h⟩
  |_=>§h.elim
 |_=>§h.elim
þ zpe (ha:JE X a ta) (hb:JE X b tb):JT X (.Compare a [.Lt] [b] pos) (wTb (wOp oLt ta tb)):=zgh zBm zhe ha hb (nomark b)
þ zyM (ha:JE X a ta) (hb:JE X b tb):JE X (.Compare a [.Gt] [b] pos) (wOp oGt ta tb):=zsg zya zhe ha hb (nomark b)
þ zlM (ha:JE X a ta) (hb:JE X b tb):JT X (.Compare a [.Gt] [b] pos) (wTb (wOp oGt ta tb)):=zgh zya zhe ha hb (nomark b)
þ zAD (ha:JE X a ta) (hb:JE X b tb):JT X (.Compare a [.GtE] [b] pos) (wTb (wOp oGe ta tb)):=zgh zAC zhe ha hb (nomark b)
ñ def zkp (r r':W2) (a b c:WE):WE:=λE σ S Q=>a E σ S λx S1=>b E σ S1 λy S2=>r x y S2 λz S3=>match z with
 | .bl true=>c E σ S3 λu S4=>r' y u S4 Q
 | .bl false=>Q (.bl false) S3
 |_=>False
ñ def oIs (neg:Bool):W2
 | .non, .non,S,Q=>Q (.bl (!neg)) S
 | .bl a, .bl b,S,Q=>Q (.bl (if neg then a != b else a == b)) S
 | .bl _, .non,S,Q=>Q (.bl neg) S
 | .int _, .non,S,Q=>Q (.bl neg) S
 | .str _, .non,S,Q=>Q (.bl neg) S
 | .tup _, .non,S,Q=>Q (.bl neg) S
 | .ref _, .non,S,Q=>Q (.bl neg) S
 |_,_,_,_=>False
þ zzH:OpR X (compareOp .Is) (λx y H Q=>(y= .non∧Q (.bl (decide (x= .non))) H)∨ ∃a b,x= .bl a∧y= .bl b∧Q (.bl (a == b)) H):=op_isN.or (by
 intro pins s σ H x y v u Q I rx ry h;ø⟨a,b,rfl,rfl,q⟩:=h;cases rx;cases ry;§is_bool ⟨.bl _,H,I,rfl,q⟩)
þ zsF:OpR X (compareOp .IsNot) (λx y H Q=>(y= .non∧Q (.bl (!decide (x= .non))) H)∨ ∃a b,x= .bl a∧y= .bl b∧Q (.bl (a != b)) H):=op_notN.or (by
 intro pins s σ H x y v u Q I rx ry h;ø⟨a,b,rfl,rfl,q⟩:=h;cases rx;cases ry;§isnot_bool ⟨.bl _,H,I,rfl,q⟩)
þ zzp{K:Ƒ}:OpW K (λx y H Q=>(y= .non∧Q (.bl (decide (x= .non))) H)∨ ∃a b,x= .bl a∧y= .bl b∧Q (.bl (a == b)) H) (oIs false):=λH x y wx wy S Q QW rx ry hS h hQ=>by
 cases ry with
 |non=>cases rx<;>first |§.inl ⟨rfl,by simpa using hQ _ S _ H .refl (.bl _) hS h⟩ |§h.elim
 |bl b=>
  cases rx with
  |bl a=>§.inr ⟨a,b,rfl,rfl,hQ _ S _ H .refl (.bl _) hS h⟩
  |_=>§h.elim
 |_=>cases rx<;>§h.elim
þ zrV{K:Ƒ}:OpW K (λx y H Q=>(y= .non∧Q (.bl (!decide (x= .non))) H)∨ ∃a b,x= .bl a∧y= .bl b∧Q (.bl (a != b)) H) (oIs true):=λH x y wx wy S Q QW rx ry hS h hQ=>by
 cases ry with
 |non=>cases rx<;>first |§.inl ⟨rfl,by simpa using hQ _ S _ H .refl (.bl _) hS h⟩ |§h.elim
 |bl b=>
  cases rx with
  |bl a=>§.inr ⟨a,b,rfl,rfl,hQ _ S _ H .refl (.bl _) hS h⟩
  |_=>§h.elim
 |_=>cases rx<;>§h.elim
þ zqr (ha:JE X a ta) (hb:JE X b tb):JT X (.Compare a [.Is] [b] pos) (wTb (wOp (oIs false) ta tb)):=zgh zzH zzp ha hb (nomark b)
þ zer (ha:JE X a ta) (hb:JE X b tb):JT X (.Compare a [.IsNot] [b] pos) (wTb (wOp (oIs true) ta tb)):=zgh zsF zrV ha hb (nomark b)
end
ñ def inF (S:Sto) (x:W):List W→Option Bool
 | []=>some false
 |w::ws=>match eqF S 59 w x with
  |some a=>match inF S x ws with
   |some b=>some (a || b)
   |none=>none
  |none=>none
section
variable {X:Cx}{pins:List (Addr×Obj)}{σ:St}{H:Hp}{s:Shared}{S:Sto}
þ zmn (I:Inv X pins σ H s) (hS:RepS X.K H S):∀(n:Nat) {w w' u:W}{v:V}{b b':Bool},Rep X.K H w v→Rep X.K H w' v→eqF S n w u=some b→eqF S n w' u=some b'→b=b'
 |0,_,_,_,_,_,_,_,_,h,_=>by cases h
 |n+1,w,w',u,v,b,b',r,r',h,h'=>by
  have list:∀{us ws zs:List W}{vs:List V}{b b':Bool},Reps X.K H ws vs→Reps X.K H zs vs→zgv (eqF S n) ws us=some b→zgv (eqF S n) zs us=some b'→b=b':=by
   intro us
   induction us with
   |nil=>
    intro ws zs vs b b' r1 r2 e1 e2;cases r1 with
    |nil=>cases r2;rw[e1]at e2;§Option.some.inj e2
    |cons _ _=>cases r2 with
     |cons _ _=>have:=Option.some.inj e1;have:=Option.some.inj e2;subst_vars;rfl
   |cons u us ih=>
    intro ws zs vs b b' r1 r2 e1 e2;cases r1 with
    |nil=>cases r2;rw[e1]at e2;§Option.some.inj e2
    |cons a1 a2=>
     cases r2 with
     |cons c1 c2=>
      unfold zgv at e1 e2;split at e1
      ·rename_i p q f1 f2;split at e2
       ·rename_i p' q' g1 g2;have h1:=zmn I hS n a1 c1 f1 g1;have h2:=ih a2 c2 f2 g2;rw[←Option.some.inj e1,←Option.some.inj e2,h1,h2]
       ·cases e2
      ·cases e1
  have nolist:∀{a:Addr}{vs:List V}{ws:List W},H a=some (.tup vs)→S a=some (.lst ws)→False:=λf e=>by
   ø⟨_,g,_⟩:=hS _ _ e;rw[f]at g;cases g
  cases r with
  |non=>cases r';rw[h]at h';§Option.some.inj h'
  |bl k=>cases r';rw[h]at h';§Option.some.inj h'
  |int k=>cases r';rw[h]at h';§Option.some.inj h'
  |str k=>cases r';rw[h]at h';§Option.some.inj h'
  |scr f=>cases u<;>cases h
  | @tup a vs ws f hs=>
   cases r' with
   | @tup _ us zs g ks=>
    rw[f]at g;cases g;cases u with
    |tup us=>§list hs ks h h'
    |int _=>have:=Option.some.inj h;have:=Option.some.inj h';subst_vars;rfl
    |_=>cases h
   |scr _=>cases u<;>cases h'
   |ref _=>
    exfalso;cases u with
    |ref c=>
     have h2:(match S a with
      |some (.lst xs)=>match S c with
       |some (.lst ys)=>zgv (eqF S n) xs ys
       |_=>none
      |_=>none)=some b':=h'
     split at h2
     ·§nolist f ‹_›
     ·cases h2
    |_=>cases h'
  |ref a=>
   cases r' with
   |ref _=>rw[h]at h';§Option.some.inj h'
   |scr _=>cases u<;>cases h'
   |tup f hs=>
    exfalso;cases u with
    |ref c=>
     have h2:(match S a with
      |some (.lst xs)=>match S c with
       |some (.lst ys)=>zgv (eqF S n) xs ys
       |_=>none
      |_=>none)=some b:=h
     split at h2
     ·§nolist f ‹_›
     ·cases h2
    |_=>cases h
open Classical in
þ znE (I:Inv X pins σ H s) (hS:RepS X.K H S) {A:Around}{ws:List W}{vs:List V}{us:List Value}{wx:W}{x:V}{u:Value}{b:Bool}(hu:A.units+60<cLine) (r:Reps X.K H ws vs) (rv:Vals vs us) (rx:Rep X.K H wx x) (ru:RelV x u) (h:inF S wx ws=some b) :
  ∃e:Value→Bool,(∀y,y∈us.toArray→SeqAt.EqAt A.in1 s y u (e y))∧us.toArray.any e=b:=by
 ¤⟨λy=>decide (∃w v,Rep X.K H w v∧RelV v y∧eqF S 59 w wx=some true),?_,?_⟩
 ·have go:∀{ws:List W}{vs:List V}{us:List Value}{b:Bool},Reps X.K H ws vs→Vals vs us→inF S wx ws=some b→ ∀y∈us,SeqAt.EqAt A.in1 s y u (decide (∃w v,Rep X.K H w v∧RelV v y∧eqF S 59 w wx=some true)):=by
   intro ws
   induction ws with
   |nil=>intro vs us b r rv h y hy;cases r;cases rv;cases hy
   |cons w ws ih=>
    intro vs us b r rv h y hy;cases r with
    |cons r1 r2=>
     cases rv with
     |cons q1 q2=>
      unfold inF at h;split at h
      ·rename_i c e1;split at h
       ·rename_i d e2;rcases List.mem_cons.mp hy with rfl |hy
        ·have ok:=(znd I hS 59 (A:=A.in1) (by rw[zla];omega) r1 rx q1 ru e1).1;have ec:c=decide (∃w v,Rep X.K H w v∧RelV v y∧eqF S 59 w wx=some true):=by
          cases c with
          |true=>§(decide_eq_true ⟨w,_,r1,q1,e1⟩).symm
          |false=>
           symm;¤decide_eq_false λ⟨w',v',r',q',e'⟩=>?_;have:=RelV.inj q' q1;subst this;§absurd (zmn I hS 59 r1 r' e1 e') ¢
         rw[←ec];§ok
        ·§ih r2 q2 e2 y hy
       ·cases h
      ·cases h
  intro y hy;§go r rv h y (by simpa using hy)
 ·have go:∀{ws:List W}{vs:List V}{us:List Value}{b:Bool},Reps X.K H ws vs→Vals vs us→inF S wx ws=some b→us.any (λy=>decide (∃w v,Rep X.K H w v∧RelV v y∧eqF S 59 w wx=some true))=b:=by
   intro ws
   induction ws with
   |nil=>intro vs us b r rv h;cases r;cases rv;§Option.some.inj h
   |cons w ws ih=>
    intro vs us b r rv h;cases r with
    |cons r1 r2=>
     cases rv with
     | @cons _ _ _ _ q1 q2=>
      rename_i y _;unfold inF at h;split at h
      ·rename_i c e1;split at h
       ·rename_i d e2;have ec:decide (∃w v,Rep X.K H w v∧RelV v y∧eqF S 59 w wx=some true)=c:=by
          cases c with
          |true=>§decide_eq_true ⟨w,_,r1,q1,e1⟩
          |false=>
           ¤decide_eq_false λ⟨w',v',r',q',e'⟩=>?_;have:=RelV.inj q' q1;subst this;§absurd (zmn I hS 59 r1 r' e1 e') ¢
        rw[List.any_cons,ih r2 q2 e2,ec];§Option.some.inj h
       ·cases h
      ·cases h
  have:=go r rv h;simpa using this
end
ñ def oIn (neg:Bool):W2:=λx y S Q=>match y with
 | .str j=>match x with
  | .str i=>Q (.bl (if neg then !(!(Builtin.Str.occurrences j i 0 j.length 1).isEmpty) else !(Builtin.Str.occurrences j i 0 j.length 1).isEmpty)) S
  |_=>False
 | .tup ws=>match inF S x ws with
  |some b=>Q (.bl (if neg then !b else b)) S
  |none=>False
 | .ref a=>zcY S a λws=>match inF S x ws with
  |some b=>Q (.bl (if neg then !b else b)) S
  |none=>False
 |_=>False
ñ def zBK (K:Ƒ) (neg:Bool):R2:=λx y H Q=>∃wx ws vs S p b,y= .ref p∧(SqL K H p vs∨SqT K H p vs)∧Reps K H ws vs∧Rep K H wx x∧RepS K H S∧inF S wx ws=some b∧Q (.bl (if neg then !b else b)) H
section
variable {X:Cx}{a b:Expr}{pos:Pos}{ta tb:WE}
þ zzf (hu:X.A.units+60<cLine):OpR X (compareOp .In) (zBK X.K false):=by
 intro pins s σ H x y v u Q I rx ry h;ø⟨wx,ws,vs,S,p,b,rfl,hq,rs,r,hS,e,q⟩:=h;cases ry;rcases hq with hq |hq
 ·ø⟨its,rv,p,_⟩:=I.list hq;ø⟨f,h1,h2⟩:=znE I hS hu rs rv r rx e;§SeqAt.in_listAt f p.isList h1 (by rw[h2];§⟨.bl b,H,I,rfl,q⟩)
 ·ø⟨its,rv,p,_⟩:=I.tuple hq;ø⟨f,h1,h2⟩:=znE I hS hu rs rv r rx e;§SeqAt.in_tupleAt f p h1 (by rw[h2];§⟨.bl b,H,I,rfl,q⟩)
þ zsd (hu:X.A.units+60<cLine):OpR X (compareOp .NotIn) (zBK X.K true):=by
 intro pins s σ H x y v u Q I rx ry h;ø⟨wx,ws,vs,S,p,b,rfl,hq,rs,r,hS,e,q⟩:=h;cases ry;rcases hq with hq |hq
 ·ø⟨its,rv,p,_⟩:=I.list hq;ø⟨f,h1,h2⟩:=znE I hS hu rs rv r rx e;§SeqAt.notIn_listAt f p.isList h1 (by rw[h2];§⟨.bl (!b),H,I,rfl,q⟩)
 ·ø⟨its,rv,p,_⟩:=I.tuple hq;ø⟨f,h1,h2⟩:=znE I hS hu rs rv r rx e;§SeqAt.notIn_tupleAt f p h1 (by rw[h2];§⟨.bl (!b),H,I,rfl,q⟩)
þ ziR{K:Ƒ}{neg:Bool}{H:Hp}{x y:V}{wx wy:W}{S:Sto}{Q:VK}{QW:WK}(rx:Rep K H wx x) (ry:Rep K H wy y) (hS:RepS K H S) (h:oIn neg wx wy S QW) (hQ:Wish K H S QW Q) :
  (∃i j,x= .str i∧y= .str j∧Q (.bl (if neg then !(!(Builtin.Str.occurrences j i 0 j.length 1).isEmpty) else !(Builtin.Str.occurrences j i 0 j.length 1).isEmpty)) H)∨zBK K neg x y H Q:=by
 cases ry with
 |str j=>
  cases rx with
  |str i=>§.inl ⟨i,j,rfl,rfl,hQ _ S _ H .refl (.bl _) hS h⟩
  |_=>§h.elim
 |tup f hs=>
  ¤.inr ?_;unfold oIn at h;dsimp only at h;split at h
  ·§⟨wx,_,_,S,_,_,rfl, .inr (.of f),hs,rx,hS, ‹_›,hQ _ S _ H .refl (.bl _) hS h⟩
  ·§h.elim
 |ref a=>
  ¤.inr ?_;ø⟨ws,e,h⟩:=zbr h;ø⟨vs,f,hs⟩:=hS a _ e;split at h
  ·§⟨wx,_,_,S,_,_,rfl, .inl (.of f),hs,rx,hS, ‹_›,hQ _ S _ H .refl (.bl _) hS h⟩
  ·§h.elim
 |_=>§h.elim
þ zBo{k:Nat}(hr:Room k X.A) (ha:JE X a ta) (hb:JE X b tb) (hm:behindInMarks .In b=false:=by with_unfolding_all rfl):JE X (.Compare a [.In] [b] pos) (wOp (oIn false) ta tb):=
 zsg (op_in_str.or (zzf (by have:=hr.units;omega))) (λH x y wx wy S Q QW rx ry hS h hQ=>ziR rx ry hS h hQ) ha hb hm
þ ztz{k:Nat}(hr:Room k X.A) (ha:JE X a ta) (hb:JE X b tb) (hm:behindInMarks .NotIn b=false:=by with_unfolding_all rfl):JT X (.Compare a [.NotIn] [b] pos) (wTb (wOp (oIn true) ta tb)):=
 zgh (op_notin_str.or (zsd (by have:=hr.units;omega))) (λH x y wx wy S Q QW rx ry hS h hQ=>ziR rx ry hS h hQ) ha hb hm
end
ñ def oIx:W2:=λx y S Q=>match y with
 | .int i=>match x with
  | .tup ws=>match atI ws i with
   |some w=>Q w S
   |none=>False
  | .ref a=>zcY S a λws=>match atI ws i with
   |some w=>Q w S
   |none=>False
  | .scr ns=>match atI ns i with
   |some n=>Q (.int n) S
   |none=>False
  | .str x=>x.length≤sizeLine∧match atI x.cps.toList i with
   |some c=>Q (.str ⟨#[c]⟩) S
   |none=>False
  |_=>False
 |_=>False
þ zmA{K:Ƒ}{H:Hp}{ws:List W}{vs:List V}{i:Int}{w:W}(r:Reps K H ws vs) (e:atI ws i=some w):∃v,atI vs i=some v∧Rep K H w v:=by
 unfold atI at e⊢;rw[←r.length];cases q:ixN ws.length i with
 |none=>rw[q]at e;cases e
 |some j=>rw[q]at e;§r.get e
þ zwr{α β:Type}{f:α→β}{xs:List α}{i:Int}{x:α}(e:atI xs i=some x):atI (xs.map f) i=some (f x):=by
 unfold atI at e⊢;rw[List.length_map];cases q:ixN xs.length i with
 |none=>rw[q]at e;cases e
 |some j=>
  rw[q]at e;show(xs.map f)[j]? =_;rw[List.getElem?_map,show xs[j]? =some x from e];rfl
þ zzQ{K:Ƒ}:OpW K (rIx K) oIx:=λH x y wx wy S Q QW rx ry hS h hQ=>by
 cases ry with
 |int i=>
  cases rx with
  |tup f hs=>
   unfold oIx at h;dsimp only at h;split at h
   ·ø⟨v,ev,r⟩:=zmA hs ‹_›;§.inr (.inl ⟨_,_,i,v,rfl,rfl, .of f,ev,hQ _ S _ H .refl r hS h⟩)
   ·§h.elim
  |ref a=>
   ø⟨ws,e,h⟩:=zbr h;ø⟨vs,f,hs⟩:=hS a _ e;split at h
   ·ø⟨v,ev,r⟩:=zmA hs ‹_›;§.inl ⟨_,_,i,v,rfl,rfl, .of f,ev,hQ _ S _ H .refl r hS h⟩
   ·§h.elim
  |scr f=>
   unfold oIx at h;dsimp only at h;split at h
   ·§.inl ⟨_,_,i,_,rfl,rfl,f.sq,zwr ‹_›,hQ _ S _ H .refl (.int _) hS h⟩
   ·§h.elim
  |str z=>
   unfold oIx at h;dsimp only at h;ø⟨hz,h⟩:=h;split at h
   ·§.inr (.inr ⟨z,i,_,rfl,rfl,hz, ‹_›,hQ _ S _ H .refl (.str _) hS h⟩)
   ·§h.elim
  |_=>§h.elim
 |_=>§h.elim
section
variable {X:Cx}{a b e:Expr}{pos p2:Pos}{ta tb te:WE}{lo hi:Option Expr}
þ zas (ha:JE X a ta) (hb:JE X b tb) (hs:zml b:=by intro _ _;rfl):JE X (.Subscript a b pos) (wOp oIx ta tb):=λE hE=>
 (zyA zvb (ha E hE) (hb E hE) hs).mono λσ H Q h=>zhc h λH2 x y wx wy S QW rx ry hS q hQ=>zzQ H2 x y wx wy S Q QW rx ry hS q hQ
ñ abbrev WO:=WX→WSt→Sto→(Option Int→Sto→Prop)→Prop
ñ def zAH (K:Ƒ) (t:WSt→Sto→(Option Int→Sto→Prop)→Prop):TO:=λσ H Q=>∃σW S QW,RpSt K H σW σ∧RepS K H S∧t σW S QW∧ ∀b S' H',Ext H S H' S'→RepS K H' S'→QW b S'→Q b H'
ñ def JO (X:Cx) (e:Option Expr) (t:WO):Prop:=∀E,Hook X E→PO X e (zAH X.K (t E))
ñ def woN:WO:=λ_ _ S Q=>Q none S
ñ def woS (t:WE):WO:=λE σ S Q=>t E σ S λw S1=>match w with
 | .int i=>Q (some i) S1
 |_=>False
þ PO.mono{X:Cx}{e:Option Expr}{t t':TO}(h:PO X e t) (q:∀σ H Q,t' σ H Q→t σ H Q):PO X e t':=λpins s σ H Q I z=>h pins s σ H Q I (q σ H Q z)
þ zaI:JO X none woN:=λE hE=>po_none.mono λσ H Q ⟨σW,S,QW,hσ,hS,ht,hQ⟩=>hQ none S H .refl hS ht
þ zaH (h:JE X e te):JO X (some e) (woS te):=λE hE=>(zwl (h E hE)).mono λσ H Q ⟨σW,S,QW,hσ,hS,ht,hQ⟩=>⟨σW,S,_,hσ,hS,ht,λw S1 v H1 e1 r1 hS1 h1=>by
 cases r1 with
 |int i=>§⟨i,rfl,hQ _ S1 H1 e1 hS1 h1⟩
 |_=>§h1.elim⟩
ñ def zeu {α:Type}(xs:List α) (lo hi:Option Int):List α:=(xs.drop (HT.sIx xs.length 0 lo)).take (HT.sIx xs.length xs.length hi - HT.sIx xs.length 0 lo)
þ zjD{K:Ƒ}{H:Hp}{ws:List W}{vs:List V}{lo hi:Option Int}(r:Reps K H ws vs):Reps K H (zeu ws lo hi) (zpV vs lo hi):=by
 unfold zeu zpV;rw[r.length];§(r.drop _).take _
þ znD{α β:Type}{f:α→β}{xs:List α}{lo hi:Option Int}:zeu (xs.map f) lo hi=(zeu xs lo hi).map f:=by
 unfold zeu;rw[List.length_map,List.map_take,List.map_drop]
þ zfD{prog:Program}{w:World}{A:Around}{E:Value→Shared→Prop}{s:Shared}{t sl:Addr}{items:Array Value}{vl vu:Value}{lo hi:Option Int}{Q:Value→Shared→Prop}(ht:IsTup s.heap t items) (hs:s.heap.IsSliceOf sl vl vu .none) (pl:IsPart vl lo) (pu:IsPart vu hi)
  (hw:HT.sIx items.size 0 lo=0∧HT.sIx items.size items.size hi=items.size) (h:Q (.ref t) s):wpAny (model prog w) A (getItem (.ref t) (.ref sl)) Q E s:=by
 ø⟨os,hos,hcs,hds⟩:=id hs;have hTs:s.TypeIs (.ref sl) "slice" :=⟨os,hos,hcs⟩;unfold getItem
 try with_reducible ¤wpAny_holding ?_
 first |¤wpAny_bind (wpAny_pure ?_) |skip
 ¤wpAny_bind (wpAny_sequenceKey ht.typeIs £ ?_);¤wpAny_bind (wpAny_callSpecial?_slot (name:=Str.ofString "__getitem__") ht.typeIs PyProof.Rows.slot_tuple_getitem
  (wpAny_call_entry PyProof.Rows.slot_tuple_getitem ht.typeIs entry_tuple_getitem ?_ (args_tuple_getitem _ _)))
 show wpAny _ _ (Builtin.Tuple.tupleItemsOf (.ref t) >>= _) _ _ s;¤wpAny_bind (tupleItemsOf_ ht ?_);¤wpAny_bind (wpAny_typeOf hTs ?_);rw[if_pos £];¤wpAny_bind (HT.sliceApplied_gen hs pl pu ?_);show wpAny _ _ (if(((HT.sIx items.size 0 lo:Nat):Int) == 0&&(1:Int) == 1&&(HT.sIx items.size items.size hi - HT.sIx items.size 0 lo) == items.size)=true then _ else _) _ _ s;rw[hw.1,hw.2,if_pos ¢];unfold Builtin.Tuple.tupleIsExact;¤wpAny_bind (wpAny_bind (wpAny_typeOf ht.typeIs (wpAny_pure ?_)));rw[if_pos £];§wpAny_bind (wpAny_rule (wpAny_pure ⟨_,rfl,wpAny_pure h⟩))
þ sl_tupW:SlR X (λx lo hi H Q=>∃a xs,x= .ref a∧SqT X.K H a xs∧((HT.sIx xs.length 0 lo=0∧HT.sIx xs.length xs.length hi=xs.length)∧Q (.ref a) H∨ ¬(HT.sIx xs.length 0 lo=0∧HT.sIx xs.length xs.length hi=xs.length)∧ ∀p,H p=none→Q (.ref p) (upd H p (.tup (zpV xs lo hi))))):=by
 intro pins s σ H x v vl vu lo hi sl Q I rx hs pl pu h;ø⟨a,xs,rfl,hx,⟨hw,q⟩ |⟨hw,q⟩⟩:=h
 ·cases rx;ø⟨its,r,ht,hz⟩:=I.tuple hx;have hlen:its.toArray.size=xs.length:=by rw[List.size_toArray];§r.length.symm
  ¤⟨"tuple",_,PyProof.Rows.slot_tuple_getitem.lookup,ht.typeIs,?_⟩;§zfD ht hs pl pu (by rw[hlen];§hw) ⟨.ref a,H,I,rfl,q⟩
 ·§zzi pins s σ H _ v vl vu lo hi sl Q I rx hs pl pu ⟨a,xs,rfl,hx,hw,q⟩
ñ def oSl:W→Option Int→Option Int→Sto→WK→Prop
 | .tup ws,lo,hi,S,Q=>Q (.tup (zeu ws lo hi)) S
 | .str z,lo,hi,S,Q=>z.length≤sizeLine∧Q (.str (Txt.slice z lo hi)) S
 | .ref a,lo,hi,S,Q=>zcY S a λws=>∀p,S p=none→Q (.ref p) (put S p (.lst (zeu ws lo hi)))
 | .scr ns,lo,hi,S,Q=>∀p,S p=none→Q (.ref p) (put S p (.lst ((zeu ns lo hi).map W.int)))
 |_,_,_,_,_=>False
ñ def wSl (t:WE) (l h:WO):WE:=λE σ S Q=>t E σ S λx S1=>l E σ S1 λlo S2=>h E σ S2 λhi S3=>oSl x lo hi S3 Q
þ zpk{α:Type}{xs:List α}{lo hi:Option Int}(h:HT.sIx xs.length 0 lo=0∧HT.sIx xs.length xs.length hi=xs.length):zeu xs lo hi=xs:=by
 unfold zeu;rw[h.1,h.2,List.drop_zero,Nat.sub_zero,List.take_length]
þ zdk{tl th:WO}(he:JE X e te) (hl:JO X lo tl) (hh:JO X hi th):JE X (.Subscript e (.Slice lo hi none p2) pos) (wSl te tl th):=λE hE=>
 (zoj (sl_tupW.or (sl_str.or zrQ)) (he E hE) (hl E hE) (hh E hE)).mono λσ H Q ⟨σW,S,QW,hσ,hS,ht,hQ⟩=>
  ⟨σW,S,_,hσ,hS,ht,λw S1 v H1 e1 r1 hS1 h1=>⟨σW,S1,_,hσ.ext e1,hS1,h1,λlo S2 H2 e2 hS2 h2=>⟨σW,S2,_,(hσ.ext e1).ext e2,hS2,h2,λhi S3 H3 e3 hS3 h3=>by
   have hQ':=hQ.from (e1.trans (e2.trans e3));have r3:=(r1.ext e2).ext e3;cases r3 with
   | @tup a vs ws f hs=>
    ¤.inl ⟨a,vs,rfl, .of f,?_⟩;by_cases hw:HT.sIx vs.length 0 lo=0∧HT.sIx vs.length vs.length hi=vs.length
    ·¤.inl ⟨hw,hQ' (.tup ws) S3 _ H3 .refl (.tup f hs) hS3 ?_⟩;have:=zpk (xs:=ws) (lo:=lo) (hi:=hi) (by rw[hs.length];§hw);have h3':QW (.tup (zeu ws lo hi)) S3:=h3;rw[this]at h3';§h3'
    ·§.inr ⟨hw,λp hp=>hQ' _ S3 _ _ (.new hp) (.tup zaz ((zjD hs).ext (.new (S:=S3) hp))) (hS3.new hp) h3⟩
   |str z=>§.inr (.inl ⟨z,rfl,h3.1,hQ' _ S3 _ H3 .refl (.str _) hS3 h3.2⟩)
   |ref a=>
    ø⟨ws,ea,h⟩:=zbr h3;ø⟨vs,f,hs⟩:=hS3 a _ ea;§.inr (.inr ⟨a,vs,rfl, .of f,λp hp=>hQ' _ _ _ _ (.newS hp) (.ref p) (hS3.put_lst hp ((zjD hs).ext (.new (S:=S3) hp))) (h p (hS3.free hp))⟩)
   | @scr a ns f=>
    ¤.inr (.inr ⟨a,_,rfl,f.sq,λp hp=>hQ' _ _ _ _ (.newS hp) (.ref p) (hS3.put_lst hp ?_) (h3 p (hS3.free hp))⟩);have q:zpV (ns.map V.int) lo hi=(zeu ns lo hi).map V.int:=znD;rw[q];§Reps.ofInts _
   |_=>§h3.elim⟩⟩⟩
ñ def zxD (t:WE) (l h:WO):WL:=λE σ S Q=>t E σ S λx S1=>l E σ S1 λlo S2=>h E σ S2 λhi S3=>match x with
 | .ref a=>zcY S3 a λws=>Q (zeu ws lo hi) S3
 | .scr ns=>Q ((zeu ns lo hi).map W.int) S3
 |_=>False
þ zxt{tl th:WO}(he:JE X e te) (hl:JO X lo tl) (hh:JO X hi th):JL X (.Subscript e (.Slice lo hi none p2) pos) (zxD te tl th):=λE hE=>
 (zoj zrQ (he E hE) (hl E hE) (hh E hE)).mono λσ H Q ⟨σW,S,QW,hσ,hS,ht,hQ⟩=>
  ⟨σW,S,_,hσ,hS,ht,λw S1 v H1 e1 r1 hS1 h1=>⟨σW,S1,_,hσ.ext e1,hS1,h1,λlo S2 H2 e2 hS2 h2=>⟨σW,S2,_,(hσ.ext e1).ext e2,hS2,h2,λhi S3 H3 e3 hS3 h3=>by
   have e':=e1.trans (e2.trans e3);have r3:=(r1.ext e2).ext e3;cases r3 with
   |ref a=>
    ø⟨ws,ea,h⟩:=zbr h3;ø⟨vs,f,hs⟩:=hS3 a _ ea;§⟨a,vs,rfl, .of f,λp hp=>hQ _ S3 _ p _ (e'.trans (.new hp)) (e'.free hp) zaz (hS3.free hp) ((zjD hs).ext (.new (S:=S3) hp)) (hS3.new hp) h⟩
   | @scr a ns f=>
    ¤⟨a,_,rfl,f.sq,λp hp=>hQ _ S3 _ p _ (e'.trans (.new hp)) (e'.free hp) zaz (hS3.free hp) ?_ (hS3.new hp) h3⟩;have q:zpV (ns.map V.int) lo hi=(zeu ns lo hi).map V.int:=znD;rw[q];§Reps.ofInts _
   |_=>§h3.elim⟩⟩⟩
end
ñ abbrev WF:=List W→Sto→WK→Prop
ñ def wB (f:WF) (t:WA):WE:=λE σ S Q=>t E σ S λws S1=>f ws S1 Q
ñ def zmd (K:Ƒ) (r:List V→Hp→VK→Prop) (f:WF):Prop:=∀H vs ws S (Q:VK) (QW:WK),Reps K H ws vs→RepS K H S→f ws S QW→Wish K H S QW Q→r vs H Q
ñ def wBL (f:WF) (t:WL):WE:=λE σ S Q=>t E σ S λws S1=>f ws S1 Q
ñ def zoT (K:Ƒ) (r:List V→Hp→VK→Prop) (f:WF):Prop:=∀H a vs ws S (Q:VK) (QW:WK),H a=some (.lst vs)→S a=none→Reps K H ws vs→RepS K H S→f ws S QW→Wish K H S QW Q→r [.ref a] H Q
section
variable {X:Cx}{x:Str}{p pos:Pos}{e:Expr}{es:List Expr}{t:WA}{tl:WL}{id T:String}{r:List V→Hp→VK→Prop}{f:WF}
þ zuU (hc:CallR X (.builtin id) r) (hw:zmd X.K r f) (hg:Gl X x) (hm:X.mg x=none) (hv:bootBuiltins x=some (.builtin id)) (ha:JA X (e::es) t) (hn:x≠ "__name__" :=by decide) (hdb:(x == ("__debug__" :Str))=false:=by decide)
  (he:starEach (e::es) X.env=(false,eval e X.env)::starEach es X.env:=by rfl) (hpl:(backTo pos (starEach es X.env)).any (·.1)=false:=by rfl):JE X (.Call (.Name x p) (e::es) [] pos) (wB f t):=λE hE=>
 (zjo hc hg hm hv (ha E hE) hn hdb he hpl).mono λσ H Q ⟨σW,S,QW,hσ,hS,ht,hQ⟩=>⟨σW,S,_,hσ,hS,ht,λws S1 vs H1 e1 r1 hS1 h1=>hw H1 vs ws S1 Q QW r1 hS1 h1 (hQ.from e1)⟩
þ zyk (hc:CallR X (.type T) r) (hw:zmd X.K r f) (hg:Gl X x) (hm:X.mg x=none) (hv:bootBuiltins x=some (.type T)) (ha:JA X (e::es) t) (hn:x≠ "__name__" :=by decide) (hdb:(x == ("__debug__" :Str))=false:=by decide)
  (he:starEach (e::es) X.env=(false,eval e X.env)::starEach es X.env:=by rfl) (hpl:(backTo pos (starEach es X.env)).any (·.1)=false:=by rfl):JE X (.Call (.Name x p) (e::es) [] pos) (wB f t):=λE hE=>
 (zhR hc hg hm hv (ha E hE) hn hdb he hpl).mono λσ H Q ⟨σW,S,QW,hσ,hS,ht,hQ⟩=>⟨σW,S,_,hσ,hS,ht,λws S1 vs H1 e1 r1 hS1 h1=>hw H1 vs ws S1 Q QW r1 hS1 h1 (hQ.from e1)⟩
þ zrT (hc:CallR X (.builtin id) r) (hw:zoT X.K r f) (hg:Gl X x) (hm:X.mg x=none) (hv:bootBuiltins x=some (.builtin id)) (ha:JL X e tl) (hn:x≠ "__name__" :=by decide) (hdb:(x == ("__debug__" :Str))=false:=by decide)
  (he:starEach [e] X.env=(false,eval e X.env)::starEach [] X.env:=by rfl) (hpl:(backTo pos (starEach [] X.env)).any (·.1)=false:=by rfl):JE X (.Call (.Name x p) [e] [] pos) (wBL f tl):=λE hE=>
 (zjo hc hg hm hv (zdy (ha E hE) pa_nil he) hn hdb he hpl).mono λσ H Q ⟨σW,S,QW,hσ,hS,ht,hQ⟩=>⟨σW,S,_,hσ,hS,ht,λws S1 vs a H1 e1 fa ea na r1 hS1 h1=>hw H1 a vs ws S1 Q QW ea na r1 hS1 h1 (hQ.from e1)⟩
þ zuB (hc:CallR X (.type T) r) (hw:zoT X.K r f) (hg:Gl X x) (hm:X.mg x=none) (hv:bootBuiltins x=some (.type T)) (ha:JL X e tl) (hn:x≠ "__name__" :=by decide) (hdb:(x == ("__debug__" :Str))=false:=by decide)
  (he:starEach [e] X.env=(false,eval e X.env)::starEach [] X.env:=by rfl) (hpl:(backTo pos (starEach [] X.env)).any (·.1)=false:=by rfl):JE X (.Call (.Name x p) [e] [] pos) (wBL f tl):=λE hE=>
 (zhR hc hg hm hv (zdy (ha E hE) pa_nil he) hn hdb he hpl).mono λσ H Q ⟨σW,S,QW,hσ,hS,ht,hQ⟩=>⟨σW,S,_,hσ,hS,ht,λws S1 vs a H1 e1 fa ea na r1 hS1 h1=>hw H1 a vs ws S1 Q QW ea na r1 hS1 h1 (hQ.from e1)⟩
ñ def zfI:WF:=λws S Q=>match ws with
 | [.tup us]=>Q (.int us.length) S
 | [.ref a]=>zcY S a λus=>Q (.int us.length) S
 | [.scr ns]=>Q (.int ns.length) S
 | [.str z]=>z.length≤sizeLine∧Q (.int z.length) S
 |_=>False
þ zqg{K:Ƒ}:zmd K (λxs H Q=>(∃p ys,xs=[.ref p]∧(SqL K H p ys∨SqT K H p ys)∧Q (.int ys.length) H)∨ ∃z,xs=[.str z]∧z.length≤sizeLine∧Q (.int z.length) H) zfI:=λH vs ws S Q QW r hS h hQ=>by
 cases r with
 |nil=>§h.elim
 |cons r1 r2=>
  cases r2 with
  |cons _ _=>cases r1<;>§h.elim
  |nil=>
   cases r1 with
   |tup f hs=>§.inl ⟨_,_,rfl, .inr (.of f),by rw[←hs.length];§hQ _ S _ H .refl (.int _) hS h⟩
   |ref a=>
    ø⟨us,e,h⟩:=zbr h;ø⟨vs,f,hs⟩:=hS a _ e;§.inl ⟨_,_,rfl, .inl (.of f),by rw[←hs.length];§hQ _ S _ H .refl (.int _) hS h⟩
   |scr f=>§.inl ⟨_,_,rfl, .inl f.sq,by rw[List.length_map];§hQ _ S _ H .refl (.int _) hS h⟩
   |str z=>§.inr ⟨z,rfl,h.1,hQ _ S _ H .refl (.int _) hS h.2⟩
   |_=>§h.elim
þ zcg (hg:Gl X "len") (hm:X.mg "len" =none) (ha:JA X (e::es) t) 
  (he:starEach (e::es) X.env=(false,eval e X.env)::starEach es X.env:=by rfl) (hpl:(backTo pos (starEach es X.env)).any (·.1)=false:=by rfl):JE X (.Call (.Name "len" p) (e::es) [] pos) (wB zfI t):=
 zuU (call_len_seq.or zlp) zqg hg hm PySem.boot_len ha £ £ he hpl
ñ def zen:WF:=λws S Q=>match ws with
 | [.tup us]=>Q (.tup us) S
 | [.ref a]=>zcY S a λus=>Q (.tup us) S
 |_=>False
þ zmj{K:Ƒ}:zmd K (λxs H Q=>∃p ys,xs=[.ref p]∧((SqL K H p ys∧ ∀l,H l=none→Q (.ref l) (upd H l (.tup ys)))∨(SqT K H p ys∧Q (.ref p) H))) zen:=λH vs ws S Q QW r hS h hQ=>by
 cases r with
 |nil=>§h.elim
 |cons r1 r2=>
  cases r2 with
  |cons _ _=>cases r1<;>§h.elim
  |nil=>
   cases r1 with
   |tup f hs=>§⟨_,_,rfl, .inr ⟨.of f,hQ _ S _ H .refl (.tup f hs) hS h⟩⟩
   |ref a=>
    ø⟨us,e,h⟩:=zbr h;ø⟨vs,f,hs⟩:=hS a _ e;§⟨_,_,rfl, .inl ⟨.of f,λl hl=>hQ _ S _ _ (.new hl) (.tup zaz (hs.ext (.new (S:=S) hl))) (hS.new hl) h⟩⟩
   |_=>§h.elim
ñ def zgJ:WF:=λws S Q=>Q (.tup ws) S
þ zmI{K:Ƒ}:zoT K (λxs H Q=>∃p ys,xs=[.ref p]∧((SqL K H p ys∧ ∀l,H l=none→Q (.ref l) (upd H l (.tup ys)))∨(SqT K H p ys∧Q (.ref p) H))) zgJ:=λH a vs ws S Q QW ea na r hS h hQ=>
 ⟨a,vs,rfl, .inl ⟨.of ea,λl hl=>hQ _ S _ _ (.new hl) (.tup zaz (r.ext (.new (S:=S) hl))) (hS.new hl) h⟩⟩
ñ def zjk (t:WE):WL:=λE σ S Q=>t E σ S λw S1=>match w with
 | .tup ws=>Q ws S1
 | .ref a=>zcY S1 a λws=>Q ws S1
 | .scr ns=>Q (ns.map W.int) S1
 |_=>False
þ zqO{te:WE}(hg:Gl X "list") (hm:X.mg "list" =none) (ha:JE X e te)
  (he:starEach [e] X.env=(false,eval e X.env)::starEach [] X.env:=by rfl) (hpl:(backTo pos (starEach [] X.env)).any (·.1)=false:=by rfl):JL X (.Call (.Name "list" p) [e] [] pos) (zjk te):=λE hE=>
 (zhR zkh hg hm PyProof.Rows.boot_list (zdy (ha E hE) pa_nil he) £ £ he hpl).mono λσ H Q ⟨σW,S,QW,hσ,hS,ht,hQ⟩=>⟨σW,S,_,hσ,hS,ht,λw S1 v H1 e1 r1 hS1 h1=>by
  cases r1 with
  |tup f hs=>§⟨_,_,rfl, .inr (.of f),λl hl=>hQ _ S1 _ l _ (e1.trans (.new hl)) (e1.free hl) zaz (hS1.free hl) (hs.ext (.new (S:=S1) hl)) (hS1.new hl) h1⟩
  |ref a=>
   ø⟨ws,ea,h⟩:=zbr h1;ø⟨vs,f,hs⟩:=hS1 a _ ea;§⟨_,_,rfl, .inl (.of f),λl hl=>hQ _ S1 _ l _ (e1.trans (.new hl)) (e1.free hl) zaz (hS1.free hl) (hs.ext (.new (S:=S1) hl)) (hS1.new hl) h⟩
  |scr f=>§⟨_,_,rfl, .inl f.sq,λl hl=>hQ _ S1 _ l _ (e1.trans (.new hl)) (e1.free hl) zaz (hS1.free hl) (Reps.ofInts _) (hS1.new hl) h1⟩
  |_=>§h1.elim⟩
ñ def zhY:List W→Option (List Bool)
 | []=>some []
 | .bl b::ws=>(zhY ws).map (b:: ·)
 |_=>none
þ zqq{K:Ƒ}{H:Hp}:∀{ws:List W}{vs:List V}{bs:List Bool},Reps K H ws vs→zhY ws=some bs→vs=bs.map V.bl
 | [],_,_, .nil,e=>by have:=Option.some.inj e;subst this;rfl
 |w::ws,_,_, .cons r rs,e=>by
  cases r with
  |bl b=>
   have e':(zhY ws).map (b:: ·)=some _:=e;cases q:zhY ws with
   |none=>rw[q]at e';cases e'
   |some cs=>
    rw[q]at e';have:=Option.some.inj e';subst this;rw[List.map_cons,zqq rs q]
  |_=>cases e
ñ def zmJ:WF:=λws S Q=>match zhY ws with
 |some bs=>Q (.bl (bs.all _root_.id)) S
 |none=>False
þ zru{K:Ƒ}:zoT K (λxs H Q=>∃(p:Addr) (bs:List Bool),xs=[.ref p]∧SqL K H p (bs.map V.bl)∧Q (.bl (bs.all _root_.id)) H) zmJ:=λH a vs ws S Q QW ea na r hS h hQ=>by
 unfold zmJ at h;split at h
 ·rename_i bs e;have:=zqq r e;subst this;§⟨a,bs,rfl, .of ea,hQ _ S _ H .refl (.bl _) hS h⟩
 ·§h.elim
ñ def tyW:W→Sto→(String→Prop)→Prop
 | .non,_,Q=>Q "NoneType"
 | .bl _,_,Q=>Q "bool"
 | .int _,_,Q=>Q "int"
 | .str _,_,Q=>Q "str"
 | .tup _,_,Q=>Q "tuple"
 | .ref a,S,Q=>zcY S a λ_=>Q "list"
 | .scr _,_,_=>False
ñ def zcx (A B:String):Bool:=A == B || (A == "bool" &&B == "int")
ñ def zsH (T:String) (t:WE):WE:=λE σ S Q=>t E σ S λw S1=>tyW w S1 λA=>Q (.bl (zcx A T)) S1
þ zgV{a:Expr}{ta:WE}{p2:Pos}{T:Str}{T':String}(hg:Gl X "isinstance") (hm:X.mg "isinstance" =none) (hgT:Gl X T) (hmT:X.mg T=none) (hv:bootBuiltins T=some (.type T')) (ha:JE X a ta) (hn:T≠ "__name__") (hd:(T == ("__debug__" :Str))=false)
  (hk:∀A∈ ["NoneType", "bool", "int", "str", "tuple", "list"],PySem.W.kitOne X.K (.type A) (.type T')=some (zcx A T'))
  (he:starEach [a, .Name T p2] X.env=(false,eval a X.env)::starEach [.Name T p2] X.env:=by rfl) (he2:starEach [.Name T p2] X.env=(false,eval (.Name T p2) X.env)::starEach [] X.env:=by rfl) (hpl:(backTo pos (starEach [.Name T p2] X.env)).any (·.1)=false:=by rfl) :
  JE X (.Call (.Name "isinstance" p) [a, .Name T p2] [] pos) (zsH T' ta):=λE hE=>
 (zjo ztZ hg hm PyProof.Rows.boot_isinstance (zdy (ha E hE) (zdy (zwf (v:= .ty T') hgT hmT hv rfl hn hd) pa_nil he2) he) £ £ he hpl).mono λσ H Q ⟨σW,S,QW,hσ,hS,ht,hQ⟩=>⟨σW,S,_,hσ,hS,ht,λw S1 v H1 e1 r1 hS1 h1=>by
  have fin:∀{t:Value}(A:String),t= .type A→A∈ ["NoneType", "bool", "int", "str", "tuple", "list"]→TyOf X.K H1 v t→QW (.bl (zcx A T')) S1→ ∃x t c b,[v,V.ty T']=[x, .ty c]∧TyOf X.K H1 x t∧PySem.W.kitOne X.K t (.type c)=some b∧Q (.bl b) H1:=λA e hA ty q=>by
   subst e;§⟨v,_,T',_,rfl,ty,hk A hA,hQ _ S1 _ H1 e1 (.bl _) hS1 q⟩
  cases r1 with
  |non=>§fin _ rfl ¢ .non h1
  |bl b=>§fin _ rfl ¢ (.bl b) h1
  |int i=>§fin _ rfl ¢ (.int i) h1
  |str z=>§fin _ rfl ¢ (.str z) h1
  |tup f hs=>§fin _ rfl ¢ (.tup f) h1
  |ref a=>
   ø⟨ws,ea,h⟩:=zbr h1;ø⟨vs,f,hs⟩:=hS1 a _ ea;§fin _ rfl ¢ (.lst f) h
  |scr f=>§h1.elim⟩
end
ñ abbrev WMf:=W→List W→Sto→WK→Prop
ñ def rvL:W→Sto→Prop
 | .ref a,S=>zcY S a λ_=>True
 |_,_=>False
ñ def rvS:W→Sto→Prop
 | .str _,_=>True
 |_,_=>False
ñ def wM (rv:W→Sto→Prop) (f:WMf) (to:WE) (t:WA):WE:=λE σ S Q=>to E σ S λw S1=>rv w S1∧t E σ S1 λws S2=>f w ws S2 Q
ñ def wML (rv:W→Sto→Prop) (f:WMf) (to:WE) (t:WL):WE:=λE σ S Q=>to E σ S λw S1=>rv w S1∧t E σ S1 λws S2=>f w ws S2 Q
ñ def MtW (K:Ƒ) (r:V→List V→Hp→VK→Prop) (f:WMf):Prop:=∀H x w vs ws S (Q:VK) (QW:WK),Rep K H w x→Reps K H ws vs→RepS K H S→f w ws S QW→Wish K H S QW Q→r x vs H Q
ñ def MtL (K:Ƒ) (r:V→List V→Hp→VK→Prop) (f:WMf):Prop:=∀H x w a vs ws S (Q:VK) (QW:WK),Rep K H w x→H a=some (.lst vs)→S a=none→Reps K H ws vs→RepS K H S→f w ws S QW→Wish K H S QW Q→r x [.ref a] H Q
ñ def zyL (K:Ƒ) (T:String) (rv:W→Sto→Prop):Prop:=∀H w v S,Rep K H w v→RepS K H S→rv w S→tyV K T v H
þ zuI{K:Ƒ}:zyL K "list" rvL:=λH w v S r hS h=>by
 cases r with
 |ref a=>
  ø⟨ws,e,_⟩:=zbr h;ø⟨vs,f,_⟩:=hS a _ e;§.inl ⟨rfl,vs, .of f⟩
 |_=>§h.elim
þ zuT{K:Ƒ}:zyL K "str" rvS:=λH w v S r hS h=>by
 cases r with
 |str x=>§rfl
 |_=>§h.elim
section
variable {X:Cx}{o e:Expr}{es:List Expr}{to:WE}{t:WA}{tl:WL}{name:Str}{apos cpos:Pos}{id T:String}{r:V→List V→Hp→VK→Prop}{f:WMf}{rv:W→Sto→Prop}
þ zCc (pa:PlainAttrs T) (slot:Slot T name id) (hty:typeOf (.builtin id)=pure (.type "method_descriptor")) (hrv:zyL X.K T rv) (hm:MtR X id r) (hw:MtW X.K r f) (ho:JE X o to) (ha:JA X (e::es) t)
  (hbase:attributeBase o name X.env (eval o X.env)=eval o X.env:=by rfl)
  (hfew:((backTo cpos (starEach (e::es) X.env)).all (λx=> !x.1)&&(backToKw cpos (keywordEach [] X.env)).all (λx=>x.1.isSome)
   &&decide ((e::es).length+([]:List Keyword).length+(if([]:List Keyword).isEmpty then 0 else 1)<30))=true:=by rfl)
  (hline:(apos.endLine == cpos.line)=true:=by rfl) (hs:starEach (e::es) X.env=(false,eval e X.env)::starEach es X.env:=by rfl) (hplain:(backTo cpos (starEach es X.env)).any (·.1)=false:=by rfl) :
  JE X (.Call (.Attribute o name apos) (e::es) [] cpos) (wM rv f to t):=λE hE=>
 (zyf pa slot hty hm (ho E hE) (ha E hE) hbase hfew hline hs hplain).mono λσ H Q ⟨σW,S,QW,hσ,hS,ht,hQ⟩=>⟨σW,S,_,hσ,hS,ht,λw S1 v H1 e1 r1 hS1 h1=>
  ⟨hrv H1 w v S1 r1 hS1 h1.1,σW,S1,_,hσ.ext e1,hS1,h1.2,λws S2 vs H2 e2 r2 hS2 h2=>hw H2 v w vs ws S2 Q QW (r1.ext e2) r2 hS2 h2 (hQ.from (e1.trans e2))⟩⟩
þ zAy (pa:PlainAttrs T) (slot:Slot T name id) (hty:typeOf (.builtin id)=pure (.type "method_descriptor")) (hrv:zyL X.K T rv) (hm:MtR X id r) (hw:MtL X.K r f) (ho:JE X o to) (ha:JL X e tl)
  (hbase:attributeBase o name X.env (eval o X.env)=eval o X.env:=by rfl)
  (hfew:((backTo cpos (starEach [e] X.env)).all (λx=> !x.1)&&(backToKw cpos (keywordEach [] X.env)).all (λx=>x.1.isSome)
   &&decide ([e].length+([]:List Keyword).length+(if([]:List Keyword).isEmpty then 0 else 1)<30))=true:=by rfl)
  (hline:(apos.endLine == cpos.line)=true:=by rfl) (hs:starEach [e] X.env=(false,eval e X.env)::starEach [] X.env:=by rfl) (hplain:(backTo cpos (starEach [] X.env)).any (·.1)=false:=by rfl) :
  JE X (.Call (.Attribute o name apos) [e] [] cpos) (wML rv f to tl):=λE hE=>
 (zyf pa slot hty hm (ho E hE) (zdy (ha E hE) pa_nil hs) hbase hfew hline hs hplain).mono λσ H Q ⟨σW,S,QW,hσ,hS,ht,hQ⟩=>⟨σW,S,_,hσ,hS,ht,λw S1 v H1 e1 r1 hS1 h1=>
  ⟨hrv H1 w v S1 r1 hS1 h1.1,σW,S1,_,hσ.ext e1,hS1,h1.2,λws S2 vs a H2 e2 fa ea na r2 hS2 h2=>hw H2 v w a vs ws S2 Q QW (r1.ext e2) ea na r2 hS2 h2 (hQ.from (e1.trans e2))⟩⟩
þ zAK (pa:PlainAttrs T) (slot:Slot T name id) (hty:typeOf (.builtin id)=pure (.type "method_descriptor")) (hrv:zyL X.K T rv) (hm:MtR X id r) (hw:MtW X.K r f) (ho:JE X o to)
  (hbase:attributeBase o name X.env (eval o X.env)=eval o X.env:=by rfl) (hline:(apos.endLine == cpos.line)=true:=by rfl):JE X (.Call (.Attribute o name apos) [] [] cpos) (wM rv f to waNil):=λE hE=>
 (zxO pa slot hty hm (ho E hE) hbase hline).mono λσ H Q ⟨σW,S,QW,hσ,hS,ht,hQ⟩=>⟨σW,S,_,hσ,hS,ht,λw S1 v H1 e1 r1 hS1 h1=>
  ⟨hrv H1 w v S1 r1 hS1 h1.1,hw H1 v w [] [] S1 Q QW r1 .nil hS1 h1.2 (hQ.from e1)⟩⟩
ñ def zbO:WMf:=λw ws S Q=>match w with
 | .ref a=>zcY S a λxs=>match ws with
  | [y]=>xs.length<sizeLine∧Q .non (put S a (.lst (xs++[y])))
  |_=>False
 |_=>False
þ zpi{K:Ƒ}:MtW K zrX zbO:=λH x w vs ws S Q QW r rs hS h hQ=>by
 cases r with
 |ref a=>
  ø⟨xs,ea,h⟩:=zbr h;ø⟨us,f,hs⟩:=hS a _ ea;cases rs with
  |nil=>§h.elim
  |cons r1 r2=>
   cases r2 with
   |cons _ _=>§h.elim
   |nil=>
    ø⟨e,hS'⟩:=hS.set_lst ea (hs.append (.one r1));§⟨a,us,_,rfl,rfl,f,by rw[←hs.length];§h.1,hQ _ _ _ _ e .non hS' h.2⟩
 |_=>§h.elim
þ zbf (ho:JE X o to) (ha:JA X (e::es) t)
  (hbase:attributeBase o "append" X.env (eval o X.env)=eval o X.env:=by rfl)
  (hfew:((backTo cpos (starEach (e::es) X.env)).all (λx=> !x.1)&&(backToKw cpos (keywordEach [] X.env)).all (λx=>x.1.isSome)
   &&decide ((e::es).length+([]:List Keyword).length+(if([]:List Keyword).isEmpty then 0 else 1)<30))=true:=by rfl)
  (hline:(apos.endLine == cpos.line)=true:=by rfl) (hs:starEach (e::es) X.env=(false,eval e X.env)::starEach es X.env:=by rfl) (hplain:(backTo cpos (starEach es X.env)).any (·.1)=false:=by rfl) :
  JE X (.Call (.Attribute o "append" apos) (e::es) [] cpos) (wM rvL zbO to t):=zCc PySem.F.plainAttrs_list PySem.F.slot_list_append PySem.F.type_list_append zuI zkK zpi ho ha hbase hfew hline hs hplain
ñ def zCi:WMf:=λw ws S Q=>match w with
 | .ref a=>zcY S a λxs=>match ws with
  | []=>match xs[xs.length - 1]? with
   |some y=>Q y (put S a (.lst xs.dropLast))
   |none=>False
  |_=>False
 |_=>False
ñ def zil:WMf:=λw ws S Q=>match w with
 | .ref a=>zcY S a λxs=>match ws with
  | [.tup ys]=>xs.length+ys.length≤sizeLine∧Q .non (put S a (.lst (xs++ys)))
  | [.ref b]=>zcY S b λys=>xs.length+ys.length≤sizeLine∧Q .non (put S a (.lst (xs++ys)))
  |_=>False
 |_=>False
þ zoV{K:Ƒ}:MtW K (λx vs H Q=>zqt x vs H Q∨znQ K x vs H Q) zil:=λH x w vs ws S Q QW r rs hS h hQ=>by
 cases r with
 |ref a=>
  ø⟨xs,ea,h⟩:=zbr h;ø⟨us,f,hs⟩:=hS a _ ea;cases rs with
  |nil=>§h.elim
  |cons r1 r2=>
   cases r2 with
   |cons _ _=>cases r1<;>§h.elim
   |nil=>
    cases r1 with
    |tup g ks=>
     ø⟨e,hS'⟩:=hS.set_lst ea (hs.append ks);§.inr ⟨a,_,us,_,rfl,rfl,f, .of g,by rw[←hs.length,←ks.length];§h.1,hQ _ _ _ _ e .non hS' h.2⟩
    |ref b=>
     ø⟨ys,eb,h⟩:=zbr h;ø⟨zs,g,ks⟩:=hS b _ eb;ø⟨e,hS'⟩:=hS.set_lst ea (hs.append ks);§.inl ⟨a,b,us,zs,rfl,rfl,f,g,by rw[←hs.length,←ks.length];§h.1,hQ _ _ _ _ e .non hS' h.2⟩
    |_=>§h.elim
 |_=>§h.elim
þ zrC (ho:JE X o to) (ha:JA X (e::es) t)
  (hbase:attributeBase o "extend" X.env (eval o X.env)=eval o X.env:=by rfl)
  (hfew:((backTo cpos (starEach (e::es) X.env)).all (λx=> !x.1)&&(backToKw cpos (keywordEach [] X.env)).all (λx=>x.1.isSome)
   &&decide ((e::es).length+([]:List Keyword).length+(if([]:List Keyword).isEmpty then 0 else 1)<30))=true:=by rfl)
  (hline:(apos.endLine == cpos.line)=true:=by rfl) (hs:starEach (e::es) X.env=(false,eval e X.env)::starEach es X.env:=by rfl) (hplain:(backTo cpos (starEach es X.env)).any (·.1)=false:=by rfl) :
  JE X (.Call (.Attribute o "extend" apos) (e::es) [] cpos) (wM rvL zil to t):=zCc PySem.F.plainAttrs_list PySem.F.slot_list_extend PySem.F.type_list_extend zuI (MtR.or zqI zpF) zoV ho ha hbase hfew hline hs hplain
ñ def ztq:WMf:=λw ws S Q=>match w with
 | .ref a=>zcY S a λxs=>xs.length+ws.length≤sizeLine∧Q .non (put S a (.lst (xs++ws)))
 |_=>False
ñ def zgS:List W→Option (List Str)
 | []=>some []
 | .str b::ws=>(zgS ws).map (b:: ·)
 |_=>none
þ zoK{K:Ƒ}{H:Hp}:∀{ws:List W}{vs:List V}{bs:List Str},Reps K H ws vs→zgS ws=some bs→vs=bs.map V.str
 | [],_,_, .nil,e=>by have:=Option.some.inj e;subst this;rfl
 |w::ws,_,_, .cons r rs,e=>by
  cases r with
  |str b=>
   have e':(zgS ws).map (b:: ·)=some _:=e;cases q:zgS ws with
   |none=>rw[q]at e';cases e'
   |some cs=>
    rw[q]at e';have:=Option.some.inj e';subst this;rw[List.map_cons,zoK rs q]
  |_=>cases e
ñ def zkQ:WMf:=λw ws S Q=>match w with
 | .str z=>match zgS ws with
  |some ys=>(ys.map (·.length)).sum+ys.length*z.length≤16777216∧Q (.str (Str.join z ys)) S
  |none=>False
 |_=>False
þ zun{K:Ƒ}:MtL K (zxF K) zkQ:=λH x w a vs ws S Q QW r ea na rs hS h hQ=>by
 cases r with
 |str z=>
  unfold zkQ at h;dsimp only at h;split at h
  ·rename_i ys e;have:=zoK rs e;subst this;§⟨z,a,ys,rfl,rfl, .of ea,h.1,hQ _ S _ H .refl (.str _) hS h.2⟩
  ·§h.elim
 |_=>§h.elim
þ ztG (ho:JE X o to) (ha:JL X e tl)
  (hbase:attributeBase o "join" X.env (eval o X.env)=eval o X.env:=by rfl)
  (hfew:((backTo cpos (starEach [e] X.env)).all (λx=> !x.1)&&(backToKw cpos (keywordEach [] X.env)).all (λx=>x.1.isSome)
   &&decide ([e].length+([]:List Keyword).length+(if([]:List Keyword).isEmpty then 0 else 1)<30))=true:=by rfl)
  (hline:(apos.endLine == cpos.line)=true:=by rfl) (hs:starEach [e] X.env=(false,eval e X.env)::starEach [] X.env:=by rfl) (hplain:(backTo cpos (starEach [] X.env)).any (·.1)=false:=by rfl) :
  JE X (.Call (.Attribute o "join" apos) [e] [] cpos) (wML rvS zkQ to tl):=zAy PySem.F.plainAttrs_str PySem.F.slot_str_join PySem.F.type_str_join zuT zwz zun ho ha hbase hfew hline hs hplain
ñ def zyF:WMf:=λw ws S Q=>match w with
 | .str z=>match ws with
  | [.str y]=>match Builtin.Str.occurrences z y 0 z.length 1 with
   |i::_=>Q (.int i) S
   | []=>False
  |_=>False
 |_=>False
end
ñ def zzm (i:Nat) (g:Int→Int→Int) (e:WE):WS:=λE D σ S=>match σ[i]? with
 |some (some (.int a))=>e E σ S λw S1=>match w with
  | .int b=>D.nx (σ.set i (some (.int (g a b)))) S1
  |_=>False
 |_=>False
section
variable {X:Cx}{e:Expr}{te:WE}{pos pos':Pos}
þ zuX{i:Nat}{x:Str}(hN:X.N.Nodup) (hi:X.N[i]? =some x) (hx:Loc X.env.scope x) (he:JE X e te) (hf:X.fn x=true∨X.env.scope.names.lookup x=some .local:=by first |§.inl rfl |§.inr rfl |assumption) :
  JS X (.AugAssign (.Name x pos') .Add e pos) (zzm i (λa b=>a+b) te):=λE hE=>
 (zyR hN hi hx (he E hE) zAj hf).mono λD σ H ⟨σW,S,DW,hσ,hS,ht,hD⟩=>by
  unfold zzm at ht;split at ht
  ·rename_i a ea;ø⟨v,ev,rv⟩:=hσ.get ea;cases rv;¤⟨_,ev,σW,S,_,hσ,hS,ht,λw S1 v H1 e1 r1 hS1 h1=>?_⟩;cases r1 with
   |int b=>§⟨a,b,rfl,rfl,hD.nx _ S1 _ H1 e1 ((hσ.ext e1).set (.int _) i) hS1 h1⟩
   |_=>§h1.elim
  ·§ht.elim
end
ñ def zoa (c:WT) (b:WS):WS:=λE D σ S=>∃I:Nat→WSt→Sto→Prop,(∃m,I m σ S)∧ ∀m σ S,I m σ S→c E σ S λk S1=>if k=true then
 b E { D with nx:=λσ' S'=>∃m' S'',m'<m∧Sub S'' S'∧I m' σ' S'',ct:=λσ' S'=>∃m' S'',m'<m∧Sub S'' S'∧I m' σ' S'',bk:=D.nx } σ S1 else D.nx σ S1
section
variable {X:Cx}{c:Expr}{body:List Stmt}{tc:WT}{tb:WS}{pos:Pos}
þ zjp (hc:JT X c tc) (hb:JSs X body tb):JS X (.While c body [] pos) (zoa tc tb):=λE hE=>
 (ztu hE.own (hc E hE) (hb E hE)).mono λD σ H ⟨σW,S,DW,hσ,hS,⟨J,⟨n,ht⟩,step⟩,hD⟩=>by
  ¤⟨λm σ1 H1=>∃σW1 S1,Ext H S H1 S1∧RpSt X.K H1 σW1 σ1∧RepS X.K H1 S1∧J m σW1 S1,⟨n,σW,S, .refl,hσ,hS,ht⟩,?_⟩;rintro m σ1 H1 ⟨σW1,S1,e1,hσ1,hS1,h1⟩;¤⟨σW1,S1,_,hσ1,hS1,step m σW1 S1 h1,λk S2 H2 e2 hS2 h2=>?_⟩;cases k with
  |false=>§hD.nx σW1 S2 σ1 H2 (e1.trans e2) (hσ1.ext e2) hS2 h2
  |true=>
   rw[if_pos rfl]at h2⊢;¤⟨λσ' H'=>∃m',m'<m∧ ∃σW1 S1,Ext H S H' S1∧RpSt X.K H' σW1 σ'∧RepS X.K H' S1∧J m' σW1 S1,λσ' H' n'=>n',σW1,S2,_,hσ1.ext e2,hS2,h2,?_⟩;have e12:=e1.trans e2;have go:Goes X.K H2 S2 (λσ' S'=>∃m' S'',m'<m∧Sub S'' S'∧J m' σ' S'') (λσ' H'=>∃m',m'<m∧ ∃σW1 S1,Ext H S H' S1∧RpSt X.K H' σW1 σ'∧RepS X.K H' S1∧J m' σW1 S1):=λσW3 S3 σ3 H3 e3 hσ3 hS3 ⟨m',S4,hm,sb,q⟩=>
    ⟨m',hm,σW3,S4,(e12.trans e3).trans (.drop sb),hσ3,hS3.sub sb,q⟩
   §⟨go,hD.rt.from e12,hD.nx.from e12,go⟩
end
ñ def forL (g:WG) (b:WS) (E:WX) (D:WEnds) (G:Sto→Prop):List W→WSt→Sto→Prop
 | [],σ,S=>D.nx σ S
 |w::ws,σ,S=>g w σ S λσ1 S1=>b E { D with nx:=λσ' S'=>∃S'',Sub S'' S'∧G S''∧forL g b E D G ws σ' S'',ct:=λσ' S'=>∃S'',Sub S'' S'∧G S''∧forL g b E D G ws σ' S'',bk:=D.nx } σ1 S1
ñ def zgW (q:WI) (g:WG) (b:WS):WS:=λE D σ S=>q E σ S λws G S1=>forL g b E D G ws σ S1
section
variable {X:Cx}{tg iter:Expr}{body:List Stmt}{q:WI}{g:WG}{tb:WS}{pos:Pos}
þ zbR (hi:JI X tg iter q) (hg:JG X tg g) (hb:JSs X body tb) (hcl:X.calm=true:=by rfl)
  (hs:∀x,foldedSetIterable iter X.env x=pure x:=by intro _;rfl):JS X (.For tg iter body [] pos) (zgW q g tb):=λE hE=>
 (zzV hE.own hcl (hi E hE) (hg E hE) (hb E hE) hs).mono λD σ H ⟨σW,S,DW,hσ,hS,ht,hD⟩=>by
  ¤⟨σW,S,_,hσ,hS,ht,λws G S1 J H1 e1 hS1 hG1 hJ h1=>?_⟩;¤⟨λi m σ2 H2=>∃σW2 S2,Ext H1 S1 H2 S2∧RpSt X.K H2 σW2 σ2∧RepS X.K H2 S2∧G S2∧m=ws.length - i∧i≤ws.length∧forL g tb E DW G (ws.drop i) σW2 S2,
   ⟨ws.length,σW,S1, .refl,hσ.ext e1,hS1,hG1,rfl,Nat.zero_le _,h1⟩,?_⟩
  rintro i m σ2 H2 ⟨σW2,S2,e2,hσ2,hS2,hG2,rfl,hi2,h2⟩;ø⟨ji,js⟩:=hJ i S2 H2 e2 hS2 hG2;by_cases hlt:i<ws.length
  ·ø⟨jgo,jy⟩:=ji ws[i] (List.getElem?_eq_getElem hlt);¤.inr ⟨jgo,λσ' H'=>∃σW2 S2,Ext H1 S1 H' S2∧RpSt X.K H' σW2 σ'∧RepS X.K H' S2∧G S2∧ws.length - (i+1)=ws.length - (i+1)∧i+1≤ws.length∧forL g tb E DW G (ws.drop (i+1)) σW2 S2,λσ' H' z=>⟨_,¥,z⟩,λx H3 y3=>?_⟩
   ø⟨e3,hS3,r3⟩:=jy x H3 y3;rw[List.drop_eq_getElem_cons hlt]at h2;¤⟨_,σW2,S2,_,r3,hσ2.ext e3,hS3,h2,λσW4 S4 σ4 H4 e4 hσ4 hS4 h4=>?_⟩;have e14:Ext H1 S1 H4 S4:=(e2.trans e3).trans e4;¤⟨σW4,S4,_,hσ4,hS4,h4,?_⟩;have go:Goes X.K H4 S4 (λσ' S'=>∃S'',Sub S'' S'∧G S''∧forL g tb E DW G (ws.drop (i+1)) σ' S'') (λσ' H'=>∃σW2 S2,Ext H1 S1 H' S2∧RpSt X.K H' σW2 σ'∧RepS X.K H' S2∧G S2∧ws.length - (i+1)=ws.length - (i+1)∧i+1≤ws.length∧forL g tb E DW G (ws.drop (i+1)) σW2 S2):=
    λσW5 S5 σ5 H5 e5 hσ5 hS5 ⟨S6,sb,hG6,q⟩=>⟨σW5,S6,(e14.trans e5).trans (.drop sb),hσ5,hS5.sub sb,hG6,rfl,hlt,q⟩
   §⟨go,hD.rt.from (e1.trans e14),hD.nx.from (e1.trans e14),go⟩
  ·have hl:i=ws.length:=by omega
   rw[List.drop_of_length_le (Nat.le_of_eq hl.symm)]at h2;§.inl ⟨js hl,hD.nx σW2 S2 σ2 H2 (e1.trans e2) hσ2 hS2 h2⟩
end
section
variable {X:Cx}{tg:Expr}
ñ def zDk (K:Ƒ) (tl:TE):TI:=λσ H R=>tl σ H λx H1=>(∃a,x= .ref a∧(∃xs,SqL K H1 a xs)∧R (Itl K a) H1)∨(∃a,x= .ref a∧(∃xs,SqT K H1 a xs)∧R (Itt K a) H1)∨ ∃z,x= .str z∧R (Its z) H1
þ zyS{l:Expr}{tl:TE}(hl:PE X l tl):PI X tg l (zDk X.K tl):=by
 intro pins s σ H R I h;¤thn (hl pins s σ H _ I h) λv s1 ⟨x,H1,I1,r1,q1⟩=>?_;have fp:∀b∈ [s1.heap.objs.size],zkd X pins H1 b:=λb hb=>by
  have e:b=s1.heap.objs.size:=by simpa using hb
  subst e;§I1.fpOk (Nat.le_refl _) (I1.hok.fresh (Nat.le_refl _))
 rcases q1 with⟨a,e,⟨xs,hq⟩,q⟩ |⟨a,e,⟨xs,hq⟩,q⟩ |⟨z,e,q⟩
 ·subst e;cases r1;ø⟨its,rv,p,hz⟩:=I1.list hq;¤wpAny_pyIter_list p.isList ?_;§⟨s1.heap.objs.size,[s1.heap.objs.size],_,_,H1,rfl,I1.kept (t':=s1.toks) λb o e=>Heap.get?_push_of_some _ e,zlI a _,⟨_,Heap.get?_push_size _ rfl,rfl,rfl⟩,fp,q⟩
 ·subst e;cases r1;ø⟨its,rv,p,hz⟩:=I1.tuple hq;¤wpAny_pyIter_tuple (show s1.heap.IsTuple a its.toArray from p) ?_;§⟨s1.heap.objs.size,[s1.heap.objs.size],_,_,H1,rfl,I1.kept (t':=s1.toks) λb o e=>Heap.get?_push_of_some _ e,zpg a _,⟨_,Heap.get?_push_size _ rfl,rfl,rfl⟩,fp,q⟩
 ·subst e;ø⟨t,rfl⟩:=r1;cases ha:z.cps.all (· <128)
  ·¤wpAny_pyIter_wide ha ?_;§⟨s1.heap.objs.size,[s1.heap.objs.size],_,_,H1,rfl,I1.kept (t':=s1.toks) λb o e=>Heap.get?_push_of_some _ e,
    zom _ z t "str_iterator" £ (λA' hA=>Walks.strWide hA _ z t) (λ_ _ _ _ _ st h=>wpAny_pyIter_striter_wide st h),⟨_,Heap.get?_push_size _ rfl,rfl,rfl⟩,fp,q⟩
  ·¤wpAny_pyIter_ascii ha ?_;§⟨s1.heap.objs.size,[s1.heap.objs.size],_,_,H1,rfl,I1.kept (t':=s1.toks) λb o e=>Heap.get?_push_of_some _ e,
    zom _ z t "str_ascii_iterator" £ (λA' hA=>Walks.strAscii hA _ z t) (λ_ _ _ _ _ st h=>wpAny_pyIter_striter_ascii st h),⟨_,Heap.get?_push_size _ rfl,rfl,rfl⟩,fp,q⟩
ñ def zlD (z:Str):List W:=z.cps.toList.map λc=> .str ⟨#[c]⟩
ñ def wIv (t:WE):WI:=λE σ S Q=>t E σ S λw S1=>match w with
 | .tup ws=>Q ws (λ_=>True) S1
 | .ref a=>zcY S1 a λws=>Q ws (λS'=>S' a=some (.lst ws)) S1
 | .scr ns=>Q (ns.map W.int) (λ_=>True) S1
 | .str z=>Q (zlD z) (λ_=>True) S1
 |_=>False
þ zlU{K:Ƒ}{a:Addr}{ws:List W}{G:Sto→Prop}{H0:Hp}{S0:Sto}(h:∀S H,Ext H0 S0 H S→RepS K H S→G S→ ∃vs,SqL K H a vs∧Reps K H ws vs):ItW K (Itl K a) ws G H0 S0:=λi S H e hS hG=>by
 ø⟨vs,hq,r⟩:=h S H e hS hG;¤⟨λw ew=>?_,λhl=>⟨vs,hq,by rw[←r.length,hl];§Nat.le_refl _⟩⟩
 ø⟨v,ev,rv⟩:=r.get ew;¤⟨⟨vs,v,hq,ev⟩,λx H' ⟨e1,e2⟩=>?_⟩;subst e1;have e3:=e2 vs hq;rw[ev]at e3;cases e3;§⟨.refl,hS,rv⟩
þ zzL{K:Ƒ}{a:Addr}{ws:List W}{vs:List V}{H0:Hp}{S0:Sto}(f:H0 a=some (.tup vs)) (r:Reps K H0 ws vs):ItW K (Itt K a) ws (λ_=>True) H0 S0:=λi S H e hS hG=>by
 have f':=e.tup _ _ f;have r':=r.ext e;¤⟨λw ew=>?_,λhl=>⟨vs, .of f',by rw[←r'.length,hl];§Nat.le_refl _⟩⟩
 ø⟨v,ev,rv⟩:=r'.get ew;¤⟨⟨vs,v, .of f',ev⟩,λx H' ⟨e1,e2⟩=>?_⟩;subst e1;have e3:=e2 vs (.of f');rw[ev]at e3;cases e3;§⟨.refl,hS,rv⟩
þ zxU{K:Ƒ}{z:Str}{H0:Hp}{S0:Sto}:ItW K (Its z) (zlD z) (λ_=>True) H0 S0:=λi S H e hS hG=>by
 unfold zlD;¤⟨λw ew=>?_,λhl=>?_⟩
 ·rw[List.getElem?_map]at ew;cases ec:z.cps.toList[i]? with
  |none=>rw[ec]at ew;cases ew
  |some c=>
   rw[ec]at ew;have ew':=Option.some.inj ew;subst ew';have hi:i<z.cps.size:=by
    have:=(List.getElem?_eq_some_iff.mp ec).1;simpa using this
   ¤⟨hi,λx H' ⟨e1,c',e2,e3⟩=>?_⟩;subst e1 e3;have:c'=c:=by
    have q:z.cps.toList[i]? =some c':=by rw[←e2];simp
    rw[ec]at q;§(Option.some.inj q).symm
   subst this;§⟨.refl,hS, .str _⟩
 ·show i=z.cps.size;simpa using hl
þ zaN{l:Expr}{tl:WE}(hl:JE X l tl):JI X tg l (wIv tl):=λE hE=>
 (zyS (hl E hE)).mono λσ H R ⟨σW,S,QW,hσ,hS,ht,hR⟩=>⟨σW,S,_,hσ,hS,ht,λw S1 v H1 e1 r1 hS1 h1=>by
  cases r1 with
  |tup f hs=>§.inr (.inl ⟨_,rfl,⟨_, .of f⟩,hR _ _ S1 _ H1 e1 hS1 trivial (zzL f hs) h1⟩)
  |ref a=>
   ø⟨ws,ea,h⟩:=zbr h1;ø⟨vs,f,hs⟩:=hS1 a _ ea;¤.inl ⟨_,rfl,⟨_, .of f⟩,hR _ _ S1 _ H1 e1 hS1 ea (zlU λS2 H2 e2 hS2 g2=>?_) h⟩;ø⟨vs2,f2,hs2⟩:=hS2 a _ g2;§⟨vs2, .of f2,hs2⟩
  |scr f=>§.inl ⟨_,rfl,⟨_,f.sq⟩,hR _ _ S1 _ H1 e1 hS1 trivial (zlU λS2 H2 e2 hS2 g2=>⟨_,(e2.fz f).sq,Reps.ofInts _⟩) h1⟩
  |str z=>§.inr (.inr ⟨z,rfl,hR _ _ S1 _ H1 e1 hS1 trivial zxU h1⟩)
  |_=>§h1.elim⟩
ñ def wIl (t:WL):WI:=λE σ S Q=>t E σ S λws S1=>Q ws (λ_=>True) S1
þ zxL{l:Expr}{tl:WL}(hl:JL X l tl):JI X tg l (wIl tl):=λE hE=>
 (zvT (hl E hE)).mono λσ H R ⟨σW,S,QW,hσ,hS,ht,hR⟩=>⟨σW,S,_,hσ,hS,ht,λws S1 vs a H1 e1 fa ea na r1 hS1 h1=>
  ⟨a,rfl,⟨vs, .of ea⟩,hR _ _ S1 _ H1 e1 hS1 trivial (zlU λS2 H2 e2 hS2 g2=>⟨vs, .of (e2.fr a _ ea na).1,r1.ext e2⟩) h1⟩⟩
ñ def zpm (lo:Int) (n:Nat):List W:=(List.range n).map λ(i:Nat)=> .int (lo+(i:Int))
þ zzk{K:Ƒ}{lo:Int}{n:Nat}{H0:Hp}{S0:Sto}:ItW K (Itr lo n) (zpm lo n) (λ_=>True) H0 S0:=λi S H e hS hG=>by
 unfold zpm;¤⟨λw ew=>?_,λhl=>by
  have:i=n:=by simpa using hl
  §Nat.le_of_eq this.symm⟩
 rw[List.getElem?_map]at ew;by_cases hi:i<n
 ·rw[List.getElem?_range hi]at ew;have ew':=Option.some.inj ew;subst ew';¤⟨hi,λx H' ⟨e1,e2⟩=>?_⟩;subst e1 e2;§⟨.refl,hS, .int _⟩
 ·rw[List.getElem?_eq_none (by simpa using hi)]at ew;cases ew
ñ def zvM (t:WA):WI:=λE σ S Q=>t E σ S λws S1=>match ws with
 | [.int j]=>(-(2 ^ 62)≤j∧j<2 ^ 62)∧Q (zpm 0 j.toNat) (λ_=>True) S1
 |_=>False
þ zgo{a:Expr}{ta:WA}{p pos:Pos}(hg:Gl X "range") (hm:X.mg "range" =none) (ha:JA X [a] ta) (hs:starEach [a] X.env=[(false,eval a X.env)]:=by rfl):JI X tg (.Call (.Name "range" p) [a] [] pos) (zvM ta):=λE hE=>
 (zqE hg hm (ha E hE) hs).mono λσ H R ⟨σW,S,QW,hσ,hS,ht,hR⟩=>⟨σW,S,_,hσ,hS,ht,λws S1 vs H1 e1 r1 hS1 h1=>by
  cases r1 with
  |nil=>§h1.elim
  |cons r2 r3=>
   cases r3 with
   |cons _ _=>cases r2<;>§h1.elim
   |nil=>
    cases r2 with
    |int j=>§⟨j,rfl,h1.1.1,h1.1.2,hR _ _ S1 _ H1 e1 hS1 trivial zzk h1.2⟩
    |_=>§h1.elim⟩
end
ñ def zfw:WT:=λ_ _ S Q=>Q true S
ñ def JTs (X:Cx) (ifs:List Expr) (t:WT):Prop:=∀E,Hook X E→PTs X ifs (zwD X.K (t E))
þ zaV{X:Cx}:JTs X [] zfw:=λE hE pins s σ H Q I ⟨σW,S,QW,hσ,hS,ht,hQ⟩=>zxu pins s σ H Q I (hQ true S H .refl hS ht)
þ zxn{X:Cx}{c:Expr}{t:WT}(h:JT X c t):JTs X [c] t:=λE hE=>zvu (h E hE)
ñ def zfp (g:WG) (c:WT) (e:WE) (E:WX) (G:Sto→Prop) (Q:List W→Sto→Prop):List W→List W→WSt→Sto→Prop
 | [],acc,_,S=>Q acc S
 |w::ws,acc,σ,S=>g w σ S λσ1 S1=>c E σ1 S1 λb S2=>if b=true then e E σ1 S2 λy S3=>acc.length<sizeLine∧ ∃S4,Sub S4 S3∧G S4∧zfp g c e E G Q ws (acc++[y]) σ1 S4
   else ∃S4,Sub S4 S2∧G S4∧zfp g c e E G Q ws acc σ1 S4
ñ abbrev noE:WX:=λ_ _ _=>False
þ zmE{X:Cx}(h:X.xe=λ_ _=>False):Hook X noE:=⟨by rw[h];§PassesOwn.never,λ_ _ _ _ _ _ _ _ _ _ _ _ _ _ _ _ _ _ _ _ z=>z.elim,λ_ _ _ _ _ _ _ _ _ _ _ _ _ _ _ _ z=>z.elim⟩
þ PS.nox{X:Cx}{st:Stmt}{t:TS}(h:PS X.nox st t):PS X st t:=λpins s σ H D I hw=>
 wpAny_mono (h pins s σ H D (I.wish _) hw) (λ_ _ q=>q.unwish) λ_ _ z=>False.elim z
ñ def zcm (k:Nat) (fr:List Nat) (q:WI) (g:WG) (c:WT) (e:WE):WL:=λ_ σ S Q=>q noE σ S λws G S1=>zfp g c e noE G Q ws [] (List.replicate k none++fr.map λj=>(σ[j]?).join) S1
þ zpK{K:Ƒ}{H:Hp}{σW:WSt}{σ:St}{k:Nat}{fr:List Nat}(h:RpSt K H σW σ):RpSt K H (List.replicate k none++fr.map λj=>(σW[j]?).join) (zmT σ k fr):=by
 have one:∀j:Nat,RpO K H (σW[j]?).join (σ[j]?).join:=λj=>by
  cases e:σW[j]? with
  |none=>§trivial
  |some w=>
   cases w with
   |none=>§trivial
   |some w=>
    ø⟨v,ev,r⟩:=h.get e;rw[ev];§r
 have go:∀fr:List Nat,RpSt K H (fr.map λj=>(σW[j]?).join) (zhS σ fr):=by
  intro fr
  induction fr with
  |nil=>§.nil
  |cons j fr ih=>§.cons (one j) ih
 unfold zmT
 induction k with
 |zero=>§go fr
 |succ k ih=>§.cons trivial ih
section
variable {X:Cx}{scope:Scope}{N:List Str}{k:Nat}{fr:List Nat}{tg iter elt:Expr}{ifs:List Expr}{pos:Pos}{q:WI}{g:WG}{c:WT}{e:WE}
þ Ext.loose{H H':Hp}(a:∀b xs,H b=some (.tup xs)→H' b=some (.tup xs)) (b:∀c o u,H c=some (.frz o u)→H' c=some (.frz o u)) (d:∀b o,H b=some o→ ∃o',H' b=some o'):Ext H (λ_=>some (.lst [])) H' (λ_=>some (.lst [])):=
 ⟨a,b,(λ_ _ _ g=>nomatch g),d⟩
þ Ext.over{H H':Hp}{S S':Sto}{l:Addr}{o:HO}(e:Ext H S H' S') (h:H l=none):Ext H S (upd H' l o) S':=
 ⟨λb xs q=>by rw[zay (zau q h)];§e.tup b xs q,λb ob u q=>by rw[zay (zau q h)];§e.frz b ob u q,λb ob q z=>by rw[zay (zau q h)];§e.fr b ob q z,λb ob q=>by rw[zay (zau q h)];§e.all b ob q⟩
þ zki (hg:∀s₀ H₀ fp pn,JG (zbK X scope N s₀ H₀ fp pn) tg g) (hc:∀s₀ H₀ fp pn,JTs (zbK X scope N s₀ H₀ fp pn) ifs c) (he:∀s₀ H₀ fp pn,JE (zbK X scope N s₀ H₀ fp pn) elt e)
  {E:WX}(σ:St) (H:Hp) (Q:VK):zAl X.K (zcm k fr q g c e E) σ H Q→ztF X scope N k fr tg ifs elt (zzb X.K (q noE)) σ H Q:=λ⟨σW,S0,QW,hσ,hS,ht,hQ⟩=>by
  ¤⟨σW,S0,_,hσ,hS,ht,λws G S1 J H1 e1 hS1 hG1 hJ h1 l hl=>?_⟩;have upl:∀{H':Hp}{vs us:List V}{S':Sto},H' l=some (.lst vs)→S' l=none→RepS X.K H' S'→Ext H' (λ_=>some (.lst [])) (upd H' l (.lst us)) (λ_=>some (.lst []))∧RepS X.K (upd H' l (.lst us)) S':=λ{H' vs us S'} f n hS'=>by
   have x:Ext H' (λ_=>some (.lst [])) (upd H' l (.lst us)) (λ_=>some (.lst [])):= .loose (λb xs q=>by rw[zay (ztn q f λz=>nomatch z)];§q) (λb o u q=>by rw[zay (ztn q f λz=>nomatch z)];§q) λb o q=>by
    by_cases hb:b=l
    ·subst hb;§⟨_,zaz⟩
    ·§⟨o,by rw[zay hb];§q⟩
   ¤⟨x,λa o q=>(hS' a o q).keep x λu z=>?_⟩;have ha:a≠l:=by rintro rfl;rw[n]at q;cases q
   rw[zay ha];§z
  ¤⟨λi m σ' H'=>∃σW' S' acc vs,Ext H1 S1 H' S'∧H' l=some (.lst vs)∧S' l=none∧Reps X.K H' acc vs∧RpSt X.K H' σW' σ'∧RepS X.K H' S'∧G S'∧m=ws.length - i∧i≤ws.length∧zfp g c e noE G QW (ws.drop i) acc σW' S',
   ⟨ws.length,_,S1,[],[], .new hl,zaz,hS1.free hl, .nil,zpK (hσ.ext (e1.trans (.new (S:=S1) hl))),hS1.new hl,hG1,rfl,Nat.zero_le _,h1⟩,?_⟩
  rintro i m σ' H' ⟨σW',S',acc,vs,e2,f2,n2,ra,hσ2,hS2,hG2,rfl,hi2,h2⟩;ø⟨ji,js⟩:=hJ i S' H' e2 hS2 hG2;by_cases hlt:i<ws.length
  ·ø⟨jgo,jy⟩:=ji ws[i] (List.getElem?_eq_getElem hlt);¤.inr ⟨jgo,λσ'' H''=>∃σW' S' acc vs,Ext H1 S1 H'' S'∧H'' l=some (.lst vs)∧S' l=none∧Reps X.K H'' acc vs∧RpSt X.K H'' σW' σ''∧RepS X.K H'' S'∧G S'∧ws.length - (i+1)=ws.length - (i+1)∧i+1≤ws.length∧zfp g c e noE G QW (ws.drop (i+1)) acc σW' S',
    λσ'' H'' z=>⟨_,¥,z⟩,λx H3 y3=>?_⟩
   ø⟨e3,hS3,r3⟩:=jy x H3 y3;rw[List.drop_eq_getElem_cons hlt]at h2;intro s₀ H₀ fp pn;have hk:Hook (zbK X scope N s₀ H₀ fp pn) noE:=zmE rfl;¤⟨_,_,_,hg s₀ H₀ fp pn noE hk,hc s₀ H₀ fp pn noE hk,he s₀ H₀ fp pn noE hk,?_⟩;¤⟨_,σW',S',_,r3,hσ2.ext e3,hS3,h2,λσW4 S4 σ4 H4 e4 hσ4 hS4 h4=>?_⟩;¤⟨σW4,S4,_,hσ4,hS4,h4,λb S5 H5 e5 hS5 h5=>?_⟩;have e15:Ext H' S' H5 S5:=(e3.trans e4).trans e5;have hσ5:=hσ4.ext e5;ø⟨f5,n5⟩:=e15.fr l _ f2 n2;cases b with
   |false=>
    have h5:∃S4,Sub S4 S5∧G S4∧zfp g c e noE G QW (ws.drop (i+1)) acc σW4 S4:=h5;¤zDj ?_;ø⟨S6,sb,hG6,h6⟩:=h5;have e16:=e15.trans (.drop sb);§⟨σW4,S6,acc,vs,e2.trans e16,f5,(e16.fr l _ f2 n2).2,ra.ext e15,hσ5,hS5.sub sb,hG6,rfl,hlt,h6⟩
   |true=>
    rw[if_pos rfl]at h5;¤zCE ?_;¤⟨σW4,S5,_,hσ5,hS5,h5,λy S6 v H6 e6 r6 hS6 h6=>?_⟩;have e17:=e15.trans e6;ø⟨f6,n6⟩:=e17.fr l _ f2 n2;ø⟨hz,S7,sb,hG7,h7⟩:=h6;ø⟨x6,hS6'⟩:=upl (us:=vs++[v]) f6 n6 hS6;have ra6:Reps X.K H6 (acc++[y]) (vs++[v]):=(ra.ext e17).append (.one r6);¤⟨vs,f6,by rw[←ra.length];§hz,σW4,S7,acc++[y],vs++[v],?_,zaz,((e17.trans (.drop sb)).fr l _ f2 n2).2,ra6.ext x6,(hσ5.ext e6).ext x6,hS6'.sub sb,hG7,rfl,hlt,h7⟩
    §(e2.trans (e17.trans (.drop sb))).over hl
  ·have hll:i=ws.length:=by omega
   rw[List.drop_of_length_le (Nat.le_of_eq hll.symm)]at h2;§.inl ⟨js hll,hQ acc S' vs l H' (e1.trans e2) (e1.free hl) f2 n2 ra hS2 h2⟩
þ zbQ (S:CompSc X.nox scope N k fr) (hi:JI X.nox tg iter q) (hg:∀s₀ H₀ fp pn,JG (zbK X.nox scope N s₀ H₀ fp pn) tg g) (hc:∀s₀ H₀ fp pn,JTs (zbK X.nox scope N s₀ H₀ fp pn) ifs c) (he:∀s₀ H₀ fp pn,JE (zbK X.nox scope N s₀ H₀ fp pn) elt e)
  (hs:∀x,foldedSetIterable iter X.env x=pure x:=by intro _;rfl) (hcl:X.calm=true:=by rfl):JL X (.ListComp elt [⟨tg,iter,ifs,0⟩] scope pos) (zcm k fr q g c e):=λE hE=>
 (PE.nox (zwe rfl hcl S (hi noE (zmE rfl)) hs)).mono (zki (X:=X.nox) hg hc he)
þ zeJ{i:Nat}{x:Str}{pos' spos:Pos}(hN:X.N.Nodup) (hxi:X.N[i]? =some x) (hxl:Loc X.env.scope x) (S:CompSc X.nox scope N k fr) (hi:JI X.nox tg iter q) (hg:∀s₀ H₀ fp pn,JG (zbK X.nox scope N s₀ H₀ fp pn) tg g) (hc:∀s₀ H₀ fp pn,JTs (zbK X.nox scope N s₀ H₀ fp pn) ifs c) (he:∀s₀ H₀ fp pn,JE (zbK X.nox scope N s₀ H₀ fp pn) elt e)
  (hw:swapsWith (.ListComp elt [⟨tg,iter,ifs,0⟩] scope pos) (some (.Name x pos')) spos.line X.env=pure true:=by rfl) (hf:X.fn x=true∨X.env.scope.names.lookup x=some .local:=by first |§.inl rfl |§.inr rfl |assumption)
  (hs:∀x,foldedSetIterable iter X.env x=pure x:=by intro _;rfl) (hcl:X.calm=true:=by rfl):JS X (.Assign [.Name x pos'] (.ListComp elt [⟨tg,iter,ifs,0⟩] scope pos) spos) (wAsg (zdm (zcm k fr q g c e)) (wGN i)):=λE hE=>
 (PS.nox (zwp (X:=X.nox) rfl hcl S (hi noE (zmE rfl)) hN hxi hxl hw hf hs)).mono λD σ H ⟨σW,S0,DW,hσ,hS,ht,hD⟩=>
  zki (X:=X.nox) (E:=E) hg hc he σ H _ ⟨σW,S0,_,hσ,hS,ht,λws S1 vs a H1 e1 fa ea na r1 hS1 h1=>by
   have ex:Ext H S0 H1 (put S1 a (.lst ws)):=⟨e1.tup,e1.frz,λb o q g=>by
    have hb:b≠a:=by rintro rfl;rw[fa]at q;cases q
    rw[zaF hb];§e1.fr b o q g,e1.all⟩
   ¤hD.nx _ (put S1 a (.lst ws)) _ H1 ex ((hσ.ext ex).set (.ref a) i) (λb o q=>?_) (h1 a na);by_cases hb:b=a
   ·subst hb;rw[zag]at q;cases q;§⟨vs,ea,r1⟩
   ·rw[zaF hb]at q;§hS1 b o q⟩
end
ñ def SeqIt (k:Bool) (h:Heap) (it a:Addr) (i:Nat):Prop:=if k=true then h.IsListIter it a i else h.IsTupleIter it a i
ñ def SeqIs (k:Bool) (h:Heap) (a:Addr) (its:Array Value):Prop:=if k=true then h.IsList a its else h.IsTuple a its
section
variable {k:Bool}{h h':Heap}{it a:Addr}{i:Nat}{its:Array Value}
þ SeqIt.at (x:SeqIt k h it a i) (e:∀o,h.get? it=some o→h'.get? it=some o):SeqIt k h' it a i:=by
 cases k with
 |true=>§Heap.IsListIter.at (show h.IsListIter it a i from x) e
 |false=>§Heap.IsTupleIter.at (show h.IsTupleIter it a i from x) e
þ SeqIs.at (x:SeqIs k h a its) (e:∀o,h.get? a=some o→h'.get? a=some o):SeqIs k h' a its:=by
 cases k with
 |true=>§Heap.IsList.at (show h.IsList a its from x) e
 |false=>ø⟨o,ho,r⟩:=(show h.IsTuple a its from x);§⟨o,e o ho,r⟩
þ SeqIt.ob (x:SeqIt k h it a i):∃o vs,h.get? it=some o∧o.data= .fields vs:=by
 cases k with
 |true=>ø⟨o,ho,_,hd⟩:=(show h.IsListIter it a i from x);§⟨o,_,ho,hd⟩
 |false=>ø⟨o,ho,_,hd⟩:=(show h.IsTupleIter it a i from x);§⟨o,_,ho,hd⟩
end
section
variable {prog:Program}{w:World}{A:Around}{E:Value→Shared→Prop}{s:Shared}
þ zif{it t:Addr}{i:Nat}{its:Array Value}{x:Value}{Q:Value→Shared→Prop}(hit:s.heap.IsTupleIter it t i) (ht:s.heap.IsTuple t its) (hx:its[i]? =some x)
  (hQ:∀g,g.IsTupleIter it t (i+1)→Heap.SameBut it s.heap g→Q x { s with heap:=g }):wpAny (model prog w) A (Builtin.SmallTypes.nextOf (.ref it)) Q E s:=by
 ø⟨o,ho,hc,hd⟩:=id hit;ø⟨ot,hot,_,nt,hdt⟩:=ht;unfold Builtin.SmallTypes.nextOf;¤wpAny_bind (wpAny_callSpecial?_slot (name:=Str.ofString "__next__") hit.typeIs PySem.F.slot_tuple_iterator_next (wpAny_call_entry PySem.F.slot_tuple_iterator_next hit.typeIs PySem.F.entry_tuple_iterator_next ?_ (PySem.F.args_tuple_iterator_next_1 _)));show wpAny _ _ (field (.ref it) 0 >>= _) _ _ s;¤wpAny_bind (wpAny_field ho hd (x:= .ref t) rfl ?_);show wpAny _ _ (if(Value.ref t == Value.none)=true then _ else _) _ _ s;rw[if_neg (show ¬((Value.ref t == Value.none)=true) from Bool.false_ne_true)];show wpAny _ _ (field (.ref it) 1 >>= _) _ _ s;¤wpAny_bind (wpAny_field ho hd (x:= .int i 0) rfl ?_);show wpAny _ _ (seqItems? (.ref t) >>= _) _ _ s;¤wpAny_bind (wpAny_seqItems hot hdt ?_);ŝ[Int.toNat_natCast,hx];¤wpAny_bind (wpAny_setField ho hd ¢ (wpAny_pure ⟨x,rfl,wpAny_pure (hQ _ ?_ (Heap.SameBut.update ..))⟩));§⟨_,Heap.get?_update_self _ ho (Obj.isFreed_of_fields (Obj.data_mapFields hd _)),(Obj.cls_mapFields ..).trans hc,by rw[Obj.data_mapFields hd];simp [rawInt]⟩
þ zix{it t:Addr}{i:Nat}{its:Array Value}{Q:Value→Shared→Prop}(hh:A.handled=none) (hit:s.heap.IsTupleIter it t i) (ht:s.heap.IsTuple t its) (hx:its[i]? =none)
  (hE:∀g e,Heap.ExtBut it s.heap g→(∃o,g.get? e=some o∧o.cls= .type "StopIteration")→E (.ref e) { s with heap:=g }):wpAny (model prog w) A (Builtin.SmallTypes.nextOf (.ref it)) Q E s:=by
 ø⟨o,ho,hc,hd⟩:=id hit;ø⟨ot,hot,_,nt,hdt⟩:=ht;unfold Builtin.SmallTypes.nextOf;¤wpAny_bind (wpAny_callSpecial?_slot (name:=Str.ofString "__next__") hit.typeIs PySem.F.slot_tuple_iterator_next (wpAny_call_entry PySem.F.slot_tuple_iterator_next hit.typeIs PySem.F.entry_tuple_iterator_next ?_ (PySem.F.args_tuple_iterator_next_1 _)));show wpAny _ _ (field (.ref it) 0 >>= _) _ _ s;¤wpAny_bind (wpAny_field ho hd (x:= .ref t) rfl ?_);show wpAny _ _ (if(Value.ref t == Value.none)=true then _ else _) _ _ s;rw[if_neg (show ¬((Value.ref t == Value.none)=true) from Bool.false_ne_true)];show wpAny _ _ (field (.ref it) 1 >>= _) _ _ s;¤wpAny_bind (wpAny_field ho hd (x:= .int i 0) rfl ?_);show wpAny _ _ (seqItems? (.ref t) >>= _) _ _ s;¤wpAny_bind (wpAny_seqItems hot hdt ?_);ŝ[Int.toNat_natCast,hx];¤wpAny_bind (wpAny_rule (wpAny_bind (wpAny_setField ho hd ¢ ?_)));show wpAny _ _ (newExc (.type "StopIteration") [] >>= _) _ _ _;¤wpAny_bind ?_;ŝ[newExc,newTuple];¤wpAny_bind (wpAny_newObj_type ?_ (by size_fits));¤wpAny_bind (m:=firstArgMember _ _) (wpAny_of_eq (a:=Value.none) (by first |rfl | (ŝ[firstArgMember];rfl)) ?_);¤wpAny_newObj_type ?_ (by size_fits);ŝ[raiseNew];¤wpAny_bind (wpAny_handled ?_)
 first |rw[show A.in1.handled=none from hh] |rw[hh]
 ¤wpAny_bind (wpAny_pure (wpAny_throw ?_));§hE _ _ (((Heap.SameBut.update ..).extBut.push _).push _) ⟨_,Heap.get?_push_size _ rfl,rfl⟩
þ zgc{k:Bool}{it t:Addr}{i:Nat}{its:Array Value}{x:Value}{Q:Value→Shared→Prop}(hit:SeqIt k s.heap it t i) (ht:SeqIs k s.heap t its) (hx:its[i]? =some x)
  (hQ:∀g,SeqIt k g it t (i+1)→Heap.SameBut it s.heap g→Q x { s with heap:=g }):wpAny (model prog w) A (Builtin.SmallTypes.nextOf (.ref it)) Q E s:=by
 cases k with
 |true=>§wpAny_nextOf_list_item hit ht hx hQ
 |false=>§zif hit ht hx hQ
þ zjH{k:Bool}{it t:Addr}{i:Nat}{its:Array Value}{Q:Value→Shared→Prop}(hh:A.handled=none) (hit:SeqIt k s.heap it t i) (ht:SeqIs k s.heap t its) (hx:its[i]? =none)
  (hE:∀g e,Heap.ExtBut it s.heap g→(∃o,g.get? e=some o∧o.cls= .type "StopIteration")→E (.ref e) { s with heap:=g }):wpAny (model prog w) A (Builtin.SmallTypes.nextOf (.ref it)) Q E s:=by
 cases k with
 |true=>§wpAny_nextOf_list_end hh hit ht hx hE
 |false=>§zix hh hit ht hx hE
þ zqU{k:Bool}{e it l:Addr}{i:Nat}{its:Array Value}{x old:Value}{Q:Option Value→Shared→Prop}
  (he:IsEnum s.heap e it i old) (hit:SeqIt k s.heap it l i) (hl:SeqIs k s.heap l its) (hx:its[i]? =some x) (hne:e≠it)
  (hQ:∀g,IsEnumOut g e it ((i:Int)+1) x s.heap.objs.size→SeqIt k g it l (i+1)→g.get? s.heap.objs.size=some { cls:= .type "tuple",data:= .seq #[.int i s.toks,x] }→g.objs.size=s.heap.objs.size+1→
   (∀b o,b≠e→b≠it→s.heap.get? b=some o→g.get? b=some o)→Q (some (.ref s.heap.objs.size)) { s with heap:=g,toks:=s.toks+1 }):wpAny (model prog w) A (pyNext (.ref e)) Q E s:=by
 have hT:s.TypeIs (.ref e) "enumerate" :=⟨_,he,rfl⟩;unfold pyNext;¤wpAny_bind (wpAny_attempt (wpAny_callSpecial?_slot (name:=Str.ofString "__next__") hT PySem.F.slot_enumerate_next (wpAny_call_entry PySem.F.slot_enumerate_next hT PySem.F.entry_enumerate_next ?_ (PySem.F.args_enumerate_next_1 _))));ø⟨hp,g,d,tk,os⟩:=s;show wpAny _ _ (field (.ref e) 2 >>= _) _ _ _;¤wpAny_bind (wpAny_field he rfl (x:= .ref it) rfl ?_);¤wpAny_bind (zgc hit hl hx λg1 hit1 hs1=>?_);replace hs1:Heap.SameBut it hp g1:=hs1;have he1:IsEnum g1 e it i old:=(hs1.2 e hne).trans he;show wpAny _ _ (field (.ref e) 3 >>= _) _ _ ⟨g1,g,d,tk,os⟩;¤wpAny_bind (wpAny_field he1 rfl (x:=rawInt i) rfl ?_);show wpAny _ _ (field (.ref e) 4 >>= _) _ _ ⟨g1,g,d,tk,os⟩;¤wpAny_bind (wpAny_field he1 rfl (x:= .none) rfl ?_);show wpAny _ _ (mkInt i >>= _) _ _ ⟨g1,g,d,tk,os⟩;¤wpAny_bind (wpAny_mkInt ?_);show wpAny _ _ (setField (.ref e) 3 (rawInt ((i:Int)+1)) >>= _) _ _ ⟨g1,g,d,tk+1,os⟩;¤wpAny_bind (wpAny_setField_rec he1 ¢ λg2 he2 hs2=>?_);replace hs2:Heap.SameBut e g1 g2:=hs2;replace he2:IsEnum g2 e it ((i:Int)+1) old:=he2;show wpAny _ _ (setField (.ref e) 4 .none >>= _) _ _ ⟨g2,g,d,tk+1,os⟩;¤wpAny_bind (wpAny_setField_rec he2 ¢ λg3 he3 hs3=>?_);replace hs3:Heap.SameBut e g2 g3:=hs3;replace he3:IsEnum g3 e it ((i:Int)+1) old:=he3;show wpAny _ _ (newTuple [.int i tk,x] >>= _) _ _ ⟨g3,g,d,tk+1,os⟩;¤wpAny_bind (wpAny_newTuple ?_);have he4:IsEnum (g3.push { cls:= .type "tuple",data:= .seq #[.int i tk,x] }) e it ((i:Int)+1) old:=Heap.get?_push_of_some _ he3;generalize hg4:g3.push { cls:= .type "tuple",data:= .seq #[.int i tk,x] }=g4 at he4;have hsz:g3.objs.size=hp.objs.size:=by rw[hs3.1,hs2.1,hs1.1]
 have hel:e<hp.objs.size:=Heap.lt_size he;have ht4:g4.get? hp.objs.size=some { cls:= .type "tuple",data:= .seq #[.int i tk,x] }:=by rw[←hg4,←hsz];§Heap.get?_push_size _ rfl
 have hz4:g4.objs.size=hp.objs.size+1:=by rw[←hg4,Heap.size_push,hsz]
 have hk4:∀b o,b≠e→b≠it→hp.get? b=some o→g4.get? b=some o:=λb o hbe hbi hb=>by rw[←hg4];§Heap.get?_push_of_some _ (hs3.extBut b o hbe (hs2.extBut b o hbe (hs1.extBut b o hbi hb)))
 have hit4:SeqIt k g4 it l (i+1):=by rw[←hg4];§hit1.at λo ho=>Heap.get?_push_of_some _ (hs3.extBut it o (Ne.symm hne) (hs2.extBut it o (Ne.symm hne) ho))
 show wpAny _ _ (Builtin.SmallTypes.ownedTupleIsFree (.ref e) >>= _) _ _ ⟨g4,g,d,tk+1,os⟩;rw[hsz];clear hg4 he3 hs3 he2 hs2 he1 hs1 hit1 hsz g3 g2 g1;¤wpAny_bind ?_;unfold Builtin.SmallTypes.ownedTupleIsFree;¤wpAny_bind (wpAny_field he4 rfl (x:= .none) rfl (wpAny_pure ?_));ŝ[if_true];¤wpAny_bind (wpAny_rule ?_);¤wpAny_bind (wpAny_field he4 rfl (x:=old) rfl ?_);¤wpAny_bind (wpAny_setField_rec he4 ¢ λg5 he5 hs5=>?_);replace hs5:Heap.SameBut e g4 g5:=hs5;replace he5:IsEnum g5 e it ((i:Int)+1) x:=he5;show wpAny _ _ (Builtin.SmallTypes.ownedTupleHandOut (.ref e) (.ref hp.objs.size) >>= _) _ _ ⟨g5,g,d,tk+1,os⟩;¤wpAny_bind ?_;unfold Builtin.SmallTypes.ownedTupleHandOut;¤wpAny_bind (wpAny_setField_rec he5 ¢ λg6 he6 hs6=>?_);replace hs6:Heap.SameBut e g5 g6:=hs6;replace he6:IsEnumOut g6 e it ((i:Int)+1) x hp.objs.size:=he6;¤wpAny_setField_rec he6 ¢ λg7 he7 hs7=>?_;replace hs7:Heap.SameBut e g6 g7:=hs7;replace he7:IsEnumOut g7 e it ((i:Int)+1) x hp.objs.size:=he7;¤wpAny_bind (wpAny_letGo (wpAny_pure ⟨_,rfl,wpAny_pure (hQ g7 he7 ?_ ?_ ?_ ?_)⟩))
 ·§hit4.at λo ho=>hs7.extBut it o (Ne.symm hne) (hs6.extBut it o (Ne.symm hne) (hs5.extBut it o (Ne.symm hne) ho))
 ·§hs7.extBut _ _ (Nat.ne_of_gt hel) (hs6.extBut _ _ (Nat.ne_of_gt hel) (hs5.extBut _ _ (Nat.ne_of_gt hel) ht4))
 ·rw[hs7.1,hs6.1,hs5.1,hz4]
 ·§λb o hbe hbi hb=>hs7.extBut b o hbe (hs6.extBut b o hbe (hs5.extBut b o hbe (hk4 b o hbe hbi hb)))
þ ztK{k:Bool}{e it l:Addr}{i:Nat}{its:Array Value}{old:Value}{Q:Option Value→Shared→Prop}(hh:A.handled=none)
  (he:IsEnum s.heap e it i old) (hit:SeqIt k s.heap it l i) (hl:SeqIs k s.heap l its) (hx:its[i]? =none) (hQ:∀g,Heap.ExtBut it s.heap g→Q none { s with heap:=g }):wpAny (model prog w) A (pyNext (.ref e)) Q E s:=by
 have hT:s.TypeIs (.ref e) "enumerate" :=⟨_,he,rfl⟩;unfold pyNext;¤wpAny_bind (wpAny_attempt (wpAny_callSpecial?_slot (name:=Str.ofString "__next__") hT PySem.F.slot_enumerate_next (wpAny_call_entry PySem.F.slot_enumerate_next hT PySem.F.entry_enumerate_next ?_ (PySem.F.args_enumerate_next_1 _))));show wpAny _ _ (field (.ref e) 2 >>= _) _ _ _;¤wpAny_bind (wpAny_field he rfl (x:= .ref it) rfl ?_);¤wpAny_bind (zjH hh hit hl hx λg x he' hx'=>?_);ø⟨o,ho,hc⟩:=hx';¤wpAny_bind (wpAny_isInstance (T:= "StopIteration") (b:=true) ⟨o,ho,hc⟩ isSubtype_stop ?_);§wpAny_pure (hQ _ he')
end
ñ def zeQ (k:Bool) (a:Addr):Obj:={ cls:= .type (if k=true then "list_iterator" else "tuple_iterator"),data:= .fields #[.ref a, .int 0 0] }
þ zjN{k:Bool}{h:Heap}{it a:Addr}(e:h.get? it=some (zeQ k a)):SeqIt k h it a 0:=by
 cases k with
 |true=>§⟨_,e,rfl,rfl⟩
 |false=>§⟨_,e,rfl,rfl⟩
þ zgF{k:Bool}{a:Addr}:(zeQ k a).isFreed=false:=by cases k<;>rfl
section
variable {prog:Program}{w:World}{A:Around}{E:Value→Shared→Prop}{s:Shared}
þ zjq{k:Bool}{a:Addr}{its:Array Value}{Q:Value→Shared→Prop}(ha:SeqIs k s.heap a its) (hQ:Q (.ref s.heap.objs.size) { s with heap:=s.heap.push (zeQ k a) }):wpAny (model prog w) A (pyIter (.ref a)) Q E s:=by
 cases k with
 |true=>§wpAny_pyIter_list ha hQ
 |false=>§wpAny_pyIter_tuple ha hQ
end
þ SeqIs.push{k:Bool}{h:Heap}{a:Addr}{its:Array Value}(x:SeqIs k h a its) (o:Obj):SeqIs k (h.push o) a its:=x.at λ_ e=>Heap.get?_push_of_some _ e
þ zpD{k:Bool}(l:Addr) (its:Array Value) :
  PySem.Meets (Builtin.«enumerate.__new__» ⟨[.type "enumerate", .ref l],[]⟩) (λ_ R s=>SeqIs k s.heap l its∧
   R (.ok (.ret (.ref (s.heap.push (zeQ k l)).objs.size))) { s with heap:=(s.heap.push (zeQ k l)).push { cls:= .type "enumerate",data:= .fields #[.none, .bool false, .ref s.heap.objs.size,rawInt 0, .none, .none] } }):=
 .of_wp λprog w A R s h=>by
  ø⟨hp,g,d,tk,os⟩:=s;ø⟨hl,h⟩:=h;have hsub:=sub_enumerate;have hL:SeqIs k (Shared.heap ⟨hp,g,d,tk,os⟩) l its:=hl;have fin:∀{A:Around}{E:Value→Shared→Prop}{Q:Value→Shared→Prop},Q (.ref hp.objs.size) ⟨hp.push (zeQ k l),g,d,tk,os⟩→wpAny (model prog w) A (pyIter (.ref l)) Q E ⟨hp,g,d,tk,os⟩:=λq=>zjq hL q
  wp_walk
  ¤wpAny_stack_any λst=>wpAny_pure ?_;split
  ·rename_i c _ _ _ _ _;cases(c == Value.type "enumerate")
   ·wp_walk using fin
    §⟨_,rfl,h⟩
   ·wp_walk using fin
    §⟨_,rfl,h⟩
  ·wp_walk using fin
   §⟨_,rfl,h⟩
section
variable {prog:Program}{w:World}{A:Around}{E:Value→Shared→Prop}{s:Shared}
þ zrR{k:Bool}{l:Addr}{its:Array Value}{Q:Value→Shared→Prop}(hL:SeqIs k s.heap l its)
  (h:∀g,IsEnum g (s.heap.objs.size+1) s.heap.objs.size 0 .none→SeqIt k g s.heap.objs.size l 0→g.objs.size=s.heap.objs.size+2→(∀b o,s.heap.get? b=some o→g.get? b=some o)→Q (.ref (s.heap.objs.size+1)) { s with heap:=g }) :
  wpAny (model prog w) A (call (.type "enumerate") [.ref l]) Q E s:=by
 ¤callType_new PySem.F.called_enumerate £ (PySem.F.typeCall_enumerate_1 _) (PySem.F.newCall_enumerate_1 _) (λobj=>PySem.F.args_object_init_2 obj _) PySem.F.entry_enumerate_new (zpD (k:=k) l its) ⟨hL,?_⟩;have hz:(s.heap.push (zeQ k l)).objs.size=s.heap.objs.size+1:=Heap.size_push ..;show _∧_;rw[hz];have he:IsEnum ((s.heap.push (zeQ k l)).push { cls:= .type "enumerate",data:= .fields #[.none, .bool false, .ref s.heap.objs.size,rawInt 0, .none, .none] }) (s.heap.objs.size+1) s.heap.objs.size 0 .none:=by
  have:=Heap.get?_push_size (s.heap.push (zeQ k l)) (o:={ cls:= .type "enumerate",data:= .fields #[.none, .bool false, .ref s.heap.objs.size,rawInt 0, .none, .none] }) rfl;rw[hz]at this;§this
 §⟨⟨_,he,rfl⟩,h _ he (zjN (Heap.get?_push_of_some _ (Heap.get?_push_size _ zgF))) (by rw[Heap.size_push,hz]) λb o x=>Heap.get?_push_of_some _ (Heap.get?_push_of_some _ x)⟩
end
section
variable {X:Cx}{pins:List (Addr×Obj)}{σ:St}{H:Hp}{s:Shared}{g:Heap}{fp:List Addr}
þ Inv.turnNew{p:Addr}{o:HO}{t':Nat}(I:Inv X pins σ H s) (hp:s.heap.objs.size≤p) (k:∀b u,b∉fp→s.heap.get? b=some u→g.get? b=some u) (hf:∀b∈fp,zkd X pins H b) (new:ObjOk X.prog X.w (upd H p o) g p o) :
  Inv X pins σ (upd H p o) { s with heap:=g,toks:=t' }:=by
 have hn:=I.hok.fresh hp;have lt:∀{b u},s.heap.get? b=some u→b≠p:=λe=>Nat.ne_of_lt (Nat.lt_of_lt_of_le (Heap.lt_size e) hp);have nfp:∀{b u},H b=some u→b∉fp:=λe z=>by rw[(hf _ z).1]at e;cases e
 ¤I.call (g':=s.gens) (d':=s.drawn) (ch:=fp) ⟨λb u e _ _ hx=>k b u hx e,λb u e _ _ hx=>⟨u.slots,k b u hx e⟩,λb u e n _=>by rw[zay (lt e)];§n,λb u e hx=>⟨u,k b u hx e⟩,
  λb xs e=>by rw[zay (zau e hn)];§e,λb u xs e=>by rw[zay (zau e hn)];§e,λb ps e=>⟨#[],by rw[zay (zau e hn),e];simp⟩⟩ (λb u e=>?_) I.bare λb hb=>⟨(hf b hb).2.2.2.1,(hf b hb).2.1,(hf b hb).2.2.2.2.1,(hf b hb).2.2.2.2.2⟩
 by_cases hb:b=p
 ·subst hb;rw[zaz]at e;cases e;§new
 ·rw[zay hb]at e;¤(I.hok b u e).stay (λc v hc q=>k c v ?_ q) (λc q=>by rw[zay (zau q hn)];§q) λc xs q=>by rw[zay (zau q hn)];§q
  rcases hc with rfl |hc
  ·§nfp e
  ·§nfp hc
þ Inv.turnedL{t':Nat}(I:Inv X pins σ H s) (k:∀b u,b∉fp→s.heap.get? b=some u→g.get? b=some u) (hf:∀b∈fp,zkd X pins H b):Inv X pins σ H { s with heap:=g,toks:=t' }:=by
 have nfp:∀{b u},H b=some u→b∉fp:=λe z=>by rw[(hf _ z).1]at e;cases e
 ¤I.call (g':=s.gens) (d':=s.drawn) (ch:=fp) ⟨λb u e _ _ hx=>k b u hx e,λb u e _ _ hx=>⟨u.slots,k b u hx e⟩,λb u e n _=>n,λb u e hx=>⟨u,k b u hx e⟩,
  λb xs e=>e,λb u xs e=>e,λb ps e=>⟨#[],by rw[e];simp⟩⟩ (λb u e=>?_) I.bare λb hb=>⟨(hf b hb).2.2.2.1,(hf b hb).2.1,(hf b hb).2.2.2.2.1,(hf b hb).2.2.2.2.2⟩
 ¤(I.hok b u e).stay (λc v hc q=>k c v ?_ q) (λc q=>q) λc xs q=>q;rcases hc with rfl |hc
 ·§nfp e
 ·§nfp hc
ñ def SqK (k:Bool) (K:Ƒ) (H:Hp) (a:Addr) (xs:List V):Prop:=if k=true then SqL K H a xs else SqT K H a xs
þ Inv.seq{k:Bool}{a:Addr}{xs:List V}(I:Inv X pins σ H s) (h:SqK k X.K H a xs):∃its:List Value,Vals xs its∧SeqIs k s.heap a its.toArray∧xs.length≤sizeLine:=by
 cases k with
 |true=>ø⟨its,r,p,z⟩:=I.list h;§⟨its,r,p.isList,z⟩
 |false=>ø⟨its,r,p,z⟩:=I.tuple h;§⟨its,r,p,z⟩
þ Inv.seq_inj{k:Bool}{a:Addr}{xs ys:List V}(I:Inv X pins σ H s) (h:SqK k X.K H a xs) (h':SqK k X.K H a ys):xs=ys:=by
 cases k with
 |true=>§I.list_inj h h'
 |false=>§I.tuple_inj h h'
end
ñ def Ite (k:Bool) (K:Ƒ) (a:Addr):It:=
 ⟨λi H=>∃xs x,SqK k K H a xs∧xs[i]? =some x,λi H v H'=>∃p x,H p=none∧v= .ref p∧H'=upd H p (.tup [.int i,x])∧ ∀xs,SqK k K H a xs→xs[i]? =some x,λi H=>∃xs,SqK k K H a xs∧xs.length≤i⟩
þ zsu{P:Program}{w:World}{K:Ƒ}{es:List Expr}{x1:Nat}{pos:Pos}(k:Bool) (a e it:Addr) (hne:e≠it):Turn P w K (.Tuple es x1 pos) (Ite k K a) [e,it] e (λi h=>(∃old,IsEnum h e it (i:Nat) old)∧SeqIt k h it a i) where
  mem:=by simp
  obj:=λi h ⟨⟨old,he⟩,hit⟩ b hb=>by
    rcases List.mem_cons.mp hb with rfl |hb
    · §⟨_,he,λv z=>by cases z⟩
    · have q:b=it:=by simpa using hb
      subst q;ø⟨o,vs,e,d⟩:=hit.ob;§⟨o,e,λv z=>by rw[d]at z;cases z⟩
  keep:=λi h h' ⟨⟨old,he⟩,hit⟩ kk=>⟨⟨old,kk e ¢ _ he⟩,hit.at λo q=>kk it ¢ o q⟩
  item:=by
    intro X hP hw hK hc i pins s σ H E I hf st hg;subst hP hw hK;ø⟨xs,x,hq,hx⟩:=hg;ø⟨⟨old,he⟩,hit⟩:=st;ø⟨its,rv,p,hz⟩:=I.seq hq;ø⟨u,hu,ru⟩:=rv.get hx;¤zqU he hit p (x:=u) (by simpa using hu) hne λg ho hit' ht hz' kk=>⟨_,rfl,?_⟩;¤wpAny_letOwnedTupleGo_enum ho λg2 he2 hs2=>?_;have hlt:s.heap.objs.size≠e:=Nat.ne_of_gt (Heap.lt_size he);have kk2:∀b o,b∉ [e,it]→s.heap.get? b=some o→g2.get? b=some o:=λb o hb q=>by
      have h1:b≠e:=λz=>hb (by simp [z]);have h2:b≠it:=λz=>hb (by simp [z]);§(hs2.2 b h1).trans (kk b o h1 h2 q)
    have hn:=I.hok.fresh (Nat.le_refl s.heap.objs.size);have ht2:g2.get? s.heap.objs.size=some { cls:= .type "tuple",data:= .seq #[.int i s.toks,u] }:=(hs2.2 _ hlt).trans ht;¤⟨.ref s.heap.objs.size,upd H s.heap.objs.size (.tup [.int i,x]),I.turnNew (fp:=[e,it]) (t':=s.toks+1) (Nat.le_refl _) kk2 hf ⟨by show 2≤sizeLine;rw[sizeLine_eq];decide,[.int i s.toks,u], .cons ⟨_,rfl⟩ (.cons ru .nil),⟨_,ht2,rfl,_,rfl⟩⟩,rfl,
      ⟨_,x,hn,rfl,rfl,λys hy=>by rw[I.seq_inj hy hq];§hx⟩,⟨⟨u,by simpa using he2⟩,hit'.at λo q=>(hs2.2 it (Ne.symm hne)).trans q⟩,λb hb=>?_⟩
    have hb':=(hf b hb).1;have:b≠s.heap.objs.size:=by
      rcases List.mem_cons.mp hb with rfl |hb
      · §Ne.symm hlt
      · have q:b=it:=by simpa using hb
        subst q;ø⟨o,vs,e,d⟩:=hit.ob;§Nat.ne_of_lt (Heap.lt_size e)
    rw[zay this];§hb'
  done:=by
    intro X hP hw hK hc i pins s σ H E I hf st hg;subst hP hw hK;ø⟨xs,hq,hx⟩:=hg;ø⟨⟨old,he⟩,hit⟩:=st;ø⟨its,rv,p,hz⟩:=I.seq hq;have hl:=rv.length;§ztK (I.ok.hd hc) he hit p (by simp;omega) λg eb=>⟨rfl,I.turnedL (fp:=[e,it]) (t':=s.toks) (λb o hb q=>eb b o (λz=>hb (by simp [z])) q) hf⟩
  self:=λA i s Q E ⟨⟨old,he⟩,hit⟩ h=>wpAny_pyIter_enum he h
section
variable {X:Cx}{es:List Expr}{x1:Nat}{tpos:Pos}
ñ def zBf (K:Ƒ) (ta:TA):TI:=λσ H R=>ta σ H λvs H1=>∃k a xs,vs=[.ref a]∧SqK k K H1 a xs∧R (Ite k K a) H1
þ zwN{a:Expr}{ta:TA}{p pos:Pos}(hg:Gl X "enumerate") (hm:X.mg "enumerate" =none) (ha:PA X [a] ta) (hs:starEach [a] X.env=[(false,eval a X.env)]:=by rfl):PI X (.Tuple es x1 tpos) (.Call (.Name "enumerate" p) [a] [] pos) (zBf X.K ta):=by
 intro pins s σ H R I h;¤Call_ (zim I hg hm boot_enumerate (PyProof.Rows.callWith_type1 (thn (ha pos pins s σ H _ I h) λus s1 ⟨vs,H1,I1,r1,q1⟩=>?_) hs rfl));ø⟨k,a,xs,e,hq,q⟩:=q1;subst e;cases r1 with
 |cons r rr=>
  cases rr;cases(show _=Value.ref a from r);ø⟨its,rv,pl,hz⟩:=I1.seq hq;¤zrR pl λg he hit hz' kk=>wpAny_pyIter_enum he ?_;have I2:Inv X pins σ H1 { s1 with heap:=g }:=I1.kept (t':=s1.toks) kk;¤⟨s1.heap.objs.size+1,[s1.heap.objs.size+1,s1.heap.objs.size],_,_,H1,rfl,I2,zsu k a _ _ (Nat.succ_ne_self _),⟨⟨.none,he⟩,hit⟩,λb hb=>?_,q⟩;have hb':s1.heap.objs.size≤b:=by
   rcases List.mem_cons.mp hb with rfl |hb
   ·§Nat.le_succ _
   ·have q:b=s1.heap.objs.size:=by simpa using hb
    §Nat.le_of_eq q.symm
  §I1.fpOk hb' (I1.hok.fresh hb')
ñ def ziQ:Nat→List W→List W
 |_,[]=>[]
 |n,w::ws=> .tup [.int n,w]::ziQ (n+1) ws
þ zob:∀{ws:List W}{n i:Nat}{u:W},(ziQ n ws)[i]? =some u→ ∃w,ws[i]? =some w∧u= .tup [.int ((n+i:Nat):Int),w]
 | [],_,_,_,h=>by simp [ziQ]at h
 |w::ws,n,0,u,h=>by
  simp [ziQ]at h;§⟨w,rfl,by rw[←h];rfl⟩
 |w::ws,n,i+1,u,h=>by
  ø⟨w',e,q⟩:=zob (ws:=ws) (n:=n+1) (i:=i) (u:=u) (by simpa [ziQ]using h);¤⟨w',by simpa using e,?_⟩
  rw[q,show n+1+i=n+(i+1) by omega]
þ znT:∀{ws:List W}{n:Nat},(ziQ n ws).length=ws.length
 | [],_=>rfl
 |w::ws,n=>by simp [ziQ,znT (ws:=ws)]
þ zwh{K:Ƒ}{k:Bool}{a:Addr}{ws:List W}{G:Sto→Prop}{H0:Hp}{S0:Sto}(h:∀S H,Ext H0 S0 H S→RepS K H S→G S→ ∃vs,SqK k K H a vs∧Reps K H ws vs):ItW K (Ite k K a) (ziQ 0 ws) G H0 S0:=λi S H e hS hG=>by
 ø⟨vs,hq,r⟩:=h S H e hS hG;¤⟨λu eu=>?_,λhl=>⟨vs,hq,by rw[←r.length,hl,znT];§Nat.le_refl _⟩⟩
 ø⟨w,ew,rfl⟩:=zob eu;ø⟨v,ev,rv⟩:=r.get ew;¤⟨⟨vs,v,hq,ev⟩,λx H' ⟨p,y,hp,e1,e2,e3⟩=>?_⟩;subst e1 e2;have e4:=e3 vs hq;rw[ev]at e4;cases e4;rw[Nat.zero_add];§⟨.new hp,hS.new hp, .tup zaz (.cons (.int _) (.cons (rv.ext (.new (S:=S) hp)) .nil))⟩
ñ def zpN:W→Sto→(List W→(Sto→Prop)→Prop)→Prop
 | .tup ws,_,Q=>Q ws λ_=>True
 | .ref a,S,Q=>zcY S a λws=>Q ws λS'=>S' a=some (.lst ws)
 | .scr ns,_,Q=>Q (ns.map W.int) λ_=>True
 |_,_,_=>False
þ zwJ{K:Ƒ}{H:Hp}{S:Sto}{w:W}{v:V}{Q:List W→(Sto→Prop)→Prop}(r:Rep K H w v) (hS:RepS K H S) (h:zpN w S Q) :
  ∃k a ws G,v= .ref a∧G S∧(∀S' H',Ext H S H' S'→RepS K H' S'→G S'→ ∃vs,SqK k K H' a vs∧Reps K H' ws vs)∧Q ws G:=by
 cases r with
 |tup f hs=>§⟨false,_,_,_,rfl,trivial,λS' H' e hS' _=>⟨_, .of (e.tup _ _ f),hs.ext e⟩,h⟩
 |ref a=>
  ø⟨ws,ea,h⟩:=zbr h;§⟨true,_,ws,_,rfl,ea,λS' H' e hS' g=>by
   ø⟨vs,f,hs⟩:=hS' a _ g;§⟨vs, .of f,hs⟩,h⟩
 |scr f=>§⟨true,_,_,_,rfl,trivial,λS' H' e hS' _=>⟨_,(e.fz f).sq,Reps.ofInts _⟩,h⟩
 |_=>§h.elim
ñ def zqL (t:WE):WI:=λE σ S Q=>t E σ S λw S1=>zpN w S1 λws G=>Q (ziQ 0 ws) G S1
þ zmv{a:Expr}{ta:WE}{p pos:Pos}(hg:Gl X "enumerate") (hm:X.mg "enumerate" =none) (ha:JE X a ta) (hs:starEach [a] X.env=[(false,eval a X.env)]:=by rfl) (hs2:starEach [a] X.env=(false,eval a X.env)::starEach [] X.env:=by rfl):JI X (.Tuple es x1 tpos) (.Call (.Name "enumerate" p) [a] [] pos) (zqL ta):=λE hE=>
 (zwN hg hm (zdy (ha E hE) pa_nil hs2) hs).mono λσ H R ⟨σW,S,QW,hσ,hS,ht,hR⟩=>⟨σW,S,_,hσ,hS,ht,λw S1 v H1 e1 r1 hS1 h1=>by
  ø⟨k,a,ws,G,rfl,hG,hq,h⟩:=zwJ r1 hS1 h1;ø⟨vs,hv,_⟩:=hq S1 H1 .refl hS1 hG;§⟨k,a,vs,rfl,hv,hR _ _ S1 _ H1 e1 hS1 hG (zwh hq) h⟩⟩
end
section
variable {prog:Program}{w:World}{A:Around}{E:Value→Shared→Prop}{s:Shared}
þ ztD{k1 k2:Bool}{z TI TO i1 i2 l1 l2:Addr}{n1 n2:Nat}{xs ys:Array Value}{x y a b:Value}{Q:Option Value→Shared→Prop}(D:ZipApart z TI TO i1 i2 l1 l2)
  (hz:IsZip s.heap z TI TO .none) (hTI:IsPair s.heap TI (.ref i1) (.ref i2)) (hTO:IsPair s.heap TO a b) (h1:SeqIt k1 s.heap i1 l1 n1) (h2:SeqIt k2 s.heap i2 l2 n2) (hl1:SeqIs k1 s.heap l1 xs) (hl2:SeqIs k2 s.heap l2 ys) (hx:xs[n1]? =some x) (hy:ys[n2]? =some y)
  (hQ:∀g,IsZip g z TI TO (rawInt s.heap.objs.size)→IsPair g TO x y→SeqIt k1 g i1 l1 (n1+1)→SeqIt k2 g i2 l2 (n2+1)→IsPair g s.heap.objs.size x y→g.objs.size=s.heap.objs.size+1→
   (∀c o,c≠z→c≠TO→c≠i1→c≠i2→s.heap.get? c=some o→g.get? c=some o)→Q (some (.ref s.heap.objs.size)) { s with heap:=g }):wpAny (model prog w) A (pyNext (.ref z)) Q E s:=by
 have hT:s.TypeIs (.ref z) "zip" :=⟨_,hz,rfl⟩;unfold pyNext;¤wpAny_bind (wpAny_attempt (wpAny_callSpecial?_slot (name:=Str.ofString "__next__") hT PySem.F.slot_zip_next (wpAny_call_entry PySem.F.slot_zip_next hT PySem.F.entry_zip_next ?_ (PySem.F.args_zip_next_1 _))));show wpAny _ _ (field (.ref z) 2 >>= _) _ _ _;¤wpAny_bind (wpAny_field hz rfl (x:= .bool false) rfl ?_);show wpAny _ _ (field (.ref z) 3 >>= _) _ _ _;¤wpAny_bind (wpAny_field hz rfl (x:= .ref TI) rfl ?_);¤wpAny_bind (wpAny_seqItems hTI rfl ?_);show wpAny _ _ (Builtin.SmallTypes.ownedTupleIsFree (.ref z) >>= _) _ _ _;¤wpAny_bind ?_;unfold Builtin.SmallTypes.ownedTupleIsFree;¤wpAny_bind (wpAny_field hz rfl (x:= .none) rfl (wpAny_pure ?_));ŝ[if_true];¤wpAny_bind (wpAny_rule ?_);¤wpAny_bind (wpAny_field hz rfl (x:= .ref TO) rfl ?_);¤wpAny_bind (wpAny_setField_rec hz ¢ λg1 hz1 hs1=>?_);replace hz1:IsZip g1 z TI TO .ellipsis:=hz1;¤wpAny_bind ?_;ŝ[List.zipIdx_cons,List.zipIdx_nil,List.forIn_cons,List.forIn_nil];¤wpAny_bind (wpAny_bind (wpAny_onRaise ?_));show wpAny _ _ (Builtin.SmallTypes.nextOf (.ref i1) >>= _) _ _ _;¤wpAny_bind (zgc (h1.at λo e=>hs1.extBut _ o D.i1z e) (hl1.at λo e=>hs1.extBut _ o D.l1z e) hx λg2 h12 hs2=>wpAny_pure ?_);have hTO2:IsPair g2 TO a b:=hs2.extBut _ _ D.TOi1 (hs1.extBut _ _ D.TOz hTO);¤wpAny_bind (wpAny_seqItems hTO2 rfl ?_);¤wpAny_bind (wpAny_updateSeq_pair hTO2 λg3 hTO3 hs3=>?_);replace hTO3:IsPair g3 TO x b:=hTO3;¤wpAny_bind (wpAny_letGo (wpAny_pure ?_));¤wpAny_bind (wpAny_bind (wpAny_onRaise ?_));show wpAny _ _ (Builtin.SmallTypes.nextOf (.ref i2) >>= _) _ _ _;¤wpAny_bind (zgc (h2.at λo e=>hs3.extBut _ o D.TOi2.symm (hs2.extBut _ o D.i12.symm (hs1.extBut _ o D.i2z e))) (hl2.at λo e=>hs3.extBut _ o D.l2TO (hs2.extBut _ o D.l2i1 (hs1.extBut _ o D.l2z e))) hy λg4 h24 hs4=>wpAny_pure ?_);have hTO4:IsPair g4 TO x b:=hs4.extBut _ _ D.TOi2 hTO3;¤wpAny_bind (wpAny_seqItems hTO4 rfl ?_);¤wpAny_bind (wpAny_updateSeq_pair hTO4 λg5 hTO5 hs5=>?_);replace hTO5:IsPair g5 TO x y:=hTO5;¤wpAny_bind (wpAny_letGo (wpAny_pure (wpAny_pure ?_)));¤wpAny_bind (wpAny_seqItems hTO5 rfl ?_);¤wpAny_bind (wpAny_newTuple ?_);have hsz:g5.objs.size=s.heap.objs.size:=by rw[hs5.1,hs4.1,hs3.1,hs2.1,hs1.1]
 have hz5:IsZip g5 z TI TO .ellipsis:=hs5.extBut _ _ D.TOz.symm (hs4.extBut _ _ D.i2z.symm (hs3.extBut _ _ D.TOz.symm (hs2.extBut _ _ D.i1z.symm hz1)));have hk5:∀c o,c≠z→c≠TO→c≠i1→c≠i2→s.heap.get? c=some o→g5.get? c=some o:=λc o c1 c2 c3 c4 e=>hs5.extBut _ _ c2 (hs4.extBut _ _ c4 (hs3.extBut _ _ c2 (hs2.extBut _ _ c3 (hs1.extBut _ _ c1 e))));have h15:SeqIt k1 g5 i1 l1 (n1+1):=h12.at λo e=>hs5.extBut _ o D.TOi1.symm (hs4.extBut _ o D.i12 (hs3.extBut _ o D.TOi1.symm e));have h25:SeqIt k2 g5 i2 l2 (n2+1):=h24.at λo e=>hs5.extBut _ o D.TOi2.symm e;have hzlt:z<g5.objs.size:=Heap.lt_size hz5;show wpAny _ _ (Builtin.SmallTypes.ownedTupleHandOut (.ref z) (.ref g5.objs.size) >>= _) _ _ _;¤wpAny_bind ?_;unfold Builtin.SmallTypes.ownedTupleHandOut;have hz6:IsZip (g5.push { cls:= .type "tuple",data:= .seq #[x,y] }) z TI TO .ellipsis:=Heap.get?_push_of_some _ hz5;¤wpAny_bind (wpAny_setField_rec hz6 ¢ λg7 hz7 hs7=>?_);replace hz7:IsZip g7 z TI TO (rawInt g5.objs.size):=hz7;¤wpAny_setField_rec hz7 ¢ λg8 hz8 hs8=>?_;replace hz8:IsZip g8 z TI TO (rawInt g5.objs.size):=hz8;have up:∀c o,c≠z→g5.get? c=some o→g8.get? c=some o:=λc o c1 e=>hs8.extBut _ _ c1 (hs7.extBut _ _ c1 (Heap.get?_push_of_some _ e));have hT8:IsPair g8 g5.objs.size x y:=hs8.extBut _ _ (Nat.ne_of_gt hzlt) (hs7.extBut _ _ (Nat.ne_of_gt hzlt) (Heap.get?_push_size _ rfl));have hzz:g8.objs.size=g5.objs.size+1:=by rw[hs8.1,hs7.1,Heap.size_push]
 rw[hsz]at hz8 hT8 hzz;¤wpAny_pure ⟨_,rfl,wpAny_pure ?_⟩;show Q (some (.ref g5.objs.size)) _;rw[hsz];§hQ g8 hz8 (up _ _ D.TOz hTO5) (h15.at λo e=>up _ o D.i1z e) (h25.at λo e=>up _ o D.i2z e) hT8 hzz λc o c1 c2 c3 c4 e=>up c o c1 (hk5 c o c1 c2 c3 c4 e)
þ zvv{k1 k2:Bool}{z TI TO i1 i2 l1 l2:Addr}{n1 n2:Nat}{xs ys:Array Value}{a b:Value}{Q:Option Value→Shared→Prop}(hh:A.handled=none) (D:ZipApart z TI TO i1 i2 l1 l2)
  (hz:IsZip s.heap z TI TO .none) (hTI:IsPair s.heap TI (.ref i1) (.ref i2)) (hTO:IsPair s.heap TO a b) (h1:SeqIt k1 s.heap i1 l1 n1) (h2:SeqIt k2 s.heap i2 l2 n2) (hl1:SeqIs k1 s.heap l1 xs) (hl2:SeqIs k2 s.heap l2 ys) (hend:xs[n1]? =none∨ys[n2]? =none)
  (hQ:∀g,(∀c o,c≠z→c≠TO→c≠i1→c≠i2→s.heap.get? c=some o→g.get? c=some o)→Q none { s with heap:=g }):wpAny (model prog w) A (pyNext (.ref z)) Q E s:=by
 have hT:s.TypeIs (.ref z) "zip" :=⟨_,hz,rfl⟩;have fin:∀(g:Heap) (e:Addr),(∀c o,c≠z→c≠TO→c≠i1→c≠i2→s.heap.get? c=some o→g.get? c=some o)→(∃o,g.get? e=some o∧o.cls= .type "StopIteration")→
   wpAny (model prog w) A (do if(←isInstance (.ref e) (.type "StopIteration")) then pure none else throw (.ref e)) Q E { s with heap:=g }:=λg e hk ⟨o,ho,hc⟩=>
  wpAny_bind (wpAny_isInstance (T:= "StopIteration") (b:=true) ⟨o,ho,hc⟩ isSubtype_stop (wpAny_pure (hQ _ hk)))
 unfold pyNext;¤wpAny_bind (wpAny_attempt (wpAny_callSpecial?_slot (name:=Str.ofString "__next__") hT PySem.F.slot_zip_next (wpAny_call_entry PySem.F.slot_zip_next hT PySem.F.entry_zip_next ?_ (PySem.F.args_zip_next_1 _))));show wpAny _ _ (field (.ref z) 2 >>= _) _ _ _;¤wpAny_bind (wpAny_field hz rfl (x:= .bool false) rfl ?_);show wpAny _ _ (field (.ref z) 3 >>= _) _ _ _;¤wpAny_bind (wpAny_field hz rfl (x:= .ref TI) rfl ?_);¤wpAny_bind (wpAny_seqItems hTI rfl ?_);show wpAny _ _ (Builtin.SmallTypes.ownedTupleIsFree (.ref z) >>= _) _ _ _;¤wpAny_bind ?_;unfold Builtin.SmallTypes.ownedTupleIsFree;¤wpAny_bind (wpAny_field hz rfl (x:= .none) rfl (wpAny_pure ?_));ŝ[if_true];¤wpAny_bind (wpAny_rule ?_);¤wpAny_bind (wpAny_field hz rfl (x:= .ref TO) rfl ?_);¤wpAny_bind (wpAny_setField_rec hz ¢ λg1 hz1 hs1=>?_);replace hz1:IsZip g1 z TI TO .ellipsis:=hz1;¤wpAny_bind ?_;ŝ[List.zipIdx_cons,List.zipIdx_nil,List.forIn_cons,List.forIn_nil];¤wpAny_bind (wpAny_bind (wpAny_onRaise ?_));show wpAny _ _ (Builtin.SmallTypes.nextOf (.ref i1) >>= _) _ _ _;cases hx:xs[n1]? with
 |none=>
  ¤wpAny_bind (zjH hh (h1.at λo e=>hs1.extBut _ o D.i1z e) (hl1.at λo e=>hs1.extBut _ o D.l1z e) hx λg2 e hs2 he=>?_);ø⟨oe,hoe,hce⟩:=he;have hz2:IsZip g2 z TI TO .ellipsis:=hs2 _ _ D.i1z.symm hz1;have hez:e≠z:=λx=>by subst x;rw[hz2]at hoe;cases hoe;simp at hce
  ¤wpAny_setField_rec hz2 ¢ λg3 _ hs3=>fin g3 e (λc o c1 _ c3 _ x=>hs3.extBut _ _ c1 (hs2 _ _ c3 (hs1.extBut _ _ c1 x))) ⟨oe,hs3.extBut _ _ hez hoe,hce⟩
 |some x=>
  have hy:ys[n2]? =none:=by rcases hend with h |h;rw[hx]at h;cases h;§h
  ¤wpAny_bind (zgc (h1.at λo e=>hs1.extBut _ o D.i1z e) (hl1.at λo e=>hs1.extBut _ o D.l1z e) hx λg2 h12 hs2=>wpAny_pure ?_);have hTO2:IsPair g2 TO a b:=hs2.extBut _ _ D.TOi1 (hs1.extBut _ _ D.TOz hTO);¤wpAny_bind (wpAny_seqItems hTO2 rfl ?_);¤wpAny_bind (wpAny_updateSeq_pair hTO2 λg3 hTO3 hs3=>?_);¤wpAny_bind (wpAny_letGo (wpAny_pure ?_));¤wpAny_bind (wpAny_bind (wpAny_onRaise ?_));show wpAny _ _ (Builtin.SmallTypes.nextOf (.ref i2) >>= _) _ _ _;¤wpAny_bind (zjH hh (h2.at λo e=>hs3.extBut _ o D.TOi2.symm (hs2.extBut _ o D.i12.symm (hs1.extBut _ o D.i2z e))) (hl2.at λo e=>hs3.extBut _ o D.l2TO (hs2.extBut _ o D.l2i1 (hs1.extBut _ o D.l2z e))) hy λg4 e hs4 he=>?_);ø⟨oe,hoe,hce⟩:=he;have hz4:IsZip g4 z TI TO .ellipsis:=hs4 _ _ D.i2z.symm (hs3.extBut _ _ D.TOz.symm (hs2.extBut _ _ D.i1z.symm hz1));have hez:e≠z:=λx=>by subst x;rw[hz4]at hoe;cases hoe;simp at hce
  ¤wpAny_setField_rec hz4 ¢ λg5 _ hs5=>fin g5 e (λc o c1 c2 c3 c4 x=>hs5.extBut _ _ c1 (hs4 _ _ c4 (hs3.extBut _ _ c2 (hs2.extBut _ _ c3 (hs1.extBut _ _ c1 x))))) ⟨oe,hs5.extBut _ _ hez hoe,hce⟩
end
ñ abbrev zH1 (k1:Bool) (h:Heap) (l1:Addr):Heap:=h.push (zeQ k1 l1)
ñ abbrev zH2 (k1 k2:Bool) (h:Heap) (l1 l2:Addr):Heap:=(zH1 k1 h l1).push (zeQ k2 l2)
ñ abbrev zH3 (k1 k2:Bool) (h:Heap) (l1 l2:Addr):Heap:=(zH2 k1 k2 h l1 l2).push { cls:= .type "tuple",data:= .seq #[.ref h.objs.size, .ref (zH1 k1 h l1).objs.size] }
ñ abbrev zH4 (k1 k2:Bool) (h:Heap) (l1 l2:Addr):Heap:=(zH3 k1 k2 h l1 l2).push { cls:= .type "tuple",data:= .seq #[.none, .none] }
ñ abbrev zH5 (k1 k2:Bool) (h:Heap) (l1 l2:Addr):Heap:=(zH4 k1 k2 h l1 l2).push { cls:= .type "zip",data:= .fields #[.none, .bool false, .bool false, .ref (zH2 k1 k2 h l1 l2).objs.size, .ref (zH3 k1 k2 h l1 l2).objs.size] }
þ zpG{k1 k2:Bool}(l1 l2:Addr) (xs ys:Array Value) :
  PySem.Meets (Builtin.«zip.__new__» ⟨[.type "zip", .ref l1, .ref l2],[]⟩) (λ_ R s=>SeqIs k1 s.heap l1 xs∧SeqIs k2 s.heap l2 ys∧R (.ok (.ret (.ref (zH4 k1 k2 s.heap l1 l2).objs.size))) { s with heap:=zH5 k1 k2 s.heap l1 l2 }):=
 .of_wp λprog w A R s h=>by
  ø⟨hp,g,d,tk,os⟩:=s;ø⟨hl1,hl2,h⟩:=h;have hsub:=sub_zip;have f1:∀{A:Around}{E:Value→Shared→Prop}{Q:Value→Shared→Prop},Q (.ref hp.objs.size) ⟨hp.push (zeQ k1 l1),g,d,tk,os⟩→wpAny (model prog w) A (pyIter (.ref l1)) Q E ⟨hp,g,d,tk,os⟩:=λq=>zjq (s:=⟨hp,g,d,tk,os⟩) hl1 q;have f2:∀{A:Around}{E:Value→Shared→Prop}{Q:Value→Shared→Prop},Q (.ref (hp.push (zeQ k1 l1)).objs.size) ⟨(hp.push (zeQ k1 l1)).push (zeQ k2 l2),g,d,tk,os⟩→wpAny (model prog w) A (pyIter (.ref l2)) Q E ⟨hp.push (zeQ k1 l1),g,d,tk,os⟩:=λq=>zjq (s:=⟨hp.push (zeQ k1 l1),g,d,tk,os⟩) (hl2.push _) q
  wp_walk using f1,f2
  §⟨_,rfl,h⟩
section
variable {prog:Program}{w:World}{A:Around}{E:Value→Shared→Prop}{s:Shared}
þ ztm{k1 k2:Bool}{l1 l2:Addr}{xs ys:Array Value}{Q:Value→Shared→Prop}(hl1:SeqIs k1 s.heap l1 xs) (hl2:SeqIs k2 s.heap l2 ys)
  (h:∀g,IsZip g (s.heap.objs.size+4) (s.heap.objs.size+2) (s.heap.objs.size+3) .none→IsPair g (s.heap.objs.size+2) (.ref s.heap.objs.size) (.ref (s.heap.objs.size+1))→
   IsPair g (s.heap.objs.size+3) .none .none→SeqIt k1 g s.heap.objs.size l1 0→SeqIt k2 g (s.heap.objs.size+1) l2 0→g.objs.size=s.heap.objs.size+5→
   (∀c o,s.heap.get? c=some o→g.get? c=some o)→Q (.ref (s.heap.objs.size+4)) { s with heap:=g }):wpAny (model prog w) A (call (.type "zip") [.ref l1, .ref l2]) Q E s:=by
 ¤callType_new PySem.F.called_zip £ (PySem.F.typeCall_zip_2 _ _) (PySem.F.newCall_zip_2 _ _) (λobj=>PySem.F.args_object_init_3 obj _ _) PySem.F.entry_zip_new (zpG (k1:=k1) (k2:=k2) l1 l2 xs ys) ⟨hl1,hl2,?_⟩;have z1:(zH1 k1 s.heap l1).objs.size=s.heap.objs.size+1:=Heap.size_push ..;have z2:(zH2 k1 k2 s.heap l1 l2).objs.size=s.heap.objs.size+2:=by rw[Heap.size_push,z1]
 have z3:(zH3 k1 k2 s.heap l1 l2).objs.size=s.heap.objs.size+3:=by rw[Heap.size_push,z2]
 have z4:(zH4 k1 k2 s.heap l1 l2).objs.size=s.heap.objs.size+4:=by rw[Heap.size_push,z3]
 have z5:(zH5 k1 k2 s.heap l1 l2).objs.size=s.heap.objs.size+5:=by rw[Heap.size_push,z4]
 have g5:(zH5 k1 k2 s.heap l1 l2).get? (zH4 k1 k2 s.heap l1 l2).objs.size=some _:=Heap.get?_push_size _ rfl;have g4:(zH5 k1 k2 s.heap l1 l2).get? (zH3 k1 k2 s.heap l1 l2).objs.size=some _:=Heap.get?_push_of_some _ (Heap.get?_push_size _ rfl);have g3:(zH5 k1 k2 s.heap l1 l2).get? (zH2 k1 k2 s.heap l1 l2).objs.size=some _:=Heap.get?_push_of_some _ (Heap.get?_push_of_some _ (Heap.get?_push_size _ rfl));have g2:(zH5 k1 k2 s.heap l1 l2).get? (zH1 k1 s.heap l1).objs.size=some _:=Heap.get?_push_of_some _ (Heap.get?_push_of_some _ (Heap.get?_push_of_some _ (Heap.get?_push_size _ zgF)));have g1:(zH5 k1 k2 s.heap l1 l2).get? s.heap.objs.size=some _:=Heap.get?_push_of_some _ (Heap.get?_push_of_some _ (Heap.get?_push_of_some _ (Heap.get?_push_of_some _ (Heap.get?_push_size _ zgF))));show _∧_;rw[z2,z3,z4]at g5;rw[z1,z2]at g3;rw[z3]at g4;rw[z1]at g2;rw[z4];§⟨⟨_,g5,rfl⟩,h _ g5 g3 g4 (zjN g1) (zjN g2) z5 λc o x=>Heap.get?_push_of_some _ (Heap.get?_push_of_some _ (Heap.get?_push_of_some _ (Heap.get?_push_of_some _ (Heap.get?_push_of_some _ x))))⟩
end
ñ def SqZ (k:Bool) (K:Ƒ) (H:Hp) (a:Addr) (xs:List V):Prop:=if k=true then SqL K H a xs else H a=some (.tup xs)
þ SqZ.sq{k:Bool}{K:Ƒ}{H:Hp}{a:Addr}{xs:List V}(h:SqZ k K H a xs):SqK k K H a xs:=by
 cases k with
 |true=>§h
 |false=>§.of h
þ SeqIs.ob{k:Bool}{h:Heap}{a:Addr}{its:Array Value}(x:SeqIs k h a its):∃o n,h.get? a=some o∧o.data= .seq its n∧(k=true→o.cls= .type "list"):=by
 cases k with
 |true=>ø⟨o,ho,hc,n,hd⟩:=(show h.IsList a its from x);§⟨o,n,ho,hd,λ_=>hc⟩
 |false=>ø⟨o,ho,hc,n,hd⟩:=(show h.IsTuple a its from x);§⟨o,n,ho,hd,λz=>by cases z⟩
þ SeqIs.ne_fields{k:Bool}{h:Heap}{a b:Addr}{its:Array Value}{o:Obj}{vs:Array Value}(x:SeqIs k h a its) (e:h.get? b=some o) (d:o.data= .fields vs):a≠b:=λz=>by
 subst z;ø⟨o',n,ho,hd,_⟩:=x.ob;rw[ho]at e;cases e;rw[hd]at d;cases d
ñ def Itz (k1 k2:Bool) (K:Ƒ) (a b:Addr):It:=
  ⟨λi H=>∃xs ys x y,SqZ k1 K H a xs∧SqZ k2 K H b ys∧xs[i]? =some x∧ys[i]? =some y,
   λi H v H'=>∃p x y,H p=none∧v= .ref p∧H'=upd H p (.tup [x,y])∧(∀xs,SqZ k1 K H a xs→xs[i]? =some x)∧ ∀ys,SqZ k2 K H b ys→ys[i]? =some y,
   λi H=>∃xs ys,SqZ k1 K H a xs∧SqZ k2 K H b ys∧(xs.length≤i∨ys.length≤i)⟩
structure ZipFar (z TI TO i1 i2:Addr):Prop where
  TIz:TI≠z
  TOz:TO≠z
  i1z:i1≠z
  i2z:i2≠z
  TITO:TI≠TO
  TIi1:TI≠i1
  TIi2:TI≠i2
  TOi1:TO≠i1
  TOi2:TO≠i2
  i12:i1≠i2
ñ def zze (k1 k2:Bool) (z TI TO i1 i2 a b:Addr) (i:Nat) (h:Heap):Prop:=IsZip h z TI TO .none∧IsPair h TI (.ref i1) (.ref i2)∧(∃u v,IsPair h TO u v)∧SeqIt k1 h i1 a i∧SeqIt k2 h i2 b i
section
variable {X:Cx}{pins:List (Addr×Obj)}{σ:St}{H:Hp}{s:Shared}
þ zlH{k1 k2:Bool}{z TI TO i1 i2 a b:Addr}{i:Nat}{xs ys:List V}(I:Inv X pins σ H s) (hTO:H TO=none) (D:ZipFar z TI TO i1 i2) (st:zze k1 k2 z TI TO i1 i2 a b i s.heap) (ha:SqZ k1 X.K H a xs) (hb:SqZ k2 X.K H b ys):ZipApart z TI TO i1 i2 a b:=by
 ø⟨hz,hTI,⟨u,v,hTOo⟩,h1,h2⟩:=st;ø⟨o1,v1,e1,d1⟩:=h1.ob;ø⟨o2,v2,e2,d2⟩:=h2.ob;ø⟨its,_,pa,_⟩:=I.seq ha.sq;ø⟨its2,_,pb,_⟩:=I.seq hb.sq;have nTO:∀{k:Bool}{c:Addr}{zs:List V}{its:Array Value},SqZ k X.K H c zs→SeqIs k s.heap c its→c≠TO:=λ{k c zs its} hc pc e=>by
  subst e;cases k with
  |false=>rw[show H c=some (.tup zs) from hc]at hTO;cases hTO
  |true=>
   ø⟨o,n,ho,_,hcl⟩:=pc.ob;rw[hTOo]at ho;cases ho;have:=hcl rfl;simp at this
 §⟨D.TIz,D.TOz,D.i1z,D.i2z,D.TITO,D.TIi1,D.TIi2,D.TOi1,D.TOi2,D.i12,pa.ne_fields hz rfl,nTO ha pa,pa.ne_fields e1 d1,pa.ne_fields e2 d2,pb.ne_fields hz rfl,nTO hb pb,pb.ne_fields e1 d1,pb.ne_fields e2 d2⟩
end
þ zsR{P:Program}{w:World}{K:Ƒ}{es:List Expr}{x1:Nat}{pos:Pos}(k1 k2:Bool) (a b z TI TO i1 i2:Addr) (D:ZipFar z TI TO i1 i2):Turn P w K (.Tuple es x1 pos) (Itz k1 k2 K a b) [z,TI,TO,i1,i2] z (zze k1 k2 z TI TO i1 i2 a b) where
  mem:=by simp
  obj:=λi h ⟨hz,hTI,⟨u,v,hTO⟩,h1,h2⟩ c hc=>by
    ø⟨o1,v1,e1,d1⟩:=h1.ob;ø⟨o2,v2,e2,d2⟩:=h2.ob;simp only[List.mem_cons,List.not_mem_nil,or_false]at hc;rcases hc with rfl |rfl |rfl |rfl |rfl
    · §⟨_,hz,λv z=>by cases z⟩
    · §⟨_,hTI,λv z=>by cases z⟩
    · §⟨_,hTO,λv z=>by cases z⟩
    · §⟨_,e1,λv z=>by rw[d1]at z;cases z⟩
    · §⟨_,e2,λv z=>by rw[d2]at z;cases z⟩
  keep:=λi h h' ⟨hz,hTI,⟨u,v,hTO⟩,h1,h2⟩ kk=>⟨kk z ¢ _ hz,kk TI ¢ _ hTI,⟨u,v,kk TO ¢ _ hTO⟩,h1.at λo q=>kk i1 ¢ o q,h2.at λo q=>kk i2 ¢ o q⟩
  item:=by
    intro X hP hw hK hc i pins s σ H E I hf st hg;subst hP hw hK;ø⟨xs,ys,x,y,ha,hb,hx,hy⟩:=hg;have Z:=zlH I (hf TO ¢).1 D st ha hb;ø⟨hz,hTI,⟨c0,d0,hTO⟩,h1,h2⟩:=st;ø⟨its,rv,pa,_⟩:=I.seq ha.sq;ø⟨its2,rv2,pb,_⟩:=I.seq hb.sq;ø⟨u,hu,ru⟩:=rv.get hx;ø⟨u2,hu2,ru2⟩:=rv2.get hy;¤ztD Z hz hTI hTO h1 h2 pa pb (x:=u) (y:=u2) (by simpa using hu) (by simpa using hu2) λg hz1 hTO1 h11 h21 hp hz' kk=>⟨_,rfl,?_⟩;¤wpAny_letOwnedTupleGo_zip hz1 λg2 hz2 hs2=>?_;have hs2':∀c o,c≠z→g.get? c=some o→g2.get? c=some o:=λc o hc e=>(hs2.2 c hc).trans e;have kk2:∀c o,c∉ [z,TI,TO,i1,i2]→s.heap.get? c=some o→g2.get? c=some o:=λc o hc q=>by
      simp only[List.mem_cons,List.not_mem_nil,or_false,not_or]at hc;§hs2' c o hc.1 (kk c o hc.1 hc.2.2.1 hc.2.2.2.1 hc.2.2.2.2 q)
    have hn:=I.hok.fresh (Nat.le_refl s.heap.objs.size);have hpz:s.heap.objs.size≠z:=Nat.ne_of_gt (Heap.lt_size hz);have ht2:g2.get? s.heap.objs.size=some { cls:= .type "tuple",data:= .seq #[u,u2] }:=hs2' _ _ hpz hp;¤⟨.ref s.heap.objs.size,upd H s.heap.objs.size (.tup [x,y]),I.turnNew (fp:=[z,TI,TO,i1,i2]) (t':=s.toks) (Nat.le_refl _) kk2 hf ⟨by show 2≤sizeLine;rw[sizeLine_eq];decide,[u,u2], .cons ru (.cons ru2 .nil),⟨_,ht2,rfl,_,rfl⟩⟩,rfl,
      ⟨_,x,y,hn,rfl,rfl,λzs hy=>by rw[I.seq_inj hy.sq ha.sq];§hx,λzs hy'=>by rw[I.seq_inj hy'.sq hb.sq];§hy⟩,
      ⟨hz2,hs2' _ _ D.TIz (kk _ _ D.TIz D.TITO D.TIi1 D.TIi2 hTI),⟨u,u2,hs2' _ _ D.TOz hTO1⟩,h11.at λo q=>hs2' _ o D.i1z q,h21.at λo q=>hs2' _ o D.i2z q⟩,λc hc=>?_⟩
    have hlt:∃o,s.heap.get? c=some o:=by
      ø⟨o1,v1,e1,d1⟩:=h1.ob;ø⟨o2,v2,e2,d2⟩:=h2.ob;simp only[List.mem_cons,List.not_mem_nil,or_false]at hc;rcases hc with rfl |rfl |rfl |rfl |rfl
      · §⟨_,hz⟩
      · §⟨_,hTI⟩
      · §⟨_,hTO⟩
      · §⟨_,e1⟩
      · §⟨_,e2⟩
    ø⟨o,ho⟩:=hlt;rw[zay (Nat.ne_of_lt (Heap.lt_size ho))];§(hf c hc).1
  done:=by
    intro X hP hw hK hc i pins s σ H E I hf st hg;subst hP hw hK;ø⟨xs,ys,ha,hb,hx⟩:=hg;have Z:=zlH I (hf TO ¢).1 D st ha hb;ø⟨hz,hTI,⟨c0,d0,hTO⟩,h1,h2⟩:=st;ø⟨its,rv,pa,_⟩:=I.seq ha.sq;ø⟨its2,rv2,pb,_⟩:=I.seq hb.sq;have hl:=rv.length;have hl2:=rv2.length;¤zvv (I.ok.hd hc) Z hz hTI hTO h1 h2 pa pb ?_ λg eb=>⟨rfl,I.turnedL (fp:=[z,TI,TO,i1,i2]) (t':=s.toks) (λc o hc q=>?_) hf⟩
    · rcases hx with hx |hx
      · §.inl (by simp;omega)
      · §.inr (by simp;omega)
    · simp only[List.mem_cons,List.not_mem_nil,or_false,not_or]at hc;§eb c o hc.1 hc.2.2.1 hc.2.2.2.1 hc.2.2.2.2 q
  self:=λA i s Q E st h=>wpAny_pyIter_zip st.1 h
section
variable {X:Cx}{es:List Expr}{x1:Nat}{tpos:Pos}
ñ def zCA (K:Ƒ) (ta:TA):TI:=λσ H R=>ta σ H λvs H1=>∃k1 k2 a b xs ys,vs=[.ref a, .ref b]∧SqZ k1 K H1 a xs∧SqZ k2 K H1 b ys∧R (Itz k1 k2 K a b) H1
þ zyE{a b:Expr}{ta:TA}{p pos:Pos}(hg:Gl X "zip") (hm:X.mg "zip" =none) (ha:PA X [a,b] ta) (hs:starEach [a,b] X.env=[(false,eval a X.env),(false,eval b X.env)]:=by rfl) (hs2:starEach [b] X.env=[(false,eval b X.env)]:=by rfl):PI X (.Tuple es x1 tpos) (.Call (.Name "zip" p) [a,b] [] pos) (zCA X.K ta):=by
 intro pins s σ H R I h;¤Call_ (zim I hg hm boot_zip (PyProof.Rows.callWith_type1 (thn (ha pos pins s σ H _ I h) λus s1 ⟨vs,H1,I1,r1,q1⟩=>?_) (by rw[hs,hs2]) (by rw[hs2];rfl)));ø⟨k1,k2,a,b,xs,ys,e,hq1,hq2,q⟩:=q1;subst e;cases r1 with
 |cons r rr=>
  cases rr with
  |cons r' rr=>
   cases rr;cases(show _=Value.ref a from r);cases(show _=Value.ref b from r');ø⟨its,rv,pl,_⟩:=I1.seq hq1.sq;ø⟨its2,rv2,pl2,_⟩:=I1.seq hq2.sq;¤ztm pl pl2 λg hz hTI hTO h1 h2 hz' kk=>wpAny_pyIter_zip hz ?_;have I2:Inv X pins σ H1 { s1 with heap:=g }:=I1.kept (t':=s1.toks) kk;have ne:∀(n i j:Nat),i≠j→n+i≠n+j:=λn i j h e=>h (Nat.add_left_cancel e);have D:ZipFar (s1.heap.objs.size+4) (s1.heap.objs.size+2) (s1.heap.objs.size+3) s1.heap.objs.size (s1.heap.objs.size+1):=
    ⟨ne _ 2 4 £,ne _ 3 4 £,ne _ 0 4 £,ne _ 1 4 £,ne _ 2 3 £,ne _ 2 0 £,ne _ 2 1 £,ne _ 3 0 £,ne _ 3 1 £,ne _ 0 1 £⟩
   ¤⟨_,_,_,_,H1,rfl,I2,zsR k1 k2 a b _ _ _ _ _ D,⟨hz,hTI,⟨_,_,hTO⟩,h1,h2⟩,λc hc=>?_,q⟩;have hb':s1.heap.objs.size≤c:=by
    simp only[List.mem_cons,List.not_mem_nil,or_false]at hc;rcases hc with rfl |rfl |rfl |rfl |rfl
    ·§Nat.le_add_right _ _
    ·§Nat.le_add_right _ _
    ·§Nat.le_add_right _ _
    ·§Nat.le_refl _
    ·§Nat.le_add_right _ _
   §I1.fpOk hb' (I1.hok.fresh hb')
ñ def pairs:List W→List W→List W
 |x::xs,y::ys=> .tup [x,y]::pairs xs ys
 |_,_=>[]
þ zlj:∀{xs ys:List W}{i:Nat}{u:W},(pairs xs ys)[i]? =some u→ ∃x y,xs[i]? =some x∧ys[i]? =some y∧u= .tup [x,y]
 | [],_,_,_,h=>by simp [pairs]at h
 |_::_,[],_,_,h=>by simp [pairs]at h
 |x::xs,y::ys,0,u,h=>by
  simp [pairs]at h;§⟨x,y,rfl,rfl,h.symm⟩
 |x::xs,y::ys,i+1,u,h=>by simpa using zlj (xs:=xs) (ys:=ys) (i:=i) (u:=u) (by simpa [pairs]using h)
þ zlz:∀{xs ys:List W},(pairs xs ys).length=min xs.length ys.length
 | [],_=>by simp [pairs]
 |_::_,[]=>by simp [pairs]
 |x::xs,y::ys=>by simp [pairs,zlz (xs:=xs) (ys:=ys)]
þ zzl{K:Ƒ}{k1 k2:Bool}{a b:Addr}{ws us:List W}{G:Sto→Prop}{H0:Hp}{S0:Sto}(h:∀S H,Ext H0 S0 H S→RepS K H S→G S→(∃vs,SqZ k1 K H a vs∧Reps K H ws vs)∧ ∃vs,SqZ k2 K H b vs∧Reps K H us vs):ItW K (Itz k1 k2 K a b) (pairs ws us) G H0 S0:=λi S H e hS hG=>by
 ø⟨⟨xs,hq,r⟩,⟨ys,hq2,r2⟩⟩:=h S H e hS hG;¤⟨λu eu=>?_,λhl=>⟨xs,ys,hq,hq2,?_⟩⟩
 ·ø⟨x,y,ex,ey,rfl⟩:=zlj eu;ø⟨v,ev,rv⟩:=r.get ex;ø⟨v2,ev2,rv2⟩:=r2.get ey;¤⟨⟨xs,ys,v,v2,hq,hq2,ev,ev2⟩,λx H' ⟨p,y1,y2,hp,e1,e2,e3,e4⟩=>?_⟩;subst e1 e2;have f1:=e3 xs hq;have f2:=e4 ys hq2;rw[ev]at f1;cases f1;rw[ev2]at f2;cases f2;§⟨.new hp,hS.new hp, .tup zaz (.cons (rv.ext (.new (S:=S) hp)) (.cons (rv2.ext (.new (S:=S) hp)) .nil))⟩
 ·rw[zlz]at hl;rw[←r.length,←r2.length];omega
þ zoE{K:Ƒ}{H:Hp}{S:Sto}{w:W}{v:V}{Q:List W→(Sto→Prop)→Prop}(r:Rep K H w v) (hS:RepS K H S) (h:zpN w S Q) :
  ∃k a ws G,v= .ref a∧G S∧(∀S' H',Ext H S H' S'→RepS K H' S'→G S'→ ∃vs,SqZ k K H' a vs∧Reps K H' ws vs)∧Q ws G:=by
 cases r with
 |tup f hs=>§⟨false,_,_,_,rfl,trivial,λS' H' e hS' _=>⟨_,e.tup _ _ f,hs.ext e⟩,h⟩
 |ref a=>
  ø⟨ws,ea,h⟩:=zbr h;§⟨true,_,ws,_,rfl,ea,λS' H' e hS' g=>by
   ø⟨vs,f,hs⟩:=hS' a _ g;§⟨vs, .of f,hs⟩,h⟩
 |scr f=>§⟨true,_,_,_,rfl,trivial,λS' H' e hS' _=>⟨_,(e.fz f).sq,Reps.ofInts _⟩,h⟩
 |_=>§h.elim
ñ def zxp (t u:WE):WI:=λE σ S Q=>t E σ S λx S1=>u E σ S1 λy S2=>zpN x S2 λxs G=>zpN y S2 λys G'=>Q (pairs xs ys) (λS'=>G S'∧G' S') S2
þ zoq{a b:Expr}{ta tb:WE}{p pos:Pos}(hg:Gl X "zip") (hm:X.mg "zip" =none) (ha:JE X a ta) (hb:JE X b tb) (hs:starEach [a,b] X.env=[(false,eval a X.env),(false,eval b X.env)]:=by rfl) (hs2:starEach [b] X.env=[(false,eval b X.env)]:=by rfl)
  (h3:starEach [a,b] X.env=(false,eval a X.env)::starEach [b] X.env:=by rfl) (h4:starEach [b] X.env=(false,eval b X.env)::starEach [] X.env:=by rfl):JI X (.Tuple es x1 tpos) (.Call (.Name "zip" p) [a,b] [] pos) (zxp ta tb):=λE hE=>
 (zyE hg hm (zdy (ha E hE) (zdy (hb E hE) pa_nil h4) h3) hs hs2).mono λσ H R ⟨σW,S,QW,hσ,hS,ht,hR⟩=>⟨σW,S,_,hσ,hS,ht,λx S1 v H1 e1 r1 hS1 h1=>⟨σW,S1,_,hσ.ext e1,hS1,h1,λy S2 v2 H2 e2 r2 hS2 h2=>by
  ø⟨k1,a,ws,G,rfl,hG,hq,h⟩:=zoE (r1.ext e2) hS2 h2;ø⟨k2,b,us,G',rfl,hG',hq',h⟩:=zoE r2 hS2 h;ø⟨vs,hv,_⟩:=hq S2 H2 .refl hS2 hG;ø⟨vs',hv',_⟩:=hq' S2 H2 .refl hS2 hG';§⟨k1,k2,a,b,vs,vs',rfl,hv,hv',hR _ _ S2 _ H2 (e1.trans e2) hS2 ⟨hG,hG'⟩ (zzl λS' H' e hS' g=>⟨hq S' H' e hS' g.1,hq' S' H' e hS' g.2⟩) h⟩⟩⟩
end
section
ñ def zxS (hi:Int) (n:Nat):List W:=(List.range n).map λ(i:Nat)=> .int (hi - (i:Int))
ñ def zCo (t:WA):WI:=λE σ S Q=>t E σ S λws S1=>match ws with
 | [.int i, .int j, .int c]=>c= -1∧(-(2 ^ 62)≤i∧i<2 ^ 62∧ -(2 ^ 62)≤j∧j<2 ^ 62)∧Q (zxS i (i - j).toNat) (λ_=>True) S1
 |_=>False
end
section
variable {X:Cx}{a b c:Expr}{pos:Pos}{ta tb tc:WE}
þ zsW{op op':CmpOp}{r r':R2}{wr wr':W2}(ho:OpR X (compareOp op) r) (hw:OpW X.K r wr) (ho':OpR X (compareOp op') r') (hw':OpW X.K r' wr') (ha:JE X a ta) (hb:JE X b tb) (hc:JE X c tc)
  (hm:lastMarks [op,op'] [b,c]=false:=by with_unfolding_all rfl):JE X (.Compare a [op,op'] [b,c] pos) (zkp wr wr' ta tb tc):=λE hE=>
 (zue ho ho' (ha E hE) (hb E hE) (hc E hE) hm).mono λσ H Q ⟨σW,S,QW,hσ,hS,ht,hQ⟩=>by
  ¤⟨σW,S,_,hσ,hS,ht,λx S1 v1 H1 e1 r1 hS1 h1=>⟨σW,S1,_,hσ.ext e1,hS1,h1,λy S2 v2 H2 e2 r2 hS2 h2=>?_⟩⟩;¤hw H2 v1 v2 x y S2 _ _ (r1.ext e2) r2 hS2 h2 λz S3 v3 H3 e3 r3 hS3 h3=>?_;cases r3 with
  |bl k=>
   ¤⟨k,rfl,?_⟩;cases k with
   |true=>
    ¤⟨σW,S3,_,((hσ.ext e1).ext e2).ext e3,hS3,h3,λu S4 v4 H4 e4 r4 hS4 h4=>?_⟩;§hw' H4 v2 v4 y u S4 Q QW ((r2.ext e3).ext e4) r4 hS4 h4 (hQ.from (((e1.trans e2).trans e3).trans e4))
   |false=>§hQ _ S3 _ H3 ((e1.trans e2).trans e3) (.bl false) hS3 h3
  |_=>§h3.elim
þ zrr (ha:JE X a ta) (hb:JE X b tb) (hc:JE X c tc) (hm:lastMarks [.LtE, .LtE] [b,c]=false:=by with_unfolding_all rfl):JE X (.Compare a [.LtE, .LtE] [b,c] pos) (zkp oLe oLe ta tb tc):=zsW (op_le.or zlq) zuV (op_le.or zlq) zuV ha hb hc hm
end
section
variable {X:Cx}{e:Expr}{es:List Expr}{t:WA}{p pos:Pos}
ñ def zxA:WF:=λws S Q=>match ws with
 | [.int i]=>Q (.int i) S
 | [.bl b]=>Q (.int (if b then 1 else 0)) S
 |_=>False
þ zqZ{K:Ƒ}:zmd K (λxs H Q=>(∃i,xs=[.int i]∧Q (.int i) H)∨ ∃k,xs=[.bl k]∧Q (.int (if k then 1 else 0)) H) zxA:=λH vs ws S Q QW r hS h hQ=>by
 cases r with
 |nil=>§h.elim
 |cons r1 r2=>
  cases r2 with
  |cons _ _=>cases r1<;>§h.elim
  |nil=>
   cases r1 with
   |int i=>§.inl ⟨i,rfl,hQ _ S _ H .refl (.int _) hS h⟩
   |bl b=>§.inr ⟨b,rfl,hQ _ S _ H .refl (.int _) hS h⟩
   |_=>§h.elim
þ zqC (hg:Gl X "int") (hm:X.mg "int" =none) (ha:JA X (e::es) t)
  (he:starEach (e::es) X.env=(false,eval e X.env)::starEach es X.env:=by rfl) (hpl:(backTo pos (starEach es X.env)).any (·.1)=false:=by rfl):JE X (.Call (.Name "int" p) (e::es) [] pos) (wB zxA t):=
 zyk zqk zqZ hg hm PyProof.Rows.boot_int ha £ £ he hpl
ñ def zBB:WF:=λws S Q=>match ws with
 | [.int i, .int j]=>Q (.int (if j > i then j else i)) S
 |_=>False
ñ def zky:WF:=λws S Q=>match ws with
 | [.int i, .int j]=>Q (.int (if j<i then j else i)) S
 |_=>False
þ zpj{K:Ƒ}:zmd K (λxs H Q=>∃i j,xs=[.int i, .int j]∧Q (.int (if j<i then j else i)) H) zky:=λH vs ws S Q QW r hS h hQ=>by
 unfold zky at h;split at h
 ·cases r with
  |cons r1 r2=>cases r2 with
   |cons r2 r3=>cases r3;cases r1;cases r2;§⟨_,_,rfl,hQ _ S _ H .refl (.int _) hS h⟩
 ·§h.elim
þ zqH{id:String}{r:List V→Hp→VK→Prop}{f:WF}{x:Str}(hc:X.calm=true→CallR X (.builtin id) r) (hw:zmd X.K r f) (hg:Gl X x) (hm:X.mg x=none) (hv:bootBuiltins x=some (.builtin id)) (ha:JA X (e::es) t) (hn:x≠ "__name__" :=by decide) (hdb:(x == ("__debug__" :Str))=false:=by decide)
  (he:starEach (e::es) X.env=(false,eval e X.env)::starEach es X.env:=by rfl) (hpl:(backTo pos (starEach es X.env)).any (·.1)=false:=by rfl) (hcl:X.calm=true:=by rfl):JE X (.Call (.Name x p) (e::es) [] pos) (wB f t):=λE hE=>zuU (hc hcl) hw hg hm hv ha hn hdb he hpl E hE
þ zqw (hg:Gl X "min") (hm:X.mg "min" =none) (ha:JA X (e::es) t)
  (he:starEach (e::es) X.env=(false,eval e X.env)::starEach es X.env:=by rfl) (hpl:(backTo pos (starEach es X.env)).any (·.1)=false:=by rfl) (hcl:X.calm=true:=by rfl):JE X (.Call (.Name "min" p) (e::es) [] pos) (wB zky t):=zqH zrD zpj hg hm PyProof.Rows.boot_min ha £ £ he hpl hcl
þ zlX{tl:WL}(hg:Gl X "all") (hm:X.mg "all" =none) (ha:JL X e tl)
  (he:starEach [e] X.env=(false,eval e X.env)::starEach [] X.env:=by rfl) (hpl:(backTo pos (starEach [] X.env)).any (·.1)=false:=by rfl) (hcl:X.calm=true:=by rfl):JE X (.Call (.Name "all" p) [e] [] pos) (wBL zmJ tl):=λE hE=>zrT (zsQ hcl) zru hg hm PyProof.Rows.boot_all ha £ £ he hpl E hE
þ zhV{tl:WL}(hg:Gl X "tuple") (hm:X.mg "tuple" =none) (ha:JL X e tl)
  (he:starEach [e] X.env=(false,eval e X.env)::starEach [] X.env:=by rfl) (hpl:(backTo pos (starEach [] X.env)).any (·.1)=false:=by rfl):JE X (.Call (.Name "tuple" p) [e] [] pos) (wBL zgJ tl):=zuB zgt zmI hg hm PyProof.Rows.boot_tuple ha £ £ he hpl
þ zeI (hg:Gl X "tuple") (hm:X.mg "tuple" =none) (ha:JA X (e::es) t)
  (he:starEach (e::es) X.env=(false,eval e X.env)::starEach es X.env:=by rfl) (hpl:(backTo pos (starEach es X.env)).any (·.1)=false:=by rfl):JE X (.Call (.Name "tuple" p) (e::es) [] pos) (wB zen t):=zyk zgt zmj hg hm PyProof.Rows.boot_tuple ha £ £ he hpl
end
þ zuz{K:Ƒ}:∀T∈ ["int", "bool", "str", "tuple", "list"],∀A∈ ["NoneType", "bool", "int", "str", "tuple", "list"],PySem.W.kitOne K (.type A) (.type T)=some (zcx A T):=by
 intro T hT A hA;simp only[List.mem_cons,List.not_mem_nil,or_false]at hT hA;rcases hT with rfl |rfl |rfl |rfl |rfl<;>rcases hA with rfl |rfl |rfl |rfl |rfl |rfl<;>rfl
þ gl0:∀(ws:List W) (σ:WSt) (S:Sto) (P:WSt→Sto→Prop),zdY ws σ S P→ws.length=0:=λws σ S P h=>by
 cases ws with
 |nil=>rfl
 |cons _ _=>§h.elim
þ glS{i n:Nat}{u:WGs}(h:∀(ws:List W) (σ:WSt) (S:Sto) (P:WSt→Sto→Prop),u ws σ S P→ws.length=n):∀(ws:List W) (σ:WSt) (S:Sto) (P:WSt→Sto→Prop),zaE (wGN i) u ws σ S P→ws.length=n+1:=λws σ S P q=>by
 cases ws with
 |nil=>§q.elim
 |cons w ws=>§congrArg (· +1) (h _ _ _ _ q)
ñ def zaJ:WSp:=λ_ _ _ _=>False
þ zzO{P:Program}{w:World}{K:Ƒ}{mg:Str→Option Value}{base:Heap}{f:Addr}{fd:FuncData}{ps:List Str}{k:Nat}:FnOk P w K mg base (CX1 P w) k f fd ps (zdn K zaJ):=
 ⟨λvs H Q E ⟨_,_,_,_,_,_,h,_⟩=>h.elim,λA outer s H args us vs Q E _ _ _ _ ⟨_,_,_,_,_,_,h,_⟩=>h.elim⟩
section
variable {X:Cx}{a b:Expr}{pos:Pos}{ta tb:WE}{la lb:WL}
ñ def ztV (t:WL) (u:WE):WE:=λE σ S Q=>t E σ S λws S1=>u E σ S1 λy S2=>match y with
 | .int i=>match atI ws i with
  |some w=>Q w S2
  |none=>False
 |_=>False
þ zlE (ha:JL X a la) (hb:JE X b tb) (hs:zml b:=by intro _ _;rfl):JE X (.Subscript a b pos) (ztV la tb):=λE hE=>
 (zyA zvb (ha E hE) (hb E hE) hs).mono λσ H Q ⟨σW,S,QW,hσ,hS,ht,hQ⟩=>⟨σW,S,_,hσ,hS,ht,λws S1 vs p H1 e1 fp ep np r1 hS1 h1=>⟨σW,S1,_,hσ.ext e1,hS1,h1,λy S2 v2 H2 e2 r2 hS2 h2=>by
  cases r2 with
  |int i=>
   dsimp only at h2;split at h2
   ·ø⟨v,ev,r⟩:=zmA (r1.ext e2) ‹_›;§.inl ⟨p,vs,i,v,rfl,rfl, .of (e2.fr p _ ep np).1,ev,hQ _ S2 _ H2 (e1.trans e2) r hS2 h2⟩
   ·§h2.elim
  |_=>§h2.elim⟩⟩
ñ def zvG (t:WE) (u:WL):WL:=λE σ S Q=>t E σ S λx S1=>u E σ S1 λys S2=>match x with
 | .ref a=>zcY S2 a λxs=>xs.length+ys.length≤sizeLine∧Q (xs++ys) S2
 |_=>False
ñ def zoQ (t u:WL):WL:=λE σ S Q=>t E σ S λxs S1=>u E σ S1 λys S2=>xs.length+ys.length≤sizeLine∧Q (xs++ys) S2
ñ def ztW (t:WL) (u:WE):WL:=λE σ S Q=>t E σ S λxs S1=>u E σ S1 λy S2=>match y with
 | .ref a=>zcY S2 a λys=>xs.length+ys.length≤sizeLine∧Q (xs++ys) S2
 |_=>False
þ zvt (ha:JE X a ta) (hb:JL X b lb):JL X (.BinOp a .Add b pos) (zvG ta lb):=λE hE=>
 (zrB znJ (ha E hE) (hb E hE)).mono λσ H Q ⟨σW,S,QW,hσ,hS,ht,hQ⟩=>⟨σW,S,_,hσ,hS,ht,λw1 S1 v1 H1 e1 r1 hS1 h1=>⟨σW,S1,_,hσ.ext e1,hS1,h1,λys S2 us q H2 e2 fq eq nq r2 hS2 h2=>by
  cases r1 with
  |ref p=>
   ø⟨xs,ea,h⟩:=zbr h2;ø⟨vs,f1,q1⟩:=hS2 p _ ea;§⟨p,q,vs,us,rfl,rfl,f1,eq,by rw[←q1.length,←r2.length];§h.1,λp hp=>hQ _ S2 _ p _ ((e1.trans e2).trans (.new hp)) ((e1.trans e2).free hp) zaz (hS2.free hp) ((q1.append r2).ext (.new (S:=S2) hp)) (hS2.new hp) h.2⟩
  |_=>§h2.elim⟩⟩
þ zmy (ha:JL X a la) (hb:JL X b lb):JL X (.BinOp a .Add b pos) (zoQ la lb):=λE hE=>
 (zrB znJ (ha E hE) (hb E hE)).mono λσ H Q ⟨σW,S,QW,hσ,hS,ht,hQ⟩=>⟨σW,S,_,hσ,hS,ht,λxs S1 vs p H1 e1 fp ep np r1 hS1 h1=>⟨σW,S1,_,hσ.ext e1,hS1,h1,λys S2 us q H2 e2 fq eq nq r2 hS2 h2=>
  ⟨p,q,vs,us,rfl,rfl,(e2.fr p _ ep np).1,eq,by rw[←r1.length,←r2.length];§h2.1,λz hz=>hQ _ S2 _ z _ ((e1.trans e2).trans (.new hz)) ((e1.trans e2).free hz) zaz (hS2.free hz) (((r1.ext e2).append r2).ext (.new (S:=S2) hz)) (hS2.new hz) h2.2⟩⟩⟩
þ zwB (ha:JL X a la) (hb:JE X b tb):JL X (.BinOp a .Add b pos) (ztW la tb):=λE hE=>
 (zrB znJ (ha E hE) (hb E hE)).mono λσ H Q ⟨σW,S,QW,hσ,hS,ht,hQ⟩=>⟨σW,S,_,hσ,hS,ht,λxs S1 vs p H1 e1 fp ep np r1 hS1 h1=>⟨σW,S1,_,hσ.ext e1,hS1,h1,λy S2 v2 H2 e2 r2 hS2 h2=>by
  cases r2 with
  |ref q=>
   ø⟨ys,ea,h⟩:=zbr h2;ø⟨us,f2,q2⟩:=hS2 q _ ea;§⟨p,q,vs,us,rfl,rfl,(e2.fr p _ ep np).1,f2,by rw[←r1.length,←q2.length];§h.1,λz hz=>hQ _ S2 _ z _ ((e1.trans e2).trans (.new hz)) ((e1.trans e2).free hz) zaz (hS2.free hz) (((r1.ext e2).append q2).ext (.new (S:=S2) hz)) (hS2.new hz) h.2⟩
  |_=>§h2.elim⟩⟩
ñ def ztX (t:WL) (u:WE):WL:=λE σ S Q=>t E σ S λxs S1=>u E σ S1 λy S2=>match y with
 | .int k=>(-(2 ^ 63)≤k∧k<2 ^ 63∧xs.length*k.toNat≤sizeLine)∧Q (List.replicate k.toNat xs).flatten S2
 |_=>False
þ Reps.rep{K:Ƒ}{H:Hp}{ws:List W}{vs:List V}(h:Reps K H ws vs):∀k:Nat,Reps K H (List.replicate k ws).flatten (List.replicate k vs).flatten
 |0=> .nil
 |k+1=>by
  rw[List.replicate_succ,List.replicate_succ,List.flatten_cons,List.flatten_cons];§h.append (Reps.rep h k)
þ zAd (ha:JL X a la) (hb:JE X b tb):JL X (.BinOp a .Mult b pos) (ztX la tb):=λE hE=>
 (zrB zyg (ha E hE) (hb E hE)).mono λσ H Q ⟨σW,S,QW,hσ,hS,ht,hQ⟩=>⟨σW,S,_,hσ,hS,ht,λxs S1 vs p H1 e1 fp ep np r1 hS1 h1=>⟨σW,S1,_,hσ.ext e1,hS1,h1,λy S2 v2 H2 e2 r2 hS2 h2=>by
  cases r2 with
  |int k=>
   ø⟨⟨k1,k2,k3⟩,h⟩:=h2;§⟨p,k,vs,rfl,rfl,(e2.fr p _ ep np).1,k1,k2,by rw[←r1.length];§k3,λz hz=>hQ _ S2 _ z _ ((e1.trans e2).trans (.new hz)) ((e1.trans e2).free hz) zaz (hS2.free hz) (((r1.ext e2).rep k.toNat).ext (.new (S:=S2) hz)) (hS2.new hz) h⟩
  |_=>§h2.elim⟩⟩
end
þ ztb{K:Ƒ}{H:Hp}{a:Addr}{ns:List Int}{c:WSp}{E:XK}(hO:zAq H) (hS:SqL K H a (ns.map V.int)) (h:c [.scr ns] (λ_=>none) (λw _=>w= .bl true) (λ_ _=>False)):zdn K c [.ref a] H (λv _=>v= .bl true) E:=by
 have fz:FzL K H a (ns.map V.int):=by
  rcases hS with(hS |⟨o,hS⟩) |hS
  ·rcases hO a with z |⟨o,xs,z⟩
   ·rw[hS]at z;cases z
   ·rw[hS]at z;cases z
  ·§.inl ⟨o,hS⟩
  ·§.inr hS
 ¤⟨[.scr ns],λ_=>none,_,λ_ _=>False, .one (.scr fz),(λa o e=>by cases e),h,λw S v H' e r hS' q=>?_,λ_ _ _ _ _ _ z=>z.elim⟩
 subst q;cases r;rfl
section
ñ def zAL:W2
 | .tup xs, .int k,S,Q=>(xs≠ []∧ -(2 ^ 63)≤k∧k<2 ^ 63∧xs.length*k.toNat≤sizeLine)∧Q (.tup (List.replicate k.toNat xs).flatten) S
 |_,_,_,_=>False
end
ñ def zgQ (kvs:List (List Int×W)) (k:List Int):Option W:=(kvs.find? λkv=>decide (kv.1=k)).map (·.2)
ñ def zxd (kvs:List (List Int×W)) (k:List Int) (v:W):List (List Int×W):=
 if(kvs.any λkv=>decide (kv.1=k))=true then kvs.map (λkv=>if kv.1=k then(kv.1,v) else kv) else kvs++[(k,v)]
ñ def zby:List W→Option (List Int)
 | []=>some []
 | .int i::ws=>(zby ws).map (i:: ·)
 |_=>none
ñ def zrJ:W→Option (List Int)
 | .tup ws=>zby ws
 |_=>none
ñ def zsU (S:Sto) (a:Addr) (P:List (List Int×W)→Prop):Prop:=match S a with
 |some (.dct kvs)=>P kvs
 |_=>False
þ zxh{S:Sto}{a:Addr}{P:List (List Int×W)→Prop}(h:zsU S a P):∃kvs,S a=some (.dct kvs)∧P kvs:=by
 unfold zsU at h;split at h
 ·§⟨_, ‹_›,h⟩
 ·§h.elim
þ zma{S:Sto}{a:Addr}{kvs:List (List Int×W)}{P:List (List Int×W)→Prop}(e:S a=some (.dct kvs)):zsU S a P=P kvs:=by unfold zsU;rw[e]
section
variable {K:Ƒ}{H:Hp}
ñ abbrev RepD (K:Ƒ) (H:Hp):List (List Int×W)→List (List Key×V)→Prop:=Paired λq p=>p.1=q.1.map Sum.inl∧Rep K H q.2 p.2
þ zjt:∀{a b:List Int},a.map (Sum.inl:Int→Key)=b.map Sum.inl→a=b
 | [],[],_=>rfl
 | [],_::_,h=>by simp at h
 |_::_,[],h=>by simp at h
 |x::xs,y::ys,h=>by
  simp only[List.map_cons,List.cons.injEq,Sum.inl.injEq]at h;rw[h.1,zjt h.2]
þ RepD.val{kvs:List (List Int×W)}{ps:List (List Key×V)}(r:RepD K H kvs ps) (k:List Int):(∀w,zgQ kvs k=some w→ ∃v,zno ps (k.map Sum.inl)=some v∧Rep K H w v)∧(zgQ kvs k=none→zno ps (k.map Sum.inl)=none):=by
 induction r with
 |nil=>§⟨λw h=>by simp [zgQ]at h,λ_=>rfl⟩
 | @cons q p kvs ps h t ih=>
  by_cases hk:q.1=k
  ·have e:p.1=k.map Sum.inl:=by rw[h.1,hk]
   rw[zhb e];have ew:zgQ (q::kvs) k=some q.2:=by simp [zgQ,List.find?_cons,hk]
   rw[ew];§⟨λw z=>by cases z;§⟨_,rfl,h.2⟩,λz=>by cases z⟩
  ·have e:¬p.1=k.map Sum.inl:=by rw[h.1];§λz=>hk (zjt z)
   rw[zhn e];have ew:zgQ (q::kvs) k=zgQ kvs k:=by simp [zgQ,List.find?_cons,hk]
   rw[ew];§ih
þ RepD.any{kvs:List (List Int×W)}{ps:List (List Key×V)}(r:RepD K H kvs ps) (k:List Int):(ps.any λkv=>decide (kv.1=k.map Sum.inl))=kvs.any λkv=>decide (kv.1=k):=by
 induction r with
 |nil=>rfl
 | @cons q p kvs ps h t ih=>
  rw[List.any_cons,List.any_cons,ih];congr 1;apply decide_eq_decide.mpr;rw[h.1];§⟨zjt,λz=>by rw[z]⟩
þ RepD.put{kvs:List (List Int×W)}{ps:List (List Key×V)}(r:RepD K H kvs ps) (k:List Int) {w:W}{v:V}(rw':Rep K H w v):RepD K H (zxd kvs k w) (zqG ps (k.map Sum.inl) v):=by
 unfold zxd zqG;rw[r.any k];split
 ·rename_i hany;clear hany
  induction r with
  |nil=>§.nil
  | @cons q p kvs ps h t ih=>
   rw[List.map_cons,List.map_cons];¤.cons ?_ ih;by_cases hk:q.1=k
   ·rw[if_pos hk,if_pos (by rw[h.1,hk])];§⟨h.1,rw'⟩
   ·rw[if_neg hk,if_neg (by rw[h.1];§λz=>hk (zjt z))];§h
 ·rename_i hany;clear hany
  induction r with
  |nil=>§.cons ⟨rfl,rw'⟩ .nil
  |cons h t ih=>§.cons h ih
þ RepD.length{kvs:List (List Int×W)}{ps:List (List Key×V)}(r:RepD K H kvs ps):kvs.length=ps.length:=Paired.length r
þ zjd:∀{ws:List W}{vs:List V}{k:List Int},Reps K H ws vs→zby ws=some k→vs=(k.map (Sum.inl:Int→Key)).map kV
 | [],_,_, .nil,e=>by cases e;rfl
 |w::ws,_,k, .cons r rs,e=>by
  cases r with
  |int i=>
   cases q:zby ws with
   |none=>simp [zby,q]at e
   |some ks=>
    simp only[zby,q,Option.map_some,Option.some.injEq]at e;subst e;rw[zjd rs q];rfl
  |_=>simp [zby]at e
þ znL{w:W}{v:V}{k:List Int}(r:Rep K H w v) (e:zrJ w=some k):∃b,v= .ref b∧H b=some (.tup ((k.map (Sum.inl:Int→Key)).map kV)):=by
 cases r with
 |tup f hs=>§⟨_,rfl,by rw[f,zjd hs e]⟩
 |_=>simp [zrJ]at e
þ zvZ{S:Sto}{a:Addr}{kvs:List (List Int×W)}{y:V}{wy:W}{k:List Int}(hS:RepS K H S) (e:S a=some (.dct kvs)) (ry:Rep K H wy y) (ek:zrJ wy=some k):∃o,DGet H a y o∧(zgQ kvs k=none→o=none)∧ ∀w,zgQ kvs k=some w→ ∃v,o=some v∧Rep K H w v:=by
 ø⟨ps,e1,r⟩:=hS a _ e;ø⟨b,rfl,eb⟩:=znL ry ek;have rv:=RepD.val r k;§⟨zno ps (k.map Sum.inl), .t e1 eb,rv.2,rv.1⟩
end
ñ def zzR (neg:Bool):W2:=λy x S Q=>match x with
 | .ref a=>match zrJ y with
  |some k=>zsU S a λkvs=>Q (.bl (if neg then !(zgQ kvs k).isSome else(zgQ kvs k).isSome)) S
  |none=>False
 |_=>False
ñ def zBG:W2:=λx y S Q=>match x with
 | .ref a=>match zrJ y with
  |some k=>zsU S a λkvs=>match zgQ kvs k with
   |some w=>Q w S
   |none=>False
  |none=>False
 |_=>False
section
variable {X:Cx}{a b o:Expr}{pos:Pos}{ta tb:WE}
ñ def zCb (neg:Bool):R2:=λy x H Q=>∃a o,x= .ref a∧DGet H a y o∧Q (.bl (if neg then !o.isSome else o.isSome)) H
þ zyu (hu:X.A.units+1<cLine):OpR X (compareOp .In) (zCb false):=by
 intro pins s σ H x y v u Q I rx ry h;ø⟨a,o,rfl,g,q⟩:=h;cases ry;§zCy hu I g rx λs3 I3=>⟨.bl o.isSome,H,I3,rfl,q⟩
þ zxb{K:Ƒ}{neg:Bool}:OpW K (zCb neg) (zzR neg):=λH x y wx wy S Q QW rx ry hS h hQ=>by
 unfold zzR at h;split at h
 ·split at h
  ·rename_i k ek;ø⟨kvs,ea,h⟩:=zxh h;cases ry;ø⟨o,g,g0,g1⟩:=zvZ hS ea rx ek;have eo:o.isSome=(zgQ kvs k).isSome:=by
    cases q:zgQ kvs k with
    |none=>rw[g0 q];rfl
    |some w=>ø⟨v,ev,_⟩:=g1 w q;rw[ev];rfl
   §⟨_,o,rfl,g,by rw[eo];§hQ _ S _ H .refl (.bl _) hS h⟩
  ·§h.elim
 ·§h.elim
þ zyH{k:Nat}(hr:Room k X.A) (ha:JE X a ta) (hb:JE X b tb) (hm:behindInMarks .In b=false:=by with_unfolding_all rfl):JT X (.Compare a [.In] [b] pos) (wTb (wOp (zzR false) ta tb)):=
 zgh (zyu (by have:=hr.units;omega)) zxb ha hb hm
end
section
variable {X:Cx}{o e:Expr}{to:WE}{tl:WL}{apos cpos p pos:Pos}
ñ def zuy:V→List V→Hp→VK→Prop:=λx vs H Q=>∃z:Str,x= .str z∧vs=[]∧z.length≤5592405∧Q (.str (Txt.upper z)) H
þ zth:MtR X "str.upper" zuy:=by
 intro pins s σ H x vs v us Q I rx rv h;ø⟨z,rfl,rfl,hz,q⟩:=h;ø⟨t,rfl⟩:=rx;cases rv;§SCL.upper hz λ_=>⟨.str (Txt.upper z),H,I.tok _,⟨_,rfl⟩,q⟩
ñ def zog:WMf:=λw ws S Q=>match w,ws with
 | .str z,[]=>z.length≤5592405∧Q (.str (Txt.upper z)) S
 |_,_=>False
þ zqf{K:Ƒ}:MtW K zuy zog:=λH x w vs ws S Q QW r rs hS h hQ=>by
 cases r with
 |str z=>
  cases rs with
  |nil=>§⟨z,rfl,rfl,h.1,hQ _ S _ H .refl (.str _) hS h.2⟩
  |cons _ _=>§h.elim
 |_=>§h.elim
þ ztN (ho:JE X o to) (hbase:attributeBase o "upper" X.env (eval o X.env)=eval o X.env:=by rfl) (hline:(apos.endLine == cpos.line)=true:=by rfl):JE X (.Call (.Attribute o "upper" apos) [] [] cpos) (wM rvS zog to waNil):=
 zAK PySem.F.plainAttrs_str PySem.F.slot_str_upper PySem.F.type_str_upper zuT zth zqf ho hbase hline
þ zhW:∀(ns:List Int) (n:Nat),n≤ns.length→preSum (λi=>ns.getD i 0) n=(ns.take n).sum
 |ns,0,_=>by simp [preSum]
 |ns,n+1,h=>by
  rw[preSum,zhW ns n ¥,List.take_succ,List.sum_append];congr 1;rw[List.getD_eq_getElem?_getD,List.getElem?_eq_getElem ¥];simp
þ zre (hc:X.calm=true):CallR X (.builtin "sum") (λxs H Q=>∃(p:Addr) (ns:List Int),xs=[.ref p]∧SqL X.K H p (ns.map V.int)∧Q (.int ns.sum) H):=by
 intro pins s σ H xs us Q I r h;ø⟨p,ns,rfl,hq,q⟩:=h;ø⟨u,rfl,rx⟩:=ziw r;cases rx;ø⟨its,r',pl,hz⟩:=I.list hq;have hlen:ns.length=its.length:=by have:=r'.length;rw[List.length_map]at this;§this
 have hp:p<s.heap.objs.size:=by ø⟨o,n,e,_⟩:=pl;§Heap.lt_size e
 have hd:X.A.in1.handled=none:=I.ok.hd hc;have get:∀(i:Nat) (v:Value),its.toArray[i]? =some v→ ∃t,v= .int (ns.getD i 0) t:=λi v e=>by
  have e':its[i]? =some v:=by simpa using e
  have hi:i<ns.length:=by rw[hlen];§(List.getElem?_eq_some_iff.mp e').1
  ø⟨u,hu,ru⟩:=r'.get (i:=i) (x:= .int (ns.getD i 0)) (by rw[List.getElem?_map,List.getElem?_eq_getElem hi,List.getD_eq_getElem?_getD,List.getElem?_eq_getElem hi];rfl);rw[e']at hu;cases hu;§ru
 ¤call_sum_walkG (wpAny_pyIter_list pl.isList ?_);¤⟨s.heap.objs.size,_,_,_,_,_,λi=>ns.getD i 0,rfl,Walks.list hd _ p (Nat.ne_of_lt hp) its.toArray,⟨⟨_,Heap.get?_push_size _ rfl,rfl,rfl⟩,pl.isList.push _⟩,?_,λi v hP=>get i v hP,λh' tk t' hk=>?_⟩
 ·intro b hb;have hsz:∀o:Obj,(s.heap.push o).objs.size=s.heap.objs.size+1:=λo=>Heap.size_push ..;simp only[List.mem_cons,List.not_mem_nil,or_false]at hb;show b<(s.heap.push _).objs.size;rw[hsz];rcases hb with rfl |rfl
  ·§Nat.lt_succ_self _
  ·§Nat.lt_succ_of_lt hp
 ·have e:preSum (λi=>ns.getD i 0) its.toArray.size=ns.sum:=by
   rw[List.size_toArray,←hlen,zhW ns _ (Nat.le_refl _),List.take_length]
  have I1:Inv X pins σ H { s with heap:=h',toks:=tk }:=I.kept λb o e=>hk b o (λz=>by
   have z':b=s.heap.objs.size:=by simpa using z
   rw[z']at e;§absurd (Heap.lt_size e) (Nat.lt_irrefl _)) (Heap.get?_push_of_some _ e)
  §⟨.int _,H,I1,⟨t',by rw[e]⟩,q⟩
ñ def zms:WF:=λws S Q=>match zby ws with
 |some ns=>Q (.int ns.sum) S
 |none=>False
þ zfC{K:Ƒ}{H:Hp}:∀{ws:List W}{vs:List V}{ns:List Int},Reps K H ws vs→zby ws=some ns→vs=ns.map V.int
 | [],_,_, .nil,e=>by cases e;rfl
 |w::ws,_,ns, .cons r rs,e=>by
  cases r with
  |int i=>
   cases q:zby ws with
   |none=>simp [zby,q]at e
   |some ks=>
    simp only[zby,q,Option.map_some,Option.some.injEq]at e;subst e;rw[zfC rs q];rfl
  |_=>simp [zby]at e
þ zrl{K:Ƒ}:zoT K (λxs H Q=>∃(p:Addr) (ns:List Int),xs=[.ref p]∧SqL K H p (ns.map V.int)∧Q (.int ns.sum) H) zms:=λH a vs ws S Q QW ea na r hS h hQ=>by
 unfold zms at h;split at h
 ·rename_i ns e;have:=zfC r e;subst this;§⟨a,ns,rfl, .of ea,hQ _ S _ H .refl (.int _) hS h⟩
 ·§h.elim
þ zmK (hg:Gl X "sum") (hm:X.mg "sum" =none) (ha:JL X e tl)
  (he:starEach [e] X.env=(false,eval e X.env)::starEach [] X.env:=by rfl) (hpl:(backTo pos (starEach [] X.env)).any (·.1)=false:=by rfl) (hcl:X.calm=true:=by rfl):JE X (.Call (.Name "sum" p) [e] [] pos) (wBL zms tl):=λE hE=>
 zrT (zre hcl) zrl hg hm PyProof.Rows.boot_sum ha £ £ he hpl E hE
end
þ zsG:typeLookup (.type "list") "keys" =pure none:=by rw[typeLookup_type,builtinLookup_eq_fast];kernel_rfl
þ zlo:entryFor table "dict.update.loop" =some Builtin.«dict.update.loop» :=entryFor_of_tree (by kernel_rfl)
þ zfV:plainId "dict.update.loop" =true:=by decide +kernel
section
variable {prog:Program}{w:World}{A:Around}{E:Value→Shared→Prop}{s:Shared}
þ zjs{a:Addr}{o:Obj}{xs:Array Value}{k:Nat}{name:Str}{Q:Option Value→Shared→Prop}
  (hx : s.heap.get? a = some o) (hc : o.cls = .type "list") (hdat : o.data = .seq xs k) (hd : o.dict = none) (hmiss : typeLookup (.type "list") name = pure none) (hname : (["__module__", "__name__", "__qualname__", "__doc__", "__annotations__"] : List Str).contains name = false) (hA : A.handled = none)
  (h:∀h' tk,(∀b o,s.heap.get? b=some o→h'.get? b=some o)→Q none { s with heap:=h',toks:=tk }) (hsz:name.length+100≤sizeLine:=by size_fits) :
  wpAny (model prog w) A (getAttr? (.ref a) name) Q E s:=by
 ø⟨c,dct,dat,sl⟩:=o;simp only at hc hdat hd;subst hc hdat hd;ø⟨hp,g,d,tk,os⟩:=s;have hT:∀tk',(⟨hp,g,d,tk',os⟩:Shared).TypeIs (.ref a) "list" :=λ_=>⟨_,hx,rfl⟩;have f1:=sub_AttributeError;have f3:=F.slot_list_getattribute.lookup;have f4:=F.slot_list_getattribute.bind (.ref a);have f5:=am_list_getattr_none;unfold getAttr? getAttrBy? getAttrBy
 repeat (any_goals (first |assumption |§hT _ | ((with_reducible show wpAny _ _ (call (Value.builtin "list.__getattribute__") _ _) _ _ _);¤call_meets F.slot_list_getattribute (hT _) am_entry_list_getattribute (F.args_list_getattribute_2 _ _) (meets_getattribute_miss_list a xs k sl name _ hmiss hname hsz) ⟨hx,hA,λh' tk' e hx'=>?_⟩) |wp_step))
 ø⟨t',u',he⟩:=hx'.there;have hTe:∀tk',(⟨h',g,d,tk',os⟩:Shared).TypeIs (.ref e) "AttributeError" :=λ_=>⟨_,he,rfl⟩;show wpAny _ _ (getattributeRaised _ _ _ _ _ _ _) _ _ _;unfold getattributeRaised
 repeat (any_goals (first |assumption |§hTe _ |wp_step))
 §h h' tk' hx'.keeps
end
section
variable {prog:Program}{w:World}{A:Around}{R:Result→Shared→Prop}{I l d:Addr}{items:Array Value}
ñ def zvw (xs:List (List Key×Addr×Value)) (ps:List (List Key×Addr)):List (List Key×Addr×Value):=ps.foldl (λxs p=>storedH xs p.1 p.2 (.bool true)) xs
þ zpb (hu:(tupleKind (zbD prog w)).room A.in1) (hh:A.in1.handled=none) (hne:l≠I) (hdI:d≠I) (hdl:d≠l) (h0:Heap) (hd0:h0.get? d=none) (hI0:h0.get? I=none) (ps:List (List Key×Addr)) (hps:ps.length=items.size)
  (hp:∀(i:Nat) (p:List Key×Addr) (v:Value),ps[i]? =some p→items[i]? =some v→ ∃(t:Addr) (o:Obj) (n:Nat),v= .ref t∧h0.get? t=some o∧o.cls= .type "tuple" ∧o.data= .seq #[.ref p.2, .bool true] n)
  (hk:∀p∈ps,(tupleKind (zbD prog w)).is h0 p.1 p.2) :
  ∀(k i:Nat) (s:Shared) (xs:List (List Key×Addr×Value)),items.size - i=k→i≤items.size→s.heap.IsListIter I l i→s.heap.IsList l items→(∀b o,h0.get? b=some o→s.heap.get? b=some o)→s.heap.DictOfH (tupleKind (zbD prog w)) d xs→xs.length+(items.size - i)≤sizeLine→
  (∀h' tk,(∀b o,h0.get? b=some o→h'.get? b=some o)→h'.DictOfH (tupleKind (zbD prog w)) d (zvw xs (ps.drop i))→R (.ok (.ret .none)) { s with heap:=h',toks:=tk })→
  codeAny (model prog w) A (.builtin "dict.update.loop" ⟨[.ref d, .ref I,rawInt i, .none],[]⟩) R s:=by
 have W:=Walks.list (prog:=prog) (w:=w) (A:=A.in1) hh I l hne items;intro k
 induction k with
 |zero=>
  intro i s xs hki hi hit hl hold hd hsz hR;have hin:i=items.size:=by omega
  subst hin;¤codeAny_builtin zlo ?_;rw[Around.under_plainId zfV _];show wpAny _ A.in1 (pyNext (.ref I) >>= _) _ _ s;¤wpAny_bind (W.done s _ _ ⟨hit,hl⟩ λh' tk hk'=>?_);have hd':h'.DictOfH (tupleKind (zbD prog w)) d xs:=by
   ø⟨q,es,ep,q1,q2,q3,q4,q5,q6⟩:=hd;¤⟨q,es,ep,hk' d q (λz=>hdI (List.mem_singleton.mp z)) q1,q2,q3,q4,λx hx=>?_,q6⟩;ø⟨ob,its,m,k1,k2,k3,k4⟩:=q5 x hx;¤⟨ob,its,m,hk' _ _ (λz=>?_) k1,k2,k3,k4⟩;ø⟨oi,hi1,hi2,_⟩:=hit;rw[List.mem_singleton.mp z,hi1]at k1;cases k1;rw[k2]at hi2;§absurd hi2 £
  show wpAny _ A.in1 (Builtin.Dict.addKeywords d [] >>= _) _ _ _;¤wpAny_bind (wpAny_pure (wpAny_pure (hR h' tk (λb o e=>hk' b o (λz=>by rw[List.mem_singleton.mp z,hI0]at e;cases e) (hold b o e)) ?_)))
  rw[List.drop_of_length_le ¥];§hd'
 |succ k ih=>
  intro i s xs hki hi hit hl hold hd hsz hR;have hlt:i<items.size:=by omega
  ¤codeAny_builtin zlo ?_;rw[Around.under_plainId zfV _];show wpAny _ A.in1 (pyNext (.ref I) >>= _) _ _ s;¤wpAny_bind (W.item i s _ _ hlt ⟨hit,hl⟩ λv h' tk hP hst' hk'=>?_);obtain⟨p,hpi⟩:∃p,ps[i]? =some p:=⟨ps[i],List.getElem?_eq_getElem ¥⟩;ø⟨t,o,n,rfl,ho,hc,hdat⟩:=hp i p v hpi hP;have ho':=hk' t o (λz=>by rw[List.mem_singleton.mp z]at ho;rw[hI0]at ho;cases ho) (hold t o ho)
  have hkey:(tupleKind (zbD prog w)).is h' p.1 p.2:=by
   ø⟨ob,its,m,k1,k2,k3,k4⟩:=hk p (List.mem_of_getElem? hpi);§⟨ob,its,m,hk' _ _ (λz=>by rw[List.mem_singleton.mp z]at k1;rw[hI0]at k1;cases k1) (hold _ _ k1),k2,k3,k4⟩
  have hd':h'.DictOfH (tupleKind (zbD prog w)) d xs:=by
   ø⟨q,es,ep,q1,q2,q3,q4,q5,q6⟩:=hd;¤⟨q,es,ep,hk' d q (λz=>hdI (List.mem_singleton.mp z)) q1,q2,q3,q4,λx hx=>?_,q6⟩;ø⟨ob,its,m,k1,k2,k3,k4⟩:=q5 x hx;¤⟨ob,its,m,hk' _ _ (λz=>?_) k1,k2,k3,k4⟩;ø⟨oi,hi1,hi2,_⟩:=hit;rw[List.mem_singleton.mp z,hi1]at k1;cases k1;rw[k2]at hi2;§absurd hi2 £
  show wpAny _ A.in1 (holding [.ref t] _ >>= _) _ _ _;¤wpAny_bind (wpAny_holding ?_);¤wpAny_bind (wpAny_tryCatch ?_);unfold Builtin.Dict.pairItems;¤wpAny_bind (wpAny_typeOf (T:= "tuple") ⟨o,ho',hc⟩ ?_);rw[if_pos £];¤wpAny_bind (wpAny_seqItems ho' hdat ?_);¤wpAny_pure ?_;show wpAny _ A.in1 (holding [.ref p.2, .bool true] (dictSet d (.ref p.2) (.bool true))) _ _ _;¤wpAny_holding (wpAny_dictSet_heap (hsz:=by omega) hu hkey hd' λh2 hd2 hs2=>?_)
  ¤wpAny_pure ⟨plainId_quiet zfV _,?_⟩;have ei:((i:Int)+1)=((i+1:Nat):Int):=by omega
  rw[ei];have hln:(storedH xs p.1 p.2 (Value.bool true)).length≤xs.length+1:=by
   unfold storedH;split<;>simp
  have hst2:=W.frame (i+1) h' h2 hst' λb hb o e=>by
   have hbd:b≠d:=by
    rcases List.mem_cons.mp hb with z |z
    ·rw[z];§Ne.symm hdI
    ·rw[List.mem_singleton.mp z];§Ne.symm hdl
   §(hs2.2 b hbd).trans e
  ¤ih (i+1) _ _ ¥ ¥ hst2.1 hst2.2 (λb o e=>?_) hd2 ¥ λh3 tk3 old3 hd3=>?_
  ·have hbd:b≠d:=λz=>by rw[z,hd0]at e;cases e
   have hbI:b∉ [I]:=λz=>by rw[List.mem_singleton.mp z,hI0]at e;cases e
   §(hs2.2 b hbd).trans (hk' b o hbI (hold b o e))
  ·¤hR h3 tk3 old3 ?_;have ed:ps.drop i=p::ps.drop (i+1):=by
    have hi':i<ps.length:=by omega
    rw[List.drop_eq_getElem_cons hi'];rw[List.getElem?_eq_getElem hi']at hpi;cases hpi;rfl
   rw[ed];§hd3
end
section
variable {X:Cx}{e:Expr}{p pos:Pos}{tl:WL}
ñ def zol (H:Hp) (q:List Key) (v:V):Prop:=∃t b,v= .ref t∧H t=some (.tup [.ref b, .bl true])∧H b=some (.tup (q.map kV))
ñ def zpw (qs:List (List Key)):List (List Key×V):=qs.foldl (λkvs q=>zqG kvs q (.bl true)) []
þ zkr:∀(qs:List (List Key)) (kvs:List (List Key×V)),(qs.foldl (λkvs q=>zqG kvs q (V.bl true)) kvs).length≤kvs.length+qs.length
 | [],kvs=>by simp
 |q::qs,kvs=>by
  have h1:=zmP kvs q (V.bl true);have h2:=zkr qs (zqG kvs q (.bl true));rw[List.foldl_cons,List.length_cons];omega
þ KT.fold{H:Hp}:∀(ps:List (List Key×Addr)) {kvs:List (List Key×V)}{xs:List (List Key×Addr×Value)},KT H kvs xs→(∀p∈ps,H p.2=some (.tup (p.1.map kV)))→KT H ((ps.map λp=>p.1).foldl (λkvs q=>zqG kvs q (.bl true)) kvs) (zvw xs ps)
 | [],_,_,r,_=>r
 |p::ps,kvs,xs,r,h=>by
  rw[List.map_cons,List.foldl_cons];§KT.fold ps (r.put p.1 (h p List.mem_cons_self) rfl) λp' hp'=>h p' (List.mem_cons_of_mem _ hp')
þ zoo{P:Program}{w:World}{H:Hp}{h:Heap}(ok:HOk P w H h):∀{qs:List (List Key)}{vs:List V}{its:List Value},Paired (zol H) qs vs→Vals vs its→ ∃ps:List (List Key×Addr),(ps.map λp=>p.1)=qs∧
  (∀(i:Nat) (p:List Key×Addr) (v:Value),ps[i]? =some p→its[i]? =some v→ ∃(t:Addr) (o:Obj) (n:Nat),v= .ref t∧h.get? t=some o∧o.cls= .type "tuple" ∧o.data= .seq #[.ref p.2, .bool true] n)∧ ∀p∈ps,H p.2=some (.tup (p.1.map kV))
 |_,_,_, .nil, .nil=>⟨[],rfl,(λi p v h=>by simp at h),λ_ h=>nomatch h⟩
 |_,_,_, .cons (a:=q) hq hs, .cons hv hvs=>by
  ø⟨ps,e,h1,h2⟩:=zoo ok hs hvs;ø⟨t,b,rfl,ht,hb⟩:=hq;¤⟨(q,b)::ps,by rw[List.map_cons,e],λi p v hp hv'=>?_,λp hp=>?_⟩
  ·cases i with
   |zero=>
    simp only[List.getElem?_cons_zero,Option.some.injEq]at hp hv';subst hp hv';ø⟨_,its,r,o,g1,g2,n,g3⟩:=(show ObjOk P w H h t (.tup [.ref b, .bl true]) from ok t _ ht);cases r with
    |cons r1 r2=>
     cases r2 with
     |cons r3 r4=>
      cases r4;cases r1;cases r3;§⟨t,o,n,hv,g1,g2,by simpa using g3⟩
   |succ i=>
    simp only[List.getElem?_cons_succ]at hp hv';§h1 i p v hp hv'
  ·rcases List.mem_cons.mp hp with rfl |hp
   ·§hb
   ·§h2 p hp
þ zpa (hc:X.calm=true) (hu:X.A.units+2<cLine):CallR X (.type "dict") (λxs H Q=>∃(l:Addr) (vs:List V) (qs:List (List Key)),xs=[.ref l]∧SqL X.K H l vs∧Paired (zol H) qs vs∧qs.length≤sizeLine∧ ∀d,H d=none→Q (.ref d) (upd H d (.dT (zpw qs)))):=by
 intro pins s σ H xs us Q I r h;ø⟨l,vs,qs,rfl,hq,hp,hlen,q⟩:=h;ø⟨u,rfl,rx⟩:=ziw r;cases rx;ø⟨its,r',pl,hz⟩:=I.list hq;have hd:X.A.in1.handled=none:=I.ok.hd hc;have hl:l<s.heap.objs.size:=by ø⟨o,n,e,_⟩:=pl;§Heap.lt_size e
 ¤callType_codes (Q₁:=λobj s₁=>obj= .ref s.heap.objs.size∧s₁={ s with heap:=s.heap.push { cls:= .type "dict",data:= .dict #[] } }) F.kt_called_dict (F.kt_typeCall_dict_1 _) F.entry_dict_init (kt_code_dict_new _ ⟨rfl,rfl⟩) ?_;rintro obj s₁ ⟨rfl,rfl⟩;have hT:({ s with heap:=s.heap.push { cls:= .type "dict",data:= .dict #[] } }:Shared).TypeIs (.ref s.heap.objs.size) "dict" :=⟨_,Heap.get?_push_size _ rfl,rfl⟩;¤⟨hT,F.args_dict_init_2 _ _,?_⟩;unfold Builtin.«dict.__init__»;¤wpAny_bind ?_;unfold Builtin.Dict.selfAndRest;¤wpAny_bind (wpAny_notOrdered_dict hT ?_);show wpAny _ _ (pure (s.heap.objs.size,[Value.ref l])) _ _ _;¤wpAny_pure ?_;show wpAny _ _ (Builtin.Dict.updateFrom "dict.__init__" s.heap.objs.size (.ref l) [] .none) _ _ _;unfold Builtin.Dict.updateFrom;ø⟨ol,nl,hol,hcl,hdl,hnl⟩:=pl;have hol1:=Heap.get?_push_of_some { cls:= .type "dict",data:= .dict #[] } hol;ø⟨ps,eqs,hps,hks⟩:=zoo I.hok hp r';have hplen:ps.length=its.toArray.size:=by
  have h1:=congrArg List.length eqs;have h2:=Paired.length hp;have h3:=r'.length;rw[List.length_map]at h1;rw[List.size_toArray];omega
 ¤wpAny_bind (wpAny_typeOf (T:= "list") ⟨ol,hol1,hcl⟩ ?_);dsimp only;rw[if_pos £];¤wpAny_bind (zjs hol1 hcl hnl hdl zsG (by decide +kernel) hd λh1 tk1 kp1=>?_);rw[if_pos (show(none:Option Value).isNone=true from rfl)];¤wpAny_bind (wpAny_rule ?_);have hl1:h1.IsList l its.toArray:=⟨ol,kp1 _ _ hol1,hcl,nl,hnl⟩;¤wpAny_bind (wpAny_pyIter_list hl1 ?_);¤wpAny_pure ⟨plainId_quiet zfV _,?_⟩;have hd1:h1.get? s.heap.objs.size=some { cls:= .type "dict",data:= .dict #[] }:=kp1 _ _ (Heap.get?_push_size _ rfl);have hdlt:=Heap.lt_size hd1;have hI0:s.heap.get? h1.objs.size=none:=by
  cases z:s.heap.get? h1.objs.size with
  |none=>rfl
  |some ob=>§absurd (Heap.lt_size (kp1 _ _ (Heap.get?_push_of_some _ z))) (Nat.lt_irrefl _)
 have hd0:s.heap.get? s.heap.objs.size=none:=by
  cases z:s.heap.get? s.heap.objs.size with
  |none=>rfl
  |some ob=>§absurd (Heap.lt_size z) (Nat.lt_irrefl _)
 ¤zpb (A:=X.A.in1) (I:=h1.objs.size) (l:=l) (d:=s.heap.objs.size) (items:=its.toArray) ?_ hd (Nat.ne_of_lt (Nat.lt_trans hl hdlt)) (Nat.ne_of_lt hdlt) (Nat.ne_of_gt hl) s.heap hd0 hI0 ps hplen (λi p v h1 h2=>hps i p v h1 (by simpa using h2)) (λp hp=>zqh I.hok (hks p hp)) _ 0 _ [] rfl (Nat.zero_le _) ?_ ?_ ?_ ?_ ?_ λh' tk' old' hd'=>?_
 ·§tupleKind_room_in1 (A:=X.A.in1) (show X.A.in1.units+1<cLine from by have:X.A.in1.units=X.A.units+1:=rfl;omega)
 ·§⟨_,Heap.get?_push_size _ rfl,rfl,rfl⟩
 ·§hl1.push _
 ·§λb o e=>Heap.get?_push_of_some _ (kp1 _ _ (Heap.get?_push_of_some _ e))
 ·¤⟨_, #[],0,Heap.get?_push_of_some _ hd1,?_,rfl,rfl,(λx hx=>nomatch hx),List.nodup_nil⟩
  first |§⟨rfl,rfl⟩ |§rfl |§.inl rfl | (unfold Obj.ExactDict;simp)
 ·rw[List.length_nil,←hplen];have h1:=congrArg List.length eqs;rw[List.length_map]at h1;omega
 ·rw[List.drop_zero]at hd';ø⟨o',es,ep,g1,g2,g3,g4,g5,g6⟩:=hd';have hl0:=zkr qs [];have kt:KT H (zpw qs) (zvw [] ps):=by
   have:=KT.fold ps (show KT H [] [] from .nil) hks;rw[eqs]at this;§this
  ¤⟨rfl, .ref s.heap.objs.size,_,I.laid (t':=tk') (o:= .dT (zpw qs)) old' (Nat.le_refl _) ⟨?_,?_,_,kt.keeps λb ys eb=>?_,o',es,ep,g1,g2,g3,g4,g6⟩,rfl,q _ (I.hok.fresh (Nat.le_refl _))⟩
  ·simp only[List.length_nil,Nat.zero_add]at hl0;§Nat.le_trans hl0 hlen
  ·have:=I.big;§beq_eq_false_iff_ne.mpr (Nat.ne_of_gt this)
  ·rw[zay (zau eb (I.hok.fresh (Nat.le_refl _)))];§eb
ñ def zfo:List W→Option (List (List Int))
 | []=>some []
 | .tup [k, .bl true]::ws=>match zrJ k,zfo ws with
  |some q,some qs=>some (q::qs)
  |_,_=>none
 |_=>none
ñ def ziC (qs:List (List Int)):List (List Int×W):=qs.foldl (λkvs k=>zxd kvs k (.bl true)) []
ñ def zls:WF:=λws S Q=>match zfo ws with
 |some qs=>qs.length≤1000000∧ ∀a,S a=none→Q (.ref a) (put S a (.dct (ziC qs)))
 |none=>False
þ zkY{K:Ƒ}{H:Hp}:∀{ws:List W}{vs:List V}{qs:List (List Int)},Reps K H ws vs→zfo ws=some qs→Paired (zol H) (qs.map λq=>q.map Sum.inl) vs
 | [],_,_, .nil,e=>by
  simp only[zfo,Option.some.injEq]at e;subst e;§.nil
 |w::ws,_,qs, .cons r rs,e=>by
  cases w with
  |tup us=>
   rcases us with _ |⟨k,_ |⟨b,_ |⟨x,us⟩⟩⟩
   ·simp [zfo]at e
   ·simp [zfo]at e
   ·cases b with
    |bl b=>
     cases b with
     |true=>
      simp only[zfo]at e;cases e1:zrJ k with
      |none=>rw[e1]at e;simp at e
      |some q=>
       cases e2:zfo ws with
       |none=>rw[e1,e2]at e;simp at e
       |some qs'=>
        rw[e1,e2]at e;simp only[Option.some.injEq]at e;subst e;cases r with
        | @tup t vs' _ ft hs=>
         cases hs with
         |cons r1 r2=>
          cases r2 with
          |cons r3 r4=>
           cases r4;cases r3;ø⟨b,rfl,eb⟩:=znL r1 e1;§.cons ⟨t,b,rfl,ft,eb⟩ (zkY rs e2)
     |false=>simp [zfo]at e
    |_=>simp [zfo]at e
   ·cases b<;>simp [zfo]at e
  |_=>simp [zfo]at e
þ zlF{K:Ƒ}{H:Hp}:∀(qs:List (List Int)) {kvs:List (List Int×W)}{ps:List (List Key×V)},RepD K H kvs ps→RepD K H (qs.foldl (λkvs k=>zxd kvs k (.bl true)) kvs) ((qs.map λq=>q.map Sum.inl).foldl (λkvs q=>zqG kvs q (.bl true)) ps)
 | [],_,_,r=>r
 |q::qs,_,_,r=>by
  rw[List.map_cons,List.foldl_cons,List.foldl_cons];§zlF qs (r.put q (.bl true))
þ zpv{K:Ƒ}:zoT K (λxs H Q=>∃(l:Addr) (vs:List V) (qs:List (List Key)),xs=[.ref l]∧SqL K H l vs∧Paired (zol H) qs vs∧qs.length≤sizeLine∧ ∀d,H d=none→Q (.ref d) (upd H d (.dT (zpw qs)))) zls:=λH a vs ws S Q QW ea na r hS h hQ=>by
 unfold zls at h;split at h
 ·rename_i qs e;have hp:=zkY r e;¤⟨a,vs,_,rfl, .of ea,hp,?_,λd hd=>?_⟩
  ·rw[List.length_map,sizeLine_eq];omega
  ·have rd:RepD K H (ziC qs) (zpw (qs.map λq=>q.map Sum.inl)):=zlF qs (show RepD K H [] [] from .nil);have x:Ext H S (upd H d (.dT (zpw (qs.map λq=>q.map Sum.inl)))) (put S d (.dct (ziC qs))):= .newS hd;¤hQ (.ref d) (put S d (.dct (ziC qs))) (.ref d) _ x (.ref d) (λb o q=>?_) (h.2 d (hS.free hd));by_cases hb:b=d
   ·subst hb;rw[zag]at q;cases q;§⟨_,zaz,Paired.mapP rd λ_ _ z=>⟨z.1,z.2.ext x⟩⟩
   ·rw[zaF hb]at q;§hS.new hd b o q
 ·§h.elim
þ ztO{k:Nat}(hr:Room k X.A) (hg:Gl X "dict") (hm:X.mg "dict" =none) (ha:JL X e tl)
  (he:starEach [e] X.env=(false,eval e X.env)::starEach [] X.env:=by rfl) (hpl:(backTo pos (starEach [] X.env)).any (·.1)=false:=by rfl) (hcl:X.calm=true:=by rfl):JE X (.Call (.Name "dict" p) [e] [] pos) (wBL zls tl):=λE hE=>
 zuB (zpa hcl (by have:=hr.units;omega)) zpv hg hm PyProof.Rows.boot_dict ha £ £ he hpl E hE
þ _root_.pz{a b:Prop}(h:a→b) (g:b→a):a=b:=propext ⟨h,g⟩
þ ztE{ws:List W}{S:Sto}{Q:WK}:(zls ws S Q)=(match zfo ws with
 |some qs=>qs.length≤1000000∧ ∀a,S a=none→Q (.ref a) (put S a (.dct (ziC qs)))
 |none=>False):=pz id id
þ zkl:∀ps:List (List Int),zfo (ps.map λp=>W.tup [.tup (p.map W.int), .bl true])=some ps
 | []=>rfl
 |p::ps=>by
  have e:zrJ (.tup (p.map W.int))=some p:=by
   show zby (p.map W.int)=some p
   induction p with
   |nil=>rfl
   |cons i p ih=>rw[List.map_cons,zby,ih];rfl
  rw[List.map_cons,zfo,e,zkl ps]
þ ztS (kvs:List (List Int×W)) (q k:List Int) (v:W):(zgQ (zxd kvs q v) k).isSome=(decide (k=q) || (zgQ kvs k).isSome):=by
 have e:∀kvs:List (List Int×W),(zgQ kvs k).isSome=kvs.any λkv=>decide (kv.1=k):=λkvs=>by
  unfold zgQ;rw[Option.isSome_map]
  induction kvs with
  |nil=>rfl
  |cons a kvs ih=>
   rw[List.find?_cons,List.any_cons];cases decide (a.1=k) with
   |true=>rfl
   |false=>simpa using ih
 rw[e,e];unfold zxd;split
 ·rename_i h;have:(kvs.map λkv=>if kv.1=q then(kv.1,v) else kv).any (λkv=>decide (kv.1=k))=kvs.any λkv=>decide (kv.1=k):=by
   rw[List.any_map];congr 1;funext kv;ŝ[Function.comp];split<;>rfl
  rw[this];by_cases hk:k=q
  ·subst hk;rw[h];simp
  ·rw[decide_eq_false hk,Bool.false_or]
 ·rw[List.any_append];ŝ[List.any_cons,List.any_nil,Bool.or_false];rw[Bool.or_comm];congr 1;apply decide_eq_decide.mpr;§eq_comm
þ znk:∀(qs:List (List Int)) (kvs:List (List Int×W)) (k:List Int),(zgQ (qs.foldl (λkvs k=>zxd kvs k (.bl true)) kvs) k).isSome=(decide (k∈qs) || (zgQ kvs k).isSome)
 | [],kvs,k=>by simp
 |q::qs,kvs,k=>by
  rw[List.foldl_cons,znk qs,ztS,←Bool.or_assoc];congr 1;rw[Bool.eq_iff_iff];ŝ[Bool.or_eq_true,decide_eq_true_eq,List.mem_cons];§or_comm
þ zle (qs:List (List Int)) (k:List Int):(zgQ (ziC qs) k).isSome=decide (k∈qs):=by
 unfold ziC;rw[znk];simp [zgQ]
end
end L2
end
section
namespace L2
open PySem PySem.Spec PyProof.Rows PySem.W PySem.Calls Builtin Builtin.ObjectAttr Builtin.Getset_descriptor
structure XcOk (K:Frag) (C:Addr):Prop where
  ga:findIn K (.ref C) "__getattribute__" =some (some (.builtin "BaseException.__getattribute__"))
  gt:findIn K (.ref C) "__getattr__" =some none
  cl:findIn K (.ref C) "__class__" =some (some (.builtin "object.__class__"))
  ob:mroIn K C (.type "object")=some true
  be:mroIn K C (.type "BaseException")=some true
section
variable {h:Heap}{a C:Addr}{o:Obj}
þ zBy{M:Model}(hx:h.get? a=some o) (hc:o.cls= .ref C):Looks M h (typeOf (.ref a)) (.ref C):=hc▸(Looks.ld hx).andThen .now
end
ñ abbrev bmV:List Value:=[.type "ValueError", .type "Exception", .type "BaseException", .type "object"]
structure XcIn (K:Ƒ) (x:Str) (C:Addr):Prop where
  nm:PySem.W.nsIn K mainGlobals x=some (some (.ref C))
  ex:PySem.W.excIn K C bmV "ValueError.__new__" =true
  xc:XcOk K C
þ XcIn.own{K:Ƒ}{x:Str}{C:Addr}{h:Heap}{mg:Str→Option Value}(O:XcIn K x C) (X:K.In h) (G:h.Ns mainGlobals mg):OwnCls x C bmV "ValueError.__new__" mg h:=by
 have q:=O.ex;¤⟨PySem.W.mg_of X G O.nm,?_⟩;unfold PySem.W.excIn at q;split at q
 ·rename_i dd cd sl ho;split at q
  ·rename_i C' bm k0 k1 k2 k3 n k5 hm hs;simp only[Bool.and_eq_true,beq_iff_eq,Bool.not_eq_true']at q;ø⟨⟨⟨⟨⟨rfl,hnn⟩,hdel⟩,ht⟩,hok⟩,hni⟩:=q;ø⟨nm,bs,mro,ns,qn,hd,sn,sub,ab,col,del⟩:=cd;dsimp only at hm hdel hok hni;subst hm hdel;have hsl:sl= #[k0,k1,k2,k3,some (.builtin n),k5]:=by
    ø⟨l⟩:=sl;simp only at hs;rw[hs]
   subst hsl;subst hnn;§⟨bm,ns,nm,qn,bs,hd,sn,sub,ab,col,dd,k0,k1,k2,k3,k5,_,X _ _ ho, .of_isNs (PySem.W.isNs_of_in X hok),PySem.W.nsMap_none_of_in X hok hni,PySem.W.tail_of_in X ht⟩
  ·cases q
 ·cases q
ñ def zhZ (x:Str) (t:WA):WS:=λE _ σ S=>t E σ S λws S1=>ws.length≤sizeLine∧E x σ S1
þ zgk{X:Cx}{x:Str}{C:Addr}{e:Expr}{es:List Expr}{t:WA}{np cpos pos:Pos}(O:XcIn X.K x C) (hg:Gl X x) (hm:X.mg x=some (.ref C)) (ha:JA X (e::es) t) (hcl:X.calm=true:=by rfl) (hdb:(x == ("__debug__" :Str))=false:=by decide)
  (he:starEach (e::es) X.env=(false,eval e X.env)::starEach es X.env:=by rfl) (hpl:(backTo cpos (starEach es X.env)).any (·.1)=false:=by rfl) :
  JS X (.Raise (some (.Call (.Name x np) (e::es) [] cpos)) none pos) (zhZ x t):=λE hE pins s σ H D I z=>by
 ø⟨σW,S,DW,hσ,hS,ht,hD⟩:=z;have OC:=(O.own I.mod.kin I.mod.glob).keeps I.bk;ø⟨tl,N,nm,q,bs,hdct,sn,sub,ab,col,dd,k0,k1,k2,k3,k5,mN,hC,hN,hni,T⟩:=(O.own I.mod.kin I.mod.glob).obj;¤wpAny_Raise_call_subT (C:=C) (nm:=nm) (q:=q) (N:=N) (bs:=bs) (bm:=tl) (hdct:=hdct) (sn:=sn) (sub:=sub) (ab:=ab) (col:=col) (dd:=dd) (k0:=k0) (k1:=k1) (k2:=k2) (k3:=k3) (k5:=k5)
  F.excBase_ValueError (mN:=mN) (T.hasType F.excBase_ValueError.hasBase) (I.ok.hd hcl) (by rw[he];show(false || (backTo cpos (starEach es X.env)).any (·.1))=false;rw[hpl];rfl) hni (zin I hg hm ⟨rfl,?_⟩ hdb)
 have go:=ha E hE cpos pins s σ H (λvs H1=>∃ws S1,Reps X.K H1 ws vs∧RpSt X.K H1 σW σ∧RepS X.K H1 S1∧ws.length≤sizeLine∧E x σW S1) I ⟨σW,S,_,hσ,hS,ht,λws S1 vs H1 e1 r1 hS1 h1=>⟨ws,S1,r1,hσ.ext e1,hS1,h1.1,h1.2⟩⟩;rw[he]at go⊢;¤Calls.evalArgs_plain (wpAny_mono go (λus s2 ⟨vs,H1,I1,r,ws,S1,r1,hσ1,hS1,hl,h1⟩=>?_) λ_ _ y=>y);¤⟨rfl,by rw[←r.length,←r1.length];§hl,I1.bk _ _ hC,hN.keeps I1.bk,T.keeps I1.bk,λh' a me=>?_⟩
 §hE.near pins σ H1 s2 σW x C a S1 h' us I1 hσ1 O.nm me hS1 h1
ñ abbrev noX:WX:=λ_ _ _=>False
þ zzq{X:Cx}(h:PassesOwn (model X.prog X.w) X.A X.env X.xe):Hook X noX:=⟨h,λ_ _ _ _ _ _ _ _ _ _ _ _ _ _ _ _ _ _ _ _ z=>z.elim,λ_ _ _ _ _ _ _ _ _ _ _ _ _ _ _ _ z=>z.elim⟩
ñ abbrev Cx.at (X:Cx) (pn:List (Addr×Obj)) (E:Value→Shared→Prop):Cx:={ X with pn:=pn,xe:=E }
section
variable {X:Cx}{pins pins':List (Addr×Obj)}{σ:St}{H:Hp}{s:Shared}{E:Value→Shared→Prop}
þ Cx.Ok.at (ok:X.Ok) (pn:List (Addr×Obj)) (E:Value→Shared→Prop):(X.at pn E).Ok:=
 ⟨ok.mod,ok.kind,ok.glob,ok.blt,ok.above,ok.inj,ok.has,ok.cab,ok.hd,ok.frames,ok.stk,ok.exf,ok.bs,ok.bsz,ok.noex,ok.exfs,ok.funs,ok.frf⟩
þ Cx.Ok.unat{pn:List (Addr×Obj)}(ok:(X.at pn E).Ok):X.Ok:=
 ⟨ok.mod,ok.kind,ok.glob,ok.blt,ok.above,ok.inj,ok.has,ok.cab,ok.hd,ok.frames,ok.stk,ok.exf,ok.bs,ok.bsz,ok.noex,ok.exfs,ok.funs,ok.frf⟩
þ Inv.at (I:Inv X pins σ H s) (E:Value→Shared→Prop):Inv (X.at (X.pn++pins) E) [] σ H s:=⟨I.ok.at _ E,I.os,I.bare,I.base,I.loc,I.cell,I.free,I.freeC,λp hp=>I.pin p (by simpa using hp),I.hok,I.len⟩
þ Inv.unat (I:Inv (X.at (X.pn++pins) E) pins' σ H s):Inv X pins σ H s:=⟨I.ok.unat,I.os,I.bare,I.base,I.loc,I.cell,I.free,I.freeC,λp hp=>I.pin p (List.mem_append_left _ hp),I.hok,I.len⟩
þ SP.unat{D:Ends}{f:Flow}{s':Shared}(h:SP (X.at (X.pn++pins) E) [] D f s'):SP X pins D f s':=by
 cases f with
 |next=>ø⟨σ',H',I,q⟩:=h;§⟨σ',H',I.unat,q⟩
 |brk=>ø⟨σ',H',I,q⟩:=h;§⟨σ',H',I.unat,q⟩
 |cont=>ø⟨σ',H',I,q⟩:=h;§⟨σ',H',I.unat,q⟩
 |ret u=>ø⟨v,σ',H',I,r,q⟩:=h;§⟨v,σ',H',I.unat,r,q⟩
end
ñ def zzh (X:Cx) (pins:List (Addr×Obj)) (σ:St) (σW:WSt) (H:Hp) (S:Sto) (E:WX) (e:Value) (s':Shared):Prop:=∃(cl:Str) (C a:Addr) (H1:Hp) (s1:Shared) (H':Hp) (S':Sto),e= .ref a∧PySem.W.nsIn X.K mainGlobals cl=some (some (.ref C))∧Inv X pins σ H1 s1∧
 s'.os=s1.os∧AllBare s'.gens∧Un (frs X.stack) [] H1 H' s1.heap s'.heap∧HOk X.prog X.w H' s'.heap∧Fly s1.heap s'.heap H' a C∧Ext H S H' S'∧RepS X.K H' S'∧E cl σW S'
ñ def zBi (X:Cx) (E:WX) (t:WE):TE:=λσ H Q=>∃σW S QW,RpSt X.K H σW σ∧RepS X.K H S∧t E σW S QW∧Wish X.K H S QW Q∧ ∀pins e s',zzh X pins σ σW H S E e s'→X.xe e s'
ñ def zvd (X:Cx) (E:WX) (t:WS):TS:=λD σ H=>∃σW S DW,RpSt X.K H σW σ∧RepS X.K H S∧t E DW σW S∧Meets X.K H S DW D∧ ∀pins e s',zzh X pins σ σW H S E e s'→X.xe e s'
ñ def JXE (X:Cx) (e:Expr) (t:WE):Prop:=∀E,PassesOwn (model X.prog X.w) X.A X.env X.xe→PE X e (zBi X E t)
ñ def JXS (X:Cx) (st:Stmt) (t:WS):Prop:=∀E,PassesOwn (model X.prog X.w) X.A X.env X.xe→PS X st (zvd X E t)
ñ def JXs (X:Cx) (st:List Stmt) (t:WS):Prop:=∀E,PassesOwn (model X.prog X.w) X.A X.env X.xe→PSs X st (zvd X E t)
ñ def znU (c:WSp) (t:WA):WE:=λE σ S Q=>t noX σ S λws S1=>c ws S1 Q λcl S2=>E cl σ S2
section
variable {X:Cx}{k:Nat}{f:Addr}{fd:FuncData}{ps:List Str}{c:WSp}{x:Str}{p pos:Pos}{e:Expr}{es:List Expr}{t:WA}{te:WE}{st:Stmt}{a:List Stmt}{ta:WS}
þ zrH (F:FnOk X.prog X.w X.K X.mg X.base (CX1 X.prog X.w) k f fd ps (zdn X.K c)) (hr:Room k X.A) (hg:Gl X x) (hm:X.mg x=some (.ref f)) (hk:PySem.W.keepIn X.K (.ref f)=true) (hb:Binds X.K fd ps [])
  (ha:JA X (e::es) t) (hdb:(x == ("__debug__" :Str))=false:=by decide) (he:starEach (e::es) X.env=(false,eval e X.env)::starEach es X.env:=by rfl) (hpl:(backTo pos (starEach es X.env)).any (·.1)=false:=by rfl) :
  JXE X (.Call (.Name x p) (e::es) [] pos) (znU c t):=λE hp pins s σ H Q I h=>by
 ø⟨σW,S,QW,hσ,hS,ht,hQ,hF⟩:=h;¤wpAny_Call_Name_kw (zin I hg hm ?_ hdb);¤PySem.W.callWith_K (h₀:=X.base) I.ok.mod.kin hk (thn (ha noX (zzq hp) pos pins s σ H (λvs H1=>∃ws S1,Reps X.K H1 ws vs∧RpSt X.K H1 σW σ∧RepS X.K H1 S1∧c ws S1 QW (λcl S'=>E cl σW S')∧Wish X.K H1 S1 QW Q∧Ext H S H1 S1) I
  ⟨σW,S,_,hσ,hS,ht,λws S1 vs H1 e1 r1 hS1 h1=>⟨ws,S1,r1,hσ.ext e1,hS1,h1,hQ.from e1,e1⟩⟩) λus s1 ⟨vs,H1,I1,r,ws,S1,r1,hσ1,hS1,h1,hQ1,e1⟩=>⟨I1.kIn,?_⟩) he hpl
 §zzX (E:=E) F hr hb I1 r r1 hσ1 hS1 h1 hQ1 λcl C a H' S' s' hn os bare un ok fly ex hS' q=>hF pins _ s' ⟨cl,C,a,H1,s1,H',S',rfl,hn,I1,os,bare,un,ok,fly,e1.trans ex,hS',q⟩
þ zvl{i:Nat}{pos':Pos}(hN:X.N.Nodup) (hi:X.N[i]? =some x) (hx:Loc X.env.scope x) (he:JXE X e te) (hs:swapsWith e (some (.Name x pos')) pos.line X.env=pure false:=by rfl)
  (hf:X.fn x=true∨X.env.scope.names.lookup x=some .local:=by first |§.inl rfl |§.inr rfl |assumption):JXS X (.Assign [.Name x pos'] e pos) (wAsg te (wGN i)):=λE hp=>
 (zuJ hN hi hx (he E hp) hs hf).mono λD σ H ⟨σW,S,DW,hσ,hS,ht,hD,hF⟩=>⟨σW,S,_,hσ,hS,ht,λw S1 v H1 e1 r1 hS1 h1=>hD.nx _ S1 _ H1 e1 ((hσ.ext e1).set r1 i) hS1 h1,hF⟩
þ zuL (h:JXS X st ta):JXs X [st] ta:=λE hp=>zqM (h E hp)
end
þ zye{P:Program}{w:World}{base g h h3:Heap}{l:List Env}{H1 H':Hp}{a C:Addr}{hid:List Addr}(un:Un (frs l) [] H1 H' g h) (ok:HOk P w H' h) (ff0:h.FunFrames base l) (fr:∀b∈frs l,H' b=none)
  (h0:∀b∈hid,g.get? b=none∧H' b=none) (ha:a∈hid) (L:Heap.Left (PySem.W.hideAll h (hid++frs l)) l a (.ref C) h h3):Un (frs l) [] H1 H' g h3∧HOk P w H' h3∧Fly g h3 H' a C:=by
 ø⟨st,ff,tr,sl⟩:=L;have keepB:∀b o,h.get? b=some o→b∉hid→b∉frs l→h3.get? b=some o:=λb o e h1 h2=>st b o (PySem.W.hideAll_get _ e λz=>(List.mem_append.mp z).elim h1 h2);have nh:∀b o,g.get? b=some o→b∉hid:=λb o e hb=>by rw[(h0 b hb).1]at e;cases e
 have slotB:∀b o,b∈frs l→h.get? b=some o→ ∃sl,h3.get? b=some { o with slots:=sl }:=λb o hb e=>by
  ø⟨_,o',eo',nf⟩:=ff0.mem hb;rw[e]at eo';cases eo';§sl b o e nf
 have nx:∀b:Addr,b∉([]:List Addr):=λb=>by simp
 ¤⟨⟨λb o e n hb _=>keepB b o (un.keep b o e n hb (nx b)) (nh b o e) hb,λb o e n hb _=>?_,λb o e n _=>un.free b o e n (nx b),λb o e _=>?_,un.tups,un.frzs,un.tbls⟩,λb o e=>?_,(h0 a ha).1,(h0 a ha).2,?_⟩
 ·ø⟨sl1,e1⟩:=un.slot b o e n hb (nx b);ø⟨sl2,e2⟩:=slotB b _ hb e1;§⟨sl2,e2⟩
 ·ø⟨o',e1⟩:=un.there b o e (nx b);by_cases hb:b∈frs l
  ·ø⟨sl2,e2⟩:=slotB b _ hb e1;§⟨_,e2⟩
  ·§⟨o',keepB b o' e1 (nh b o e) hb⟩
 ·¤(ok b o e).stay (λc u hc q=>?_) (λ_ q=>q) λ_ _ q=>q;have tk:∃v,H' c=some v:=by
   rcases hc with z |z
   ·§⟨o,by rw[z];§e⟩
   ·§⟨_,z⟩
  ø⟨v,tk⟩:=tk;§keepB c u q (λz=>by rw[(h0 c z).2]at tk;cases tk) λz=>by rw[fr c z]at tk;cases tk
 ·ø⟨oe,vs,T,oT,ts,e1,e2,e3,e4,e5,e6,e7,e8,e9⟩:=tr;have nf:T∉frs l:=λhb=>by
   ø⟨_,o,eo,nf⟩:=ff.mem hb;rw[e7]at eo;cases eo;§nf ts e8
  have both:g.get? T=none∧H' T=none:=by
   by_cases hT:T∈hid
   ·§h0 T hT
   ·have z:h.get? T=none:=by
     cases q:h.get? T with
     |none=>rfl
     |some o=>
      rw[PySem.W.hideAll_get _ q λz=>(List.mem_append.mp z).elim hT nf]at e5;cases e5
    constructor
    ·cases q:g.get? T with
     |none=>rfl
     |some o=>ø⟨o',q'⟩:=un.there T o q (nx T);rw[z]at q';cases q'
    ·cases q:H' T with
     |none=>rfl
     |some u=>ø⟨o',q'⟩:=(ok T u q).ex;rw[z]at q';cases q'
  §⟨oe,vs,T,oT,ts,e1,e2,e3,e4,both.1,both.2,e6,e7,e8,e9⟩
þ Heap.TracedW.tr{h base:Heap}{e:Addr}{cls a0:Value}(x:Heap.TracedW h base e cls a0):Heap.Traced h base e cls:=by
 ø⟨oe,vs,T,oT,ts,he,⟨hcls,h0⟩,r⟩:=x;§⟨oe,vs,T,oT,ts,he,hcls,r⟩
section
variable {X:Cx}{pins:List (Addr×Obj)}{σ:St}{H1 H':Hp}{s1 s':Shared}{a C:Addr}{M:Model}{A:Around}{E:Value→Shared→Prop}{R:Shared→Prop}
þ zqa (I1:Inv X pins σ H1 s1) (hst:X.stack=X.env::X.outer) (hf:X.env.frame=some X.env.locals) (os:s'.os=s1.os) (bare:AllBare s'.gens) (un:Un (frs X.stack) [] H1 H' s1.heap s'.heap) (ok:HOk X.prog X.w H' s'.heap) (fly:Fly s1.heap s'.heap H' a C) (hA:A.frames=some X.stack)
  (k:∀h3,Inv X pins σ H' { s' with heap:=h3 }→Un (frs X.stack) [] H1 H' s1.heap h3→HOk X.prog X.w H' h3→Fly s1.heap h3 H' a C→R { s' with heap:=h3 }) :
  wpAny M A (noteFrame (.ref a) X.env) (λ_ s₂=>wpAny M A (setFlight (.ref a) none) (λ_ s₃=>R s₃) E s₂) E s':=by
 have I2:Inv X pins σ H' s':=I1.call' os un ok bare (λ_ z=>nomatch z);have ff:=I2.stack;have fr:=I2.stkFree;ø⟨g1,g2,oe,vs,T,oT,ts,e1,e2,e3,e4,g3,g4,e5,e6,e7,e8⟩:=fly;have sz:1<vs.size:=(Array.getElem?_eq_some_iff.mp e4).1;have hid:∀b∈ [a,T],s1.heap.get? b=none∧H' b=none:=λb hb=>by
  rcases List.mem_cons.mp hb with rfl |hb
  ·§⟨g1,g2⟩
  ·rw[List.mem_singleton.mp hb];§⟨g3,g4⟩
 have st:∀h3,Heap.Left (PySem.W.hideAll s'.heap ([a,T]++frs X.stack)) X.stack a (.ref C) s'.heap h3→R { s' with heap:=h3 }:=λh3 L=>by
  ø⟨u1,u2,u3⟩:=zye un ok ff fr hid ¢ L;§k h3 (I1.call' (s':={ s' with heap:=h3 }) os u1 u2 bare (λ_ z=>nomatch z)) u1 u2 u3
 rw[hst]at hA ff st;¤wpAny_noteFrame_onW (base:=PySem.W.hideAll s'.heap ([a,T]++frs (X.env::X.outer))) (cls:= .ref C) (a0:=vs[0]) hA (zjX ff) hf ⟨oe,vs,T,oT,ts,e1,⟨e2,Array.getElem?_eq_getElem _⟩,e3,e4,PySem.W.hideAll_none _ ¢,e5,e6,e7,e8⟩ (λb o z=>PySem.W.of_hideAll _ z) (PySem.W.hideAll_none _ ¢) λh2 N=>?_;ø⟨n1,n2,n3,n4⟩:=N;¤wpAny_setFlight_noneW (s:={ s' with heap:=h2 }) n1 n2 n3 λh3 k1 k2 k3 k4=>?_;§st h3 ⟨k1,k2,Heap.TracedW.tr k3,λb o e nf=>by
  ø⟨sl,z⟩:=n4 b o e nf;§⟨sl,k4 b _ z nf⟩⟩
þ zCt (I1:Inv X pins σ H1 s1) (os:s'.os=s1.os) (bare:AllBare s'.gens) (un:Un (frs X.stack) [] H1 H' s1.heap s'.heap) (ok:HOk X.prog X.w H' s'.heap) (fly:Fly s1.heap s'.heap H' a C)
  (k:∀h3,Inv X pins σ H' { s' with heap:=h3 }→Fly s1.heap h3 H' a C→R { s' with heap:=h3 }):wpAny M A (setFlight (.ref a) none) (λ_ s₃=>R s₃) E s':=by
 have I2:Inv X pins σ H' s':=I1.call' os un ok bare (λ_ z=>nomatch z);have ff:=I2.stack;have fr:=I2.stkFree;ø⟨g1,g2,oe,vs,T,oT,ts,e1,e2,e3,e4,g3,g4,e5,e6,e7,e8⟩:=fly;have sz:1<vs.size:=(Array.getElem?_eq_some_iff.mp e4).1;have hid:∀b∈ [a,T],s1.heap.get? b=none∧H' b=none:=λb hb=>by
  rcases List.mem_cons.mp hb with rfl |hb
  ·§⟨g1,g2⟩
  ·rw[List.mem_singleton.mp hb];§⟨g3,g4⟩
 ¤wpAny_setFlight_noneW (base:=PySem.W.hideAll s'.heap ([a,T]++frs X.stack)) (l:=X.stack) (cls:= .ref C) (a0:=vs[0]) (fl:= .none) (λb o z=>PySem.W.of_hideAll _ z) (zjX ff) ⟨oe,vs,T,oT,ts,e1,⟨e2,Array.getElem?_eq_getElem _⟩,e3,e4,PySem.W.hideAll_none _ ¢,e5,e6,e7,e8⟩ λh3 k1 k2 k3 k4=>?_;ø⟨u1,u2,u3⟩:=zye un ok ff fr hid ¢ ⟨k1,k2,Heap.TracedW.tr k3,λb o e nf=>⟨o.slots,k4 b o e nf⟩⟩;§k h3 (I1.call' (s':={ s' with heap:=h3 }) os u1 u2 bare (λ_ z=>nomatch z)) u3
end
ñ abbrev Cx.hot (X:Cx) (a:Addr) (pn:List (Addr×Obj)):Cx:={ X with A:=X.A.mark (some (.ref a)),calm:=false,pn:=pn,xe:=λ_ _=>False }
section
variable {X:Cx}{pins pins':List (Addr×Obj)}{σ:St}{H:Hp}{s:Shared}{a:Addr}{oa:Obj}
þ Cx.Ok.hot (ok:X.Ok) (a:Addr) (pn:List (Addr×Obj)):(X.hot a pn).Ok:=
 ⟨ok.mod,ok.kind,ok.glob,ok.blt,ok.above,ok.inj,ok.has,ok.cab,(λz=>nomatch z),ok.frames,ok.stk,ok.exf,ok.bs,ok.bsz,ok.noex,ok.exfs,ok.funs,ok.frf⟩
þ Inv.hot{vs:Array Value}(I:Inv X pins σ H s) (e:s.heap.get? a=some oa) (n:H a=none) (d:oa.data= .fields vs):Inv (X.hot a (X.pn++pins++[(a,oa)])) [] σ H s:=
 ⟨I.ok.hot a _,I.os,I.bare,I.base,I.loc,I.cell,I.free,I.freeC,(λp hp=>by
  rw[List.append_nil]at hp;rcases List.mem_append.mp hp with hp |hp
  ·§I.pin p hp
  ·rw[List.mem_singleton.mp hp];¤⟨e,n,λz=>?_,λz=>?_,λv z=>?_⟩
   ·ø⟨m,⟨o,es,ep,ho,hd,_⟩,_⟩:=I.loc;have e':s.heap.get? X.env.locals=some oa:=by rw[←show a=X.env.locals from z];§e
    rw[ho]at e';cases e';rw[hd]at d;cases d
   ·ø⟨_,o,ho,nf⟩:=I.funs.mem z;have e':s.heap.get? a=some o:=ho;rw[e]at e';cases e';§nf vs d
   ·have z':oa.data= .cell v:=z;rw[d]at z';cases z'),I.hok,I.len⟩
þ Inv.unhot (I0:X.Ok) (I:Inv (X.hot a (X.pn++pins++[(a,oa)])) pins' σ H s):Inv X pins σ H s:=
 ⟨I0,I.os,I.bare,I.base,I.loc,I.cell,I.free,I.freeC,λp hp=>I.pin p (List.mem_append_left _ (List.mem_append_left _ hp)),I.hok,I.len⟩
end
ñ def zAu (al:List Str) (t u:WS):WS:=λ_ D σ S=>t (λcl σ' S'=>cl∈al∧u noX D σ' S') D σ S
section
variable {X:Cx}{b:List Stmt}{x:Str}{CT:Addr}{b₀:Stmt}{suite:List Stmt}{np hpos pos:Pos}{t:WS}{v:WS}{al:List Str}
þ zAA{X:Cx}(h:X.xe=λ_ _=>False):Hook X noX:=zzq (by rw[h];§PassesOwn.never)
þ zuQ (hb:∀pn xe,JXs (X.at pn xe) b t)
  (hal:∀cl∈al,∃C,XcIn X.K cl C∧PySem.W.exmOne X.K (.ref C) (.ref CT)=some true) (hs:∀(a:Addr) (pn:List (Addr×Obj)),JSs (X.hot a pn) (b₀::suite) v)
  (hg:Gl X x) (hm:X.mg x=some (.ref CT)) (hst:X.stack=X.env::X.outer:=by rfl) (hf:X.env.frame=some X.env.locals:=by rfl) (hdb:(x == ("__debug__" :Str))=false:=by decide) :
  JS X (.Try b [.ExceptHandler (some (.Name x np)) none (b₀::suite) hpos] [] [] pos) (zAu al t v):=λE hE pins s σ H D I z=>by
 ø⟨σW,S,DW,hσ,hS,ht,hD⟩:=z;¤wpAny_Try_except ?_;¤wpAny_mono (hb (X.pn++pins) (λe s₁=>wpAny (model X.prog X.w) X.A (noteFrame e X.env) (λ_ s₂=>wpAny (model X.prog X.w) X.A (setFlight e none) (λ_ s₃=>wpAny (model X.prog X.w) X.A (handleBy e X.env [.ExceptHandler (some (.Name x np)) none (b₀::suite) hpos]) (SP X pins D) X.xe s₃) X.xe s₂) X.xe s₁)
  _ PassesOwn.looking [] s σ H D (I.at _) ⟨σW,S,DW,hσ,hS,ht,hD,λpins' e s' F=>?_⟩) (λf s1 q=>?_) λe s1 q=>q
 ·ø⟨cl,C,a,H1,s1,H',S',rfl,hn,I1,os,bare,un,ok,fly,ex,hS',hcl,hu⟩:=F;ø⟨C',O,hx⟩:=hal cl hcl;have hn':PySem.W.nsIn X.K mainGlobals cl=some (some (.ref C)):=hn;have eC:C'=C:=by
   have:=O.nm;rw[hn']at this;§(Value.ref.inj (Option.some.inj (Option.some.inj this))).symm
  subst eC;¤zqa (X:=X) (pins:=pins) I1.unat hst hf os bare un ok fly I.ok.frames λh3 I3 u3 ok3 fly3=>?_;ø⟨g1,g2,oe,vs,_,_,_,e1,e2,e3,_⟩:=id fly3;¤wpAny_handleBy_cons (codeAny_handlers_test ?_) (by intro q;cases q);¤zin (X:=X.hot a (X.pn++pins++[(a,oe)])) (I3.hot e1 g2 e3) hg hm ?_ hdb;¤(PySem.W.exm_one I3.kIn (zBy e1 e2) hx).here ?_;¤codeAny_handlers_suite ?_;¤zCt (X:=X) (pins:=pins) (s':={ s' with heap:=h3 }) I1.unat os bare u3 ok3 fly3 λh4 I4 fly4=>?_;ø⟨g1',g2',oe4,vs4,_,_,_,e1',e2',e3',_⟩:=id fly4;¤wpAny_mono (hs a (X.pn++pins++[(a,oe4)]) noX (zAA rfl) [] { s' with heap:=h4 } σ H' D (I4.hot e1' g2' e3') ⟨_,S',_,hσ.ext ex,hS',hu,hD.from ex⟩) (λf s6 q=>?_) λ_ _ z=>z.elim;cases f with
  |next=>ø⟨σ',H'',I6,q⟩:=q;§⟨_,H'',I6.unhot I.ok,q⟩
  |brk=>ø⟨σ',H'',I6,q⟩:=q;§⟨_,H'',I6.unhot I.ok,q⟩
  |cont=>ø⟨σ',H'',I6,q⟩:=q;§⟨_,H'',I6.unhot I.ok,q⟩
  |ret w=>ø⟨v,σ',H'',I6,r,q⟩:=q;§⟨v,_,H'',I6.unhot I.ok,r,q⟩
 ·cases f with
  |next=>§wpAny_execs_nil q.unat
  |ret v=>§q.unat
  |brk=>§q.unat
  |cont=>§q.unat
end
þ aln{P:Str→Prop}:∀cl∈([]:List Str),P cl:=λ_ h=>nomatch h
þ alc{P:Str→Prop}{c:Str}{l:List Str}(h:P c) (t:∀cl∈l,P cl):∀cl∈c::l,P cl:=λcl m=>by
 rcases List.mem_cons.mp m with rfl |m
 ·§h
 ·§t cl m
ñ def pmx (ns:List Int):Nat→Int
 |0=>ns.getD 0 0
 |j+1=>if ns.getD (j+1) 0 > pmx ns j then ns.getD (j+1) 0 else pmx ns j
section
variable {prog:Program}{w:World}{A:Around}{R:Result→Shared→Prop}{I:Addr}{fp wr:List Addr}{n:Nat}{P:Nat→Value→Prop}{St:Nat→Heap→Prop}
þ zrI (a d:Value):argsOk "max" ⟨[a],[("default",d)]⟩:=by unfold argsOk;kernel_rfl
þ zrP (W:Walks prog w A.in1 I fp wr n P St) {ns:List Int}{d:Value}(hv:∀i v,P i v→ ∃t,v= .int (ns.getD i 0) t) (S:Addr) (hSf:S∉fp) :
  ∀(k j:Nat) (s:Shared) (u:Tok) (c:Nat),n - (j+1)=k→j+1≤n→St (j+1) s.heap→
  s.heap.get? S=some { cls:= .type "list",dict:=none,data:= .seq #[.int (pmx ns j) u, .int (pmx ns j) u] c,slots:= #[] }→
  (∀u' h' tk,(∀b o,b∉wr→b≠S→s.heap.get? b=some o→h'.get? b=some o)→R (.ok (.ret (.int (pmx ns (n - 1)) u'))) { s with heap:=h',toks:=tk })→
  codeAny (model prog w) A (.builtin "max.loop" ⟨[.ref I, .none, .ref S],[("default",d)]⟩) R s:=by
 have hSw:S∉wr:=λh=>hSf (W.sub _ h);have hname:(toString "max" ++toString ".loop" :String)= "max.loop" :=by decide
 intro k
 induction k with
 |zero=>
  intro j s u c hk hj hst hS hR;have hin:j+1=n:=by omega
  ¤codeAny_builtin F.entry_max_loop ?_;rw[Around.under_plainId F.plain_max_loop _];show wpAny _ A.in1 (seqItems? (.ref S) >>= _) _ _ s;¤wpAny_bind (wpAny_seqItems hS rfl ?_);show wpAny _ A.in1 (tryCatch (pyNext (.ref I)) _ >>= _) _ _ s;¤wpAny_bind (wpAny_tryCatch (W.done s _ _ (hin▸hst) λh' tk hk'=>?_));have hS':=hk' S _ hSw hS;show wpAny _ A.in1 (updateSeq S (λ_=> #[]) >>= _) _ _ _;¤wpAny_bind (wpAny_updateSeq hS' rfl (wpAny_bind (wpAny_letGo (wpAny_pure ?_))));have e:n - 1=j:=by omega
  rw[←e];§hR u _ tk λb o hbw hbS e=>(Heap.get?_update_other _ _ (Ne.symm hbS)).trans (hk' b o hbw e)
 |succ k ih=>
  intro j s u c hk hj hst hS hR;have hlt:j+1<n:=by omega
  ¤codeAny_builtin F.entry_max_loop ?_;rw[Around.under_plainId F.plain_max_loop _];show wpAny _ A.in1 (seqItems? (.ref S) >>= _) _ _ s;¤wpAny_bind (wpAny_seqItems hS rfl ?_);show wpAny _ A.in1 (tryCatch (pyNext (.ref I)) _ >>= _) _ _ s;¤wpAny_bind (wpAny_tryCatch (W.item (j+1) s _ _ hlt hst λv h' tk hP hst' hk'=>?_));ø⟨t,rfl⟩:=hv _ _ hP;have hS':=hk' S _ hSw hS;show wpAny _ A.in1 (tryCatch (holding [_,_] (richCompare .Gt _ _ >>= _)) _ >>= _) _ _ _;¤wpAny_bind (wpAny_tryCatch (wpAny_holding (wpAny_bind (PyProof.Rows.gt_int ?_:wpAny _ _ (compareOp .Gt _ _) _ _ _))));¤wpAny_bind (wpAny_holding (wpAny_truthy_bool ?_));¤wpAny_bind (wpAny_letGo (wpAny_pure ?_));by_cases hb:ns.getD (j+1) 0 > pmx ns j
  ·rw[decide_eq_true hb];ŝ[if_true];have ep:pmx ns (j+1)=ns.getD (j+1) 0:=by rw[pmx,if_pos hb]
   ¤wpAny_bind (wpAny_updateSeq hS' rfl (wpAny_bind (wpAny_letGo ?_)));rw[hname];¤wpAny_pure ⟨plainId_quiet F.plain_max_loop _,ih (j+1) _ t _ ¥ hlt (W.frame _ _ _ hst' λb hbf o e=>?_) (by rw[ep];§Heap.get?_update_self _ hS' rfl) λu' h'' tk'' hk''=>?_⟩
   ·§(Heap.get?_update_other _ _ (λh:S=b=>hSf (by rw[h];§hbf))).trans e
   ·§hR u' h'' tk'' λb o hbw hbS e=>hk'' b o hbw hbS ((Heap.get?_update_other _ _ (Ne.symm hbS)).trans (hk' b o hbw e))
  ·rw[decide_eq_false hb];ŝ[Bool.false_eq_true,if_false];have ep:pmx ns (j+1)=pmx ns j:=by rw[pmx,if_neg hb]
   ¤wpAny_bind (wpAny_letGo ?_);rw[hname];¤wpAny_pure ⟨plainId_quiet F.plain_max_loop _,ih (j+1) _ u c ¥ hlt hst' (by rw[ep];§hS') λu' h'' tk'' hk''=>?_⟩;§hR u' h'' tk'' λb o hbw hbS e=>hk'' b o hbw hbS (hk' b o hbw e)
þ zpn (W:Walks prog w A.in1 I fp wr n P St) {ns:List Int}{x:Int}{t0:Tok}(hv:∀i v,P i v→ ∃t,v= .int (ns.getD i 0) t) (S:Addr) (hSf:S∉fp) {s:Shared}{c:Nat}(hst:St 0 s.heap)
  (hS:s.heap.get? S=some { cls:= .type "list",dict:=none,data:= .seq #[] c,slots:= #[] })
  (hR:∀u' h' tk,(∀b o,b∉wr→b≠S→s.heap.get? b=some o→h'.get? b=some o)→R (.ok (.ret (.int (if n=0 then x else pmx ns (n - 1)) u'))) { s with heap:=h',toks:=tk }) :
  codeAny (model prog w) A (.builtin "max.loop" ⟨[.ref I, .none, .ref S],[("default", .int x t0)]⟩) R s:=by
 have hSw:S∉wr:=λh=>hSf (W.sub _ h);have hname:(toString "max" ++toString ".loop" :String)= "max.loop" :=by decide
 ¤codeAny_builtin F.entry_max_loop ?_;rw[Around.under_plainId F.plain_max_loop _];show wpAny _ A.in1 (seqItems? (.ref S) >>= _) _ _ s;¤wpAny_bind (wpAny_seqItems hS rfl ?_);show wpAny _ A.in1 (tryCatch (pyNext (.ref I)) _ >>= _) _ _ s;rcases Nat.eq_zero_or_pos n with h0 |hn
 ·¤wpAny_bind (wpAny_tryCatch (W.done s _ _ (h0▸hst) λh' tk hk'=>?_));show wpAny _ A.in1 (rule "max.default" >>= _) _ _ _;¤wpAny_bind (wpAny_rule ?_);¤wpAny_pure ?_;have:=hR t0 h' tk λb o hbw _ e=>hk' b o hbw e;rw[if_pos h0]at this;§this
 ·¤wpAny_bind (wpAny_tryCatch (W.item 0 s _ _ hn hst λv h' tk hP hst' hk'=>?_));ø⟨t,rfl⟩:=hv _ _ hP;have hS':=hk' S _ hSw hS;show wpAny _ A.in1 (updateSeq S (λ_=> #[_,_]) >>= _) _ _ _;¤wpAny_bind (wpAny_updateSeq hS' rfl ?_);rw[hname];¤wpAny_pure ⟨plainId_quiet F.plain_max_loop _,zrP W hv S hSf _ 0 _ t _ rfl hn (W.frame _ _ _ hst' λb hbf o e=>?_) (Heap.get?_update_self _ hS' rfl) λu' h'' tk'' hk''=>?_⟩
  ·§(Heap.get?_update_other _ _ (λh:S=b=>hSf (by rw[h];§hbf))).trans e
  ·have:=hR u' h'' tk'' λb o hbw hbS e=>hk'' b o hbw hbS ((Heap.get?_update_other _ _ (Ne.symm hbS)).trans (hk' b o hbw e));rw[if_neg ¥]at this;§this
end
section
variable {X:Cx}
þ zrd{pins:List (Addr×Obj)}{s:Shared}{σ:St}{H:Hp}{Q:VK}{p:Addr}{ns:List Int}{x:Int}{t0:Tok}(hc:X.calm=true) (I:Inv X pins σ H s) (hq:SqL X.K H p (ns.map V.int)) (q:Q (.int (if ns=[] then x else pmx ns (ns.length - 1))) H) :
  wpAny (model X.prog X.w) X.A (call (.builtin "max") [.ref p] [("default", .int x t0)]) (EP X pins σ Q) X.xe s:=by
 ø⟨its,r',pl,hz⟩:=I.list hq;have hlen:ns.length=its.length:=by have:=r'.length;rw[List.length_map]at this;§this
 have hp:p<s.heap.objs.size:=by ø⟨o,n,e,_⟩:=pl;§Heap.lt_size e
 have hd:X.A.in1.handled=none:=I.ok.hd hc;have get:∀(i:Nat) (v:Value),its.toArray[i]? =some v→ ∃t,v= .int (ns.getD i 0) t:=λi v e=>by
  have e':its[i]? =some v:=by simpa using e
  have hi:i<ns.length:=by rw[hlen];§(List.getElem?_eq_some_iff.mp e').1
  ø⟨u,hu,ru⟩:=r'.get (i:=i) (x:= .int (ns.getD i 0)) (by rw[List.getElem?_map,List.getElem?_eq_getElem hi,List.getD_eq_getElem?_getD,List.getElem?_eq_getElem hi];rfl);rw[e']at hu;cases hu;§ru
 have hname:(toString "max" ++toString ".loop" :String)= "max.loop" :=by decide
 ¤PyProof.Rows.kmk_tree F.kind_max F.plain_max F.entry_max (zrI _ _) ?_;show wpAny _ X.A.in1 (Builtin.Builtins.bindParams "max" ["key", "default"] 0 ⟨[],[("default", .int x t0)]⟩ >>= _) _ _ s;¤wpAny_bind (wpAny_of_eq (show Builtin.Builtins.bindParams "max" ["key", "default"] 0 ⟨[],[("default", .int x t0)]⟩=pure [none,some (.int x t0)] from rfl) ?_);¤wpAny_bind (wpAny_pure ?_);¤wpAny_bind (wpAny_pyIter_list pl.isList ?_);¤wpAny_bind (wpAny_newList ?_ (Nat.zero_le _));rw[hname];¤wpAny_pure ⟨plainId_quiet F.plain_max_loop _,?_⟩;have hsz:∀(h:Heap) (o:Obj),(h.push o).objs.size=h.objs.size+1:=λh o=>Heap.size_push ..;¤zpn (prog:=X.prog) (w:=X.w) (A:=X.A) (n:=its.toArray.size) (ns:=ns) (x:=x) (t0:=t0) (Walks.list hd s.heap.objs.size p (Nat.ne_of_lt hp) its.toArray) get _ (λhm=>?_) ?_ (c:=0) ?_ λu' h' tk hk=>?_
 ·have hm':(s.heap.push { cls:= .type "list_iterator",data:= .fields #[.ref p, .int 0 0] }).objs.size∈ [s.heap.objs.size,p]:=hm;rw[hsz]at hm';rcases List.mem_cons.mp hm' with z |z
  ·§absurd z (Nat.succ_ne_self _)
  ·§absurd hp (by rw[←List.mem_singleton.mp z];§Nat.not_lt_of_le (Nat.le_succ _))
 ·§⟨⟨_,Heap.get?_push_of_some _ (Heap.get?_push_size _ rfl),rfl,rfl⟩,(pl.isList.push _).push _⟩
 ·§Heap.get?_push_size _ rfl
 ·have e:(if its.toArray.size=0 then x else pmx ns (its.toArray.size - 1))=(if ns=[] then x else pmx ns (ns.length - 1)):=by
   rw[List.size_toArray,←hlen];cases ns<;>simp
  rw[e];¤⟨.int _,H,I.kept λb o e=>hk b o (λz=>?_) (λz=>?_) (Heap.get?_push_of_some _ (Heap.get?_push_of_some _ e)),⟨u',rfl⟩,q⟩
  ·have z':b=s.heap.objs.size:=by simpa using z
   rw[z']at e;§absurd (Heap.lt_size e) (Nat.lt_irrefl _)
  ·have h1:=Heap.lt_size e;have z':b=s.heap.objs.size+1:=z.trans (hsz _ _);rw[z']at h1;§absurd h1 (Nat.not_lt_of_le (Nat.le_succ _))
ñ def zmX (tl:WL) (td:WE):WE:=λE σ S Q=>tl E σ S λws S1=>td E σ S1 λw S2=>match zby ws,w with
 |some ns, .int x=>Q (.int (if ns=[] then x else pmx ns (ns.length - 1))) S2
 |_,_=>False
þ zoN{tl:WL}{td:WE}{E:WX}{σ:WSt}{S:Sto}{Q:WK}:zmX tl td E σ S Q=tl E σ S λws S1=>td E σ S1 λw S2=>match zby ws,w with
 |some ns, .int x=>Q (.int (if ns=[] then x else pmx ns (ns.length - 1))) S2
 |_,_=>False:=rfl
þ zmV{p pos kp kp2:Pos}{e:Expr}{j:Nat}{x:Int}{tl:WL}(hg:Gl X "max") (hm:X.mg "max" =none) (ha:JL X e tl)
  (he:starEach [e] X.env=(false,eval e X.env)::starEach [] X.env:=by rfl) (hcl:X.calm=true:=by rfl):JE X (.Call (.Name "max" p) [e] [⟨some "default", .Constant (.int x) j kp,kp2⟩] pos) (zmX tl (wC (.int x))):=λE hE=>by
 intro pins s σ H Q I h;ø⟨σW,S,QW,hσ,hS,ht,hQ⟩:=h;¤wpAny_Call_Name_kw (zim I hg hm PyProof.Rows.boot_max ?_ £ £);¤callWith_kw (env:=X.env) ?_ (by rw[he];rfl) (by rw[he];rfl);¤thn (zdy (ha E hE) pa_nil he pos pins s σ H (λvs H1=>∃a ns,vs=[.ref a]∧SqL X.K H1 a (ns.map V.int)∧Q (.int (if ns=[] then x else pmx ns (ns.length - 1))) H1) I ⟨σW,S,_,hσ,hS,ht,λws S1 vs a H1 e1 fa ea na r1 hS1 h1=>?_⟩) λus s1 ⟨vs,H1,I1,r1,a,ns,hvs,hq,q1⟩=>?_
 ·have h2:(match zby ws,W.int x with
   |some ns, .int x=>QW (.int (if ns=[] then x else pmx ns (ns.length - 1))) S1
   |_,_=>False):=h1
  cases ei:zby ws with
  |none=>rw[ei]at h2;§h2.elim
  |some ns=>
   rw[ei]at h2;have:=zfC r1 ei;subst this;§⟨a,ns,rfl, .of ea,hQ _ S1 _ H1 e1 (.int _) hS1 h2⟩
 ·subst hvs;ø⟨u,rfl,rx⟩:=ziw r1;cases rx;¤kws_cons (wpAny_Constant_int (kws_nil ?_));§zrd hcl (I1.tok _) hq q1
end
þ zvW{X:Cx}{a:Expr}{pos:Pos}{ta:TE}(ha:PE X a ta):PE X (.UnaryOp .Not a pos) (λσ H Q=>ta σ H λx H1=>∃k,zAr X.K x H1 k∧Q (.bl (!k)) H1):=by
 intro pins s σ H Q I h;¤UnaryOp_ (thn (ha pins s σ H _ I h) λv s1 ⟨x,H1,I1,r1,q1⟩=>?_);ø⟨k,hk,q1⟩:=q1;§not_of (thn (zva pins s1 σ H1 x v (λc H2=>Q (.bl (!c)) H2) I1 r1 ⟨k,hk,q1⟩) λc s2 ⟨H2,I2,q2⟩=>⟨.bl (!c),H2,I2,rfl,q2⟩)
ñ def zum (t:WE):WE:=λE σ S Q=>t E σ S λw S1=>zsI w S1 λb S2=>Q (.bl !b) S2
þ zwW{X:Cx}{a:Expr}{pos:Pos}{ta:WE}(ha:JE X a ta):JE X (.UnaryOp .Not a pos) (zum ta):=λE hE=>
 (zvW (ha E hE)).mono λσ H Q ⟨σW,S,QW,hσ,hS,ht,hQ⟩=>⟨σW,S,_,hσ,hS,ht,λw S1 v H1 e1 r1 hS1 h1=>by
  ø⟨k,hk,q⟩:=zpR r1 hS1 h1;§⟨k,hk,hQ _ S1 _ H1 e1 (.bl _) hS1 q⟩⟩
þ zxj{t:WE}{E:WX}{σ:WSt}{S:Sto}{Q:WK}:(zum t E σ S Q)=(t E σ S λw S1=>zsI w S1 λb S2=>Q (.bl !b) S2):=pz id id
inductive Tr where
  |bl (n:Int)
  |nd (s:Str) (ts:List Tr)
ñ def Tr.kids:Tr→List Tr
 | .bl _=>[]
 | .nd _ ts=>ts
mutual
ñ def Tr.weight:Tr→Nat
 | .bl _=>1
 | .nd _ ts=>1+wts ts
ñ def wts:List Tr→Nat
 | []=>0
 |t::ts=>t.weight+wts ts
end
mutual
ñ def Tr.depth:Tr→Nat
 | .bl _=>1
 | .nd _ ts=>1+dts ts
ñ def dts:List Tr→Nat
 | []=>0
 |t::ts=>max t.depth (dts ts)
end
þ zrA:wts []=0:=by unfold wts;rfl
þ zfh (t:Tr) (ts:List Tr):wts (t::ts)=t.weight+wts ts:=by
 conv=>lhs;unfold wts
þ zfe:∀(ts us:List Tr),wts (ts++us)=wts ts+wts us
 | [],us=>by
  show wts us=wts []+wts us;rw[zrA];omega
 |t::ts,us=>by
  show wts (t::(ts++us))=_;rw[zfh,zfh,zfe ts us];omega
þ zmo:dts []=0:=by unfold dts;rfl
þ zgp (t:Tr) (ts:List Tr):dts (t::ts)=max t.depth (dts ts):=by
 conv=>lhs;unfold dts
þ zes (t:Tr):t.weight=1+wts t.kids:=by
 cases t with
 |bl n=>
  show Tr.weight (.bl n)=1+wts [];unfold Tr.weight wts;rfl
 |nd s ts=>
  show Tr.weight (.nd s ts)=1+wts ts
  conv=>lhs;unfold Tr.weight
þ zfj (t:Tr):t.depth=1+dts t.kids:=by
 cases t with
 |bl n=>
  show Tr.depth (.bl n)=1+dts [];unfold Tr.depth dts;rfl
 |nd s ts=>
  show Tr.depth (.nd s ts)=1+dts ts
  conv=>lhs;unfold Tr.depth
þ zed (t:Tr):1≤t.weight:=by rw[zes];omega
þ zbi (t:Tr):1≤t.depth:=by rw[zfj];omega
þ zje:∀(ts us:List Tr),dts (ts++us)=max (dts ts) (dts us)
 | [],us=>by
  show dts us=max (dts []) (dts us);rw[zmo];omega
 |t::ts,us=>by
  show dts (t::(ts++us))=_;rw[zgp,zgp,zje ts us];§(Nat.max_assoc _ _ _).symm
þ zbu:∀(ts:List Tr),ts.length≤wts ts
 | []=>Nat.zero_le _
 |t::ts=>by
  have:=zbu ts;have:=zed t;rw[zfh,List.length_cons];omega
þ zcp{t:Tr}:∀{ts:List Tr},t∈ts→t.weight≤wts ts
 | [],h=>by cases h
 |u::ts,h=>by
  rw[zfh];rcases List.mem_cons.mp h with e |h
  ·rw[e];omega
  ·have:=zcp h;omega
þ zjl:∀{ts:List Tr},ts≠ []→dts ts=1+dts (ts.flatMap Tr.kids)
 | [],h=>absurd rfl h
 | [t],_=>by
  rw[List.flatMap_cons,List.flatMap_nil,List.append_nil,zgp,zmo,zfj];omega
 |t::u::r,_=>by
  have ih:=zjl (ts:=u::r) ¢;have e:(t::u::r).flatMap Tr.kids=t.kids++(u::r).flatMap Tr.kids:=List.flatMap_cons ..;rw[zgp,ih,e,zje,zfj];omega
þ zjE:∀(ts:List Tr),wts (ts.flatMap Tr.kids)+ts.length=wts ts
 | []=>by rw[List.flatMap_nil,zrA];rfl
 |t::ts=>by
  have ih:=zjE ts;rw[List.flatMap_cons,zfe,zfh,List.length_cons,zes];omega
mutual
þ zeP:∀t:Tr,t.depth≤t.weight
 | .bl n=>by unfold Tr.depth Tr.weight;§Nat.le_refl _
 | .nd s ts=>by
  have:=zjb ts;rw[zfj,zes];show 1+dts ts≤1+wts ts;omega
þ zjb:∀ts:List Tr,dts ts≤wts ts
 | []=>by rw[zmo];§Nat.zero_le _
 |t::ts=>by
  have:=zeP t;have:=zjb ts;rw[zgp,zfh];omega
end
mutual
ñ def enc:Tr→W
 | .bl n=> .int n
 | .nd s ts=> .tup (.str s::encs ts)
ñ def encs:List Tr→List W
 | []=>[]
 |t::ts=>enc t::encs ts
end
þ zaB:∀ts:List Tr,encs ts=ts.map enc
 | []=>by simp [encs]
 |t::ts=>by simp [encs,zaB ts]
þ zaS (ts:List Tr):(encs ts).length=ts.length:=by rw[zaB,List.length_map]
ñ def zcc (p:List Int):W:= .tup (p.map W.int)
þ zmH:zcx "int" "int" =true:=by decide +kernel
þ zkV:zcx "int" "bool" =false:=by decide +kernel
þ zmh:zcx "int" "str" =false:=by decide +kernel
þ zjO:zcx "int" "tuple" =false:=by decide +kernel
þ zkG:zcx "int" "list" =false:=by decide +kernel
þ zkv:zcx "bool" "int" =true:=by decide +kernel
þ zjU:zcx "bool" "bool" =true:=by decide +kernel
þ zlC:zcx "bool" "str" =false:=by decide +kernel
þ ziy:zcx "bool" "tuple" =false:=by decide +kernel
þ zjv:zcx "bool" "list" =false:=by decide +kernel
þ zlQ:zcx "str" "int" =false:=by decide +kernel
þ zlu:zcx "str" "bool" =false:=by decide +kernel
þ zlR:zcx "str" "str" =true:=by decide +kernel
þ zkc:zcx "str" "tuple" =false:=by decide +kernel
þ zkB:zcx "str" "list" =false:=by decide +kernel
þ zjC:zcx "tuple" "int" =false:=by decide +kernel
þ ziB:zcx "tuple" "bool" =false:=by decide +kernel
þ zjP:zcx "tuple" "str" =false:=by decide +kernel
þ sub_tuple_tuple:zcx "tuple" "tuple" =true:=by decide +kernel
þ sub_tuple_list:zcx "tuple" "list" =false:=by decide +kernel
þ zkg:zcx "list" "int" =false:=by decide +kernel
þ zjQ:zcx "list" "bool" =false:=by decide +kernel
þ zlO:zcx "list" "str" =false:=by decide +kernel
þ sub_list_tuple:zcx "list" "tuple" =false:=by decide +kernel
þ sub_list_list:zcx "list" "list" =true:=by decide +kernel
section
variable {α:Type}{x:α}{xs:List α}
þ zon (n:Nat):zeu xs (some (n:Int)) none=xs.drop n:=by
 unfold zeu;rw[HT.sIx_nat,HT.sIx_none];by_cases h:n≤xs.length
 ·rw[Nat.min_eq_left h,List.take_of_length_le (by rw[List.length_drop];omega)]
 ·rw[Nat.min_eq_right ¥,List.drop_of_length_le (Nat.le_refl _),List.drop_of_length_le ¥,List.take_nil]
þ znI (n:Nat):zeu xs none (some (n:Int))=xs.take n:=by
 unfold zeu;rw[HT.sIx_nat,HT.sIx_none,List.drop_zero,Nat.sub_zero];by_cases h:n≤xs.length
 ·rw[Nat.min_eq_left h]
 ·rw[Nat.min_eq_right ¥,List.take_length,List.take_of_length_le ¥]
þ zvz (n m:Nat):zeu xs (some (n:Int)) (some (m:Int))=(xs.drop n).take (m - n):=by
 unfold zeu;rw[HT.sIx_nat,HT.sIx_nat];by_cases h:n≤xs.length
 ·rw[Nat.min_eq_left h];by_cases h2:m≤xs.length
  ·rw[Nat.min_eq_left h2]
  ·rw[Nat.min_eq_right ¥,List.take_of_length_le (by rw[List.length_drop];omega),List.take_of_length_le (by rw[List.length_drop];omega)]
 ·rw[Nat.min_eq_right (show xs.length≤n by omega),List.drop_of_length_le (Nat.le_refl _),List.drop_of_length_le (show xs.length≤n by omega),List.take_nil,List.take_nil]
þ zvB:zeu (x::xs) (some 1) none=xs:=by rw[show(1:Int)=((1:Nat):Int) from rfl,zon];rfl
þ zqb{n d k:Nat}(h:0<k):HT.sIx n d (some (-(k:Int)))=n - k:=by
 show(if(-(k:Int))<0 then(-(k:Int)+(n:Int)).toNat else min (-(k:Int)).toNat n)=n - k;rw[if_pos ¥];omega
þ zhA (k:Nat) (h:0<k):zeu xs none (some (-(k:Int)))=xs.take (xs.length - k):=by
 unfold zeu;rw[zqb h,HT.sIx_none,List.drop_zero,Nat.sub_zero]
þ zsA (k:Nat) (h:0<k):zeu xs (some (-(k:Int))) none=xs.drop (xs.length - k):=by
 unfold zeu;rw[zqb h,HT.sIx_none,List.take_of_length_le (by rw[List.length_drop];omega)]
þ zcz{n:Nat}:atI xs (n:Int)=xs[n]? :=by
 unfold atI ixN;rw[if_pos ¥];by_cases h:n<xs.length
 ·rw[if_pos ¥];simp
 ·rw[if_neg ¥];simp;omega
þ zjS:atI (x::xs) 0=some x:=zcz (n:=0)
end
section
variable {S S':Sto}{a b:Addr}{o:Ob}{Q:List W→Prop}{ws:List W}
þ zmZ{u:Ob}(h:b≠a):put (put S a o) b u=put (put S b u) a o:=by
 funext c;unfold put;by_cases h1:c=b
 ·rw[if_pos h1,if_pos h1,if_neg (by rw[h1];§h)]
 ·rw[if_neg h1,if_neg h1]
þ znA{u o':Ob}(h:b≠a):put (put (put S a o) b u) a o'=put (put S a o') b u:=by rw[zmZ h,zaX,zmZ h]
þ zhf:zcY (put S a (.lst ws)) a Q=Q ws:=zai zag
þ zdT (h:put S a o b=none):S b=none∧b≠a:=by
 have hb:b≠a:=by rintro rfl;rw[zag]at h;cases h
 rw[zaF hb]at h;§⟨h,hb⟩
þ zpJ{u:Ob}(h:S a=some u) (n:S b=none):a≠b:=by rintro rfl;rw[h]at n;cases n
þ Sub.put (h:Sub S S') (n:S a=none):Sub S (L2.put S' a o):=λb u e=>by rw[zaF (zpJ e n)];§h b u e
þ Sub.put2{u:Ob}(h:Sub S S'):Sub (L2.put S a u) (L2.put S' a u):=λb w e=>by
 by_cases hb:b=a
 ·subst hb;rw[zag]at e⊢;§e
 ·rw[zaF hb]at e⊢;§h b w e
end
þ zzE (S:Sto) (a b:Int):eqF S 60 (.int a) (.int b)=some (a == b):=by have h:eqF S 60 (.int a) (.int b)=some (a == b):=rfl;§h
þ zzI (S:Sto) (a b:Str):eqF S 60 (.str a) (.str b)=some (a == b):=by have h:eqF S 60 (.str a) (.str b)=some (a == b):=rfl;§h
þ zBh (S:Sto) (a b:Bool):eqF S 60 (.bl a) (.bl b)=some (a == b):=by have h:eqF S 60 (.bl a) (.bl b)=some (a == b):=rfl;§h
þ zak{n:Nat}(h:n≤16777216):n≤sizeLine:=by rw[sizeLine_eq];§h
þ zbC{n:Nat}(h:n<16777216):n<sizeLine:=by rw[sizeLine_eq];§h
section
variable {S:Sto}{Q:WK}{QB:Bool→Sto→Prop}{QS:List W→(Sto→Prop)→Prop}{QT:String→Prop}
þ zeX{a:Addr}{o:Ob}(h:S a=some o):put S a o=S:=by
 funext b;unfold put;split
 ·rename_i e;rw[e,h]
 ·rfl
þ ztR{b:Bool}:zsI (.bl b) S QB=QB b S:=pz id id
þ zst{i:Int}:zsI (.int i) S QB=QB (i != 0) S:=pz id id
þ zpZ{ws:List W}:zsI (.tup ws) S QB=QB (!ws.isEmpty) S:=pz id id
þ zqX{a:Addr}:zsI (.ref a) S QB=zcY S a λws=>QB (!ws.isEmpty) S:=pz id id
þ zpS:zsI .non S QB=QB false S:=pz id id
þ zkC{ws:List W}:zpN (.tup ws) S QS=QS ws λ_=>True:=pz id id
þ zid{a:Addr}:zpN (.ref a) S QS=zcY S a λws=>QS ws λS'=>S' a=some (.lst ws):=pz id id
þ zvs{b:Bool}:tyW (.bl b) S QT=QT "bool" :=pz id id
þ zup{i:Int}:tyW (.int i) S QT=QT "int" :=pz id id
þ zur{i:Str}:tyW (.str i) S QT=QT "str" :=pz id id
þ ztk{i:List W}:tyW (.tup i) S QT=QT "tuple" :=pz id id
þ ztC:tyW .non S QT=QT "NoneType" :=pz id id
þ zua{a:Addr}:tyW (.ref a) S QT=zcY S a λ_=>QT "list" :=pz id id
þ zrh{i j:Int}:zeo (.int i) (.int j) S Q=Q (.int (i+j)) S:=pz id id
þ zqs{i j:Str}:zeo (.str i) (.str j) S Q=(i.length+j.length≤sizeLine∧Q (.str (i++j)) S):=pz id id
þ zij{i j:List W}:zeo (.tup i) (.tup j) S Q=(i.length+j.length≤sizeLine∧Q (.tup (i++j)) S):=pz id id
þ zrZ{a b:Addr}:zeo (.ref a) (.ref b) S Q=zcY S a λxs=>zcY S b λys=>xs.length+ys.length≤sizeLine∧ ∀p,S p=none→Q (.ref p) (put S p (.lst (xs++ys))):=pz id id
þ zBW{C:Int→Int→Prop}{g:Int→Int→W}{i j:Int}:zdt C g (.int i) (.int j) S Q=(C i j∧Q (g i j) S):=pz id id
þ zzy{g:Int→Int→W}{i j:Int}:zfX g (.int i) (.int j) S Q=Q (g i j) S:=pz id id
þ zuq{i j:Int}:oLe (.int i) (.int j) S Q=Q (.bl (decide (i≤j))) S:=pz id id
þ zsZ{i j:Str}:oLe (.str i) (.str j) S Q=Q (.bl (!decide (j.cps.toList<i.cps.toList))) S:=pz id id
þ zrY{us:List W}:zfI [.tup us] S Q=Q (.int us.length) S:=pz id id
þ zqS{a:Addr}:zfI [.ref a] S Q=zcY S a λus=>Q (.int us.length) S:=pz id id
þ zqQ{ns:List Int}:zfI [.scr ns] S Q=Q (.int ns.length) S:=pz id id
þ zqo{z:Str}:zfI [.str z] S Q=(z.length≤sizeLine∧Q (.int z.length) S):=pz id id
þ zto{ws:List W}{i:Int}:oIx (.tup ws) (.int i) S Q=match atI ws i with
 |some w=>Q w S
 |none=>False:=pz id id
þ ztQ{a:Addr}{i:Int}:oIx (.ref a) (.int i) S Q=zcY S a λws=>match atI ws i with
 |some w=>Q w S
 |none=>False:=pz id id
þ zsP{ns:List Int}{i:Int}:oIx (.scr ns) (.int i) S Q=match atI ns i with
 |some n=>Q (.int n) S
 |none=>False:=pz id id
þ zts{x:Str}{i:Int}:oIx (.str x) (.int i) S Q=(x.length≤sizeLine∧match atI x.cps.toList i with
 |some c=>Q (.str ⟨#[c]⟩) S
 |none=>False):=pz id id
þ ztx{ws:List W}{lo hi:Option Int}:oSl (.tup ws) lo hi S Q=Q (.tup (zeu ws lo hi)) S:=pz id id
þ zuk{z:Str}{lo hi:Option Int}:oSl (.str z) lo hi S Q=(z.length≤sizeLine∧Q (.str (Txt.slice z lo hi)) S):=pz id id
þ ztr{a:Addr}{lo hi:Option Int}:oSl (.ref a) lo hi S Q=zcY S a λws=>∀p,S p=none→Q (.ref p) (put S p (.lst (zeu ws lo hi))):=pz id id
þ zuc{ns:List Int}{lo hi:Option Int}:oSl (.scr ns) lo hi S Q= ∀p,S p=none→Q (.ref p) (put S p (.lst ((zeu ns lo hi).map W.int))):=pz id id
þ zmG{us:List W}:zen [.tup us] S Q=Q (.tup us) S:=pz id id
þ zme{a:Addr}:zen [.ref a] S Q=zcY S a λus=>Q (.tup us) S:=pz id id
þ ztg{a:Addr}{y:W}:zbO (.ref a) [y] S Q=zcY S a λxs=>xs.length<sizeLine∧Q .non (put S a (.lst (xs++[y]))):=pz id id
þ zBw{a:Addr}:zCi (.ref a) [] S Q=zcY S a λxs=>match xs[xs.length - 1]? with
 |some y=>Q y (put S a (.lst xs.dropLast))
 |none=>False:=pz id id
þ zlN{a:Addr}{ys:List W}:zil (.ref a) [.tup ys] S Q=zcY S a λxs=>xs.length+ys.length≤sizeLine∧Q .non (put S a (.lst (xs++ys))):=pz id id
þ zlx{a b:Addr}:zil (.ref a) [.ref b] S Q=zcY S a λxs=>zcY S b λys=>xs.length+ys.length≤sizeLine∧Q .non (put S a (.lst (xs++ys))):=pz id id
þ zrO{a:Addr}{ws:List W}:ztq (.ref a) ws S Q=zcY S a λxs=>xs.length+ws.length≤sizeLine∧Q .non (put S a (.lst (xs++ws))):=pz id id
þ zAz{a:Addr}:rvL (.ref a) S=zcY S a λ_=>True:=pz id id
þ zAT{x:Str}:rvS (.str x) S=True:=pz id id
þ ztB{b:Bool}:zxA [.bl b] S Q=Q (.int (if b then 1 else 0)) S:=pz id id
þ zrw{i:Int}:zxA [.int i] S Q=Q (.int i) S:=pz id id
þ zzc{i j:Int}:zBB [.int i, .int j] S Q=Q (.int (if j > i then j else i)) S:=pz id id
þ zyi{i j:Int}:zky [.int i, .int j] S Q=Q (.int (if j<i then j else i)) S:=pz id id
þ zyj{z:Str}{ws:List W}:zkQ (.str z) ws S Q=match zgS ws with
 |some ys=>(ys.map (·.length)).sum+ys.length*z.length≤16777216∧Q (.str (Str.join z ys)) S
 |none=>False:=pz id id
þ zwd{z y:Str}:zyF (.str z) [.str y] S Q=match Builtin.Str.occurrences z y 0 z.length 1 with
 |i::_=>Q (.int i) S
 | []=>False:=pz id id
þ zsV{neg:Bool}:oIs neg .non .non S Q=Q (.bl (!neg)) S:=pz id id
þ zwZ{neg a b:Bool}:oIs neg (.bl a) (.bl b) S Q=Q (.bl (if neg then a != b else a == b)) S:=pz id id
þ zxk{neg a:Bool}:oIs neg (.bl a) .non S Q=Q (.bl neg) S:=pz id id
þ zws{neg:Bool}{ws:List W}:oIs neg (.tup ws) .non S Q=Q (.bl neg) S:=pz id id
þ zwX{neg:Bool}{a:Addr}:oIs neg (.ref a) .non S Q=Q (.bl neg) S:=pz id id
þ zwP{neg:Bool}{a:Int}:oIs neg (.int a) .non S Q=Q (.bl neg) S:=pz id id
þ zsL{neg:Bool}{x:W}{ws:List W}:oIn neg x (.tup ws) S Q=match inF S x ws with
 |some b=>Q (.bl (if neg then !b else b)) S
 |none=>False:=pz id id
þ zsY{neg:Bool}{x:W}{a:Addr}:oIn neg x (.ref a) S Q=zcY S a λws=>match inF S x ws with
 |some b=>Q (.bl (if neg then !b else b)) S
 |none=>False:=pz id id
þ zti{neg:Bool}{i j:Str}:oIn neg (.str i) (.str j) S Q=Q (.bl (if neg then !(!(Builtin.Str.occurrences j i 0 j.length 1).isEmpty) else !(Builtin.Str.occurrences j i 0 j.length 1).isEmpty)) S:=pz id id
end
þ zmr{g:WG}{b:WS}{E:WX}{D:WEnds}{G:Sto→Prop}(I:List W→WSt→Sto→Prop)
  (step:∀w ws σ S (N:WSt→Sto→Prop),I (w::ws) σ S→(∀σ' S' S'',Sub S'' S'→G S''→I ws σ' S''→N σ' S')→g w σ S λσ1 S1=>b E { D with nx:=N,ct:=N,bk:=D.nx } σ1 S1)
  (done:∀σ S,I [] σ S→D.nx σ S):∀(ws:List W) (σ:WSt) (S:Sto),I ws σ S→forL g b E D G ws σ S
 | [],σ,S,h=>done σ S h
 |w::ws,σ,S,h=>step w ws σ S _ h λσ' S' S'' sb hG hI=>⟨S'',sb,hG,zmr I step done ws σ' S'' hI⟩
section
variable {E:WX}{σ:WSt}{S:Sto}{Q:WK}{QB:Bool→Sto→Prop}{QA:List W→Sto→Prop}{QI:List W→(Sto→Prop)→Sto→Prop}{QO:Option Int→Sto→Prop}{P:WSt→Sto→Prop}{D:WEnds}{w x y:W}{ws:List W}{EX:Str→Sto→Prop}
þ zAa{i:Nat}:(wVar i E σ S Q)=(match σ[i]? with
 |some (some w)=>Q w S
 |_=>False):=pz id id
þ zCW{w:W}:(wC w E σ S Q)=(Q w S):=pz id id
þ zBs{r:W2}{a b:WE}:(wOp r a b E σ S Q)=(a E σ S λx S1=>b E σ S1 λy S2=>r x y S2 Q):=pz id id
þ zyd{t:WE}:(zgM t E σ S QB)=(t E σ S λw S'=>zsI w S' QB):=pz id id
þ zAQ{t:WE}:(wTb t E σ S QB)=(t E σ S λw S'=>match w with
 | .bl b=>QB b S'
 |_=>False):=pz id id
þ zxN{t u:WT}:(znO t u E σ S QB)=(t E σ S λc S1=>if c=true then u E σ S1 QB else QB false S1):=pz id id
þ zBL{t u:WT}:(wOr t u E σ S QB)=(t E σ S λc S1=>if c=true then QB true S1 else u E σ S1 QB):=pz id id
þ zzo{t:WT}:(ztp t E σ S QB)=(t E σ S λc S1=>QB (!c) S1):=pz id id
þ zvF{t u:WE}:(zso t u E σ S Q)=(t E σ S λw S1=>match w with
 | .bl true=>u E σ S1 Q
 | .bl false=>Q (.bl false) S1
 |_=>False):=pz id id
þ zyQ{t u:WE}:(zBl t u E σ S Q)=(t E σ S λw S1=>match w with
 | .bl false=>u E σ S1 Q
 | .bl true=>Q (.bl true) S1
 |_=>False):=pz id id
þ zBv{c:WT}{t u:WE}:(wIf c t u E σ S Q)=(c E σ S λb S1=>if b=true then t E σ S1 Q else u E σ S1 Q):=pz id id
þ zyr{c:WT}{t u:WS}:(zcq c t u E D σ S)=(c E σ S λb S1=>if b=true then t E D σ S1 else u E D σ S1):=pz id id
þ zvV:(wNext  E D σ S)=(D.nx σ S):=pz id id
þ zyb{t u:WS}:(zat t u E D σ S)=(t E { D with nx:=u E D } σ S):=pz id id
þ zyl{e:WE}:(wRet e E D σ S)=(e E σ S D.rt):=pz id id
þ zvX{e:WE}:(zcL e E D σ S)=(e E σ S λ_ S1=>D.nx σ S1):=pz id id
þ ziq{i:Nat}:(wGN i w σ S P)=(P (σ.set i (some w)) S):=pz id id
þ zzz{e:WE}{g:WG}:(wAsg e g E D σ S)=(e E σ S λw S1=>g w σ S1 D.nx):=pz id id
þ zra:(zdY  ws σ S P)=(match ws with
 | []=>P σ S
 |_=>False):=pz id id
þ zjG{g:WG}{u:WGs}:(zaE g u ws σ S P)=(match ws with
 | []=>False
 |w::r=>g w σ S λσ' S'=>u r σ' S' P):=pz id id
þ zzg{u:WGs}:(wGT u w σ S P)=(match w with
 | .tup ws=>u ws σ S P
 |_=>False):=pz id id
þ zwF:(waNil  E σ S QA)=(QA [] S):=pz id id
þ ztA{t:WE}{u:WA}:(zab t u E σ S QA)=(t E σ S λw S1=>u E σ S1 λws S2=>QA (w::ws) S2):=pz id id
þ zxM{t:WA}:(zce t E σ S Q)=(t E σ S λws S1=>ws.length≤sizeLine∧Q (.tup ws) S1):=pz id id
þ zzJ{t:WA}:(zdL t E σ S QA)=(t E σ S λws S1=>ws.length≤sizeLine∧QA ws S1):=pz id id
þ zyC{t:WL}:(zdm t E σ S Q)=(t E σ S λws S1=>∀a,S1 a=none→Q (.ref a) (put S1 a (.lst ws))):=pz id id
þ zvY{c:WSp}{t:WA}:(zan c t E σ S Q)=(t E σ S λws S1=>c ws S1 Q λcl S2=>E cl σ S2):=pz id id
þ zgg{n k:Nat}{body:WS}:(zcd n k body ws S Q EX)=(ws.length=k∧body (λc _ S'=>EX c S') { nx:=λ_ S'=>∃S'',Sub S'' S'∧Q .non S'',rt:=λw S'=>∃S'',Sub S'' S'∧Q w S'' } (ws.map some++List.replicate (n - k) none) S):=pz id id
þ zzK{t:WE}:(zlP t E σ S Q)=(t E σ S λw S1=>match w with
 | .int i=>Q (.int (-i)) S1
 |_=>False):=pz id id
þ zAI{t u:WE}:(zBU t u E σ S QA)=(t E σ S λx S1=>u E σ S1 λy S2=>match x,y with
 | .ref a, .ref b=>zcY S2 a λxs=>zcY S2 b λys=>xs.length+ys.length≤sizeLine∧QA (xs++ys) S2
 |_,_=>False):=pz id id
þ zBP{neg:Bool}:(oEq neg x y S Q)=(match eqF S 60 x y with
 |some b=>Q (.bl (if neg then !b else b)) S
 |none=>False):=pz id id
þ ztJ{r r':W2}{a b c:WE}:(zkp r r' a b c E σ S Q)=(a E σ S λx S1=>b E σ S1 λy S2=>r x y S2 λz S3=>match z with
 | .bl true=>c E σ S3 λu S4=>r' y u S4 Q
 | .bl false=>Q (.bl false) S3
 |_=>False):=pz id id
þ zAZ:(woN  E σ S QO)=(QO none S):=pz id id
þ zBj{t:WE}:(woS t E σ S QO)=(t E σ S λw S1=>match w with
 | .int i=>QO (some i) S1
 |_=>False):=pz id id
þ zBe{t:WE}{l h:WO}:(wSl t l h E σ S Q)=(t E σ S λx S1=>l E σ S1 λlo S2=>h E σ S2 λhi S3=>oSl x lo hi S3 Q):=pz id id
þ zCR{f:WF}{t:WA}:(wB f t E σ S Q)=(t E σ S λws S1=>f ws S1 Q):=pz id id
þ zAJ{f:WF}{t:WL}:(wBL f t E σ S Q)=(t E σ S λws S1=>f ws S1 Q):=pz id id
þ zqD:(zgJ  ws S Q)=(Q (.tup ws) S):=pz id id
þ zpY{t:WE}:(zjk t E σ S QA)=(t E σ S λw S1=>match w with
 | .tup ws=>QA ws S1
 | .ref a=>zcY S1 a λws=>QA ws S1
 | .scr ns=>QA (ns.map W.int) S1
 |_=>False):=pz id id
þ zwC:(zmJ  ws S Q)=(match zhY ws with
 |some bs=>Q (.bl (bs.all _root_.id)) S
 |none=>False):=pz id id
þ zAg{T:String}{t:WE}:(zsH T t E σ S Q)=(t E σ S λw S1=>tyW w S1 λA=>Q (.bl (zcx A T)) S1):=pz id id
þ zCG{rv:W→Sto→Prop}{f:WMf}{to:WE}{t:WA}:(wM rv f to t E σ S Q)=(to E σ S λw S1=>rv w S1∧t E σ S1 λws S2=>f w ws S2 Q):=pz id id
þ zBX{rv:W→Sto→Prop}{f:WMf}{to:WE}{t:WL}:(wML rv f to t E σ S Q)=(to E σ S λw S1=>rv w S1∧t E σ S1 λws S2=>f w ws S2 Q):=pz id id
þ zyN{i:Nat}{g:Int→Int→Int}{e:WE}:(zzm i g e E D σ S)=(match σ[i]? with
 |some (some (.int a))=>e E σ S λw S1=>match w with
  | .int b=>D.nx (σ.set i (some (.int (g a b)))) S1
  |_=>False
 |_=>False):=pz id id
þ zxZ{q:WI}{g:WG}{b:WS}:(zgW q g b E D σ S)=(q E σ S λws G S1=>forL g b E D G ws σ S1):=pz id id
þ zAF{t:WE}:(wIv t E σ S QI)=(t E σ S λw S1=>match w with
 | .tup ws=>QI ws (λ_=>True) S1
 | .ref a=>zcY S1 a λws=>QI ws (λS'=>S' a=some (.lst ws)) S1
 | .scr ns=>QI (ns.map W.int) (λ_=>True) S1
 | .str z=>QI (zlD z) (λ_=>True) S1
 |_=>False):=pz id id
þ zBx{t:WL}:(wIl t E σ S QI)=(t E σ S λws S1=>QI ws (λ_=>True) S1):=pz id id
þ zzS{t:WA}:(zvM t E σ S QI)=(t E σ S λws S1=>match ws with
 | [.int j]=>(-(2 ^ 62)≤j∧j<2 ^ 62)∧QI (zpm 0 j.toNat) (λ_=>True) S1
 |_=>False):=pz id id
þ zxR:(zfw  E σ S QB)=(QB true S):=pz id id
þ zxv{k:Nat}{fr:List Nat}{q:WI}{g:WG}{c:WT}{e:WE}:(zcm k fr q g c e E σ S QA)=(q noE σ S λws G S1=>zfp g c e noE G QA ws [] (List.replicate k none++fr.map λj=>(σ[j]?).join) S1):=pz id id
þ zvq{t:WE}:(zqL t E σ S QI)=(t E σ S λw S1=>zpN w S1 λws G=>QI (ziQ 0 ws) G S1):=pz id id
þ zzn{t u:WE}:(zxp t u E σ S QI)=(t E σ S λx S1=>u E σ S1 λy S2=>zpN x S2 λxs G=>zpN y S2 λys G'=>QI (pairs xs ys) (λS'=>G S'∧G' S') S2):=pz id id
þ zwA{t:WE}{l h:WO}:(zxD t l h E σ S QA)=(t E σ S λx S1=>l E σ S1 λlo S2=>h E σ S2 λhi S3=>match x with
 | .ref a=>zcY S3 a λws=>QA (zeu ws lo hi) S3
 | .scr ns=>QA ((zeu ns lo hi).map W.int) S3
 |_=>False):=pz id id
þ zzD{t:WL}{u:WE}:(ztV t u E σ S Q)=(t E σ S λws S1=>u E σ S1 λy S2=>match y with
 | .int i=>match atI ws i with
  |some w=>Q w S2
  |none=>False
 |_=>False):=pz id id
þ zwU{t:WE}{u:WL}:(zvG t u E σ S QA)=(t E σ S λx S1=>u E σ S1 λys S2=>match x with
 | .ref a=>zcY S2 a λxs=>xs.length+ys.length≤sizeLine∧QA (xs++ys) S2
 |_=>False):=pz id id
þ zvD{t u:WL}:(zoQ t u E σ S QA)=(t E σ S λxs S1=>u E σ S1 λys S2=>xs.length+ys.length≤sizeLine∧QA (xs++ys) S2):=pz id id
þ zxs{t:WL}{u:WE}:(ztW t u E σ S QA)=(t E σ S λxs S1=>u E σ S1 λy S2=>match y with
 | .ref a=>zcY S2 a λys=>xs.length+ys.length≤sizeLine∧QA (xs++ys) S2
 |_=>False):=pz id id
þ zvS{t:WL}{u:WE}:(ztX t u E σ S QA)=(t E σ S λxs S1=>u E σ S1 λy S2=>match y with
 | .int k=>(-(2 ^ 63)≤k∧k<2 ^ 63∧xs.length*k.toNat≤sizeLine)∧QA (List.replicate k.toNat xs).flatten S2
 |_=>False):=pz id id
end
section
variable {S:Sto}{Q:WK}
þ zxQ{xs:List W}{k:Int}:zAL (.tup xs) (.int k) S Q=((xs≠ []∧ -(2 ^ 63)≤k∧k<2 ^ 63∧xs.length*k.toNat≤sizeLine)∧Q (.tup (List.replicate k.toNat xs).flatten) S):=pz id id
þ zAX{neg:Bool}{y:W}{a:Addr}:zzR neg y (.ref a) S Q=(match zrJ y with
 |some k=>zsU S a λkvs=>Q (.bl (if neg then !(zgQ kvs k).isSome else(zgQ kvs k).isSome)) S
 |none=>False):=pz id id
þ zxT{y:W}{a:Addr}:zBG (.ref a) y S Q=(match zrJ y with
 |some k=>zsU S a λkvs=>match zgQ kvs k with
  |some w=>Q w S
  |none=>False
 |none=>False):=pz id id
þ zwn{ws:List W}:(zms ws S Q)=(match zby ws with
 |some ns=>Q (.int ns.sum) S
 |none=>False):=pz id id
þ zxl{z:Str}:zog (.str z) [] S Q=(z.length≤5592405∧Q (.str (Txt.upper z)) S):=pz id id
þ zgx:∀p:List Int,zby (p.map W.int)=some p
 | []=>rfl
 |i::p=>by rw[List.map_cons,zby,zgx p];rfl
þ zAM (p:List Int):zrJ (zcc p)=some p:=zgx p
þ zsS{a:Addr}{kvs:List (List Int×W)}{P:List (List Int×W)→Prop}:zsU (put S a (.dct kvs)) a P=P kvs:=zma zag
end
end L2
end
section
def L2.wZ (d:String):Lean.MacroM (Lean.TSyntax `tactic):=do
  let a:Array Lean.Term:=(("L2.zAa L2.zCW L2.zBs L2.zyd L2.zAQ L2.zxN L2.zBL L2.zzo L2.zvF L2.zyQ L2.zBv L2.zyr L2.zvV L2.zyb L2.zyl L2.zvX L2.ziq L2.zzz L2.zra L2.zjG L2.zzg L2.zwF L2.ztA L2.zxM L2.zzJ L2.zyC L2.zvY L2.zgg L2.zzK L2.zBP L2.ztJ L2.zAZ L2.zBj L2.zBe L2.zCR L2.zAJ L2.zqD L2.zpY L2.zwC L2.zAg L2.zCG L2.zBX L2.zyN L2.zxZ L2.zAF L2.zBx L2.zzS L2.zxR L2.zxv L2.zvq L2.zzn L2.zwA L2.zzD L2.zwU L2.zvD L2.zxs L2.zvS zte zAf L2.zxQ L2.zAX L2.zxT L2.zwn L2.ztE L2.zxl L2.zAM L2.zsS L2.zhf L2.zaX L2.zzE L2.zzI L2.zBh L2.zvB L2.zjS L2.zmH L2.zkV L2.zmh L2.zjO L2.zkG L2.zkv L2.zjU L2.zlC L2.ziy L2.zjv L2.zlQ L2.zlu L2.zlR L2.zkc L2.zkB L2.zjC L2.ziB L2.zjP L2.sub_tuple_tuple L2.sub_tuple_list L2.zkg L2.zjQ L2.zlO L2.sub_list_tuple L2.sub_list_list L2.ztR L2.zst L2.zpZ L2.zqX L2.zpS L2.zkC L2.zid L2.zvs L2.zup L2.zur L2.ztk L2.ztC L2.zua L2.zrh L2.zqs L2.zij L2.zrZ L2.zBW L2.zzy L2.zuq L2.zsZ L2.zrY L2.zqS L2.zqQ L2.zqo L2.zto L2.ztQ L2.zsP L2.zts L2.ztx L2.zuk L2.ztr L2.zuc L2.zmG L2.zme L2.ztg L2.zBw L2.zlN L2.zlx L2.zrO L2.zAz L2.zAT L2.ztB L2.zrw L2.zzc L2.zyi L2.zyj L2.zwd L2.zsV L2.zwZ L2.zxk L2.zws L2.zwX L2.zwP L2.zsL L2.zsY L2.zti List.map_cons List.map_nil List.length_cons List.length_nil List.cons_append List.nil_append List.append_nil List.replicate List.getElem?_cons_zero List.getElem?_cons_succ List.getElem?_nil List.set_cons_zero List.set_cons_succ Nat.reduceAdd Nat.reduceSub true_and and_true if_true if_false Bool.false_eq_true reduceIte Bool.not_true Bool.not_false Option.join_some Option.join_none decide_eq_true_eq and_self".splitOn " ").filter (· != d)).toArray.map λs=>Lean.mkIdent s.toName
  `(tactic| simp only [$[$a:term],*])
local macro_rules | `(tactic| walk_at "wp") => L2.wZ ""
section
namespace L2
open PySem PySem.Spec PyProof.Rows
section
variable {E:WX}{D:WEnds}{σ:WSt}{S:Sto}{Q:WK}
þ zte{c:WSp}{t:WA}:(znU c t E σ S Q)=(t noX σ S λws S1=>c ws S1 Q λcl S2=>E cl σ S2):=pz id id
þ zha{x:Str}{t:WA}:(zhZ x t E D σ S)=(t E σ S λws S1=>ws.length≤sizeLine∧E x σ S1):=pz id id
þ zAf{al:List Str}{t u:WS}:(zAu al t u E D σ S)=(t (λcl σ' S'=>cl∈al∧u noX D σ' S') D σ S):=pz id id
end
ñ def zcR:Nat→WSp
 |0=>zaJ
 |r+1=>zcd 1 1 (zat (zcq (zgM (zsH "int" (wVar 0))) (wRet (zce waNil)) wNext)
  (wRet (wSl (wVar 0) (woS (wC (.int 1))) woN)))
ñ def zbz (r:Nat) (self:WSp):WS:=(zcL (wM rvL zil (wVar 1) (zab (zan (zcR r) (zab (wVar 2) waNil)) waNil)))
ñ def zbn:Nat→WSp
 |0=>zaJ
 |r+1=>zcd 3 1 (zat (wAsg (zdm (zdL waNil)) (wGN 1))
  (zat (zgW (wIv (wVar 0)) (wGN 2) (zbz r zaJ))
  (wRet (wVar 1))))
ñ def zfc (r:Nat) (self:WSp):WS:=(zat (zzm 1 (λa b=>a+b) (wB zfI (zab (wVar 3) waNil)))
  (zat (zzm 2 (λa b=>a+b) (wC (.int 1)))
  (zat (zcq (wOr (wTb (wOp oGt (wVar 1) (wC (.int 400)))) (wTb (wOp oGt (wVar 2) (wC (.int 40))))) (wRet (wC (.bl false))) wNext)
  (wAsg (zan (zbn r) (zab (wVar 3) waNil)) (wGN 3)))))
ñ def zcN:Nat→WSp
 |0=>zaJ
 |r+1=>zcd 4 1 (zat (wAsg (wC (.int 0)) (wGN 1))
  (zat (wAsg (wC (.int 0)) (wGN 2))
  (zat (wAsg (zdm (zdL (zab (wVar 0) waNil))) (wGN 3))
  (zat (zoa (zgM (wVar 3)) (zfc r zaJ))
  (wRet (wC (.bl true)))))))
ñ def zcV (r:Nat) (self:WSp):WS:=(zcL (zan self (zab (wVar 4) (zab (wOp zeo (wVar 1) (zce (zab (wVar 3) waNil))) (zab (wVar 2) waNil)))))
ñ def zaR:Nat→WSp
 |0=>zaJ
 |r+1=>zcd 5 3 (zat (zcL (wM rvL zbO (wVar 2) (zab (wVar 1) waNil)))
  (zgW (zqL (zan (zcR r) (zab (wVar 0) waNil))) (wGT (zaE (wGN 3) (zaE (wGN 4) zdY))) (zcV r (zaR r))))
ñ def zga:Nat→WSp
 |0=>zaJ
 |r+1=>zcd 2 1 (zat (wAsg (zdm (zdL waNil)) (wGN 1))
  (zat (zcL (zan (zaR r) (zab (wVar 0) (zab (zce waNil) (zab (wVar 1) waNil)))))
  (wRet (wVar 1))))
ñ def zbM:Nat→WSp
 |0=>zaJ
 |r+1=>zcd 3 2 (zat (wAsg (zan (zcR r) (zab (wVar 0) waNil)) (wGN 2))
  (zat (zcq (wOr (wTb (wOp oLt (wVar 1) (wC (.int 0)))) (wTb (wOp oGe (wVar 1) (wB zfI (zab (wVar 2) waNil))))) (zhZ "NoPlace" (zab (wC (.str "there is no such place")) waNil)) wNext)
  (wRet (wOp oIx (wVar 2) (wVar 1)))))
ñ def zjj (r:Nat) (self:WSp):WS:=(wAsg (zan (zbM r) (zab (wVar 2) (zab (wVar 3) waNil))) (wGN 2))
ñ def zkE:Nat→WSp
 |0=>zaJ
 |r+1=>zcd 4 2 (zat (wAsg (wVar 0) (wGN 2))
  (zat (zgW (wIv (wVar 1)) (wGN 3) (zjj r zaJ))
  (wRet (wVar 2))))
ñ def zgZ (r:Nat) (self:WSp):WE:=(wVar 0)
ñ def zcf:Nat→WSp
 |0=>zaJ
 |r+1=>zcd 1 1 (wRet (zdm (zcm 1 [0] (wIv (zan (zga r) (zab (wVar 0) waNil))) (wGN 0) (zgM (zsH "int" (zan (zkE r) (zab (wVar 1) (zab (wVar 0) waNil))))) (zgZ r zaJ))))
ñ def ziS (r:Nat) (self:WSp):WE:=(zan self (zab (wVar 0) (zab (wVar 1) waNil)))
ñ def zdp:Nat→WSp
 |0=>zaJ
 |r+1=>zcd 2 2 (zat (zcq (zgM (zsH "int" (wVar 0))) (wRet (wOp oIx (wVar 1) (wVar 0))) wNext)
  (wRet (wOp zeo (zce (zab (wOp oIx (wVar 0) (wC (.int 0))) waNil)) (wBL zgJ (zcm 1 [1] (wIv (wSl (wVar 0) (woS (wC (.int 1))) woN)) (wGN 0) zfw (ziS r (zdp r)))))))
ñ def zch:Nat→WSp
 |0=>zaJ
 |r+1=>zcd 2 2 (wRet (zso (wOp (oEq false) (wOp oIx (wVar 0) (wC (.int 0))) (wOp oIx (wVar 1) (wC (.int 0)))) (wOp (oEq false) (wB zfI (zab (wVar 0) waNil)) (wB zfI (zab (wVar 1) waNil)))))
ñ def zcB (r:Nat) (self:WSp):WS:=(zcq (ztp (zgM (zan self (zab (wVar 3) (zab (wVar 4) (zab (wVar 2) waNil)))))) (wRet (wC (.bl false))) wNext)
ñ def zaC:Nat→WSp
 |0=>zaJ
 |r+1=>zcd 5 3 (zat (zcq (zgM (zsH "int" (wVar 0))) (zat (zcL (wM rvL zbO (wVar 2) (zab (wVar 1) waNil)))
  (wRet (wC (.bl true)))) wNext)
  (zat (zcq (ztp (zgM (zan (zch r) (zab (wVar 0) (zab (wVar 1) waNil))))) (wRet (wC (.bl false))) wNext)
  (zat (zgW (zxp (wSl (wVar 0) (woS (wC (.int 1))) woN) (wSl (wVar 1) (woS (wC (.int 1))) woN)) (wGT (zaE (wGN 3) (zaE (wGN 4) zdY))) (zcB r (zaC r)))
  (wRet (wC (.bl true))))))
ñ def zci:Nat→WSp
 |0=>zaJ
 |r+1=>zcd 3 2 (zat (wAsg (zdm (zdL waNil)) (wGN 2))
  (zat (zcq (zgM (zan (zaC r) (zab (wVar 0) (zab (wVar 1) (zab (wVar 2) waNil))))) (wRet (wVar 2)) wNext)
  (wRet (wC .non))))
ñ def zdf (r:Nat) (self:WSp):WE:=(zkp oLe oLe (wC (.str "a")) (wVar 0) (wC (.str "z")))
ñ def zbb:Nat→WSp
 |0=>zaJ
 |r+1=>zcd 1 1 (wRet (wBL zmJ (zcm 1 [] (wIv (wVar 0)) (wGN 0) zfw (zdf r zaJ))))
ñ def zfb:Nat→WSp
 |0=>zaJ
 |r+1=>zcd 1 1 (wRet (zso (zkp oLe oLe (wC (.int 1)) (wB zfI (zab (wVar 0) waNil)) (wC (.int 8))) (zan (zbb r) (zab (wVar 0) waNil))))
ñ def zfx (r:Nat) (self:WSp):WS:=(zcq (wTb (wOp (oEq false) (wOp oIx (wVar 2) (wC (.int 0))) (wVar 1))) (wRet (wVar 2)) wNext)
ñ def zaY:Nat→WSp
 |0=>zaJ
 |r+1=>zcd 3 2 (zat (zgW (wIv (wVar 0)) (wGN 2) (zfx r zaJ))
  (wRet (wC .non)))
ñ def zgO (r:Nat) (self:WSp):WE:=(zan self (zab (wVar 0) waNil))
ñ def zdq:Nat→WSp
 |0=>zaJ
 |r+1=>zcd 1 1 (wRet (zso (zan (zfb r) (zab (wOp oIx (wVar 0) (wC (.int 0))) waNil)) (wBL zmJ (zcm 1 [] (wIv (wSl (wVar 0) (woS (wC (.int 1))) woN)) (wGN 0) zfw (zgO r (zdq r))))))
ñ def zbe:Nat→WSp
 |0=>zaJ
 |r+1=>zcd 1 1 (zat (zcq (ztp (zgM (zan (zcN r) (zab (wVar 0) waNil)))) (zhZ "TooGreat" (zab (wC (.str "the shape is not small")) waNil)) wNext)
  (wRet (wVar 0)))
ñ def zfs (r:Nat) (self:WSp):WE:=(zan self (zab (wVar 1) (zab (wVar 0) (zab (wVar 2) waNil))))
ñ def zbT:Nat→WSp
 |0=>zaJ
 |r+1=>zcd 5 3 (zat (wAsg (zdm (zcm 1 [0,2] (wIv (wSl (wVar 1) (woS (wC (.int 1))) woN)) (wGN 0) zfw (zfs r (zbT r)))) (wGN 3))
  (zat (wAsg (zan (zaY r) (zab (wVar 0) (zab (wOp oIx (wVar 1) (wC (.int 0))) waNil))) (wGN 4))
  (zat (zcq (wTb (wOp (oIs false) (wVar 4) (wC .non))) (wRet (wOp zeo (zce (zab (wOp oIx (wVar 1) (wC (.int 0))) waNil)) (wB zen (zab (wVar 3) waNil)))) wNext)
  (wRet (zan (zdp r) (zab (wOp oIx (wVar 4) (wVar 2)) (zab (wVar 3) waNil)))))))
ñ def zff:Nat→WSp
 |0=>zaJ
 |r+1=>zcd 2 2 (wRet (zan (zbe r) (zab (zan (zbT r) (zab (wVar 0) (zab (wVar 1) (zab (wC (.int 1)) waNil)))) waNil)))
ñ def zfv:Nat→WSp
 |0=>zaJ
 |r+1=>zcd 2 2 (wRet (zan (zbe r) (zab (zan (zbT r) (zab (wVar 0) (zab (wVar 1) (zab (wC (.int 2)) waNil)))) waNil)))
ñ def zeY (r:Nat) (self:WSp):WE:=(zce (zab (wVar 0) waNil))
ñ def zbX:Nat→WSp
 |0=>zaJ
 |r+1=>zcd 3 2 (zat (wAsg (zan (zaY r) (zab (wVar 0) (zab (wOp oIx (wVar 1) (wC (.int 0))) waNil))) (wGN 2))
  (zat (zcq (wTb (wOp (oIs false) (wVar 2) (wC .non))) (wRet (zdm (zcm 1 [] (zvM (zab (wOp (zfX λi j=> .int (i - j)) (wB zfI (zab (wVar 1) waNil)) (wC (.int 1))) waNil)) (wGN 0) zfw (zeY r zaJ)))) wNext)
  (wRet (zan (zcf r) (zab (wOp oIx (wVar 2) (wC (.int 1))) waNil)))))
ñ def zeK (r:Nat) (self:WSp):WS:=(zcq (wTb (wOp (oIs true) (zan (zci r) (zab (wOp oIx (wVar 2) (wC (.int 1))) (zab (wVar 1) waNil))) (wC .non))) (wRet (wVar 2)) wNext)
ñ def zbB:Nat→WSp
 |0=>zaJ
 |r+1=>zcd 3 2 (zat (zgW (wIv (wVar 0)) (wGN 2) (zeK r zaJ))
  (wRet (wC .non)))
ñ def zdx (r:Nat) (self:WSp):WS:=(zcL (zan self (zab (wVar 0) (zab (wVar 6) (zab (wOp zeo (wVar 2) (zce (zab (wVar 5) waNil))) (zab (wVar 3) waNil))))))
ñ def zbx:Nat→WSp
 |0=>zaJ
 |r+1=>zcd 7 4 (zat (wAsg (zan (zbB r) (zab (wVar 0) (zab (wVar 1) waNil))) (wGN 4))
  (zat (zcq (wTb (wOp (oIs true) (wVar 4) (wC .non))) (zcL (wM rvL zbO (wVar 3) (zab (zce (zab (wVar 2) (zab (wOp oIx (wVar 4) (wC (.int 0))) waNil))) waNil))) wNext)
  (zgW (zqL (wSl (wVar 1) (woS (wC (.int 1))) woN)) (wGT (zaE (wGN 5) (zaE (wGN 6) zdY))) (zdx r (zbx r)))))
ñ def zbo:Nat→WSp
 |0=>zaJ
 |r+1=>zcd 3 2 (zat (wAsg (zdm (zdL waNil)) (wGN 2))
  (zat (zcL (zan (zbx r) (zab (wVar 0) (zab (wVar 1) (zab (zce waNil) (zab (wVar 2) waNil))))))
  (wRet (wVar 2))))
ñ def zfP (r:Nat) (self:WSp):WE:=(wOp oIx (wVar 0) (wC (.int 0)))
ñ def zcZ:Nat→WSp
 |0=>zaJ
 |r+1=>zcd 1 1 (wRet (zdm (zcm 1 [] (wIv (wVar 0)) (wGN 0) zfw (zfP r zaJ))))
ñ def zdg:Nat→WSp
 |0=>zaJ
 |r+1=>zcd 3 2 (zat (wAsg (zan (zbB r) (zab (wVar 0) (zab (wVar 1) waNil))) (wGN 2))
  (wRet (wOp zeo (zce (zab (wOp oIx (wVar 2) (wC (.int 0))) waNil)) (wB zen (zab (zan (zci r) (zab (wOp oIx (wVar 2) (wC (.int 1))) (zab (wVar 1) waNil))) waNil)))))
ñ def zdc (r:Nat) (self:WSp):WS:=(zcL (wM rvL zbO (wVar 5) (zab (zan self (zab (wVar 0) (zab (wVar 7) (zab (wOp zeo (wVar 2) (wVar 6)) (zab (wVar 3) waNil))))) waNil)))
ñ def zaZ:Nat→WSp
 |0=>zaJ
 |r+1=>zcd 8 4 (zat (wAsg (wIf (wTb (wOp (zzR false) (wVar 2) (wVar 3))) (zan (zdg r) (zab (wVar 0) (zab (wVar 1) waNil))) (wVar 1)) (wGN 4))
  (zat (wAsg (zdm (zdL waNil)) (wGN 5))
  (zat (zgW (zxp (zan (zbX r) (zab (wVar 0) (zab (wVar 4) waNil))) (wSl (wVar 4) (woS (wC (.int 1))) woN)) (wGT (zaE (wGN 6) (zaE (wGN 7) zdY))) (zdc r (zaZ r)))
  (wRet (wOp zeo (zce (zab (wOp oIx (wVar 4) (wC (.int 0))) waNil)) (wB zen (zab (wVar 5) waNil)))))))
ñ def zgU (r:Nat) (self:WSp):WE:=(zce (zab (wVar 0) (zab (wC (.bl true)) waNil)))
ñ def zdr:Nat→WSp
 |0=>zaJ
 |r+1=>zcd 3 3 (wRet (zan (zaZ r) (zab (wVar 0) (zab (wVar 1) (zab (zce waNil) (zab (wBL zls (zcm 1 [] (wIv (wVar 2)) (wGN 0) zfw (zgU r zaJ))) waNil))))))
ñ def ziJ (r:Nat) (self:WSp):WS:=(zcq (wTb (wOp (oIn true) (wVar 4) (wVar 3))) (zhZ "NoUse" (zab (wC (.str "no use is open at one of the places")) waNil)) wNext)
ñ def zgi:Nat→WSp
 |0=>zaJ
 |r+1=>zcd 5 3 (zat (wAsg (zan (zcZ r) (zab (zan (zbo r) (zab (wVar 0) (zab (wVar 1) waNil))) waNil)) (wGN 3))
  (zat (zgW (wIv (wVar 2)) (wGN 4) (ziJ r zaJ))
  (wRet (zan (zdr r) (zab (wVar 0) (zab (wVar 1) (zab (wVar 2) waNil)))))))
ñ def zel:Nat→WSp
 |0=>zaJ
 |r+1=>zcd 2 2 (wRet (zan (zdr r) (zab (wVar 0) (zab (wVar 1) (zab (zan (zcZ r) (zab (zan (zbo r) (zab (wVar 0) (zab (wVar 1) waNil))) waNil)) waNil)))))
ñ def ziK (r:Nat) (self:WSp):WS:=(zat (wAsg (zan (zel r) (zab (wVar 0) (zab (wVar 4) waNil))) (wGN 5))
  (zat (wAsg (zan (zfv r) (zab (wVar 0) (zab (wVar 5) waNil))) (wGN 4))
  (zcL (wM rvL zbO (wVar 3) (zab (wVar 5) waNil)))))
ñ def zgd:Nat→WSp
 |0=>zaJ
 |r+1=>zcd 6 3 (zat (wAsg (zdm (zdL waNil)) (wGN 3))
  (zat (wAsg (wVar 1) (wGN 4))
  (zat (zoa (znO (wTb (wOp oLt (wB zfI (zab (wVar 3) waNil)) (wVar 2))) (zgM (zan (zbo r) (zab (wVar 0) (zab (wVar 4) waNil))))) (ziK r zaJ))
  (wRet (zce (zab (zce (zab (wVar 1) (zab (wVar 3) waNil))) (zab (zum (zan (zbo r) (zab (wVar 0) (zab (wVar 4) waNil)))) waNil)))))))
ñ def zcv:Nat→WSp
 |0=>zaJ
 |r+1=>zcd 4 3 (zat (wAsg (zan (zff r) (zab (wVar 0) (zab (wVar 1) waNil))) (wGN 3))
  (zat (zcq (wTb (wOp (oEq true) (zan (zff r) (zab (wVar 0) (zab (wVar 2) waNil))) (wVar 3))) (zhZ "Apart" (zab (wC (.str "the ways have not the same source")) waNil)) wNext)
  (wRet (wVar 3))))
ñ def zhU (r:Nat) (self:WSp):WE:=(zan self (zab (wVar 2) (zab (wVar 0) (zab (wVar 1) waNil))))
ñ def zcO:Nat→WSp
 |0=>zaJ
 |r+1=>zcd 8 3 (zat (wAsg (zan (zaY r) (zab (wVar 0) (zab (wOp oIx (wVar 1) (wC (.int 0))) waNil))) (wGN 3))
  (zat (wAsg (zan (zaY r) (zab (wVar 0) (zab (wOp oIx (wVar 2) (wC (.int 0))) waNil))) (wGN 4))
  (zat (wAsg (wSl (wVar 1) (woS (wC (.int 1))) woN) (wGN 5))
  (zat (wAsg (wSl (wVar 2) (woS (wC (.int 1))) woN) (wGN 6))
  (zat (zcq (znO (wTb (wOp (oIs false) (wVar 3) (wC .non))) (wTb (wOp (oIs true) (wVar 4) (wC .non)))) (wAsg (zan (zci r) (zab (wOp oIx (wVar 4) (wC (.int 1))) (zab (wVar 1) waNil))) (wGN 5)) wNext)
  (zat (zcq (znO (wTb (wOp (oIs true) (wVar 3) (wC .non))) (wTb (wOp (oIs false) (wVar 4) (wC .non)))) (wAsg (zan (zci r) (zab (wOp oIx (wVar 3) (wC (.int 1))) (zab (wVar 2) waNil))) (wGN 6)) wNext)
  (zat (wAsg (zdm (zcm 2 [0] (zxp (wVar 5) (wVar 6)) (wGT (zaE (wGN 0) (zaE (wGN 1) zdY))) zfw (zhU r (zcO r)))) (wGN 7))
  (zat (zcq (wTb (wOp (oIs false) (wVar 4) (wC .non))) (wRet (wOp zeo (zce (zab (wOp oIx (wVar 1) (wC (.int 0))) waNil)) (wB zen (zab (wVar 7) waNil)))) wNext)
  (wRet (zan (zdp r) (zab (wOp oIx (wVar 4) (wC (.int 2))) (zab (wVar 7) waNil))))))))))))
ñ def zdo:Nat→WSp
 |0=>zaJ
 |r+1=>zcd 3 3 (zat (zcL (zan (zcv r) (zab (wVar 0) (zab (wVar 1) (zab (wVar 2) waNil)))))
  (zat (zcL (zan (zfv r) (zab (wVar 0) (zab (wVar 2) waNil))))
  (wRet (zan (zcO r) (zab (wVar 0) (zab (wVar 1) (zab (wVar 2) waNil)))))))
ñ def zmk (r:Nat):WS:=(wRet (zan (zfv r) (zab (wVar 0) (zab (wOp oIx (wOp oIx (wVar 1) (wC (.int 1))) (zlP (wC (.int 1)))) waNil))))
ñ def zmQ (r:Nat) (T:WS):WS:=(zat (zcq (ztp (zgM (wOp oIx (wVar 1) (wC (.int 1))))) (wRet (wOp oIx (wVar 1) (wC (.int 0)))) wNext) T)
ñ def zpp:Nat→WSp
 |0=>zaJ
 |r+1=>zcd 2 2 (zmQ r (zmk r))
ñ def zdG (r:Nat) (self:WSp):WS:=(zcL (zan (zfv r) (zab (wVar 0) (zab (wVar 2) waNil))))
ñ def zaW:Nat→WSp
 |0=>zaJ
 |r+1=>zcd 3 2 (zgW (wIv (wVar 1)) (wGN 2) (zdG r zaJ))
ñ def zcF (r:Nat):WS:=(wRet (wVar 3))
ñ def zcl (r:Nat):WS:=(zcL (wM rvL zbO (wVar 3) (zab (wVar 5) waNil)))
ñ def zcj (r:Nat) (T:WS):WS:=(zat (zcL (zan (zaW r) (zab (wVar 0) (zab (zdm (zdL (zab (wVar 5) waNil))) waNil)))) T)
ñ def zck (r:Nat) (T:WS):WS:=(zat (wAsg (zan (zcO r) (zab (wVar 0) (zab (wOp oIx (wVar 3) (zlP (wC (.int 1)))) (zab (wVar 4) waNil)))) (wGN 5)) T)
ñ def zcy (r:Nat) (self:WSp):WS:=(zck r (zcj r (zcl r)))
ñ def zcK (r:Nat) (T:WS):WS:=(zat (zgW (wIv (wVar 2)) (wGN 4) (zcy r zaJ)) T)
ñ def zcE (r:Nat) (T:WS):WS:=(zat (wAsg (zdm (zdL (zab (wVar 1) waNil))) (wGN 3)) T)
ñ def zbv:Nat→WSp
 |0=>zaJ
 |r+1=>zcd 6 3 (zcE r (zcK r (zcF r)))
ñ def zhq (r:Nat):WS:=(wRet (zce (zab (wVar 3) (zab (wVar 5) waNil))))
ñ def zna (r:Nat) (self:WSp):WE:=(zan (zcO r) (zab (wVar 2) (zab (wVar 0) (zab (wVar 1) waNil))))
ñ def zeZ (r:Nat):WS:=(zcL (wM rvL zbO (wVar 5) (zab (wVar 4) waNil)))
ñ def zeW (r:Nat) (T:WS):WS:=(zat (zcL (wM rvL zbO (wVar 3) (zab (wVar 7) waNil))) T)
ñ def zeO (r:Nat) (T:WS):WS:=(zat (wAsg (zdm (zcm 2 [0] (zxp (wVar 4) (wVar 7)) (wGT (zaE (wGN 0) (zaE (wGN 1) zdY))) zfw (zna r zaJ))) (wGN 4)) T)
ñ def zgm (r:Nat) (T:WS):WS:=(zat (wAsg (zan (zbv r) (zab (wVar 0) (zab (wVar 6) (zab (wVar 4) waNil)))) (wGN 7)) T)
ñ def zhm (r:Nat) (self:WSp):WS:=(zgm r (zeO r (zeW r (zeZ r))))
ñ def zhs (r:Nat) (T:WS):WS:=(zat (zgW (wIv (wOp oIx (wVar 1) (wC (.int 1)))) (wGN 6) (zhm r zaJ)) T)
ñ def zgs (r:Nat) (T:WS):WS:=(zat (wAsg (zdm (zdL (zab (wVar 4) waNil))) (wGN 5)) T)
ñ def zfS (r:Nat) (T:WS):WS:=(zat (wAsg (zdm (zjk (wOp oIx (wVar 2) (wC (.int 1))))) (wGN 4)) T)
ñ def zfO (r:Nat) (T:WS):WS:=(zat (wAsg (zdm (zdL waNil)) (wGN 3)) T)
ñ def zhk (r:Nat) (T:WS):WS:=(zat (zcL (zan (zaW r) (zab (wVar 0) (zab (wOp oIx (wVar 2) (wC (.int 1))) waNil)))) T)
ñ def zhh (r:Nat) (T:WS):WS:=(zat (zcL (zan (zaW r) (zab (wVar 0) (zab (wOp oIx (wVar 1) (wC (.int 1))) waNil)))) T)
ñ def zfJ (r:Nat) (T:WS):WS:=(zat (zcL (zan (zbe r) (zab (wOp oIx (wVar 1) (wC (.int 0))) waNil))) T)
ñ def zhi (r:Nat) (T:WS):WS:=(zat (zcq (wTb (wOp (oEq true) (wOp oIx (wVar 1) (wC (.int 0))) (wOp oIx (wVar 2) (wC (.int 0))))) (zhZ "Apart" (zab (wC (.str "the roads are not from one shape")) waNil)) wNext) T)
ñ def ziY:Nat→WSp
 |0=>zaJ
 |r+1=>zcd 8 3 (zhi r (zfJ r (zhh r (zhk r (zfO r (zfS r (zgs r (zhs r (zhq r)))))))))
ñ def zdI (r:Nat):WS:=(wRet (zce (zab (wOp oIx (wVar 1) (wC (.int 0))) (zab (wOp zeo (wOp oIx (wVar 1) (wC (.int 1))) (wOp oIx (wVar 3) (zlP (wC (.int 1))))) waNil))))
ñ def zdA (r:Nat) (T:WS):WS:=(zat (wAsg (wOp oIx (zan (ziY r) (zab (wVar 0) (zab (wVar 1) (zab (wVar 2) waNil)))) (wC (.int 1))) (wGN 3)) T)
ñ def zcG:Nat→WSp
 |0=>zaJ
 |r+1=>zcd 4 3 (zdA r (zdI r))
ñ def zgu (r:Nat) (self:WSp):WE:=(zan (zdq r) (zab (wVar 0) waNil))
ñ def zdC:Nat→WSp
 |0=>zaJ
 |r+1=>zcd 1 1 (wRet (wBL zmJ (zcm 1 [] (wIv (wVar 0)) (wGN 0) zfw (zgu r zaJ))))
ñ def zft (r:Nat) (self:WSp):WE:=(wOp oIx (wVar 0) (zlP (wC (.int 1))))
ñ def zdi:Nat→WSp
 |0=>zaJ
 |r+1=>zcd 1 1 (wRet (zdm (zcm 1 [] (wIv (wOp oIx (wVar 0) (wC (.int 0)))) (wGN 0) zfw (zft r zaJ))))
ñ def zge:Nat→WSp
 |0=>zaJ
 |r+1=>zcd 3 3 (wRet (zan (zdC r) (zab (zan (zdi r) (zab (zan (ziY r) (zab (wVar 0) (zab (wVar 1) (zab (wVar 2) waNil)))) waNil)) waNil)))
ñ def zaA:Nat→WSp
 |0=>zaJ
 |r+1=>zcd 2 2 (zat (zcq (wTb (wOp oLt (wVar 1) (wB zfI (zab (wVar 0) waNil)))) (wRet (wOp oIx (wVar 0) (wVar 1))) wNext)
  (wRet (wC (.int 0))))
ñ def zfz (r:Nat) (self:WSp):WE:=(wOp oIx (wVar 1) (wOp (zdt (λ_ j=>0<j) λi j=> .int (i % j)) (wOp zeo (wOp oIx (wVar 2) (wVar 0)) (wOp (zdt CMul λi j=> .int (i*j)) (wVar 3) (wB zxA (zab (wOp (oEq false) (wVar 0) (wVar 4)) waNil)))) (wC (.int 26))))
ñ def zfy (r:Nat) (self:WSp):WS:=(zat (wAsg (wML rvS zkQ (wC (.str "")) (zcm 1 [3,5,6,7] (zvM (zab (wB zfI (zab (wVar 5) waNil)) waNil)) (wGN 0) zfw (zfz r zaJ))) (wGN 9))
  (zat (zcq (zgM (wVar 2)) (wAsg (wOp zeo (wM rvS zog (wOp oIx (wVar 9) (wC (.int 0))) waNil) (wSl (wVar 9) (woS (wC (.int 1))) woN)) (wGN 9)) wNext)
  (zcL (wM rvL zbO (wVar 8) (zab (wVar 9) waNil)))))
ñ def zdW (r:Nat) (self:WSp):WS:=(zat (zcL (wM rvL zbO (wVar 5) (zab (wOp (zdt (λ_ j=>0<j) λi j=> .int (i % j)) (wVar 4) (wC (.int 26))) waNil)))
  (wAsg (wOp (zdt ziZ λi j=> .int (i / j)) (wVar 4) (wC (.int 26))) (wGN 4)))
ñ def zbs:Nat→WSp
 |0=>zaJ
 |r+1=>zcd 10 3 (zat (wAsg (wC (.str "abcdefghijklmnopqrstuvwxyz")) (wGN 3))
  (zat (wAsg (wOp (zdt (λ_ j=>0<j) λi j=> .int (i % j)) (wVar 1) (wOp (zdt zAU λi j=> .int (i ^ j.toNat)) (wC (.int 26)) (wC (.int 8)))) (wGN 4))
  (zat (wAsg (zdm (zdL waNil)) (wGN 5))
  (zat (zgW (zvM (zab (wOp zeo (wC (.int 1)) (wOp (zdt (λ_ j=>0<j) λi j=> .int (i % j)) (wVar 0) (wC (.int 8)))) waNil)) (wGN 6) (zdW r zaJ))
  (zat (wAsg (wOp (zdt (λ_ j=>0<j) λi j=> .int (i % j)) (wOp (zdt ziZ λi j=> .int (i / j)) (wVar 0) (wC (.int 8))) (wB zfI (zab (wVar 5) waNil))) (wGN 7))
  (zat (wAsg (zdm (zdL waNil)) (wGN 8))
  (zat (zgW (zvM (zab (wC (.int 6)) waNil)) (wGN 6) (zfy r zaJ))
  (zat (zcq (znO (wTb (wOp (oEq false) (wOp (zdt (λ_ j=>0<j) λi j=> .int (i % j)) (wOp (zdt ziZ λi j=> .int (i / j)) (wVar 0) (wC (.int 64))) (wC (.int 2))) (wC (.int 1)))) (ztp (zgM (wVar 2)))) (wAsg (zdm (zoQ (zxD (wVar 8) woN (woS (wC (.int 3)))) (zdL (zab (wOp oIx (wVar 8) (wC (.int 2))) (zab (wOp oIx (wVar 8) (wC (.int 2))) (zab (wOp oIx (wVar 8) (wC (.int 5))) waNil)))))) (wGN 8)) wNext)
  (wRet (wVar 8))))))))))
ñ def zdQ (r:Nat) (self:WSp):WE:=(zan self (zab (wVar 0) waNil))
ñ def zaD:Nat→WSp
 |0=>zaJ
 |r+1=>zcd 1 1 (zat (zcq (zgM (zsH "int" (wVar 0))) (wRet (wC (.int 1))) wNext)
  (wRet (wBL zms (zcm 1 [] (wIv (wSl (wVar 0) (woS (wC (.int 1))) woN)) (wGN 0) zfw (zdQ r (zaD r))))))
ñ def zfd (r:Nat) (self:WSp):WE:=(zan self (zab (wVar 0) (zab (wVar 1) waNil)))
ñ def zbg:Nat→WSp
 |0=>zaJ
 |r+1=>zcd 2 2 (zat (zcq (zgM (zsH "int" (wVar 0))) (wRet (wOp oIx (wVar 1) (wVar 0))) wNext)
  (wRet (wOp zeo (wSl (wVar 0) woN (woS (wC (.int 1)))) (wBL zgJ (zcm 1 [1] (wIv (wSl (wVar 0) (woS (wC (.int 1))) woN)) (wGN 0) zfw (zfd r (zbg r)))))))
ñ def zcU:Nat→WSp
 |0=>zaJ
 |r+1=>zcd 3 3 (zat (zcq (znO (wTb (wOp oGt (wVar 1) (wC (.int 0)))) (wTb (wOp oGt (wOp (zdt (λ_ j=>0<j) λi j=> .int (i % j)) (wVar 0) (wC (.int 4))) (wC (.int 0))))) (wRet (wOp (zdt (λ_ j=>0<j) λi j=> .int (i % j)) (wOp (zdt ziZ λi j=> .int (i / j)) (wVar 0) (wC (.int 4))) (wVar 1))) wNext)
  (wRet (zce (zab (wOp oIx (wVar 2) (ztV (zdL (zab (wC (.int 2)) (zab (wC (.int 5)) waNil))) (wOp (zdt (λ_ j=>0<j) λi j=> .int (i % j)) (wOp (zdt ziZ λi j=> .int (i / j)) (wVar 0) (wC (.int 4))) (wC (.int 2))))) waNil))))
ñ def zdh:Nat→WSp
 |0=>zaJ
 |r+1=>zcd 6 3 (zat (wAsg (zan (zcU r) (zab (wOp (zdt ziZ λi j=> .int (i / j)) (wVar 0) (wC (.int 7))) (zab (wVar 1) (zab (wVar 2) waNil)))) (wGN 3))
  (zat (wAsg (zan (zcU r) (zab (wOp (zdt ziZ λi j=> .int (i / j)) (wVar 0) (wC (.int 700))) (zab (wVar 1) (zab (wVar 2) waNil)))) (wGN 4))
  (zat (wAsg (wOp (zdt (λ_ j=>0<j) λi j=> .int (i % j)) (wVar 0) (wC (.int 7))) (wGN 5))
  (zat (zcq (wTb (wOp (oEq false) (wVar 5) (wC (.int 0)))) (wRet (wVar 3)) wNext)
  (zat (zcq (wOr (wTb (wOp (oEq false) (wVar 5) (wC (.int 1)))) (wTb (wOp (oEq false) (wVar 1) (wC (.int 0))))) (wRet (zce (zab (wOp oIx (wVar 2) (wC (.int 3))) (zab (wVar 3) waNil)))) wNext)
  (zat (zcq (wTb (wOp (oEq false) (wVar 5) (wC (.int 2)))) (wRet (zce (zab (wOp oIx (wVar 2) (wC (.int 4))) (zab (wVar 3) (zab (wVar 4) waNil))))) wNext)
  (zat (zcq (wTb (wOp (oEq false) (wVar 5) (wC (.int 3)))) (wRet (zce (zab (wOp oIx (wVar 2) (wC (.int 4))) (zab (wVar 3) (zab (wVar 3) waNil))))) wNext)
  (zat (zcq (wTb (wOp (oEq false) (wVar 5) (wC (.int 4)))) (wRet (zce (zab (wOp oIx (wVar 2) (wC (.int 4))) (zab (zce (zab (wOp oIx (wVar 2) (wC (.int 3))) (zab (wVar 3) waNil))) (zab (wVar 4) waNil))))) wNext)
  (zat (zcq (wTb (wOp (oEq false) (wVar 5) (wC (.int 5)))) (wRet (zce (zab (wOp oIx (wVar 2) (wC (.int 0))) (zab (wVar 3) waNil)))) wNext)
  (wRet (zce (zab (wOp oIx (wVar 2) (wC (.int 1))) (zab (wVar 3) (zab (wVar 4) waNil))))))))))))))
ñ def zdd:Nat→WSp
 |0=>zaJ
 |r+1=>zcd 4 4 (zat (zcq (wTb (wOp (oEq false) (wVar 0) (wC (.int 0)))) (wRet (zdm (zdL (zab (zce (zab (wVar 1) (zab (wC (.int 0)) waNil))) waNil)))) wNext)
  (zat (zcq (wTb (wOp (oEq false) (wVar 0) (wC (.int 1)))) (wRet (zdm (zdL (zab (zce (zab (wVar 1) (zab (wC (.int 0)) (zab (wC (.int 1)) waNil)))) waNil)))) wNext)
  (zat (zcq (wTb (wOp (oEq false) (wVar 0) (wC (.int 2)))) (wRet (zdm (zdL (zab (zce (zab (wVar 1) (zab (zce (zab (wVar 2) waNil)) waNil))) (zab (zce (zab (wVar 1) (zab (zce (zab (wVar 3) (zab (wC (.int 0)) waNil))) waNil))) waNil))))) wNext)
  (zat (zcq (wTb (wOp (oEq false) (wVar 0) (wC (.int 3)))) (wRet (zdm (zdL (zab (zce (zab (wVar 1) (zab (zce (zab (wVar 2) waNil)) (zab (wC (.int 0)) waNil)))) (zab (zce (zab (wVar 1) (zab (zce (zab (wVar 3) (zab (wC (.int 0)) waNil))) (zab (wC (.int 1)) waNil)))) waNil))))) wNext)
  (zat (zcq (wTb (wOp (oEq false) (wVar 0) (wC (.int 4)))) (wRet (zdm (zdL (zab (zce (zab (wVar 1) (zab (zce (zab (wVar 3) (zab (zce (zab (wVar 3) (zab (wC (.int 0)) waNil))) waNil))) (zab (wC (.int 1)) (zab (wC (.int 2)) waNil))))) (zab (zce (zab (wVar 1) (zab (zce (zab (wVar 3) (zab (zce (zab (wVar 2) waNil)) waNil))) (zab (wC (.int 0)) (zab (wC (.int 1)) waNil))))) waNil))))) wNext)
  (wRet (zdm (zdL (zab (zce (zab (wVar 1) waNil)) waNil)))))))))
ñ def zeG (r:Nat) (self:WSp):WS:=(zat (wAsg (zan (zdh r) (zab (zan (zaA r) (zab (wVar 0) (zab (wOp zeo (wOp zeo (wOp zeo (wVar 1) (wC (.int 2))) (wOp (zdt CMul λi j=> .int (i*j)) (wC (.int 2)) (wVar 5))) (wVar 7)) waNil))) (zab (zan (zaD r) (zab (wVar 8) waNil)) (zab (wVar 2) waNil)))) (wGN 9))
  (zcL (wM rvL zbO (wVar 4) (zab (zce (zab (wOp oIx (wVar 3) (wB zfI (zab (wVar 4) waNil))) (zab (wVar 8) (zab (wVar 9) waNil)))) waNil))))
ñ def zfU (r:Nat) (self:WSp):WS:=(zat (wAsg (zan (zdd r) (zab (wOp (zdt (λ_ j=>0<j) λi j=> .int (i % j)) (zan (zaA r) (zab (wVar 0) (zab (wOp zeo (wVar 1) (wVar 5)) waNil))) (wC (.int 6))) (zab (wOp oIx (wVar 2) (wVar 5)) (zab (wOp oIx (wVar 2) (wC (.int 2))) (zab (wOp oIx (wVar 2) (wC (.int 3))) waNil))))) (wGN 6))
  (zgW (zqL (wVar 6)) (wGT (zaE (wGN 7) (zaE (wGN 8) zdY))) (zeG r zaJ)))
ñ def zcT:Nat→WSp
 |0=>zaJ
 |r+1=>zcd 10 4 (zat (wAsg (zdm (zdL waNil)) (wGN 4))
  (zat (zgW (zvM (zab (wC (.int 2)) waNil)) (wGN 5) (zfU r zaJ))
  (wRet (wVar 4))))
ñ def zfW (r:Nat) (self:WSp):WS:=(wAsg (zdm (zoQ (zxD (wVar 4) woN (woS (zlP (wC (.int 2))))) (zdL (zab (zce (zab (zlP (wC (.int 1))) (zab (wC (.int 0)) (zab (wOp oIx (wVar 2) (wC (.int 4))) (zab (wSl (wVar 4) (woS (zlP (wC (.int 2)))) woN) waNil))))) waNil)))) (wGN 4))
ñ def zfM (r:Nat) (self:WSp):WS:=(zat (wAsg (wOp (zdt (λ_ j=>0<j) λi j=> .int (i % j)) (wVar 6) (wC (.int 8))) (wGN 7))
  (zat (wAsg (ztV (zdL (zab (wC (.int 0)) (zab (wC (.int 0)) (zab (wC (.int 1)) (zab (wC (.int 2)) waNil))))) (wB zky (zab (wVar 7) (zab (wC (.int 3)) waNil)))) (wGN 8))
  (zat (wAsg (zce (zab (zlP (wC (.int 1))) (zab (wC (.int 0)) (zab (wOp oIx (wVar 2) (ztV (zdL (zab (wC (.int 2)) (zab (wC (.int 5)) (zab (wC (.int 3)) (zab (wC (.int 4)) waNil))))) (wB zky (zab (wVar 7) (zab (wC (.int 3)) waNil))))) waNil)))) (wGN 9))
  (zat (zcq (wTb (wOp oGt (wVar 7) (wC (.int 3)))) (zat (wAsg (wOp (zdt (λ_ j=>0<j) λi j=> .int (i % j)) (wOp (zdt ziZ λi j=> .int (i / j)) (wVar 6) (wC (.int 8))) (wB zfI (zab (wVar 1) waNil))) (wGN 10))
  (zat (wAsg (zan (zaD r) (zab (wOp oIx (wOp oIx (wVar 1) (wVar 10)) (wC (.int 1))) waNil)) (wGN 8))
  (zat (wAsg (zce (zab (wVar 10) (zab (wOp (zdt (λ_ j=>0<j) λi j=> .int (i % j)) (wOp (zdt ziZ λi j=> .int (i / j)) (wVar 6) (wC (.int 64))) (wC (.int 8))) (zab (wC (.str "")) waNil)))) (wGN 9))
  (wAsg (wOp zeo (wVar 5) (wC (.int 1))) (wGN 5))))) wNext)
  (zcq (znO (wTb (wOp oGt (wVar 3) (wC (.int 0)))) (wTb (wOp oLt (wVar 5) (wC (.int 5))))) (zat (wAsg (wOp (zfX λi j=> .int (i - j)) (wVar 3) (wC (.int 1))) (wGN 3))
  (zat (wAsg (zdm (ztW (ztX (zdL (zab (zce (zab (zlP (wC (.int 1))) (zab (wC (.int 0)) (zab (wOp oIx (wVar 2) (wC (.int 2))) (zab (zdm (zdL waNil)) waNil))))) waNil)) (wOp (zfX λi j=> .int (i - j)) (wVar 8) (wB zfI (zab (wVar 4) waNil)))) (wVar 4))) (wGN 4))
  (zat (wAsg (wOp (zfX λi j=> .int (i - j)) (wB zfI (zab (wVar 4) waNil)) (wVar 8)) (wGN 11))
  (wAsg (zdm (zoQ (zxD (wVar 4) woN (woS (wVar 11))) (zdL (zab (wOp zeo (wVar 9) (zce (zab (wSl (wVar 4) (woS (wVar 11)) woN) waNil))) waNil)))) (wGN 4))))) wNext)))))
ñ def zda:Nat→WSp
 |0=>zaJ
 |r+1=>zcd 12 4 (zat (wAsg (zdm (zdL waNil)) (wGN 4))
  (zat (wAsg (wC (.int 0)) (wGN 5))
  (zat (zgW (wIv (wVar 0)) (wGN 6) (zfM r zaJ))
  (zat (zoa (wTb (wOp oGt (wB zfI (zab (wVar 4) waNil)) (wC (.int 1)))) (zfW r zaJ))
  (wRet (ztV (zvG (wVar 4) (zdL (zab (zce (zab (zlP (wC (.int 1))) (zab (wC (.int 0)) (zab (wOp oIx (wVar 2) (wC (.int 5))) (zab (zdm (zdL waNil)) waNil))))) waNil))) (wC (.int 0))))))))
ñ def zgT (r:Nat) (self:WSp):WE:=(zan self (zab (wVar 0) (zab (wVar 1) (zab (wVar 2) waNil))))
ñ def zcQ:Nat→WSp
 |0=>zaJ
 |r+1=>zcd 8 3 (zat (wAsg (wVar 0) (wGT (zaE (wGN 3) (zaE (wGN 4) (zaE (wGN 5) (zaE (wGN 6) zdY))))))
  (zat (wAsg (zdm (zcm 1 [1,2] (wIv (wVar 6)) (wGN 0) zfw (zgT r (zcQ r)))) (wGN 7))
  (zat (zcq (wTb (wOp oLt (wVar 3) (wC (.int 0)))) (wRet (wOp zeo (zce (zab (wVar 5) waNil)) (wB zen (zab (wVar 7) waNil)))) wNext)
  (zat (zcq (wTb (wOp (oEq false) (wOp (zdt (λ_ j=>0<j) λi j=> .int (i % j)) (wOp (zdt ziZ λi j=> .int (i / j)) (wVar 4) (wVar 2)) (wC (.int 2))) (wC (.int 1)))) (wRet (wOp zeo (zce (zab (wOp oIx (wOp oIx (wVar 1) (wVar 3)) (wC (.int 0))) waNil)) (wB zen (zab (wVar 7) waNil)))) wNext)
  (wRet (zan (zbg r) (zab (wOp oIx (wOp oIx (wVar 1) (wVar 3)) (wC (.int 1))) (zab (wVar 7) waNil))))))))
ñ def zgj (r:Nat) (self:WSp):WS:=(zcq (wTb (wOp (oEq false) (wOp oIx (wVar 4) (wC (.int 0))) (wOp oIx (wVar 1) (wC (.int 0))))) (wRet (zan (zbg r) (zab (wOp oIx (wVar 4) (wVar 2)) (zab (wVar 3) waNil)))) wNext)
ñ def zfZ (r:Nat) (self:WSp):WE:=(zan self (zab (wVar 1) (zab (wVar 0) (zab (wVar 2) waNil))))
ñ def zbP:Nat→WSp
 |0=>zaJ
 |r+1=>zcd 5 3 (zat (wAsg (zdm (zcm 1 [0,2] (wIv (wSl (wVar 1) (woS (wC (.int 1))) woN)) (wGN 0) zfw (zfZ r (zbP r)))) (wGN 3))
  (zat (zgW (wIv (wVar 0)) (wGN 4) (zgj r zaJ))
  (wRet (wOp zeo (wSl (wVar 1) woN (woS (wC (.int 1)))) (wB zen (zab (wVar 3) waNil))))))
ñ def zdR (r:Nat) (self:WSp):WE:=(wOp oIx (wVar 0) (wC (.int 0)))
ñ def zdV (r:Nat) (self:WSp):WE:=(wOp oIx (wVar 0) (wC (.int 1)))
ñ def zdJ (r:Nat) (self:WSp):WE:=(zan self (zab (wVar 0) (zab (wVar 1) waNil)))
ñ def zaT:Nat→WSp
 |0=>zaJ
 |r+1=>zcd 3 2 (zat (zcq (zgM (zsH "int" (wVar 0))) (wRet (wOp oIx (wVar 1) (wVar 0))) wNext)
  (zat (wAsg (zdm (zcm 1 [1] (wIv (wSl (wVar 0) (woS (wC (.int 1))) woN)) (wGN 0) zfw (zdJ r (zaT r)))) (wGN 2))
  (wRet (zce (zab (wOp zeo (wC (.int 1)) (wBL zms (zcm 1 [] (wIv (wVar 2)) (wGN 0) zfw (zdR r zaJ)))) (zab (wOp zeo (wC (.int 1)) (zmX (zcm 1 [] (wIv (wVar 2)) (wGN 0) zfw (zdV r zaJ)) (wC (.int 0)))) waNil))))))
ñ def zeh (r:Nat) (self:WSp):WE:=(wOp oIx (wVar 0) (wC (.int 0)))
ñ def zeb (r:Nat) (self:WSp):WE:=(wOp oIx (wVar 0) (wC (.int 1)))
ñ def zek (r:Nat) (self:WSp):WS:=(zcq (wTb (wOp (oEq false) (wOp oIx (wVar 3) (wC (.int 0))) (wOp oIx (wVar 1) (wC (.int 0))))) (wRet (zan (zaT r) (zab (wOp oIx (wVar 3) (wC (.int 2))) (zab (wVar 2) waNil)))) wNext)
ñ def zee (r:Nat) (self:WSp):WE:=(zan self (zab (wVar 1) (zab (wVar 0) waNil)))
ñ def zbq:Nat→WSp
 |0=>zaJ
 |r+1=>zcd 4 2 (zat (wAsg (zdm (zcm 1 [0] (wIv (wSl (wVar 1) (woS (wC (.int 1))) woN)) (wGN 0) zfw (zee r (zbq r)))) (wGN 2))
  (zat (zgW (wIv (wVar 0)) (wGN 3) (zek r zaJ))
  (wRet (zce (zab (wOp zeo (wC (.int 1)) (wBL zms (zcm 1 [] (wIv (wVar 2)) (wGN 0) zfw (zeh r zaJ)))) (zab (wOp zeo (wC (.int 1)) (zmX (zcm 1 [] (wIv (wVar 2)) (wGN 0) zfw (zeb r zaJ)) (wC (.int 0)))) waNil))))))
ñ def zaq:Nat→WSp
 |0=>zaJ
 |r+1=>zcd 3 2 (zat (wAsg (zan (zbq r) (zab (wVar 0) (zab (wVar 1) waNil))) (wGN 2))
  (wRet (zBl (wOp oGt (wOp oIx (wVar 2) (wC (.int 0))) (wC (.int 400))) (wOp oGt (wOp oIx (wVar 2) (wC (.int 1))) (wC (.int 40))))))
ñ def zeD (r:Nat) (self:WSp):WE:=(zan self (zab (wVar 0) (zab (wVar 1) (zab (wVar 2) waNil))))
ñ def zbS:Nat→WSp
 |0=>zaJ
 |r+1=>zcd 3 3 (zat (zcq (zgM (zsH "int" (wVar 0))) (zat (zcL (wM rvL zbO (wVar 1) (zab (wVar 0) waNil)))
  (wRet (ztV (zdL (zab (wVar 0) (zab (zce (zab (wVar 2) waNil)) waNil))) (wB zxA (zab (wOp (oIn false) (wVar 0) (wSl (wVar 1) woN (woS (zlP (wC (.int 1)))))) waNil))))) wNext)
  (wRet (wOp zeo (wSl (wVar 0) woN (woS (wC (.int 1)))) (wBL zgJ (zcm 1 [1,2] (wIv (wSl (wVar 0) (woS (wC (.int 1))) woN)) (wGN 0) zfw (zeD r (zbS r)))))))
ñ def zbY (r:Nat):WS:=(wRet (zce (zab (wVar 1) (zab (wVar 4) waNil))))
ñ def zeq (r:Nat) (self:WSp):WE:=(wOp oIx (wVar 0) (wC (.int 0)))
ñ def zbG (r:Nat):WS:=(wAsg (zan (zbP r) (zab (wVar 0) (zab (wVar 9) (zab (wC (.int 2)) waNil)))) (wGN 5))
ñ def zbF (r:Nat) (T:WS):WS:=(zat (zcL (wM rvL zbO (wVar 4) (zab (wVar 9) waNil))) T)
ñ def zbJ (r:Nat):WS:=(zcq (ztp (zgM (zan (zaq r) (zab (wVar 0) (zab (wVar 9) waNil))))) (zbF r (zbG r)) wNext)
ñ def zbc (r:Nat) (T:WS):WS:=(zat (wAsg (zan (zgi r) (zab (wVar 0) (zab (wVar 5) (zab (wSl (wVar 8) woN (woS (wOp zeo (wC (.int 1)) (wOp (zdt (λ_ j=>0<j) λi j=> .int (i % j)) (wOp (zdt ziZ λi j=> .int (i / j)) (wVar 6) (wC (.int 4096))) (wC (.int 2)))))) waNil)))) (wGN 9)) T)
ñ def zbh (r:Nat) (T:WS):WS:=(zat (wAsg (zdm (zdL (zab (wOp oIx (wVar 7) (wOp (zdt (λ_ j=>0<j) λi j=> .int (i % j)) (wVar 6) (wB zfI (zab (wVar 7) waNil)))) (zab (wOp oIx (wVar 7) (wOp (zdt (λ_ j=>0<j) λi j=> .int (i % j)) (wOp (zdt ziZ λi j=> .int (i / j)) (wVar 6) (wC (.int 64))) (wB zfI (zab (wVar 7) waNil)))) waNil)))) (wGN 8)) T)
ñ def zbH (r:Nat):WS:=(zcq (znO (wTb (wOp oGt (wB zfI (zab (wVar 7) waNil)) (wC (.int 0)))) (wTb (wOp oLt (wB zfI (zab (wVar 4) waNil)) (wVar 3)))) (zbh r (zbc r (zbJ r))) wNext)
ñ def zbj (r:Nat) (T:WS):WS:=(zat (wAsg (zdm (zcm 1 [] (wIv (zan (zbo r) (zab (wVar 0) (zab (wVar 5) waNil)))) (wGN 0) zfw (zeq r zaJ))) (wGN 7)) T)
ñ def zbI (r:Nat) (self:WSp):WS:=(zbj r (zbH r))
ñ def zbW (r:Nat) (T:WS):WS:=(zat (zgW (wIv (wVar 2)) (wGN 6) (zbI r zaJ)) T)
ñ def zbZ (r:Nat) (T:WS):WS:=(zat (wAsg (wVar 1) (wGN 5)) T)
ñ def zca (r:Nat) (T:WS):WS:=(zat (wAsg (zdm (zdL waNil)) (wGN 4)) T)
ñ def zbV:Nat→WSp
 |0=>zaJ
 |r+1=>zcd 10 4 (zca r (zbZ r (zbW r (zbY r))))
ñ def zeR (r:Nat) (self:WSp):WS:=(zat (zcq (wOr (zgM (zan (zaq r) (zab (wVar 0) (zab (wVar 4) waNil)))) (zgM (zan (zaq r) (zab (wVar 0) (zab (wVar 6) waNil))))) (wRet (wC (.bl false))) wNext)
  (zat (zcL (wM rvL zbO (wVar 5) (zab (zan (zdo r) (zab (wVar 0) (zab (wVar 6) (zab (wVar 4) waNil)))) waNil)))
  (wAsg (zan (zdo r) (zab (wVar 0) (zab (wVar 4) (zab (wVar 6) waNil)))) (wGN 4))))
ñ def zfa (r:Nat) (self:WSp):WS:=(zat (wAsg (zdm (zdL waNil)) (wGN 5))
  (zat (zgW (wIv (wVar 3)) (wGN 6) (zeR r zaJ))
  (zat (zcq (zgM (zan (zaq r) (zab (wVar 0) (zab (wVar 4) waNil)))) (wRet (wC (.bl false))) wNext)
  (wAsg (wVar 5) (wGN 3)))))
ñ def zej:Nat→WSp
 |0=>zaJ
 |r+1=>zcd 7 3 (zat (wAsg (zdm (zjk (wVar 2))) (wGN 3))
  (zat (zgW (wIv (wVar 1)) (wGN 4) (zfa r zaJ))
  (wRet (wC (.bl true)))))
ñ def zcI:Nat→WSp
 |0=>zaJ
 |r+1=>zcd 4 3 (zat (wAsg (wC .non) (wGN 3))
  (zat (zAu ["TooGreat"] (wAsg (znU (zgd r) (zab (wVar 0) (zab (wVar 1) (zab (wVar 2) waNil)))) (wGN 3)) (wAsg (wC .non) (wGN 3)))
  (wRet (wVar 3))))
ñ def zcH:Nat→WSp
 |0=>zaJ
 |r+1=>zcd 4 3 (zat (wAsg (wC .non) (wGN 3))
  (zat (zAu ["TooGreat"] (wAsg (znU (zge r) (zab (wVar 0) (zab (wVar 1) (zab (wVar 2) waNil)))) (wGN 3)) (wAsg (wC .non) (wGN 3)))
  (wRet (wVar 3))))
ñ def zet (r:Nat):WS:=(wRet (wC (.bl true)))
ñ def zdO (r:Nat):WS:=(zcq (wTb (wOp (oEq true) (zan (zpp r) (zab (wVar 3) (zab (wVar 10) waNil))) (zan (zpp r) (zab (wVar 3) (zab (wOp oIx (wVar 7) (wC (.int 0))) waNil))))) (wRet (wC (.bl false))) wNext)
ñ def zdK (r:Nat) (T:WS):WS:=(zat (wAsg (zan (zcG r) (zab (wVar 3) (zab (wVar 5) (zab (wOp oIx (wVar 7) (wC (.int 0))) waNil)))) (wGN 10)) T)
ñ def zbl (r:Nat):WS:=(zcq (zgM (wVar 8)) (zdK r (zdO r)) wNext)
ñ def zbm (r:Nat) (T:WS):WS:=(zat (zcq (wOr (znO (zgM (wVar 8)) (wTb (wOp (oIs true) (wVar 9) (wC (.bl true))))) (znO (ztp (zgM (wVar 8))) (wTb (wOp (oIs true) (wVar 9) (wC .non))))) (wRet (wC (.bl false))) wNext) T)
ñ def zbN (r:Nat) (T:WS):WS:=(zat (wAsg (zan (zcH r) (zab (wVar 3) (zab (wVar 5) (zab (wOp oIx (wVar 7) (wC (.int 0))) waNil)))) (wGN 9)) T)
ñ def zbL (r:Nat) (T:WS):WS:=(zat (wAsg (zan (zej r) (zab (wVar 3) (zab (wOp oIx (wVar 5) (wC (.int 1))) (zab (wOp oIx (wOp oIx (wVar 7) (wC (.int 0))) (wC (.int 1))) waNil)))) (wGN 8)) T)
ñ def zbU (r:Nat):WS:=(zcq (wTb (wOp (oIs true) (wVar 7) (wC .non))) (zbL r (zbN r (zbm r (zbl r)))) wNext)
ñ def zdj (r:Nat) (T:WS):WS:=(zat (wAsg (zan (zcI r) (zab (wVar 3) (zab (wVar 4) (zab (wVar 6) waNil)))) (wGN 7)) T)
ñ def zdU (r:Nat) (self:WSp):WS:=(zdj r (zbU r))
ñ def zdw (r:Nat) (T:WS):WS:=(zat (zgW (wIl (zdL (zab (wB zfI (zab (wOp oIx (wVar 5) (wC (.int 1))) waNil)) (zab (wOp zeo (wB zfI (zab (wOp oIx (wVar 5) (wC (.int 1))) waNil)) (wC (.int 1))) waNil)))) (wGN 6) (zdU r zaJ)) T)
ñ def zdD (r:Nat) (T:WS):WS:=(zat (wAsg (zan (zbV r) (zab (wVar 3) (zab (wVar 4) (zab (wSl (wVar 0) (woS (wC (.int 10))) (woS (wC (.int 13)))) (zab (wOp (zdt (λ_ j=>0<j) λi j=> .int (i % j)) (wOp (zdt ziZ λi j=> .int (i / j)) (zan (zaA r) (zab (wVar 0) (zab (wC (.int 12)) waNil))) (wC (.int 6))) (wC (.int 4))) waNil))))) (wGN 5)) T)
ñ def zdE (r:Nat) (T:WS):WS:=(zat (wAsg (zan (zcQ r) (zab (zan (zda r) (zab (wSl (wVar 0) (woS (wC (.int 13))) woN) (zab (wVar 3) (zab (wVar 1) (zab (wC (.int 6)) waNil))))) (zab (wVar 3) (zab (wC (.int 8)) waNil)))) (wGN 4)) T)
ñ def zgL (r:Nat) (self:WSp):WE:=(zce (zab (wVar 0) (zab (wVar 1) (zab (zan (zbS r) (zab (wVar 2) (zab (zdm (zdL waNil)) (zab (wOp oIx (wVar 3) (wC (.int 2))) waNil)))) waNil))))
ñ def zdB (r:Nat) (T:WS):WS:=(zat (zcq (wTb (wOp (oEq false) (wOp (zdt (λ_ j=>0<j) λi j=> .int (i % j)) (wOp (zdt ziZ λi j=> .int (i / j)) (zan (zaA r) (zab (wVar 0) (zab (wC (.int 12)) waNil))) (wC (.int 3))) (wC (.int 2))) (wC (.int 1)))) (wAsg (zdm (zcm 3 [1] (wIv (wVar 3)) (wGT (zaE (wGN 0) (zaE (wGN 1) (zaE (wGN 2) zdY)))) zfw (zgL r zaJ))) (wGN 3)) wNext) T)
ñ def zeA (r:Nat) (T:WS):WS:=(zat (wAsg (zan (zcT r) (zab (wVar 0) (zab (wC (.int 4)) (zab (wVar 1) (zab (wVar 2) waNil))))) (wGN 3)) T)
ñ def zeH (r:Nat) (T:WS):WS:=(zat (wAsg (zan (zbs r) (zab (zan (zaA r) (zab (wVar 0) (zab (wC (.int 2)) waNil))) (zab (zan (zaA r) (zab (wVar 0) (zab (wC (.int 3)) waNil))) (zab (wC (.bl true)) waNil)))) (wGN 2)) T)
ñ def zez (r:Nat) (T:WS):WS:=(zat (wAsg (zan (zbs r) (zab (zan (zaA r) (zab (wVar 0) (zab (wC (.int 0)) waNil))) (zab (zan (zaA r) (zab (wVar 0) (zab (wC (.int 1)) waNil))) (zab (wC (.bl false)) waNil)))) (wGN 1)) T)
ñ def zep:Nat→WSp
 |0=>zaJ
 |r+1=>zcd 11 1 (zez r (zeH r (zeA r (zdB r (zdE r (zdD r (zdw r (zet r))))))))
þ zfL{r:Nat}{t:Tr}{S:Sto}{Q:WK}{E:Str→Sto→Prop}(h:Q (.tup (encs t.kids)) S):zcR (r+1) [enc t] S Q E:=by
 rw[zcR];cases t with
 |bl n=>
  ŝ[enc];¶;§⟨Nat.zero_le _,S, .refl,h⟩
 |nd s ts=>
  ŝ[enc];¶;§⟨S, .refl,h⟩
mutual
ñ def Tr.pl (p:List Int):Tr→List (List Int)
 | .bl _=>[p]
 | .nd _ ts=>p::pls p 0 ts
ñ def pls (p:List Int) (i:Nat):List Tr→List (List Int)
 | []=>[]
 |t::ts=>t.pl (p++[(i:Int)])++pls p (i+1) ts
end
mutual
þ zuK:∀(t:Tr) (p:List Int),(t.pl p).length=t.weight
 | .bl _,p=>by simp [Tr.pl,Tr.weight]
 | .nd _ ts,p=>by simp [Tr.pl,Tr.weight,zsf ts p 0];omega
þ zsf:∀(ts:List Tr) (p:List Int) (i:Nat),(pls p i ts).length=wts ts
 | [],p,i=>by simp [pls,wts]
 |t::ts,p,i=>by simp [pls,wts,zuK t,zsf ts p (i+1)]
end
þ zok{p:List Int}{i:Int}{S:Sto}{Q:WK}:zeo (zcc p) (.tup [.int i]) S Q=(p.length+1≤sizeLine∧Q (zcc (p++[i])) S):=by
 unfold zcc;rw[zij];simp
mutual
þ zkx:∀(t:Tr) {r:Nat}{p:List Int}{a:Addr}{xs:List W}{S:Sto}{Q:WK}{E:Str→Sto→Prop},t.depth≤r→S a=some (.lst xs)→xs.length+t.weight≤1000000→p.length+t.depth≤1000000→
  Q .non (put S a (.lst (xs++(t.pl p).map zcc)))→zaR (r+1) [enc t,zcc p, .ref a] S Q E
 | .bl n,r,p,a,xs,S,Q,E,hr,ha,hx,hp,h=>by
  obtain⟨r,rfl⟩:∃r',r=r'+1:=⟨r - 1,by simp [Tr.depth]at hr;omega⟩
  rw[zaR];¶;ŝ[zai ha,true_and];simp [Tr.weight]at hx;¤⟨zbC ¥,?_⟩;¤zfL ?_;ŝ[Tr.kids,encs,ziQ,forL];simp only[Tr.pl,List.map_cons,List.map_nil]at h;§⟨_, .refl,h⟩
 | .nd s ts,r,p,a,xs,S,Q,E,hr,ha,hx,hp,h=>by
  simp only[Tr.depth]at hr hp;simp only[Tr.weight]at hx;obtain⟨r,rfl⟩:∃r',r=r'+1:=⟨r - 1,¥⟩
  rw[zaR];¶;ŝ[zai ha,true_and];¤⟨zbC ¥,?_⟩;¤zfL ?_;dsimp only[Tr.kids];¤zja ts (xs:=xs++[zcc p]) ¥ zag (by simp;omega) ¥ λx y=>?_;rw[zaX];¤⟨_, .refl,?_⟩;simpa [Tr.pl,List.append_assoc]using h
þ zja:∀(ts:List Tr) {r:Nat}{p:List Int}{i:Nat}{a:Addr}{xs:List W}{S:Sto}{E:WX}{D:WEnds}{t0 x y:Option W},dts ts≤r→S a=some (.lst xs)→xs.length+wts ts≤1000000→p.length+1+dts ts≤1000000→
  (∀x y,D.nx [t0,some (zcc p),some (.ref a),x,y] (put S a (.lst (xs++(pls p i ts).map zcc))))→
  forL (wGT (zaE (wGN 3) (zaE (wGN 4) zdY))) (zcV (r+1) (zaR (r+1))) E D (λ_=>True) (ziQ i (encs ts)) [t0,some (zcc p),some (.ref a),x,y] S
 | [],r,p,i,a,xs,S,E,D,t0,x,y,hr,ha,hx,hp,h=>by
  ŝ[encs,ziQ,forL];have:=h x y;simp only[pls,List.map_nil,List.append_nil,zeX ha]at this;§this
 |t::ts,r,p,i,a,xs,S,E,D,t0,x,y,hr,ha,hx,hp,h=>by
  simp only[dts]at hr hp;simp only[wts]at hx;ŝ[encs,ziQ,forL,zcV];¶;rw[zok];¤⟨zak ¥,zak ¥,zkx t (p:=p++[(i:Int)]) ¥ ha ¥ (by simp;omega) ?_⟩;¤⟨_, .refl,zja ts ¥ zag (by simp [zuK];omega) ¥ λx y=>?_⟩;rw[zaX];simpa [pls,List.append_assoc]using h x y
end
þ zpQ{t:Tr}{r:Nat}{S:Sto}{Q:WK}{E:Str→Sto→Prop}(hr:t.depth+1≤r) (hw:t.weight≤100000) (hd:t.depth≤100000) (h:∀a,S a=none→Q (.ref a) (put S a (.lst ((t.pl []).map zcc)))):zga (r+1) [enc t] S Q E:=by
 obtain⟨r,rfl⟩:∃r',r=r'+1:=⟨r - 1,¥⟩
 rw[zga];¶;¤⟨Nat.zero_le _,λa ha=>⟨Nat.zero_le _,zkx t (p:=[]) (xs:=[]) ¥ zag (by simp;omega) (by simp;omega) ?_⟩⟩;rw[zaX,List.nil_append];§⟨_, .refl,h a ha⟩
ñ def Tr.at:Tr→List Int→Option Tr
 |t,[]=>some t
 | .bl _,_::_=>none
 | .nd _ ts,i::p=>if i<0 then none else match ts[i.toNat]? with
  |some u=>u.at p
  |none=>none
þ zmB{t u:Tr}{i:Int}{r:Nat}{S:Sto}{Q:WK}{E:Str→Sto→Prop}(hi:0≤i) (hu:t.kids[i.toNat]? =some u) (h:Q (enc u) S):zbM (r+2) [enc t, .int i] S Q E:=by
 rw[zbM];¶;¤zfL ?_;have hl:i.toNat<t.kids.length:=(List.getElem?_eq_some_iff.mp hu).1;¶;rw[zaS];rw[if_neg ¥,if_neg ¥];have e:atI (encs t.kids) i=some (enc u):=by
  have q:=zcz (xs:=encs t.kids) (n:=i.toNat);rw[Int.toNat_of_nonneg hi]at q;rw[q,zaB,List.getElem?_map,hu];rfl
 rw[e];§⟨S, .refl,h⟩
þ zmt{p:List Int}:∀{t u:Tr}{r:Nat}{S:Sto}{E:WX}{D:WEnds}{x y z:Option W},t.at p=some u→(∀z,D.nx [x,y,some (enc u),z] S)→
  forL (wGN 3) (zjj (r+2) zaJ) E D (λ_=>True) (p.map W.int) [x,y,some (enc t),z] S:=by
 induction p with
 |nil=>
  intro t u r S E D x y z e h;unfold Tr.at at e;cases e;§h z
 |cons i p ih=>
  intro t u r S E D x y z e h;cases t with
  |bl n=>cases e
  |nd s ts=>
   unfold Tr.at at e;split at e
   ·cases e
   ·rename_i hi;split at e
    ·rename_i v ev;ŝ[List.map_cons,forL,zjj];¶;¤zmB (t:= .nd s ts) (u:=v) ¥ ev ⟨S, .refl,?_⟩;§ih e h
    ·cases e
þ zvC{t u:Tr}{p:List Int}{r:Nat}{S:Sto}{Q:WK}{E:Str→Sto→Prop}(e:t.at p=some u) (h:Q (enc u) S):zkE (r+3) [enc t,zcc p] S Q E:=by
 rw[zkE];¶;unfold zcc;dsimp only;§zmt e λz=>⟨S, .refl,h⟩
ñ def Low (c:Nat):Prop:=97≤c∧c≤122
ñ def zcw (x:Str):Prop:=1≤x.cps.toList.length∧x.cps.toList.length≤8∧ ∀c∈x.cps.toList,Low c
ñ def zdl (x:Str):Prop:=∃c r,x.cps.toList=c::r∧65≤c∧c≤90∧r.length≤7∧ ∀d∈r,Low d
þ zwc:(Str.ofString "abcdefghijklmnopqrstuvwxyz").cps.toList=List.range' 97 26:=by decide +kernel
þ zzF:(Str.ofString "abcdefghijklmnopqrstuvwxyz").length=26:=by decide +kernel
þ zkF:∀cs:List Nat,(Str.join (Str.ofString "") (cs.map λc=>(⟨#[c]⟩:Str))).cps.toList=cs
 | []=>rfl
 | [c]=>rfl
 |c::d::r=>by
  have ih:=zkF (d::r);show((⟨#[c]⟩:Str)++Str.ofString "" ++Str.join (Str.ofString "") ((d::r).map λc=>(⟨#[c]⟩:Str))).cps.toList=_;show(#[c]++(Str.ofString "").cps++(Str.join (Str.ofString "") ((d::r).map λc=>(⟨#[c]⟩:Str))).cps).toList=_;rw[Array.toList_append,Array.toList_append,ih];rfl
þ zty (cs:List Nat):((cs.map λc=>(⟨#[c]⟩:Str)).map (·.length)).sum=cs.length:=by
 induction cs with
 |nil=>rfl
 |cons c r ih=>
  rw[List.map_cons,List.map_cons,List.sum_cons,ih,List.length_cons];show 1+r.length=r.length+1;omega
þ zhJ:∀cs:List Nat,zgS (cs.map λc=>W.str ⟨#[c]⟩)=some (cs.map λc=>(⟨#[c]⟩:Str))
 | []=>rfl
 |c::cs=>by rw[List.map_cons,zgS,zhJ cs];rfl
þ zqT (cs:List Nat) (h:cs.length≤1000):(List.map (λx=>x.length) (cs.map λc=>(⟨#[c]⟩:Str))).sum+(cs.map λc=>(⟨#[c]⟩:Str)).length*(Str.ofString "").length≤16777216:=by
 have e:=zty cs;have z:(Str.ofString "").length=0:=by decide +kernel
 rw[e,z];omega
þ znm{lo:Int}{n:Nat}:(zpm lo n).length=n:=by simp [zpm]
þ zpX{α:Type}{xs:List α}(n:Int) (h:xs≠ []):∃(i:Nat) (x:α),xs[i]? =some x∧atI xs (n % (xs.length:Int))=some x:=by
 have hp:0<xs.length:=List.length_pos_iff.mpr h;have h0:0≤n % (xs.length:Int):=Int.emod_nonneg _ ¥;have h1:n % (xs.length:Int)<(xs.length:Int):=Int.emod_lt_of_pos _ ¥;have hlt:(n % (xs.length:Int)).toNat<xs.length:=by omega
 ¤⟨(n % (xs.length:Int)).toNat,xs[(n % (xs.length:Int)).toNat],List.getElem?_eq_getElem hlt,?_⟩;have e:=zvR (xs:=xs) (j:=(n % (xs.length:Int)).toNat) (v:=xs[(n % (xs.length:Int)).toNat]) (List.getElem?_eq_getElem hlt);rw[Int.toNat_of_nonneg h0]at e;§e
þ zev (ts us:List Tr):encs (ts++us)=encs ts++encs us:=by rw[zaB,zaB,zaB,List.map_append]
mutual
ñ def Tr.plt (p:List Int):Tr→List (List Int×Tr)
 | .bl n=>[(p, .bl n)]
 | .nd s ts=>(p, .nd s ts)::zgX p 0 ts
ñ def zgX (p:List Int) (i:Nat):List Tr→List (List Int×Tr)
 | []=>[]
 |t::ts=>t.plt (p++[(i:Int)])++zgX p (i+1) ts
end
mutual
þ zrn:∀(t:Tr) (p:List Int),(t.plt p).map (·.1)=t.pl p
 | .bl _,p=>by simp [Tr.plt,Tr.pl]
 | .nd _ ts,p=>by simp [Tr.plt,Tr.pl,zoh ts p 0]
þ zoh:∀(ts:List Tr) (p:List Int) (i:Nat),(zgX p i ts).map (·.1)=pls p i ts
 | [],p,i=>by simp [zgX,pls]
 |t::ts,p,i=>by simp [zgX,pls,zrn t,zoh ts p (i+1)]
end
mutual
þ zmC:∀(t:Tr) (p:List Int),(t.plt p).length=t.weight
 | .bl _,p=>by simp [Tr.plt,Tr.weight]
 | .nd _ ts,p=>by simp [Tr.plt,Tr.weight,zou ts p 0];omega
þ zou:∀(ts:List Tr) (p:List Int) (i:Nat),(zgX p i ts).length=wts ts
 | [],p,i=>by simp [zgX,wts]
 |t::ts,p,i=>by simp [zgX,wts,zmC t,zou ts p (i+1)]
end
þ zsb{s:Str}{ts:List Tr}{i:Nat}{q:List Int}{u:Tr}(h:ts[i]? =some u):(Tr.nd s ts).at ((i:Int)::q)=u.at q:=by
 rw[Tr.at,if_neg ¥];simp [h]
mutual
þ zoz:∀(t:Tr) (p q:List Int) (u:Tr),(q,u)∈t.plt p→ ∃r,q=p++r∧t.at r=some u∧r.length<t.depth
 | .bl n,p,q,u,h=>by
  simp only[Tr.plt,List.mem_singleton,Prod.mk.injEq]at h;ø⟨rfl,rfl⟩:=h;§⟨[],¢,by simp [Tr.at],by simp [Tr.depth]⟩
 | .nd s ts,p,q,u,h=>by
  simp only[Tr.plt,List.mem_cons,Prod.mk.injEq]at h;rcases h with⟨rfl,rfl⟩ |h
  ·§⟨[],¢,by simp [Tr.at],by simp [Tr.depth];omega⟩
  ·ø⟨j,v,r,h1,h2,h3,h4⟩:=zqx ts p 0 q u h;¤⟨(j:Int)::r,by rw[h2];simp,by rw[zsb h1];§h3,by simp [Tr.depth];omega⟩
þ zqx:∀(ts:List Tr) (p:List Int) (i:Nat) (q:List Int) (u:Tr),(q,u)∈zgX p i ts→ ∃(j:Nat) (v:Tr) (r:List Int),ts[j]? =some v∧q=p++[((i+j:Nat):Int)]++r∧v.at r=some u∧r.length<dts ts
 | [],p,i,q,u,h=>by simp [zgX]at h
 |t::ts,p,i,q,u,h=>by
  simp only[zgX,List.mem_append]at h;rcases h with h |h
  ·ø⟨r,h1,h2,h3⟩:=zoz t _ q u h;§⟨0,t,r,rfl,by simpa using h1,h2,by simp [dts];omega⟩
  ·ø⟨j,v,r,h1,h2,h3,h4⟩:=zqx ts p (i+1) q u h;¤⟨j+1,v,r,by simpa using h1,?_,h3,by simp [dts];omega⟩
   rw[h2,show i+1+j=i+(j+1) by omega]
end
þ keep{S:Sto}{a p:Addr}{o x:Ob}(f:S a=some o) (h:S p=none):put S p x a=some o:=by rw[zaF (zpJ f h)];§f
þ zcX{u:Tr}:∀{ts:List Tr},u∈ts→u.depth≤dts ts
 |t::ts,h=>by
  rcases List.mem_cons.mp h with rfl |h
  ·simp [dts];omega
  ·have:=zcX h;simp [dts];omega
þ zax{α:Type}{g:WG}{e:WE}{E:WX}{G:Sto→Prop}{Q:List W→Sto→Prop}{S:Sto}(I:WSt→Prop) (k f:α→W) (hG:G S):∀(xs:List α) (acc:List W) (σ:WSt),I σ→acc.length+xs.length≤1000000→
  (∀x∈xs,∀σ (R:WSt→W→Sto→Prop),I σ→(∀σ1 S3,I σ1→Sub S S3→R σ1 (f x) S3)→g (k x) σ S λσ1 S1=>e E σ1 S1 λy S3=>R σ1 y S3)→
  Q (acc++xs.map f) S→zfp g zfw e E G Q (xs.map k) acc σ S
 | [],acc,σ,hI,hl,step,hQ=>by simpa [zfp]using hQ
 |x::xs,acc,σ,hI,hl,step,hQ=>by
  ŝ[List.map_cons,zfp,zfw,if_true];simp only[List.length_cons]at hl;¤step x List.mem_cons_self σ _ hI λσ1 S3 hI1 sb=>⟨zbC ¥,S,sb,hG,zax I k f hG xs (acc++[f x]) σ1 hI1 (by simp;omega) (λy hy=>step y (List.mem_cons_of_mem _ hy)) ?_⟩;simpa using hQ
þ zhz{α:Type}{g:WG}{c:WT}{e:WE}{E:WX}{G:Sto→Prop}{Q:List W→Sto→Prop}{S:Sto}(I:WSt→Prop) (k f:α→W) (P:α→Bool) (hG:G S):∀(xs:List α) (acc:List W) (σ:WSt),I σ→acc.length+xs.length≤1000000→
  (∀x∈xs,∀σ (R1:WSt→W→Sto→Prop) (R0:WSt→Sto→Prop),I σ→(P x=true→ ∀σ1 S3,I σ1→Sub S S3→R1 σ1 (f x) S3)→(P x=false→ ∀σ1 S3,I σ1→Sub S S3→R0 σ1 S3)→
   g (k x) σ S λσ1 S1=>c E σ1 S1 λb S2=>if b=true then e E σ1 S2 λy S3=>R1 σ1 y S3 else R0 σ1 S2)→
  Q (acc++(xs.filter P).map f) S→zfp g c e E G Q (xs.map k) acc σ S
 | [],acc,σ,hI,hl,step,hQ=>by simpa [zfp]using hQ
 |x::xs,acc,σ,hI,hl,step,hQ=>by
  ŝ[List.map_cons,zfp];simp only[List.length_cons]at hl;¤step x List.mem_cons_self σ _ _ hI (λhp σ1 S3 hI1 sb=>⟨zbC ¥,S,sb,hG,zhz I k f P hG xs (acc++[f x]) σ1 hI1 (by simp;omega) (λy hy=>step y (List.mem_cons_of_mem _ hy)) ?_⟩)
   λhp σ1 S3 hI1 sb=>⟨S,sb,hG,zhz I k f P hG xs acc σ1 hI1 ¥ (λy hy=>step y (List.mem_cons_of_mem _ hy)) ?_⟩
  ·rw[List.filter_cons_of_pos hp]at hQ;simpa using hQ
  ·rw[List.filter_cons_of_neg (by rw[hp];simp)]at hQ;§hQ
ñ def Tr.isBl:Tr→Bool
 | .bl _=>true
 | .nd _ _=>false
ñ def Tr.num:Tr→Int
 | .bl n=>n
 | .nd _ _=>0
ñ def Tr.bls (t:Tr):List (List Int×Tr):=(t.plt []).filter λx=>x.2.isBl
þ zqp{t:Tr}{x:List Int×Tr}(h:x∈t.bls):t.at x.1=some x.2∧x.2= .bl x.2.num∧x.1.length<t.depth:=by
 ø⟨h1,h2⟩:=List.mem_filter.mp h;ø⟨r,h3,h4,h5⟩:=zoz t [] x.1 x.2 h1;simp at h3;subst h3;¤⟨h4,?_,h5⟩;ø⟨p,u⟩:=x;cases u with
 |bl n=>rfl
 |nd s ts=>simp [Tr.isBl]at h2
þ zvN (t:Tr):t.bls.length≤t.weight:=by
 unfold Tr.bls;§Nat.le_trans (List.length_filter_le ..) (by rw[zmC];§Nat.le_refl _)
þ zpE{t:Tr}{r:Nat}{S:Sto}{Q:WK}{E:Str→Sto→Prop}(hr:t.depth+4≤r) (hw:t.weight≤90000) (h:∀a,S a=none→Q (.ref a) (put S a (.lst (t.bls.map λx=>zcc x.1)))):zcf (r+1) [enc t] S Q E:=by
 have hd:=zeP t;obtain⟨r,rfl⟩:∃r',r=r'+3:=⟨r - 3,¥⟩
 rw[zcf];¶;¤zpQ ¥ ¥ ¥ λa ha=>?_;¶;rw[←zrn,List.map_map];¤zhz (λσ=>∃x,σ=[x,some (enc t)]) (λx=>zcc x.1) (λx=>zcc x.1) (λx=>x.2.isBl) ?_ (t.plt []) [] _ ⟨none,rfl⟩ (by simp [zmC];omega) (λx hx σ R1 R0 hI h1 h0=>?_) ?_
 ·§zag
 ·ø⟨y,rfl⟩:=hI;ø⟨q,h3,h4,h5⟩:=zoz t [] x.1 x.2 hx;simp at h3;subst h3;¶;¤zvC h4 ?_;ø⟨p,u⟩:=x;cases u with
  |bl n=>
   ŝ[enc];¶;§h1 rfl _ _ ⟨_,rfl⟩ .refl
  |nd s ts=>
   ŝ[enc];¶;§h0 rfl _ _ ⟨_,rfl⟩ .refl
 ·rw[List.nil_append];intro b hb;ø⟨hb1,hb2⟩:=zdT hb;§⟨_, .put2 (.put .refl ha),h b hb1⟩
mutual
ñ def Tr.fill (us:List Tr):Tr→Tr
 | .bl n=>us.getD n.toNat (.bl n)
 | .nd s ts=> .nd s (fills us ts)
ñ def fills (us:List Tr):List Tr→List Tr
 | []=>[]
 |t::ts=>t.fill us::fills us ts
end
mutual
ñ def Tr.fits (m:Nat):Tr→Prop
 | .bl n=>0≤n∧n<m
 | .nd _ ts=>fitss m ts
ñ def fitss (m:Nat):List Tr→Prop
 | []=>True
 |t::ts=>t.fits m∧fitss m ts
end
þ zig (us:List Tr):∀ts:List Tr,fills us ts=ts.map (Tr.fill us)
 | []=>by simp [fills]
 |t::ts=>by simp [fills,zig us ts]
þ zgq{m:Nat}{t:Tr}:∀{ts:List Tr},fitss m ts→t∈ts→t.fits m
 |u::ts,h,hm=>by
  simp only[fitss]at h;rcases List.mem_cons.mp hm with rfl |hm
  ·§h.1
  ·§zgq h.2 hm
þ zii{us:List Tr}{a:Addr}:∀(d:Nat) {t:Tr}{r:Nat}{S:Sto}{Q:WK}{E:Str→Sto→Prop},t.depth≤d→d≤r+1→S a=some (.lst (encs us))→t.fits us.length→t.weight≤90000→Q (enc (t.fill us)) S→zdp (r+1) [enc t, .ref a] S Q E
 |0,t,r,S,Q,E,hd,hr,ha,hf,hw,h=>by have:=zbi t;omega
 |d+1, .bl n,r,S,Q,E,hd,hr,ha,hf,hw,h=>by
  simp only[Tr.fits]at hf;simp only[Tr.fill]at h;rw[zdp];ŝ[enc];¶;have e:atI (encs us) n=some (enc (us.getD n.toNat (.bl n))):=by
   have q:=zcz (xs:=encs us) (n:=n.toNat);rw[Int.toNat_of_nonneg hf.1]at q;rw[q,zaB,List.getElem?_map,List.getD_eq_getElem?_getD,List.getElem?_eq_getElem ¥];rfl
  rw[zai ha,e];§⟨S, .refl,h⟩
 |d+1, .nd s ts,r,S,Q,E,hd,hr,ha,hf,hw,h=>by
  simp only[Tr.fits]at hf;simp only[Tr.fill]at h;simp only[Tr.depth]at hd;simp only[Tr.weight]at hw;have hk:=zbu ts;rw[zdp];simp only[enc]at h⊢;¶;¤⟨zak £,?_⟩;rw[zaB];¤zax (λσ=>∃x,σ=[x,some (.ref a)]) enc (λt=>enc (t.fill us)) trivial ts [] _ ⟨none,rfl⟩ (by simp;omega) (λx hx σ R hI hR=>?_) ?_
  ·ø⟨y,rfl⟩:=hI;have hdx:=zcX hx;have hwx:=zcp hx;have:=zbi x;obtain⟨r,rfl⟩:∃r',r=r'+1:=⟨r - 1,¥⟩
   ŝ[ziS];¶;§zii d (t:=x) (r:=r) ¥ ¥ ha (zgq hf hx) ¥ (hR _ _ ⟨_,rfl⟩ .refl)
  ·rw[List.nil_append];¤⟨zak (by simp;omega),S, .refl,?_⟩;have e:encs (fills us ts)=ts.map λt=>enc (t.fill us):=by rw[zaB,zig,List.map_map];rfl
   rw[e]at h;§h
þ zrt (t:Tr):t.at []=some t:=by cases t<;>rfl
þ zxP{s:Str}{ts:List Tr}{i:Int}{p:List Int}{u:Tr}(h:(Tr.nd s ts).at (i::p)=some u):∃v,0≤i∧ts[i.toNat]? =some v∧v.at p=some u:=by
 unfold Tr.at at h;split at h
 ·cases h
 ·split at h
  ·§⟨_,¥, ‹_›,h⟩
  ·cases h
þ znf:∀(q:List Int) {D t:Tr}(r:List Int),D.at q=some t→D.at (q++r)=t.at r
 | [],D,t,r,h=>by rw[zrt]at h;cases h;rfl
 |i::q, .bl n,t,r,h=>by cases h
 |i::q, .nd s ts,t,r,h=>by
  ø⟨v,h0,h1,h2⟩:=zxP h;rw[List.cons_append];have e:(i:Int)=((i.toNat:Nat):Int):=(Int.toNat_of_nonneg h0).symm;rw[e,zsb h1];§znf q r h2
mutual
ñ def Tr.same:Tr→Tr→Bool
 | .bl n, .bl m=>n == m
 | .nd s ts, .nd z us=>s == z&&zgY ts us
 |_,_=>false
ñ def zgY:List Tr→List Tr→Bool
 | [],[]=>true
 |t::ts,u::us=>t.same u&&zgY ts us
 |_,_=>false
end
mutual
þ zhl:∀(t u:Tr),t.same u=true↔t=u
 | .bl n, .bl m=>by simp [Tr.same]
 | .nd s ts, .nd z us=>by simp [Tr.same,zkt ts us]
 | .bl n, .nd z us=>by simp [Tr.same]
 | .nd s ts, .bl m=>by simp [Tr.same]
þ zkt:∀(ts us:List Tr),zgY ts us=true↔ts=us
 | [],[]=>by simp [zgY]
 |t::ts,u::us=>by simp [zgY,zhl t u,zkt ts us]
 | [],u::us=>by simp [zgY]
 |t::ts,[]=>by simp [zgY]
end
þ zhT (t:Tr):t.same t=true:=(zhl t t).mpr rfl
þ zuu{S:Sto}{n:Nat}{xs ys:List W}:eqF S (n+1) (.tup xs) (.tup ys)=zgv (eqF S n) xs ys:=Eq.trans (b:=zgv (eqF S n) xs ys) rfl rfl
þ zxI{S:Sto}{n:Nat}{x y:Str}:eqF S (n+1) (.str x) (.str y)=some (x == y):=Eq.trans (b:=some (x == y)) rfl rfl
þ zqi{S:Sto}{n:Nat}{x y:Int}:eqF S (n+1) (.int x) (.int y)=some (x == y):=Eq.trans (b:=some (x == y)) rfl rfl
þ zxY{S:Sto}{n:Nat}{x:Int}{ys:List W}:eqF S (n+1) (.int x) (.tup ys)=some false:=Eq.trans (b:=some false) rfl rfl
þ zzC{S:Sto}{n:Nat}{x:Int}{ys:List W}:eqF S (n+1) (.tup ys) (.int x)=some false:=Eq.trans (b:=some false) rfl rfl
mutual
þ zui{S:Sto}:∀(n:Nat) (t u:Tr),t.depth<n→eqF S n (enc t) (enc u)=some (t.same u)
 |0,t,u,h=>by omega
 |n+1, .bl k, .bl m,h=>by ŝ[enc,zqi,Tr.same]
 |n+1, .nd s ts, .nd z us,h=>by
  simp only[Tr.depth]at h;obtain⟨n,rfl⟩:∃m,n=m+1:=⟨n - 1,¥⟩
  ŝ[enc,zuu,zgv,zxI,Tr.same];rw[zvi (n+1) ts us ¥]
 |n+1, .bl k, .nd z us,h=>by ŝ[enc,zxY,Tr.same]
 |n+1, .nd s ts, .bl m,h=>by ŝ[enc,zzC,Tr.same]
þ zvi{S:Sto}:∀(n:Nat) (ts us:List Tr),dts ts<n→zgv (eqF S n) (encs ts) (encs us)=some (zgY ts us)
 |n,[],[],h=>by ŝ[encs,zgv,zgY]
 |n,[],u::us,h=>by ŝ[encs,zgv,zgY]
 |n,t::ts,[],h=>by ŝ[encs,zgv,zgY]
 |n,t::ts,u::us,h=>by
  simp only[dts]at h;ŝ[encs,zgv,zgY,zui n t u ¥,zvi n ts us ¥]
end
þ zoS (n:Int):n % 2=0∨n % 2=1:=by omega
þ zlG (j:Int) (m:Nat):zpm j (m+1)= .int j::zpm (j+1) m:=by
 unfold zpm;rw[List.range_succ_eq_map,List.map_cons,List.map_map];congr 1
 ·simp
 ·apply List.map_congr_left;intro i _;ŝ[Function.comp,W.int.injEq];omega
þ zlL{α:Type}{xs:List α}{i:Int}(h0:0≤i) (h1:i<xs.length):∃x,atI xs i=some x∧x∈xs:=by
 have q:=zcz (xs:=xs) (n:=i.toNat);rw[Int.toNat_of_nonneg h0,List.getElem?_eq_getElem ¥]at q;§⟨_,q,List.getElem_mem ..⟩
þ zwI{ss:List Str}{i:Int}(h0:0≤i) (h1:i<ss.length):∃x,atI (ss.map W.str) i=some (.str x)∧x∈ss:=by
 ø⟨w,h,m⟩:=zlL (xs:=ss.map W.str) h0 (by simpa using h1);ø⟨x,hx,rfl⟩:=List.mem_map.mp m;§⟨x,h,hx⟩
þ zrg{g:WG}{b:WS}{E:WX}{D:WEnds}(I:Nat→WSt→Sto→Prop) (n:Nat)
  (step:∀i,i<n→ ∀σ S (N:WSt→Sto→Prop),I i σ S→(∀σ' S' S'',Sub S'' S'→I (i+1) σ' S''→N σ' S')→g (.int i) σ S λσ1 S1=>b E { D with nx:=N,ct:=N,bk:=D.nx } σ1 S1)
  (done:∀σ S,I n σ S→D.nx σ S) {σ:WSt}{S:Sto}(h:I 0 σ S):forL g b E D (λ_=>True) (zpm 0 n) σ S:=by
 ¤zmr (λws σ S=>∃i,i≤n∧ws=zpm (i:Int) (n - i)∧I i σ S) ?_ ?_ _ _ _ ⟨0,Nat.zero_le _,rfl,h⟩
 ·rintro w ws σ S N ⟨i,hi,e,hI⟩ hN;obtain⟨m,hm⟩:∃m,n - i=m+1:=by
   rcases Nat.eq_zero_or_pos (n - i) with z |z
   ·rw[z]at e;cases e
   ·§⟨n - i - 1,¥⟩
  rw[hm,zlG]at e;cases e;§step i ¥ σ S N hI λσ' S' S'' sb h'=>hN σ' S' S'' sb trivial ⟨i+1,¥,by rw[show n - (i+1)=m by omega];push_cast;rfl,h'⟩
 ·rintro σ S ⟨i,hi,e,hI⟩;have:n - i=0:=by
   rcases Nat.eq_zero_or_pos (n - i) with z |z
   ·§z
   ·obtain⟨m,hm⟩:∃m,n - i=m+1:=⟨n - i - 1,¥⟩
    rw[hm,zlG]at e;cases e
  rw[show i=n by omega]at hI
  §done σ S hI
þ zuR{k:Nat}:∀{ts:List Tr},(∀t∈ts,t.depth≤k)→dts ts≤k
 | [],_=>by simp [dts]
 |t::ts,h=>by
  have:=h t List.mem_cons_self;have:=zuR (ts:=ts) λu hu=>h u (List.mem_cons_of_mem _ hu);ŝ[dts];omega
þ zbt{g:WG}{b:WS}{E:WX}{D:WEnds}{G:Sto→Prop}{w:W}{ws:List W}{σ:WSt}{S:Sto}(h:∀N:WSt→Sto→Prop,(∀σ S S',Sub S' S→G S'→forL g b E D G ws σ S'→N σ S)→g w σ S λσ1 S1=>b E { D with nx:=N,ct:=N,bk:=D.nx } σ1 S1):forL g b E D G (w::ws) σ S:=h _ λσ S S' a c d=>⟨S',a,c,d⟩
mutual
ñ def Tr.mt:Tr→Tr→Option (List Tr)
 | .bl _,t=>some [t]
 | .nd s ls, .nd z us=>if s == z&&ls.length == us.length then mts ls us else none
 | .nd _ _, .bl _=>none
ñ def mts:List Tr→List Tr→Option (List Tr)
 | [],_=>some []
 |_::_,[]=>some []
 |l::ls,u::us=>match l.mt u with
  |none=>none
  |some xs=>match mts ls us with
   |none=>none
   |some ys=>some (xs++ys)
end
þ zzU{s z:Str}{ls us:List Tr}{r:Nat}{S:Sto}{Q:WK}{E:Str→Sto→Prop}(h:Q (.bl (s == z&&ls.length == us.length)) S):zch (r+1) [enc (.nd s ls),enc (.nd z us)] S Q E:=by
 rw[zch];ŝ[enc];¶;cases e:s == z with
 |false=>
  rw[e]at h;§⟨_, .refl,h⟩
 |true=>
  rw[e]at h;¶;¤⟨_, .refl,?_⟩;have:(((encs ls).length+1:Nat):Int)=((encs us).length+1:Nat)↔ls.length=us.length:=by rw[zaS,zaS];omega
  have e2:((((encs ls).length+1:Nat):Int) == ((encs us).length+1:Nat))=(ls.length == us.length):=by
   rw[Bool.eq_iff_iff,beq_iff_eq,beq_iff_eq];§this
  rw[e2];simpa using h
mutual
þ zuG:∀(l t:Tr) (ys:List Tr),l.mt t=some ys→ys.length≤l.weight
 | .bl _,t,ys,h=>by simp only[Tr.mt,Option.some.injEq]at h;subst h;simp [Tr.weight]
 | .nd s ls, .nd z us,ys,h=>by
  simp only[Tr.mt]at h;split at h
  ·have:=zrK ls us ys h;ŝ[Tr.weight];omega
  ·cases h
 | .nd _ _, .bl _,ys,h=>by simp [Tr.mt]at h
þ zrK:∀(ls us ys:List Tr),mts ls us=some ys→ys.length≤wts ls
 | [],us,ys,h=>by simp only[mts,Option.some.injEq]at h;subst h;simp
 |l::ls,[],ys,h=>by simp only[mts,Option.some.injEq]at h;subst h;simp
 |l::ls,u::us,ys,h=>by
  simp only[mts]at h;split at h
  ·cases h
  ·rename_i xs e1;split at h
   ·cases h
   ·rename_i zs e2;cases h;have:=zuG l u xs e1;have:=zrK ls us zs e2;ŝ[List.length_append,wts];omega
end
þ zhE{r:Nat}{a:Addr}{E:WX}{D:WEnds}{x0 x1:Option W}:∀(ls us:List Tr)
  (one:∀l∈ls,∀{t:Tr}{S:Sto}{xs:List W}{Q:WK}{E:Str→Sto→Prop},t.fits 0→S a=some (.lst xs)→xs.length+l.weight≤100000→(∀ys,l.mt t=some ys→Q (.bl true) (put S a (.lst (xs++encs ys))))→(l.mt t=none→ ∀ys,Q (.bl false) (put S a (.lst (xs++ys))))→zaC r [enc l,enc t, .ref a] S Q E)
  {S:Sto}{xs:List W}{x3 x4:Option W},fitss 0 us→S a=some (.lst xs)→xs.length+wts ls≤100000→
  (∀ys x3 x4,mts ls us=some ys→D.nx [x0,x1,some (.ref a),x3,x4] (put S a (.lst (xs++encs ys))))→(mts ls us=none→ ∀ys,D.rt (.bl false) (put S a (.lst (xs++ys))))→
  forL (wGT (zaE (wGN 3) (zaE (wGN 4) zdY))) (zcB r (zaC r)) E D (λ_=>True) (pairs (encs ls) (encs us)) [x0,x1,some (.ref a),x3,x4] S
 | [],us,one,S,xs,x3,x4,hf,ha,hl,h1,h0=>by
  have q:=h1 [] x3 x4 (by simp [mts]);simp only[encs,List.append_nil,zeX ha]at q;simpa [encs,pairs,forL]using q
 |l::ls,[],one,S,xs,x3,x4,hf,ha,hl,h1,h0=>by
  have q:=h1 [] x3 x4 (by simp [mts]);simp only[encs,List.append_nil,zeX ha]at q;simpa [encs,pairs,forL]using q
 |l::ls,u::us,one,S,xs,x3,x4,hf,ha,hl,h1,h0=>by
  simp only[fitss]at hf;simp only[wts]at hl;ŝ[encs,pairs];¤zbt λN hN=>?_;ŝ[zcB];¶;¤one l List.mem_cons_self hf.1 ha ¥ (λys e=>?_) λe ys=>?_
  ·¶;have hyl:=zuG l u ys e;¤hN _ _ _ .refl trivial (zhE ls us (λl' hl'=>one l' (List.mem_cons_of_mem _ hl')) hf.2 zag (by rw[List.length_append,zaS];omega) (λzs x3 x4 e2=>?_) λe2 zs=>?_)
   ·rw[zaX,List.append_assoc,←zev];§h1 _ _ _ (by ŝ[mts,e,e2])
   ·rw[zaX,List.append_assoc];§h0 (by ŝ[mts,e,e2]) _
  ·¶;§h0 (by ŝ[mts,e]) ys
þ znX{a:Addr}:∀(d:Nat) {l t:Tr}{r:Nat}{S:Sto}{xs:List W}{Q:WK}{E:Str→Sto→Prop},l.depth≤d→d≤r→t.fits 0→S a=some (.lst xs)→xs.length+l.weight≤100000→
  (∀ys,l.mt t=some ys→Q (.bl true) (put S a (.lst (xs++encs ys))))→(l.mt t=none→ ∀ys,Q (.bl false) (put S a (.lst (xs++ys))))→zaC (r+1) [enc l,enc t, .ref a] S Q E
 |0,l,t,r,S,xs,Q,E,hd,hr,hf,ha,hl,h1,h0=>by have:=zbi l;omega
 |d+1, .bl n,t,r,S,xs,Q,E,hd,hr,hf,ha,hl,h1,h0=>by
  have hw:=zed (.bl n);rw[zaC];ŝ[enc];¶;ŝ[zai ha,true_and];¤⟨zbC ¥,_, .refl,?_⟩;have:=h1 [t] (by simp [Tr.mt]);simpa only[encs]using this
 |d+1, .nd s ls, .bl n,r,S,xs,Q,E,hd,hr,hf,ha,hl,h1,h0=>by
  simp only[Tr.fits]at hf;omega
 |d+1, .nd s ls, .nd z us,r,S,xs,Q,E,hd,hr,hf,ha,hl,h1,h0=>by
  simp only[Tr.fits]at hf;simp only[Tr.depth]at hd;simp only[Tr.weight]at hl;obtain⟨r,rfl⟩:∃r',r=r'+1:=⟨r - 1,¥⟩
  have en:∀s ts,enc (.nd s ts)= .tup (.str s::encs ts):=λs ts=>by simp [enc]
  rw[zaC];¶;rw[en,en];¶;rw[←en,←en];¤zzU ?_;rw[en,en];¶;simp only[Tr.mt]at h1 h0;cases e:(s == z&&ls.length == us.length) with
  |false=>
   rw[e]at h0;have:=h0 ¢ [];rw[List.append_nil,zeX ha]at this;§⟨_, .refl,this⟩
  |true=>
   rw[e]at h0 h1;simp only[if_true]at h0 h1;¶;¤zhE ls us (λl hl' {t S xs Q E} f1 f2 f3 f4 f5=>znX d (by have:=zcX hl';omega) ¥ f1 f2 f3 f4 f5) hf ha ¥ (λys x3 x4 e=>?_) λe ys=>?_
   ·¶;§⟨_, .refl,h1 ys e⟩
   ·§⟨_, .refl,h0 e ys⟩
þ zfm{l t:Tr}{r:Nat}{S:Sto}{Q:WK}{E:Str→Sto→Prop}(hr:l.depth<r) (hf:t.fits 0) (hw:l.weight≤90000) (h1:∀ys,l.mt t=some ys→ ∀a,S a=none→Q (.ref a) (put S a (.lst (encs ys)))) (h0:l.mt t=none→Q .non S):zci (r+1) [enc l,enc t] S Q E:=by
 obtain⟨r,rfl⟩:∃r',r=r'+1:=⟨r - 1,¥⟩
 rw[zci];¶;¤⟨Nat.zero_le _,λa ha=>znX l.depth (Nat.le_refl _) ¥ hf zag (by simpa using(by omega:l.weight≤100000)) (λys e=>?_) λe ys=>?_⟩
 ·¶;§⟨_, .refl,h1 ys e a ha⟩
 ·¶;§⟨_, .put .refl ha,h0 e⟩
mutual
þ zks:∀(l t:Tr) (ys:List Tr),l.mt t=some ys→wts ys≤t.weight
 | .bl _,t,ys,h=>by simp only[Tr.mt,Option.some.injEq]at h;subst h;simp [wts]
 | .nd s ls, .nd z us,ys,h=>by
  simp only[Tr.mt]at h;split at h
  ·have:=zgG ls us ys h;ŝ[Tr.weight];omega
  ·cases h
 | .nd _ _, .bl _,ys,h=>by simp [Tr.mt]at h
þ zgG:∀(ls us ys:List Tr),mts ls us=some ys→wts ys≤wts us
 | [],us,ys,h=>by simp only[mts,Option.some.injEq]at h;subst h;simp [wts]
 |l::ls,[],ys,h=>by simp only[mts,Option.some.injEq]at h;subst h;simp [wts]
 |l::ls,u::us,ys,h=>by
  simp only[mts]at h;split at h
  ·cases h
  ·rename_i xs e1;split at h
   ·cases h
   ·rename_i zs e2;cases h;have:=zks l u xs e1;have:=zgG ls us zs e2;ŝ[zfe,wts];omega
end
ñ def ziF (c:Nat):Bool:=decide (97≤c)&&decide (c≤122)
ñ def small (xs:List Nat):Bool:=xs.all ziF
þ zwt{s:Str}{a:Nat}(hs:s.cps.toList=[a]) (c:Nat):(!decide ((⟨#[c]⟩:Str).cps.toList<s.cps.toList))=decide (a≤c):=by
 rw[hs];show(!decide (([c]:List Nat)< [a]))=_;by_cases h:a≤c
 ·rw[decide_eq_true h,decide_eq_false (λz=>by have:=(znK c a).mp z;omega)];rfl
 ·rw[decide_eq_false h,decide_eq_true ((znK c a).mpr ¥)];rfl
þ zvP{s:Str}{a:Nat}(hs:s.cps.toList=[a]) (c:Nat):(!decide (s.cps.toList<(⟨#[c]⟩:Str).cps.toList))=decide (c≤a):=by
 rw[hs];show(!decide (([a]:List Nat)< [c]))=_;by_cases h:c≤a
 ·rw[decide_eq_true h,decide_eq_false (λz=>by have:=(znK a c).mp z;omega)];rfl
 ·rw[decide_eq_false h,decide_eq_true ((znK a c).mpr ¥)];rfl
þ zzj:(Str.ofString "a").cps.toList=[97]:=by decide +kernel
þ zyt:(Str.ofString "z").cps.toList=[122]:=by decide +kernel
þ znW (x:Str):(Txt.slice x (some 1) none).cps.toList=x.cps.toList.drop 1:=by
 rw[zsk];unfold zAs;rw[HT.sIx_none];have ez:HT.sIx x.cps.toList.length 0 (some 1)=min 1 x.cps.toList.length:=HT.sIx_nat x.cps.toList.length 0 1;rw[ez];by_cases h:1≤x.cps.toList.length
 ·rw[Nat.min_eq_left h,List.take_of_length_le (by rw[List.length_drop];§Nat.le_refl _)]
 ·have:x.cps.toList=[]:=List.eq_nil_of_length_eq_zero ¥;rw[this];rfl
þ zfG (x:Str):x.length=x.cps.toList.length:=by simp [Str.length]
þ zkD (bs:List Bool):zhY (bs.map W.bl)=some bs:=by
 induction bs with
 |nil=>rfl
 |cons b bs ih=>rw[List.map_cons,zhY,ih];rfl
þ zlB{α:Type}(xs:List α) (f:α→Bool):((xs.map f).all _root_.id)=xs.all f:=by rw[List.all_map];rfl
þ zsm{x:Str}{r:Nat}{S:Sto}{Q:WK}{E:Str→Sto→Prop}(hx:x.length≤1000) (h:Q (.bl (small x.cps.toList)) S):zbb (r+1) [.str x] S Q E:=by
 rw[zfG]at hx;rw[zbb];¶;unfold zlD;¤zax (λσ=>∃x,σ=[x]) (λc=> .str ⟨#[c]⟩) (λc=> .bl (ziF c)) ?_ x.cps.toList [] _ ⟨none,rfl⟩ (by rw[List.length_nil];omega) (λc hc σ R hI hR=>?_) ?_
 ·§trivial
 ·ø⟨y,rfl⟩:=hI;ŝ[zdf];¶;rw[zwt zzj,zvP zyt];unfold ziF at hR;cases e:decide (97≤c) with
  |false=>rw[e]at hR;§hR _ _ ⟨_,rfl⟩ .refl
  |true=>rw[e]at hR;§hR _ _ ⟨_,rfl⟩ .refl
 ·have e:x.cps.toList.map (λc=>W.bl (ziF c))=(x.cps.toList.map ziF).map W.bl:=by rw[List.map_map];rfl
  rw[List.nil_append,e,zkD];dsimp only;rw[zlB];§⟨_, .refl,h⟩
þ zqy{S:Sto}{x:Int}:∀xs:List Int,inF S (.int x) (xs.map W.int)=some (xs.contains x)
 | []=>rfl
 |y::ys=>by
  ŝ[List.map_cons,inF,zqi,zqy ys,List.contains_cons];rw[show(y == x)=(x == y) from by rw[Bool.eq_iff_iff,beq_iff_eq,beq_iff_eq];§eq_comm]
mutual
þ zuN:∀(t:Tr) (p q:List Int) (u:Tr),t.at q=some u→(p++q,u)∈t.plt p
 | .bl n,p,[],u,h=>by rw[zrt]at h;cases h;simp [Tr.plt]
 | .bl n,p,i::q,u,h=>by cases h
 | .nd s ts,p,[],u,h=>by rw[zrt]at h;cases h;simp [Tr.plt]
 | .nd s ts,p,i::q,u,h=>by
  ø⟨v,h0,e1,e2⟩:=zxP h;ŝ[Tr.plt,List.mem_cons];¤.inr ?_;have:=zrp ts p 0 i.toNat q u v e1 e2;rw[Nat.zero_add,Int.toNat_of_nonneg h0]at this;simpa using this
þ zrp:∀(ts:List Tr) (p:List Int) (i j:Nat) (q:List Int) (u v:Tr),ts[j]? =some v→v.at q=some u→(p++((i+j:Nat):Int)::q,u)∈zgX p i ts
 | [],p,i,j,q,u,v,h1,h2=>by simp at h1
 |t::ts,p,i,0,q,u,v,h1,h2=>by
  simp at h1;subst h1;ŝ[zgX,List.mem_append];¤.inl ?_;have:=zuN t (p++[(i:Int)]) q u h2;simpa using this
 |t::ts,p,i,j+1,q,u,v,h1,h2=>by
  ŝ[zgX,List.mem_append];¤.inr ?_;have:=zrp ts p (i+1) j q u v (by simpa using h1) h2;rw[show i+1+j=i+(j+1) by omega]at this
  §this
end
þ zwV{t:Tr}{x:List Int×Tr}(h:x∈t.plt []):t.at x.1=some x.2∧x.1.length<t.depth:=by
 ø⟨q,h3,h4,h5⟩:=zoz t [] x.1 x.2 h;simp at h3;subst h3;§⟨h4,h5⟩
þ zfn{α:Type}{g:WG}{b:WS}{E:WX}{D:WEnds}{G:Sto→Prop}{S:Sto}(hG:G S) (I:WSt→Prop) (key:α→W) (f:α→Option W):∀(xs:List α) (σ:WSt),I σ→
  (∀x∈xs,∀σ (N:WSt→Sto→Prop),I σ→(f x=none→ ∀σ' S',I σ'→Sub S S'→N σ' S')→(∀w,f x=some w→ ∀S',Sub S S'→D.rt w S')→g (key x) σ S λσ1 S1=>b E { D with nx:=N,ct:=N,bk:=D.nx } σ1 S1)→
  (xs.findSome? f=none→ ∀σ,I σ→D.nx σ S)→(∀w,xs.findSome? f=some w→ ∀S',Sub S S'→D.rt w S')→forL g b E D G (xs.map key) σ S
 | [],σ,hI,step,done,ret=>by
  have:=done rfl σ hI;simpa [forL]using this
 |x::xs,σ,hI,step,done,ret=>by
  rw[List.map_cons];¤zbt λN hN=>?_;¤step x List.mem_cons_self σ N hI (λe σ' S' hI' sb=>?_) λw e S' sb=>ret w (by rw[List.findSome?_cons,e]) S' sb;¤hN _ _ S sb hG (zfn hG I key f xs σ' hI' (λy hy=>step y (List.mem_cons_of_mem _ hy)) (λe2=>done (by rw[List.findSome?_cons,e];§e2)) λw e2=>ret w (by rw[List.findSome?_cons,e];§e2))
ñ abbrev Tn:=Str×Tr×Tr
ñ def zba (t:Tn):W:= .tup [.str t.1,enc t.2.1,enc t.2.2]
ñ def Tn0:Tn:=("", .bl 0, .bl 0)
ñ def lf (ts:List Tn) (j:Nat):Tr:=(ts.getD j Tn0).2.1
þ zpB (n:Nat):zpm 0 n=(List.range n).map λ(i:Nat)=>W.int i:=by
 unfold zpm;apply List.map_congr_left;intro i _;simp
þ ziN{r:Nat}{a b:Addr}{ps:List W}{E:WX}{D:WEnds}{x0:Option W}(hba:b≠a):∀(ts:List Tr) {S:Sto}{us:List Tr}{x2:Option W},S a=some (.lst (encs us))→S b=some (.lst ps)→us.length+wts ts≤200000→
  (∀x2,D.nx [x0,some (.ref a),x2] (put S a (.lst (encs (us++ts.flatMap Tr.kids)))))→
  forL (wGN 2) (zbz (r+1) zaJ) E D (λS'=>S' b=some (.lst ps)) (encs ts) [x0,some (.ref a),x2] S
 | [],S,us,x2,ha,hb,hl,h=>by
  have:=h x2;simp only[List.flatMap_nil,List.append_nil,zeX ha]at this;simpa [encs,forL]using this
 |t::ts,S,us,x2,ha,hb,hl,h=>by
  simp only[wts]at hl;have hk:=zbu t.kids;have hw:=zes t;ŝ[encs];¤zbt λN hN=>?_;ŝ[zbz];¶;ŝ[zai ha,true_and];¤zfL ?_;¶;rw[zai ha];¤⟨zak (by rw[zaS,zaS];omega),hN _ _ _ .refl (by rw[zaF hba];§hb) ?_⟩;rw[←zev];¤ziN hba ts zag (by rw[zaF hba];§hb) (by rw[List.length_append];omega) λx2=>?_;rw[zaX];have:=h x2;rw[List.flatMap_cons,←List.append_assoc]at this;§this
þ zmF{ts:List Tr}{b:Addr}{r:Nat}{S:Sto}{Q:WK}{E:Str→Sto→Prop}(hb:S b=some (.lst (encs ts))) (hw:wts ts≤100000) (h:∀a,S a=none→Q (.ref a) (put S a (.lst (encs (ts.flatMap Tr.kids))))):zbn (r+2) [.ref b] S Q E:=by
 rw[zbn];¶;¤⟨Nat.zero_le _,λa ha=>?_⟩;have hba:=zpJ hb ha;rw[zai (keep hb ha)];¤ziN (us:=[]) hba ts (by simp [zag,encs]) (keep hb ha) (by simpa using(by omega:wts ts≤200000)) λx2=>?_;rw[zaX];¶;§⟨_, .refl,h a ha⟩
ñ def Tr.small (t:Tr):Bool:=decide (t.weight≤400)&&decide (t.depth≤40)
þ zpy{t:Tr}{r:Nat}{S:Sto}{Q:WK}{E:Str→Sto→Prop}(hw:t.weight≤90000) (h:Q (.bl t.small) S):zcN (r+3) [enc t] S Q E:=by
 rw[zcN];¶;¤⟨zak £,λa ha=>?_⟩;¤⟨λm σ S'=>∃(ts:List Tr) (k d:Nat) (b:Addr),m=wts ts∧k+wts ts=t.weight∧d+dts ts=t.depth∧k≤400∧d≤40∧S b=none∧S'=put S b (.lst (encs ts))∧σ=[some (enc t),some (.int k),some (.int d),some (.ref b)],⟨_,[t],0,0,a,rfl,by simp [wts],by simp [dts],£,£,ha,by simp [encs],rfl⟩,?_⟩
 rintro m σ S' ⟨ts,k,d,b,rfl,hwt,hk,hk4,hd4,hb,rfl,rfl⟩;¶;cases ts with
 |nil=>
  ŝ[encs,List.isEmpty_nil];¶;simp only[dts,wts,Nat.add_zero]at hk hwt;have e:t.small=true:=by unfold Tr.small;rw[decide_eq_true ¥,decide_eq_true ¥];rfl
  rw[e]at h;§⟨_, .put .refl hb,h⟩
 |cons u us=>
  have hne:(encs (u::us)).isEmpty=false:=by simp [encs]
  rw[hne];have hfl:=zjE (u::us);have hdf:=zjl (ts:=u::us) ¢;have hlw:=zbu (u::us);ŝ[zfc];¶;rw[zaS];have no:400<t.weight∨40<t.depth→ ∃S'',Sub S'' (put S b (Ob.lst (encs (u::us))))∧Q (W.bl false) S'':=λz=>by
   have e:t.small=false:=by
    unfold Tr.small;rcases z with z |z
    ·rw[decide_eq_false ¥];rfl
    ·rw[decide_eq_false (p:=t.depth≤40) ¥,Bool.and_false]
   rw[e]at h;§⟨_, .put .refl hb,h⟩
  split
  ·§no (.inl ¥)
  ·split
   ·§no (.inr ¥)
   ·¤zmF zag ¥ λc hc=>?_;ø⟨hc1,hc2⟩:=zdT hc;¤⟨wts ((u::us).flatMap Tr.kids),put S c (.lst (encs ((u::us).flatMap Tr.kids))),by simp only[List.length_cons]at hfl;omega, .put2 (.put .refl hb),_,k+(u::us).length,d+1,c,rfl,¥,¥,¥,¥,hc1,rfl,?_⟩
    push_cast
    rfl
þ zeV{ns:List Int}{k:Int}{r:Nat}{S:Sto}{Q:WK}{E:Str→Sto→Prop}(h0:0≤k) (h:∀n:Int,Q (.int n) S):zaA (r+1) [.scr ns, .int k] S Q E:=by
 rw[zaA];¶;split
 ·ø⟨x,e,_⟩:=zlL (xs:=ns) (i:=k) h0 ¥;rw[e];§⟨S, .refl,h _⟩
 ·§⟨S, .refl,h _⟩
ñ def lt (rs:List Int) (pos:Int) (k j:Nat):Nat:=97+((rs.getD j 0+(k:Int)*(if(0+(j:Int) == pos)=true then 1 else 0)) % 26).toNat
ñ def zfQ (rs:List Int) (pos:Int) (k:Nat):List Nat:=(List.range rs.length).map (lt rs pos k)
ñ def wd0 (rs:List Int) (pos:Int) (k:Nat):Str:=Str.join (Str.ofString "") ((zfQ rs pos k).map λc=>(⟨#[c]⟩:Str))
ñ def wd1 (rs:List Int) (pos:Int) (k:Nat):Str:=Txt.upper ⟨#[lt rs pos k 0]⟩++Txt.slice (wd0 rs pos k) (some 1) none
ñ def wd (great:Bool) (rs:List Int) (pos:Int) (k:Nat):Str:=if great then wd1 rs pos k else wd0 rs pos k
þ ziV (rs:List Int) (pos:Int) (k j:Nat):Low (lt rs pos k j):=by
 have h0:=Int.emod_nonneg (rs.getD j 0+(k:Int)*(if(0+(j:Int) == pos)=true then 1 else 0)) (show(26:Int)≠0 by decide)
 have h1:=Int.emod_lt_of_pos (rs.getD j 0+(k:Int)*(if(0+(j:Int) == pos)=true then 1 else 0)) (show(0:Int)<26 by decide)
 unfold lt Low;omega
þ zzZ{n:Int}(h0:0≤n) (h1:n<26):atI (Str.ofString "abcdefghijklmnopqrstuvwxyz").cps.toList n=some (97+n.toNat):=by
 have e:=zcz (xs:=(Str.ofString "abcdefghijklmnopqrstuvwxyz").cps.toList) (n:=n.toNat);rw[Int.toNat_of_nonneg h0]at e;rw[e,zwc,List.getElem?_range' ¥];simp
þ zhx (rs:List Int) (pos:Int) (k:Nat):(wd0 rs pos k).cps.toList=zfQ rs pos k:=zkF _
þ zhP (rs:List Int) (pos:Int) (k:Nat):(zfQ rs pos k).length=rs.length:=by simp [zfQ]
þ zkj{rs:List Int}{pos:Int}{k c:Nat}(h:c∈zfQ rs pos k):Low c:=by
 ø⟨j,_,rfl⟩:=List.mem_map.mp h;§ziV rs pos k j
þ zpf{rs:List Int}(pos:Int) (k:Nat) (h:1≤rs.length):zfQ rs pos k=lt rs pos k 0::(zfQ rs pos k).drop 1:=by
 unfold zfQ;obtain⟨n,hn⟩:∃n,rs.length=n+1:=⟨rs.length - 1,¥⟩
 rw[hn,List.range_succ_eq_map];simp
þ zko{c:Nat}(h:Low c):Txt.upper ⟨#[c]⟩=⟨#[c - 32]⟩:=by
 unfold Low at h;rw[PySem.W.KOpn.upper_one ¥,if_pos h]
þ znS{rs:List Int}(pos:Int) (k:Nat):(wd1 rs pos k).cps.toList=(lt rs pos k 0 - 32)::(zfQ rs pos k).drop 1:=by
 unfold wd1;rw[zko (ziV _ _ _ _)];show((#[lt rs pos k 0 - 32]:Array Nat)++(Txt.slice (wd0 rs pos k) (some 1) none).cps).toList=_;rw[Array.toList_append,znW,zhx];rfl
structure Base (rs:List Int) (pos:Int):Prop where
  l1:1≤rs.length
  l8:rs.length≤8
  p0:0≤pos
  p1:pos<rs.length
þ zoD{rs:List Int}{pos:Int}(b:Base rs pos) (k:Nat):zcw (wd0 rs pos k):=by
 unfold zcw;rw[zhx,zhP];§⟨b.l1,b.l8,λc hc=>zkj hc⟩
þ zrS{rs:List Int}{pos:Int}(b:Base rs pos) (k:Nat):zdl (wd1 rs pos k):=by
 have:=ziV rs pos k 0;have hl:=b.l8;unfold Low at this;¤⟨_,_,znS pos k,¥,¥,by rw[List.length_drop,zhP];omega,λd hd=>zkj (List.mem_of_mem_drop hd)⟩
þ zAx{rs:List Int}{pos:Int}(b:Base rs pos) {k m:Nat}(hk:k<26) (hm:m<26) (h:k≠m):lt rs pos k pos.toNat≠lt rs pos m pos.toNat:=by
 have p0:=b.p0;have e:(0+((pos.toNat:Nat):Int) == pos)=true:=by rw[beq_iff_eq];omega
 unfold lt;rw[e,if_pos rfl];omega
þ zyh{great:Bool}{rs:List Int}{pos:Int}(b:Base rs pos) {k m:Nat}(hk:k<26) (hm:m<26) (h:k≠m):wd great rs pos k≠wd great rs pos m:=by
 have hn:=zAx b hk hm h;have p0:=b.p0;have p1:=b.p1;intro e;have e':=congrArg (λx:Str=>x.cps.toList) e;cases great with
 |false=>
  simp only[wd,Bool.false_eq_true,if_false,zhx]at e';have e2:=congrArg (λl=>l[pos.toNat]?) e';simp only[zfQ,List.getElem?_map,List.getElem?_range (show pos.toNat<rs.length by omega),Option.map_some,Option.some.injEq]at e2
  §hn e2
 |true=>
  simp only[wd,if_true,znS]at e';have e2:=congrArg (λl=>l[pos.toNat]?) e';cases hp:pos.toNat with
  |zero=>
   rw[hp]at hn;have h1:=ziV rs pos k 0;have h2:=ziV rs pos m 0;unfold Low at h1 h2;simp only[hp,List.getElem?_cons_zero,Option.some.injEq]at e2;omega
  |succ n=>
   rw[hp]at hn;simp only[hp,List.getElem?_cons_succ,List.getElem?_drop,zfQ,List.getElem?_map]at e2;rw[show 1+n=n+1 by omega,List.getElem?_range (show n+1<rs.length by omega)]at e2
   simp only[Option.map_some,Option.some.injEq]at e2;§hn e2
ñ def zmx (great:Bool) (ws:List Str):Prop:=∃rs pos,Base rs pos∧(ws=(List.range 6).map (wd great rs pos)∨(great=false∧ws=[wd0 rs pos 0,wd0 rs pos 1,wd0 rs pos 2,wd0 rs pos 2,wd0 rs pos 2,wd0 rs pos 5]))
structure Signs (w0 w1 w2 w3 w4 w5:Str):Prop where
  ok:∀x∈ ω,zcw x
  n0:∀x∈ [w1,w2,w3,w4,w5],w0≠x
  n1:∀x∈ [w2,w3,w4,w5],w1≠x
  n5:∀x∈ [w2,w3,w4],w5≠x
þ zmf{ws:List Str}(h:zmx false ws):∃w0 w1 w2 w3 w4 w5,ws=ω∧Signs w0 w1 w2 w3 w4 w5:=by
 ø⟨rs,pos,b,h⟩:=h;have hs:=λk=>zoD b k;have hn:∀k m:Nat,k<26→m<26→k≠m→wd0 rs pos k≠wd0 rs pos m:=λk m h1 h2 h3=>zyh (great:=false) b h1 h2 h3;rcases h with rfl |⟨_,rfl⟩
 ·¤⟨_,_,_,_,_,_,rfl,⟨?_,?_,?_,?_⟩⟩
  ·ŝ[List.mem_cons,List.not_mem_nil,or_false,forall_eq_or_imp,forall_eq];§⟨hs 0,hs 1,hs 2,hs 3,hs 4,hs 5⟩
  ·ŝ[List.mem_cons,List.not_mem_nil,or_false,forall_eq_or_imp,forall_eq];§⟨hn 0 1 £ £ £,hn 0 2 £ £ £,hn 0 3 £ £ £,hn 0 4 £ £ £,hn 0 5 £ £ £⟩
  ·ŝ[List.mem_cons,List.not_mem_nil,or_false,forall_eq_or_imp,forall_eq];§⟨hn 1 2 £ £ £,hn 1 3 £ £ £,hn 1 4 £ £ £,hn 1 5 £ £ £⟩
  ·ŝ[List.mem_cons,List.not_mem_nil,or_false,forall_eq_or_imp,forall_eq];§⟨hn 5 2 £ £ £,hn 5 3 £ £ £,hn 5 4 £ £ £⟩
 ·¤⟨_,_,_,_,_,_,rfl,⟨?_,?_,?_,?_⟩⟩
  ·ŝ[List.mem_cons,List.not_mem_nil,or_false,forall_eq_or_imp,forall_eq];§⟨hs 0,hs 1,hs 2,hs 2,hs 2,hs 5⟩
  ·ŝ[List.mem_cons,List.not_mem_nil,or_false,forall_eq_or_imp,forall_eq];§⟨hn 0 1 £ £ £,hn 0 2 £ £ £,hn 0 2 £ £ £,hn 0 2 £ £ £,hn 0 5 £ £ £⟩
  ·ŝ[List.mem_cons,List.not_mem_nil,or_false,forall_eq_or_imp,forall_eq];§⟨hn 1 2 £ £ £,hn 1 2 £ £ £,hn 1 2 £ £ £,hn 1 5 £ £ £⟩
  ·ŝ[List.mem_cons,List.not_mem_nil,or_false,forall_eq_or_imp,forall_eq];§⟨hn 5 2 £ £ £,hn 5 2 £ £ £,hn 5 2 £ £ £⟩
structure Titles (ts:List Str):Prop where
  len:ts.length=6
  ok:∀x∈ts,zdl x
  nd:ts.Nodup
þ zgP{ws:List Str}(h:zmx true ws):Titles ws:=by
 ø⟨rs,pos,b,h⟩:=h;rcases h with rfl |⟨e,_⟩
 ·¤⟨¢,λx hx=>?_,?_⟩
  ·ø⟨k,_,rfl⟩:=List.mem_map.mp hx;§zrS b k
  ·rw[List.Nodup,List.pairwise_map];¤List.Pairwise.imp_of_mem (λ{a c} ha hc hne=>?_) (List.nodup_range (n:=6));have ha:=List.mem_range.mp ha;have hc:=List.mem_range.mp hc;§zyh b ¥ ¥ hne
 ·cases e
þ zkW:∀(ws:List W) {rs:List Int}{sp:Int}{a:Addr}{r:Nat}{S:Sto}{E:WX}{D:WEnds}{x0 x1 x2 x3 x6 x7 x8 x9:Option W},S a=some (.lst (rs.map W.int))→rs.length+ws.length≤1000→
  (∀(rs':List Int) sp' x6',rs'.length=rs.length+ws.length→D.nx [x0,x1,x2,x3,some (.int sp'),some (.ref a),x6',x7,x8,x9] (put S a (.lst (rs'.map W.int))))→
  forL (wGN 6) (zdW r zaJ) E D (λ_=>True) ws [x0,x1,x2,x3,some (.int sp),some (.ref a),x6,x7,x8,x9] S
 | [],rs,sp,a,r,S,E,D,x0,x1,x2,x3,x6,x7,x8,x9,ha,hl,h=>by
  ŝ[forL];have:=h rs sp x6 ¢;rw[zeX ha]at this;§this
 |w::ws,rs,sp,a,r,S,E,D,x0,x1,x2,x3,x6,x7,x8,x9,ha,hl,h=>by
  ŝ[forL,zdW];¶;simp only[List.length_cons]at hl h;ŝ[zai ha,true_and];¤⟨£,zbC (by simp;omega),⟨£,£⟩,_, .refl,?_⟩
  ¤zkW (r:=r) ws (rs:=rs++[sp % 26]) (by rw[zag];simp) (by simp;omega) λrs' sp' x6' h1=>?_;rw[zaX];§h rs' sp' x6' (by simp at h1;omega)
þ zpM{c:Prop} [Decidable c] {a b:Prop}(h1:c→a) (h2:¬c→b):if c then a else b:=by split<;>simp_all
þ zmU{A T:WS}{E:WX}{D:WEnds}{σ:WSt}{S:Sto}(h:∀T',T'=T→zat A T' E D σ S):zat A T E D σ S:=h T rfl
þ zod{one two:Int}{great:Bool}{r:Nat}{S:Sto}{Q:WK}{E:Str→Sto→Prop}(h:∀(a:Addr) (ws:List Str),S a=none→zmx great ws→Q (.ref a) (put S a (.lst (ws.map W.str)))):zbs (r+1) [.int one, .int two, .bl great] S Q E:=by
 rw[zbs];¶;have o0:0≤one % 8:=Int.emod_nonneg _ £;have o1:one % 8<8:=Int.emod_lt_of_pos _ £;¤⟨⟨£,£,£⟩,£,Nat.zero_le _,λa ha=>⟨£,⟨¥,¥⟩,?_⟩⟩
 ¤zkW _ (rs:=[]) zag (by simp [znm];omega) λrs sp x6 hl=>?_;rw[zaX];simp only[List.length_nil,znm,Nat.zero_add]at hl;have hl':(rs.length:Int)=1+one % 8:=by rw[hl];omega
 have p0:0≤one / 8 % (rs.length:Int):=Int.emod_nonneg _ ¥;have p1:one / 8 % (rs.length:Int)<(rs.length:Int):=Int.emod_lt_of_pos _ ¥;have B:Base rs (one / 8 % (rs.length:Int)):=⟨¥,¥,p0,p1⟩
 ¶;ŝ[List.length_map];¤⟨⟨£,£⟩,¥,Nat.zero_le _,λb hb=>⟨⟨£,£⟩,?_⟩⟩
 ø⟨hb1,hb2⟩:=zdT hb;generalize hpos:one / 8 % (rs.length:Int)=pos at B p0 p1⊢;¤zrg (λi σ S'=>∃x6 x9,S'=put (put S a (.lst (rs.map W.int))) b (.lst (((List.range i).map (wd great rs pos)).map W.str))∧σ=[some (.int one),some (.int two),some (.bl great),some (.str (Str.ofString "abcdefghijklmnopqrstuvwxyz")),some (.int sp),some (.ref a),x6,some (.int pos),some (.ref b),x9]) 6 ?_ ?_ ⟨x6,none,rfl,rfl⟩
 ·rintro k hk σ S' N ⟨x6,x9,rfl,rfl⟩ hN;have ea:put (put S a (Ob.lst (rs.map W.int))) b (Ob.lst (((List.range k).map (wd great rs pos)).map W.str)) a=some (.lst (rs.map W.int)):=by rw[zaF (Ne.symm hb2),zag]
  ŝ[zfy];¶;rw[zai ea];ŝ[List.length_map];¤⟨⟨¥,¥⟩,?_⟩
  rw[Int.toNat_natCast];¤zax (λσ=>∃x,σ=[x,some (.str (Str.ofString "abcdefghijklmnopqrstuvwxyz")),some (.ref a),some (.int (k:Int)),some (.int pos)]) (λi:Nat=>W.int (0+(i:Int))) (λi=>W.str ⟨#[lt rs pos k i]⟩) trivial (List.range rs.length) [] _ ⟨none,rfl⟩ (by simp;omega) (λi hi σ R hI hR=>?_) ?_
  ·ø⟨x,rfl⟩:=hI;have hi:=List.mem_range.mp hi;ŝ[zfz];¶;have e:=zcz (xs:=rs.map W.int) (n:=i);rw[show(i:Int)=0+(i:Int) by omega,List.getElem?_map,List.getElem?_eq_getElem hi]at e
   rw[zai ea,e];dsimp only[Option.map];¶;have ec:=zzZ (n:=(rs[i]+(k:Int)*(if(0+(i:Int) == pos)=true then 1 else 0)) % 26) (Int.emod_nonneg _ £) (Int.emod_lt_of_pos _ £);rw[ec];have el:lt rs pos k i=97+((rs[i]+(k:Int)*(if(0+(i:Int) == pos)=true then 1 else 0)) % 26).toNat:=by
    unfold lt;rw[List.getD_eq_getElem?_getD,List.getElem?_eq_getElem hi];rfl
   rw[←el];§⟨.inl ⟨¥,¥⟩,£,zak (by rw[zzF];decide),hR _ _ ⟨_,rfl⟩ .refl⟩
  ·have es:(List.range rs.length).map (λi=>W.str ⟨#[lt rs pos k i]⟩)=(zfQ rs pos k).map λc=>W.str ⟨#[c]⟩:=by
    unfold zfQ;rw[List.map_map];rfl
   have hw:=zoD B k;rw[List.nil_append,es,zhJ];¤⟨zqT _ (by rw[zhP];omega),?_⟩;show _;have ew:Str.join (Str.ofString "") ((zfQ rs pos k).map λc=>(⟨#[c]⟩:Str))=wd0 rs pos k:=rfl;rw[ew];have hl8:(wd0 rs pos k).length≤8:=by rw[zfG];§hw.2.1
   have fin:∀z:Str,z=wd great rs pos k→ ∀x9:Option W,N [some (.int one),some (.int two),some (.bl great),some (.str (Str.ofString "abcdefghijklmnopqrstuvwxyz")),some (.int sp),some (.ref a),some (.int (k:Int)),some (.int pos),some (.ref b),x9] (put (put S a (.lst (rs.map W.int))) b (.lst (((List.range k).map (wd great rs pos)).map W.str++[.str z]))):=λz hz x9=>by
    subst hz;¤hN _ _ _ .refl ⟨_,_,?_,rfl⟩;rw[List.range_succ,List.map_append,List.map_append];rfl
   have hxl:(((List.range k).map (wd great rs pos)).map W.str).length<sizeLine:=zbC (by simp;omega);cases great with
   |false=>
    try ¶
    try ŝ[zhf,zaX,true_and]
    §⟨hxl,fin _ rfl _⟩
   |true=>
    ¶;rw[zhx,zpf pos k B.l1,zjS];dsimp only
    try ¶
    try ŝ[zhf,zaX,true_and]
    ¤⟨zak ¥,?_⟩;have h1:(⟨#[lt rs pos k 0]⟩:Str).length=1:=rfl;have h2:(Txt.upper ⟨#[lt rs pos k 0]⟩).length=1:=by rw[zko (ziV _ _ _ _)];rfl
    have h3:(Txt.slice (wd0 rs pos k) (some 1) none).length≤8:=by
     rw[zfG,znW,List.length_drop,←zfG];omega
    §⟨¥,zak ¥,zak ¥,hxl,fin _ rfl _⟩
 ·rintro σ S' ⟨x6,x9,rfl,rfl⟩;have eb:put (put S a (Ob.lst (rs.map W.int))) b (Ob.lst (((List.range 6).map (wd great rs pos)).map W.str)) b=some (.lst (((List.range 6).map (wd great rs pos)).map W.str)):=zag;¶;cases great with
  |true=>
   ¶;¤⟨⟨£,£⟩,£,?_⟩
   split
   ·§⟨_, .put2 (.put .refl ha),h b _ hb1 ⟨rs,pos,B, .inl rfl⟩⟩
   ·§⟨_, .put2 (.put .refl ha),h b _ hb1 ⟨rs,pos,B, .inl rfl⟩⟩
  |false=>
   ¶;¤⟨⟨£,£⟩,£,?_⟩
   split
   ·have e6:((List.range 6).map (wd false rs pos)).map W.str=[.str (wd0 rs pos 0), .str (wd0 rs pos 1), .str (wd0 rs pos 2), .str (wd0 rs pos 3), .str (wd0 rs pos 4), .str (wd0 rs pos 5)]:=rfl;ŝ[e6]
    try ¶
    have c3:zeu [W.str (wd0 rs pos 0), .str (wd0 rs pos 1), .str (wd0 rs pos 2), .str (wd0 rs pos 3), .str (wd0 rs pos 4), .str (wd0 rs pos 5)] none (some 3)=[.str (wd0 rs pos 0), .str (wd0 rs pos 1), .str (wd0 rs pos 2)]:=rfl;have a2:atI [W.str (wd0 rs pos 0), .str (wd0 rs pos 1), .str (wd0 rs pos 2), .str (wd0 rs pos 3), .str (wd0 rs pos 4), .str (wd0 rs pos 5)] 2=some (.str (wd0 rs pos 2)):=rfl;have a5:atI [W.str (wd0 rs pos 0), .str (wd0 rs pos 1), .str (wd0 rs pos 2), .str (wd0 rs pos 3), .str (wd0 rs pos 4), .str (wd0 rs pos 5)] 5=some (.str (wd0 rs pos 5)):=rfl;ŝ[c3,a2,a5]
    try ¶
    ¤⟨zak £,zak £,λc hc=>?_⟩;ø⟨hc1,hc2⟩:=zdT hc;ø⟨hc1,hc3⟩:=zdT hc1;§⟨_, .put2 (.put (.put .refl ha) hb1),h c _ hc1 ⟨rs,pos,B, .inr ⟨rfl,rfl⟩⟩⟩
   ·§⟨_, .put2 (.put .refl ha),h b _ hb1 ⟨rs,pos,B, .inl rfl⟩⟩
mutual
ñ def Tr.nb:Tr→Nat
 | .bl _=>1
 | .nd _ ts=>nbs ts
ñ def nbs:List Tr→Nat
 | []=>0
 |t::ts=>t.nb+nbs ts
end
mutual
þ zus:∀(t:Tr) (p:List Int),((t.plt p).filter λx=>x.2.isBl).length=t.nb
 | .bl n,p=>by simp [Tr.plt,Tr.isBl,Tr.nb]
 | .nd s ts,p=>by
  have:=zsE ts p 0;simpa [Tr.plt,Tr.isBl,Tr.nb]using this
þ zsE:∀(ts:List Tr) (p:List Int) (i:Nat),((zgX p i ts).filter λx=>x.2.isBl).length=nbs ts
 | [],p,i=>by simp [zgX,nbs]
 |t::ts,p,i=>by
  have h1:=zus t (p++[(i:Int)]);have h2:=zsE ts p (i+1);rw[zgX,List.filter_append,List.length_append,h1,h2,nbs]
end
þ zyI (t:Tr):t.bls.length=t.nb:=zus t []
þ zss:∀ts:List Tr,(ts.map λt=>(t.nb:Int)).sum=(nbs ts:Int)
 | []=>by simp [nbs]
 |t::ts=>by
  rw[List.map_cons,List.sum_cons,zss ts,nbs];omega
þ zwG (ts:List Tr):zby (ts.map λt=>W.int (t.nb:Int))=some (ts.map λt=>(t.nb:Int)):=by
 have:=zgx (ts.map λt=>(t.nb:Int));rw[List.map_map]at this;§this
þ zjM:∀(d:Nat) {t:Tr}{r:Nat}{S:Sto}{Q:WK}{E:Str→Sto→Prop},t.depth≤d→d≤r+1→t.weight≤90000→Q (.int t.nb) S→zaD (r+1) [enc t] S Q E
 |0,t,r,S,Q,E,hd,hr,hw,h=>by have:=zbi t;omega
 |d+1, .bl n,r,S,Q,E,hd,hr,hw,h=>by
  rw[zaD];ŝ[enc];¶;simp only[Tr.nb]at h;§⟨S, .refl,h⟩
 |d+1, .nd s ts,r,S,Q,E,hd,hr,hw,h=>by
  simp only[Tr.depth]at hd;simp only[Tr.weight]at hw;have hk:=zbu ts;rw[zaD];ŝ[enc];¶;rw[zaB];¤zax (λσ=>∃x,σ=[x]) enc (λt=> .int (t.nb:Int)) trivial ts [] _ ⟨none,rfl⟩ (by simp;omega) (λx hx σ R hI hR=>?_) ?_
  ·ø⟨y,rfl⟩:=hI;have hdx:=zcX hx;have hwx:=zcp hx;have:=zbi x;obtain⟨r,rfl⟩:∃r',r=r'+1:=⟨r - 1,¥⟩
   ŝ[zdQ];¶;§zjM d (t:=x) (r:=r) ¥ ¥ ¥ (hR _ _ ⟨_,rfl⟩ .refl)
  ·rw[List.nil_append,zwG];dsimp only;rw[zss];simp only[Tr.nb]at h;§⟨S, .refl,h⟩
þ zkb{w:W}{ws:List W}:zeu (w::ws) none (some 1)=[w]:=by
 rw[show(1:Int)=((1:Nat):Int) from rfl,znI];rfl
þ zgB{us:List Tr}{a:Addr}:∀(d:Nat) {t:Tr}{r:Nat}{S:Sto}{Q:WK}{E:Str→Sto→Prop},t.depth≤d→d≤r+1→S a=some (.lst (encs us))→t.fits us.length→t.weight≤90000→Q (enc (t.fill us)) S→zbg (r+1) [enc t, .ref a] S Q E
 |0,t,r,S,Q,E,hd,hr,ha,hf,hw,h=>by have:=zbi t;omega
 |d+1, .bl n,r,S,Q,E,hd,hr,ha,hf,hw,h=>by
  simp only[Tr.fits]at hf;simp only[Tr.fill]at h;rw[zbg];ŝ[enc];¶;have e:atI (encs us) n=some (enc (us.getD n.toNat (.bl n))):=by
   have q:=zcz (xs:=encs us) (n:=n.toNat);rw[Int.toNat_of_nonneg hf.1]at q;rw[q,zaB,List.getElem?_map,List.getD_eq_getElem?_getD,List.getElem?_eq_getElem ¥];rfl
  rw[zai ha,e];§⟨S, .refl,h⟩
 |d+1, .nd s ts,r,S,Q,E,hd,hr,ha,hf,hw,h=>by
  simp only[Tr.fits]at hf;simp only[Tr.fill]at h;simp only[Tr.depth]at hd;simp only[Tr.weight]at hw;have hk:=zbu ts;rw[zbg];simp only[enc]at h⊢;¶;rw[zkb];rw[zaB];¤zax (λσ=>∃x,σ=[x,some (.ref a)]) enc (λt=>enc (t.fill us)) trivial ts [] _ ⟨none,rfl⟩ (by simp;omega) (λx hx σ R hI hR=>?_) ?_
  ·ø⟨y,rfl⟩:=hI;have hdx:=zcX hx;have hwx:=zcp hx;have:=zbi x;obtain⟨r,rfl⟩:∃r',r=r'+1:=⟨r - 1,¥⟩
   ŝ[zfd];¶;§zgB d (t:=x) (r:=r) ¥ ¥ ha (zgq hf hx) ¥ (hR _ _ ⟨_,rfl⟩ .refl)
  ·rw[List.nil_append];¶;¤⟨zak (by simp;omega),S, .refl,?_⟩;have e:encs (fills us ts)=ts.map λt=>enc (t.fill us):=by rw[zaB,zig,List.map_map];rfl
   rw[e]at h;§h
inductive Item (ws:List Str) (m:Nat):Tr→Prop
 |bl {n:Int}:0≤n→n<m→Item ws m (.bl n)
 |nd {s:Str}:s∈ws→Item ws m (.nd s [])
inductive RightT (ws:List Str) (m:Nat):Tr→Prop
 |one {t:Tr}:Item ws m t→RightT ws m t
 |un {s:Str}{t:Tr}:s∈ws→Item ws m t→RightT ws m (.nd s [t])
 |two {s:Str}{t u:Tr}:s∈ws→0<m→Item ws m t→Item ws m u→RightT ws m (.nd s [t,u])
 |deep {s z:Str}{t u:Tr}:s∈ws→z∈ws→0<m→Item ws m t→Item ws m u→RightT ws m (.nd s [.nd z [t],u])
ñ def leftsL (n:Nat) (h c d:Str):List Tr:=
 match n with
 |0=>[.nd h [.bl 0]]
 |1=>[.nd h [.bl 0, .bl 1]]
 |2=>[.nd h [.nd c []], .nd h [.nd d [.bl 0]]]
 |3=>[.nd h [.nd c [], .bl 0], .nd h [.nd d [.bl 0], .bl 1]]
 |4=>[.nd h [.nd d [.nd d [.bl 0]], .bl 1, .bl 2], .nd h [.nd d [.nd c []], .bl 0, .bl 1]]
 |_=>[.nd h []]
section
variable {w0 w1 w2 w3 w4 w5:Str}{r:Nat}{S:Sto}{Q:WK}{E:Str→Sto→Prop}{a:Addr}
ñ abbrev six (w0 w1 w2 w3 w4 w5:Str):List W:=[.str w0, .str w1, .str w2, .str w3, .str w4, .str w5]
þ zCq:atI (six w0 w1 w2 w3 w4 w5) 0=some (.str w0):=rfl
þ zDg:atI (six w0 w1 w2 w3 w4 w5) 1=some (.str w1):=rfl
þ six2:atI (six w0 w1 w2 w3 w4 w5) 2=some (.str w2):=rfl
þ zBH:atI (six w0 w1 w2 w3 w4 w5) 3=some (.str w3):=rfl
þ six4:atI (six w0 w1 w2 w3 w4 w5) 4=some (.str w4):=rfl
þ zCF:atI (six w0 w1 w2 w3 w4 w5) 5=some (.str w5):=rfl
þ zsn{draw:Int}{m:Nat}(ha:S a=some (.lst (six w0 w1 w2 w3 w4 w5))) (h:∀t,Item ω m t→Q (enc t) S):zcU (r+1) [.int draw, .int m, .ref a] S Q E:=by
 rw[zcU];¶;have fin:∀w:Str,w∈ ω→ ∃S'',Sub S'' S∧Q (.tup [.str w]) S'':=λw hw=>⟨S, .refl,by
  have:=h _ (.nd hw);simpa only[enc,encs]using this⟩
 have pick:∃x:Str,x∈ ω∧ ∃i:Int,atI [W.int 2,W.int 5] (draw / 4 % 2)=some (.int i)∧atI (six w0 w1 w2 w3 w4 w5) i=some (.str x):=by
  rcases zoS (draw / 4) with e |e
  ·§⟨w2,¢,2,by rw[e];rfl,rfl⟩
  ·§⟨w5,¢,5,by rw[e];rfl,rfl⟩
 ø⟨x,hx,i,e1,e2⟩:=pick;ŝ[e1];¶;ŝ[zai ha,e2];have tail:2≤sizeLine∧ziZ draw 4∧(0:Int)<2∧1≤sizeLine∧ ∃S'',Sub S'' S∧Q (.tup [.str x]) S'':=⟨zak £,⟨£,£⟩,£,zak £,fin x hx⟩
 split
 ·rename_i hm;¤⟨£,?_⟩;split
  ·¤⟨⟨£,£⟩,hm,S, .refl,?_⟩
   have:=h (.bl (draw / 4 % (m:Int))) (.bl (Int.emod_nonneg _ ¥) (Int.emod_lt_of_pos _ hm));simpa only[enc]using this
  ·§tail
 ·§tail
þ zsN{draw:Int}{m:Nat}(ha:S a=some (.lst (six w0 w1 w2 w3 w4 w5))) (h:∀t,RightT ω m t→Q (enc t) S):zdh (r+2) [.int draw, .int m, .ref a] S Q E:=by
 rw[zdh,zgg];¤⟨rfl,zmU λT hT=>?_⟩;¶;¤⟨⟨£,£⟩,zsn ha λt ht=>?_⟩
 subst hT;¤zmU λT hT=>?_;¶;¤⟨⟨£,£⟩,zsn ha λu hu=>?_⟩
 subst hT;¤zmU λT hT=>?_;¶;¤⟨£,?_⟩;subst hT;have q1:=h _ (.one ht);have q2:=λ(s:Str) (hs:s∈ ω)=>h _ (.un hs ht);have q3:=λ(s:Str) (hs:s∈ ω) (h0:0<m)=>h _ (.two hs h0 ht hu);have q4:=λ(s:Str) (hs:s∈ ω) (h0:0<m)=>h _ (.two hs h0 ht ht);have q5:=λ(s z:Str) (hs:s∈ ω) (hz:z∈ ω) (h0:0<m)=>h _ (.deep hs hz h0 ht hu);simp only[enc,encs]at q2 q3 q4 q5;have l2:2≤sizeLine:=zak £;have l3:3≤sizeLine:=zak £;¤zmU λT hT=>?_;¶;¤zpM (λ_=>⟨S, .refl,q1⟩) λ_=>?_;subst hT;¤zmU λT hT=>?_;¶;ŝ[zai ha,zBH];¤zpM (λ_=>⟨l2,S, .refl,q2 _ ¢⟩) λ_=>zpM (λ_=>⟨l2,S, .refl,q2 _ ¢⟩) λhm=>?_;subst hT;have h0:0<m:=by
  rcases Nat.eq_zero_or_pos m with z |z
  ·rw[z]at hm;§absurd rfl hm
  ·§z
 ¤zmU λT hT=>?_;¶;ŝ[zai ha,six4];¤zpM (λ_=>⟨l3,S, .refl,q3 _ ¢ h0⟩) λ_=>?_;subst hT;¤zmU λT hT=>?_;¶;ŝ[zai ha,six4];¤zpM (λ_=>⟨l3,S, .refl,q4 _ ¢ h0⟩) λ_=>?_;subst hT;¤zmU λT hT=>?_;¶;ŝ[zai ha,zBH,six4];¤zpM (λ_=>⟨l2,l3,S, .refl,q5 _ _ ¢ ¢ h0⟩) λ_=>?_;subst hT;¤zmU λT hT=>?_;¶;ŝ[zai ha,zCq];¤zpM (λ_=>⟨l2,S, .refl,q2 _ ¢⟩) λ_=>?_;subst hT;¶;ŝ[zai ha,zDg];§⟨l3,S, .refl,q3 _ ¢ h0⟩
þ zub{n:Int}{h c d:Str}(H:∀(p:Addr) (k:Nat),S p=none→Q (.ref p) (put S p (.lst (encs (leftsL k h c d))))):zdd (r+1) [.int n, .str h, .str c, .str d] S Q E:=by
 rw[zdd,zgg];¤⟨rfl,?_⟩;have l1:1≤sizeLine:=zak £;have l2:2≤sizeLine:=zak £;have l3:3≤sizeLine:=zak £;have l4:4≤sizeLine:=zak £;¤zmU λT hT=>?_;¶;¤zpM (λ_=>⟨l2,l1,λp hp=>⟨_, .refl,by simpa only[leftsL,enc,encs]using H p 0 hp⟩⟩) λ_=>?_
 subst hT;¤zmU λT hT=>?_;¶;¤zpM (λ_=>⟨l3,l1,λp hp=>⟨_, .refl,by simpa only[leftsL,enc,encs]using H p 1 hp⟩⟩) λ_=>?_
 subst hT;¤zmU λT hT=>?_;¶;¤zpM (λ_=>⟨l1,l2,l2,l2,l2,λp hp=>⟨_, .refl,by simpa only[leftsL,enc,encs]using H p 2 hp⟩⟩) λ_=>?_
 subst hT;¤zmU λT hT=>?_;¶;¤zpM (λ_=>⟨l1,l3,l2,l3,l2,λp hp=>⟨_, .refl,by simpa only[leftsL,enc,encs]using H p 3 hp⟩⟩) λ_=>?_
 subst hT;¤zmU λT hT=>?_;¶;¤zpM (λ_=>⟨l2,l2,l4,l1,l2,l4,l2,λp hp=>⟨_, .refl,by simpa only[leftsL,enc,encs]using H p 4 hp⟩⟩) λ_=>?_
 subst hT;¶;§⟨l1,l1,λp hp=>⟨_, .refl,by simpa only[leftsL,enc,encs]using H p 5 hp⟩⟩
end
section
variable {w0 w1 w2 w3 w4 w5:Str}{tt:List Str}{ns:List Int}{aw at' ab al:Addr}{r:Nat}{E:WX}{D:WEnds}{k j:Int}
þ znP (h6:tt.length=6) (k0:0≤k) (j0:0≤j):∀(ls:List Tr) {i:Nat}{C:List Tn}{S:Sto}{G:Sto→Prop}{x7 x8 x9:Option W},(∀L∈ls,L.depth≤4∧L.weight≤7)→C.length+ls.length≤6→S ab=some (.lst (C.map zba))→S aw=some (.lst (six w0 w1 w2 w3 w4 w5))→S at'=some (.lst (tt.map W.str))→ab≠aw→ab≠at'→
  (∀o,G (put S ab o))→
  (∀(C':List Tn) (x7 x8 x9:Option W),C'.map (λt=>t.2.1)=ls→(C.map (λt=>t.1)=tt.take C.length→(C++C').map (λt=>t.1)=tt.take (C++C').length)→(∀t∈C',RightT ω t.2.1.nb t.2.2)→D.nx [some (.scr ns),some (.int k),some (.ref aw),some (.ref at'),some (.ref ab),some (.int j),some (.ref al),x7,x8,x9] (put S ab (.lst ((C++C').map zba))))→
  forL (wGT (zaE (wGN 7) (zaE (wGN 8) zdY))) (zeG (r+6) zaJ) E D G (ziQ i (encs ls)) [some (.scr ns),some (.int k),some (.ref aw),some (.ref at'),some (.ref ab),some (.int j),some (.ref al),x7,x8,x9] S
 | [],i,C,S,G,x7,x8,x9,hL,hl,hb,hw,ht,n1,n2,hG,h=>by
  ŝ[encs,ziQ,forL];have:=h [] x7 x8 x9 rfl (λz=>by simpa using z) (λ_ h=>nomatch h)
  rw[List.append_nil,zeX hb]at this;§this
 |L::ls,i,C,S,G,x7,x8,x9,hL,hl,hb,hw,ht,n1,n2,hG,h=>by
  have hLd:=hL L List.mem_cons_self;simp only[List.length_cons]at hl;ŝ[encs,ziQ];¤zbt λN hN=>?_;ŝ[zeG];¶;¤⟨.inl ⟨£,£⟩,zeV ¥ λdraw=>zjM 4 hLd.1 ¥ ¥ (zsN hw λR hR=>?_)⟩
  try ¶
  ø⟨ti,eti,_⟩:=zwI (ss:=tt) (i:=(C.length:Int)) ¥ ¥;ŝ[zai hb,zai ht,List.length_map,eti,true_and];¤⟨zak £,zbC ¥,?_⟩;¤hN _ _ (put S ab (.lst ((C++[(ti,L,R)]).map zba))) (by rw[List.map_append];§.refl) (hG _) ?_;¤znP h6 k0 j0 ls (C:=C++[(ti,L,R)]) (λM hM=>hL M (List.mem_cons_of_mem _ hM)) (by simp;omega) zag (by rw[zaF (Ne.symm n1)];§hw) (by rw[zaF (Ne.symm n2)];§ht) n1 n2 (λo=>by rw[zaX];§hG o) λC' x7 x8 x9 e1 e2 e3=>?_
  rw[zaX];have:=h ((ti,L,R)::C') x7 x8 x9 (by rw[List.map_cons,e1]) (λz=>?_) (λt ht'=>?_)
  ·simpa using this
  ·have e:C++[(ti,L,R)]++C'=C++(ti,L,R)::C':=by simp
   rw[e]at e2;¤e2 ?_;rw[List.map_append,z,List.length_append,List.length_singleton,List.take_succ];congr 1;have e4:(tt.map W.str)[C.length]? =some (.str ti):=by rw[←zcz];§eti
   rw[List.getElem?_map]at e4;cases q:tt[C.length]? with
   |none=>rw[q]at e4;cases e4
   |some y=>rw[q]at e4;cases e4;rfl
  ·rcases List.mem_cons.mp ht' with rfl |z
   ·§hR
   ·§e3 t z
þ zmz (n:Nat) (h c d:Str):∀L∈leftsL n h c d,L.depth≤4∧L.weight≤7:=by
 intro L hL;unfold leftsL at hL;split at hL<;>simp only[List.mem_cons,List.not_mem_nil,or_false]at hL
 all_goals first
  | (subst hL;simp [Tr.depth,dts,Tr.weight,wts])
  | (rcases hL with rfl |rfl<;>simp [Tr.depth,dts,Tr.weight,wts])
þ zfK (n:Nat) (h c d:Str):1≤(leftsL n h c d).length∧(leftsL n h c d).length≤2:=by
 unfold leftsL;split<;>simp
ñ def hdOf (w0 w1:Str) (j:Nat):Str:=if j=0 then w0 else w1
þ zwT{S:Sto}{Q:WK}{E:Str→Sto→Prop}(h6:tt.length=6) (k0:0≤k) (hw:S aw=some (.lst (six w0 w1 w2 w3 w4 w5))) (ht:S at'=some (.lst (tt.map W.str)))
  (h:∀(p:Addr) (B:List Tn) (n m:Nat),S p=none→B.map (λt=>t.2.1)=leftsL n w0 w2 w3++leftsL m w1 w2 w3→B.map (λt=>t.1)=tt.take B.length→(∀t∈B,RightT ω t.2.1.nb t.2.2)→Q (.ref p) (put S p (.lst (B.map zba)))):zcT (r+7) [.scr ns, .int k, .ref aw, .ref at'] S Q E:=by
 rw[show r+7=r+6+1 from rfl,zcT];¶;¤⟨Nat.zero_le _,λab hb=>⟨⟨£,£⟩,?_⟩⟩
 ¤zrg (λi σ S'=>∃(B:List Tn) (f:Nat→Nat) (x5 x6 x7 x8 x9:Option W),B.map (λt=>t.2.1)=(List.range i).flatMap (λj=>leftsL (f j) (hdOf w0 w1 j) w2 w3)∧B.map (λt=>t.1)=tt.take B.length∧(∀t∈B,RightT ω t.2.1.nb t.2.2)∧S'=put S ab (.lst (B.map zba))∧
  σ=[some (.scr ns),some (.int k),some (.ref aw),some (.ref at'),some (.ref ab),x5,x6,x7,x8,x9]) 2 ?_ ?_ ⟨[],λ_=>0,none,none,none,none,none,rfl,rfl,(λ_ h=>nomatch h),rfl,rfl⟩
 ·rintro j hj σ S' N ⟨B,f,x5,x6,x7,x8,x9,e1,e2,e3,rfl,rfl⟩ hN;have fw:put S ab (Ob.lst (B.map zba)) aw=some (.lst (six w0 w1 w2 w3 w4 w5)):=keep hw hb;have ft:put S ab (Ob.lst (B.map zba)) at'=some (.lst (tt.map W.str)):=keep ht hb;have fb:put S ab (Ob.lst (B.map zba)) ab=some (.lst (B.map zba)):=zag;have n1:ab≠aw:=λz=>by rw[z,hw]at hb;cases hb
  have n2:ab≠at':=λz=>by rw[z,ht]at hb;cases hb
  have eh:atI (six w0 w1 w2 w3 w4 w5) (j:Int)=some (.str (hdOf w0 w1 j)):=by
   rcases(show j=0∨j=1 by omega) with rfl |rfl<;>rfl
  ŝ[zfU];¶;¤zeV ¥ λdraw=>?_;¶;ŝ[zai fw,eh,six2,zBH];¤⟨£,zub λal n hal=>?_⟩;have hl:=zfK n (hdOf w0 w1 j) w2 w3;have hB:B.length≤4:=by
   have:=congrArg List.length e1;rw[List.length_map]at this;rcases(show j=0∨j=1 by omega) with rfl |rfl
   ·simp at this;rw[this];simp
   ·simp at this;have:=zfK (f 0) (hdOf w0 w1 0) w2 w3;omega
  have nal:al≠ab:=λz=>by rw[z,fb]at hal;cases hal
  try ¶
  ¤znP h6 k0 ¥ (leftsL n (hdOf w0 w1 j) w2 w3) (zmz _ _ _ _) ¥ (keep fb hal) (keep fw hal) (keep ft hal) n1 n2 (λo=>?_) λC' x7 x8 x9 g1 g2 g3=>?_
  ·rw[zaF nal,zag]
  ·¤hN _ _ (put S ab (.lst ((B++C').map zba))) ?_ ⟨B++C',λi=>if i=j then n else f i,_,_,_,_,_,?_,g2 e2,λt ht'=>?_,rfl,rfl⟩
   ·rw[znA nal];§.put .refl (by rw[zaF nal];§(zdT hal).1)
   ·rw[List.map_append,e1,g1,List.range_succ,List.flatMap_append];congr 1
    ·rw[List.flatMap_def,List.flatMap_def];congr 1;¤List.map_congr_left λi hi=>?_;have:=List.mem_range.mp hi;dsimp only;rw[if_neg ¥]
    ·simp
   ·rcases List.mem_append.mp ht' with z |z
    ·§e3 t z
    ·§g3 t z
 ·rintro σ S' ⟨B,f,x5,x6,x7,x8,x9,e1,e2,e3,rfl,rfl⟩;¶;¤⟨_, .refl,h ab B (f 0) (f 1) hb ?_ e2 e3⟩;rw[e1];simp [List.range_succ,hdOf]
end
ñ def signB (x:Str):Bool:=decide (1≤x.cps.toList.length)&&(decide (x.cps.toList.length≤8)&&small x.cps.toList)
þ zrL (xs:List Nat):small xs=true↔ ∀c∈xs,Low c:=by
 unfold small;rw[List.all_eq_true];ŝ[ziF,Low,Bool.and_eq_true,decide_eq_true_eq]
þ zgn (x:Str):signB x=true↔zcw x:=by
 unfold signB zcw;rw[Bool.and_eq_true,Bool.and_eq_true,decide_eq_true_eq,decide_eq_true_eq,zrL]
þ zfg{x y:Str}(h:zcw x) (g:zdl y):x≠y:=by
 rintro rfl;ø⟨c,r,e,h1,h2,_⟩:=g;have:=h.2.2 c (by rw[e];§List.mem_cons_self);unfold Low at this;omega
þ zrN{y:Str}(g:zdl y):1≤y.cps.toList.length∧y.cps.toList.length≤8:=by
 ø⟨c,r,e,h1,h2,h3,_⟩:=g;rw[e,List.length_cons];omega
mutual
ñ def Tr.hd (P:Str→Prop):Tr→Prop
 | .bl _=>False
 | .nd s ts=>P s∧hds P ts
ñ def hds (P:Str→Prop):List Tr→Prop
 | []=>True
 |t::ts=>t.hd P∧hds P ts
end
mutual
ñ def Tr.hb (P:Str→Prop):Tr→Prop
 | .bl _=>True
 | .nd s ts=>P s∧hbs P ts
ñ def hbs (P:Str→Prop):List Tr→Prop
 | []=>True
 |t::ts=>t.hb P∧hbs P ts
end
þ hds_iff{P:Str→Prop}:∀{ts:List Tr},hds P ts↔ ∀t∈ts,t.hd P
 | []=>by simp [hds]
 |t::ts=>by simp [hds,hds_iff (ts:=ts)]
mutual
þ zhC{P P':Str→Prop}(h:∀s,P s→P' s):∀(t:Tr),t.hd P→t.hd P'
 | .bl _,q=>by simp [Tr.hd]at q
 | .nd s ts,q=>by
  simp only[Tr.hd]at q⊢;§⟨h s q.1,znH h ts q.2⟩
þ znH{P P':Str→Prop}(h:∀s,P s→P' s):∀(ts:List Tr),hds P ts→hds P' ts
 | [],_=>by simp [hds]
 |t::ts,q=>by
  simp only[hds]at q⊢;§⟨zhC h t q.1,znH h ts q.2⟩
end
mutual
þ zrx{P P':Str→Prop}(h:∀s,P s→P' s):∀(t:Tr),t.hb P→t.hb P'
 | .bl _,q=>by simp [Tr.hb]
 | .nd s ts,q=>by
  simp only[Tr.hb]at q⊢;§⟨h s q.1,znh h ts q.2⟩
þ znh{P P':Str→Prop}(h:∀s,P s→P' s):∀(ts:List Tr),hbs P ts→hbs P' ts
 | [],_=>by simp [hbs]
 |t::ts,q=>by
  simp only[hbs]at q⊢;§⟨zrx h t q.1,znh h ts q.2⟩
end
mutual
þ zjf{P:Str→Prop}{us:List Tr}(hu:∀u∈us,u.hd P):∀(t:Tr),t.hb P→t.fits us.length→(t.fill us).hd P
 | .bl n,h,f=>by
  simp only[Tr.fits]at f;ŝ[Tr.fill];rw[List.getD_eq_getElem?_getD,List.getElem?_eq_getElem (show n.toNat<us.length by omega)]
  §hu _ (List.getElem_mem ..)
 | .nd s ts,h,f=>by
  simp only[Tr.fits]at f;simp only[Tr.hb]at h;ŝ[Tr.fill,Tr.hd];§⟨h.1,zng hu ts h.2 f⟩
þ zng{P:Str→Prop}{us:List Tr}(hu:∀u∈us,u.hd P):∀(ts:List Tr),hbs P ts→fitss us.length ts→hds P (fills us ts)
 | [],h,f=>by simp [fills,hds]
 |t::ts,h,f=>by
  simp only[fitss]at f;simp only[hbs]at h;ŝ[fills,hds];§⟨zjf hu t h.1 f.1,zng hu ts h.2 f.2⟩
end
structure RightW (ws:List Str) (m:Nat) (t:Tr):Prop where
  dp:t.depth≤4
  fits:t.fits m
  hb:∀{P:Str→Prop},(∀x∈ws,P x)→t.hb P
  wt:t.weight≤7
ñ def Slim (B:List Tn):Prop:=∀t∈B,∀(us:List Tr) (M:Nat),us.length=t.2.1.nb→1≤M→(∀u∈us,u.weight≤M)→(t.2.2.fill us).weight≤2+2*M∧(t.2.1.nb=0→(t.2.2.fill us).weight≤1+M)
structure BookOk (w0 w1 w2 w3 w4 w5:Str) (tt:List Str) (B:List Tn):Prop where
  lf:∃n m:Nat,B.map (λt=>t.2.1)=leftsL n w0 w2 w3++leftsL m w1 w2 w3
  ti:B.map (λt=>t.1)=tt.take B.length
  ri:∀t∈B,RightW ω t.2.1.nb t.2.2
structure LeftT (P:Str→Prop) (L:Tr):Prop where
  hb:L.hb P
  fits:L.fits L.nb
  wt:L.weight≤L.nb+3
  dp:L.depth≤4
  nb:L.nb≤3
  nd:∃s ts,L= .nd s ts
  fw:∀us:List Tr,us.length=L.nb→(L.fill us).weight≤3+wts us
  fw0:L.nb=0→(L.fill []).weight≤2
þ zhr{P:Str→Prop}{n:Nat}{h c d:Str}(hh:P h) (hc:P c) (hd:P d):∀L∈leftsL n h c d,LeftT P L:=by
 unfold leftsL;intro L hL;split at hL<;>simp only[List.mem_cons,List.not_mem_nil,or_false]at hL
 all_goals first
  | (subst hL;§⟨by simp [Tr.hb,hbs,hh,hc,hd],by simp [Tr.fits,fitss,Tr.nb,nbs],by simp [Tr.weight,wts,Tr.nb,nbs],by simp [Tr.depth,dts],by simp [Tr.nb,nbs],⟨_,_,rfl⟩,λus hu=>by rcases us with _ |⟨u,_ |⟨v,_ |⟨x,_ |⟨y,us⟩⟩⟩⟩<;>simp [Tr.nb,nbs,Tr.fill,fills,Tr.weight,wts]at hu⊢ <;>omega,λh0=>by simp [Tr.nb,nbs,Tr.fill,fills,Tr.weight,wts]at h0⊢⟩)
  | (rcases hL with rfl |rfl<;>§⟨by simp [Tr.hb,hbs,hh,hc,hd],by simp [Tr.fits,fitss,Tr.nb,nbs],by simp [Tr.weight,wts,Tr.nb,nbs],by simp [Tr.depth,dts],by simp [Tr.nb,nbs],⟨_,_,rfl⟩,λus hu=>by rcases us with _ |⟨u,_ |⟨v,_ |⟨x,_ |⟨y,us⟩⟩⟩⟩<;>simp [Tr.nb,nbs,Tr.fill,fills,Tr.weight,wts]at hu⊢ <;>omega,λh0=>by simp [Tr.nb,nbs,Tr.fill,fills,Tr.weight,wts]at h0⊢⟩)
section
variable {w0 w1 w2 w3 w4 w5:Str}{tt:List Str}{B:List Tn}
þ BookOk.len (b:BookOk w0 w1 w2 w3 w4 w5 tt B):2≤B.length∧B.length≤4:=by
 ø⟨n,m,e⟩:=b.lf;have h1:=zfK n w0 w2 w3;have h2:=zfK m w1 w2 w3;have e':=congrArg List.length e;rw[List.length_map,List.length_append]at e';omega
þ BookOk.left (b:BookOk w0 w1 w2 w3 w4 w5 tt B) {P:Str→Prop}(h0:P w0) (h1:P w1) (h2:P w2) (h3:P w3) {t:Tn}(ht:t∈B):LeftT P t.2.1:=by
 ø⟨n,m,e⟩:=b.lf;have:t.2.1∈leftsL n w0 w2 w3++leftsL m w1 w2 w3:=by rw[←e];§List.mem_map.mpr ⟨t,ht,rfl⟩
 rcases List.mem_append.mp this with z |z
 ·§zhr h0 h2 h3 _ z
 ·§zhr h1 h2 h3 _ z
þ BookOk.nodup (b:BookOk w0 w1 w2 w3 w4 w5 tt B) (T:Titles tt):(B.map λt=>t.1).Nodup:=by
 rw[b.ti];§List.Nodup.sublist (List.take_sublist ..) T.nd
þ BookOk.mem (b:BookOk w0 w1 w2 w3 w4 w5 tt B) {t:Tn}(ht:t∈B):t.1∈tt:=by
 have:t.1∈B.map λt=>t.1:=List.mem_map.mpr ⟨t,ht,rfl⟩;rw[b.ti]at this;§List.mem_of_mem_take this
end
ñ def zaO (B:List Tn) (s:Str):Option Tn:=B.find? λt=>t.1 == s
þ zcJ:∀{B:List Tn}{t:Tn},(B.map λt=>t.1).Nodup→t∈B→zaO B t.1=some t
 |u::B,t,hn,ht=>by
  unfold zaO;rw[List.map_cons,List.nodup_cons]at hn;rw[List.find?_cons];rcases List.mem_cons.mp ht with rfl |ht
  ·simp
  ·have hne:u.1≠t.1:=λz=>hn.1 (by rw[z];§List.mem_map.mpr ⟨t,ht,rfl⟩);have:(u.1 == t.1)=false:=by simpa using hne
   rw[this];§zcJ hn.2 ht
þ zib{B:List Tn}{s:Str}(h:∀t∈B,t.1≠s):zaO B s=none:=by
 unfold zaO;rw[List.find?_eq_none];intro t ht;simpa using h t ht
ñ def topB (B:List Tn) (s:Str) (n:Nat):Bool:=match zaO B s with
 |none=>signB s
 |some t=>n == t.2.1.nb
mutual
ñ def Tr.way (B:List Tn):Tr→Bool
 | .bl _=>false
 | .nd s ts=>topB B s ts.length&&zgN B ts
ñ def zgN (B:List Tn):List Tr→Bool
 | []=>true
 |t::ts=>t.way B&&zgN B ts
end
mutual
ñ def Tr.quiet:Tr→Bool
 | .bl _=>false
 | .nd s ts=>signB s&&zfr ts
ñ def zfr:List Tr→Bool
 | []=>true
 |t::ts=>t.quiet&&zfr ts
end
þ zjr (B:List Tn):∀ts:List Tr,zgN B ts=ts.all (Tr.way B)
 | []=>by simp [zgN]
 |t::ts=>by simp [zgN,zjr B ts]
þ ziX:∀ts:List Tr,zfr ts=ts.all Tr.quiet
 | []=>by simp [zfr]
 |t::ts=>by simp [zfr,ziX ts]
mutual
þ ziW:∀t:Tr,t.hd zcw→t.quiet=true
 | .bl n,h=>by simp [Tr.hd]at h
 | .nd s ts,h=>by
  simp only[Tr.hd]at h;rw[Tr.quiet,(zgn s).mpr h.1,zis ts h.2];rfl
þ zis:∀ts:List Tr,hds zcw ts→zfr ts=true
 | [],h=>by simp [zfr]
 |t::ts,h=>by
  simp only[hds]at h;rw[zfr,ziW t h.1,zis ts h.2];rfl
end
mutual
þ zjL{B:List Tn}(hB:∀t∈B,zdl t.1) {us:List Tr}(hu:∀u∈us,u.way B=true):∀(t:Tr),t.hb zcw→t.fits us.length→(t.fill us).way B=true
 | .bl n,h,f=>by
  simp only[Tr.fits]at f;ŝ[Tr.fill];rw[List.getD_eq_getElem?_getD,List.getElem?_eq_getElem (show n.toNat<us.length by omega)]
  §hu _ (List.getElem_mem ..)
 | .nd s ts,h,f=>by
  simp only[Tr.fits]at f;simp only[Tr.hb]at h;ŝ[Tr.fill,Tr.way];rw[zlK hB hu ts h.2 f,topB,zib λt ht=>(zfg h.1 (hB t ht)).symm,(zgn s).mpr h.1];rfl
þ zlK{B:List Tn}(hB:∀t∈B,zdl t.1) {us:List Tr}(hu:∀u∈us,u.way B=true):∀(ts:List Tr),hbs zcw ts→fitss us.length ts→zgN B (fills us ts)=true
 | [],h,f=>by simp [fills,zgN]
 |t::ts,h,f=>by
  simp only[fitss]at f;simp only[hbs]at h;rw[fills,zgN,zjL hB hu t h.1 f.1,zlK hB hu ts h.2 f.2];rfl
end
inductive Pl where
  |nd (k bits:Int) (head:Str) (ps:List Pl)
mutual
ñ def Pl.wt:Pl→Nat
 | .nd _ _ _ ps=>1+pwts ps
ñ def pwts:List Pl→Nat
 | []=>0
 |p::ps=>p.wt+pwts ps
end
mutual
ñ def Pl.dp:Pl→Nat
 | .nd _ _ _ ps=>1+zoP ps
ñ def zoP:List Pl→Nat
 | []=>0
 |p::ps=>max p.dp (zoP ps)
end
mutual
ñ def Pl.nt:Pl→Nat
 | .nd k _ _ ps=>(if k<0 then 0 else 1)+pnts ps
ñ def pnts:List Pl→Nat
 | []=>0
 |p::ps=>p.nt+pnts ps
end
inductive PlOk (ws:List Str) (B:List Tn):Pl→Prop
 |sign {b:Int}{h:Str}{ps:List Pl}:h∈ws→(∀p∈ps,PlOk ws B p)→PlOk ws B (.nd (-1) b h ps)
 |turn {k:Nat}{b:Int}{h:Str}{ps:List Pl}{t:Tn}:B[k]? =some t→ps.length=t.2.1.nb→0≤b→b<8→(∀p∈ps,PlOk ws B p)→PlOk ws B (.nd k b h ps)
mutual
ñ def Pl.ev (B:List Tn) (c:Int→Nat):Pl→Tr
 | .nd k b h ps=>if k<0 then .nd h (evs B c ps) else match c b with
  |0=>(B.getD k.toNat (h, .bl 0, .bl 0)).2.1.fill (evs B c ps)
  |1=> .nd (B.getD k.toNat (h, .bl 0, .bl 0)).1 (evs B c ps)
  |_=>(B.getD k.toNat (h, .bl 0, .bl 0)).2.2.fill (evs B c ps)
ñ def evs (B:List Tn) (c:Int→Nat):List Pl→List Tr
 | []=>[]
 |p::ps=>p.ev B c::evs B c ps
end
þ zmL (B:List Tn) (c:Int→Nat):∀ps:List Pl,evs B c ps=ps.map (Pl.ev B c)
 | []=>by simp [evs]
 |p::ps=>by simp [evs,zmL B c ps]
þ zdb:∀ps qs:List Pl,pwts (ps++qs)=pwts ps+pwts qs
 | [],qs=>by simp [pwts]
 |p::ps,qs=>by simp [pwts,zdb ps qs];omega
þ zcn:∀ps qs:List Pl,pnts (ps++qs)=pnts ps+pnts qs
 | [],qs=>by simp [pnts]
 |p::ps,qs=>by simp [pnts,zcn ps qs];omega
þ zhg{p:Pl}:∀{ps:List Pl},p∈ps→p.dp≤zoP ps
 |q::ps,h=>by
  rcases List.mem_cons.mp h with rfl |h
  ·simp [zoP];omega
  ·have:=zhg h;simp [zoP];omega
mutual
þ zoc:∀p:Pl,p.dp≤p.wt
 | .nd k b h ps=>by have:=zpP ps;simp [Pl.dp,Pl.wt];omega
þ zpP:∀ps:List Pl,zoP ps≤pwts ps
 | []=>by simp [zoP]
 |p::ps=>by have:=zoc p;have:=zpP ps;simp [zoP,pwts];omega
end
þ zwR (p:Pl):1≤p.dp:=by cases p;simp [Pl.dp]
þ zwY (p:Pl):1≤p.wt:=by cases p;simp [Pl.wt]
þ zbp{B:List Tn}{c:Int→Nat}{b:Int}{h:Str}{ps:List Pl}:(Pl.nd (-1) b h ps).ev B c= .nd h (ps.map (Pl.ev B c)):=by
 rw[Pl.ev,if_pos £,zmL]
ñ def evT (t:Tn) (n:Nat) (us:List Tr):Tr:=match n with
 |0=>t.2.1.fill us
 |1=> .nd t.1 us
 |_=>t.2.2.fill us
þ zaU{B:List Tn}{c:Int→Nat}{b:Int}{h:Str}{ps:List Pl}{k:Nat}{t:Tn}(e:B[k]? =some t):(Pl.nd k b h ps).ev B c=evT t (c b) (ps.map (Pl.ev B c)):=by
 rw[Pl.ev,if_neg ¥,zmL,Int.toNat_natCast,List.getD_eq_getElem?_getD,e];rfl
section
variable {ws:List Str}{m:Nat}{t:Tr}
þ zds (h:Item ws m t):t.depth=1:=by
 cases h<;>simp [Tr.depth,dts]
þ zmD (h:RightT ws m t):t.depth≤3:=by
 cases h with
 |one h=>rw[zds h];decide
 |un hs h=>simp [Tr.depth,dts,zds h]
 |two hs h0 h h'=>simp [Tr.depth,dts,zds h,zds h']
 |deep hs hz h0 h h'=>simp [Tr.depth,dts,zds h,zds h']
þ zem (h:Item ws m t):t.fits m:=by
 cases h with
 |bl h0 h1=>§⟨h0,h1⟩
 |nd hs=>simp [Tr.fits,fitss]
þ zoZ (h:RightT ws m t):t.fits m:=by
 cases h with
 |one h=>§zem h
 |un hs h=>simp [Tr.fits,fitss,zem h]
 |two hs h0 h h'=>simp [Tr.fits,fitss,zem h,zem h']
 |deep hs hz h0 h h'=>simp [Tr.fits,fitss,zem h,zem h']
þ zgE{P:Str→Prop}(hP:∀x∈ws,P x) (h:Item ws m t):t.hb P:=by
 cases h with
 |bl h0 h1=>simp [Tr.hb]
 |nd hs=>simp [Tr.hb,hbs,hP _ hs]
þ ztI{P:Str→Prop}(hP:∀x∈ws,P x) (h:RightT ws m t):t.hb P:=by
 cases h with
 |one h=>§zgE hP h
 |un hs h=>simp [Tr.hb,hbs,zgE hP h,hP _ hs]
 |two hs h0 h h'=>simp [Tr.hb,hbs,zgE hP h,zgE hP h',hP _ hs]
 |deep hs hz h0 h h'=>simp [Tr.hb,hbs,zgE hP h,zgE hP h',hP _ hs,hP _ hz]
þ zcP (h:Item ws m t):t.weight=1:=by
 cases h<;>simp [Tr.weight,wts]
þ zlJ (h:RightT ws m t):t.weight≤4:=by
 cases h with
 |one h=>rw[zcP h];decide
 |un hs h=>simp [Tr.weight,wts,zcP h]
 |two hs h0 h h'=>simp [Tr.weight,wts,zcP h,zcP h']
 |deep hs hz h0 h h'=>simp [Tr.weight,wts,zcP h,zcP h']
þ zdZ (h:Item ws m t) {us:List Tr}{M:Nat}(hl:us.length=m) (hM:1≤M) (hu:∀u∈us,u.weight≤M):(t.fill us).weight≤M:=by
 cases h with
 | @bl n h0 h1=>
  ŝ[Tr.fill];rw[List.getD_eq_getElem?_getD,List.getElem?_eq_getElem (show n.toNat<us.length by omega)]
  §hu _ (List.getElem_mem ..)
 |nd hs=>simp [Tr.fill,fills,Tr.weight,wts];omega
þ zoO (h:RightT ws m t) {us:List Tr}{M:Nat}(hl:us.length=m) (hM:1≤M) (hu:∀u∈us,u.weight≤M):(t.fill us).weight≤2+2*M∧(m=0→(t.fill us).weight≤1+M):=by
 cases h with
 |one h=>
  have:=zdZ h hl hM hu;omega
 |un hs h=>
  have:=zdZ h hl hM hu;ŝ[Tr.fill,fills,Tr.weight,wts];omega
 |two hs h0 h h'=>
  have:=zdZ h hl hM hu;have:=zdZ h' hl hM hu;ŝ[Tr.fill,fills,Tr.weight,wts];omega
 |deep hs hz h0 h h'=>
  have:=zdZ h hl hM hu;have:=zdZ h' hl hM hu;ŝ[Tr.fill,fills,Tr.weight,wts];omega
end
þ RightT.w{ws:List Str}{m:Nat}{t:Tr}(h:RightT ws m t):RightW ws m t:=⟨Nat.le_succ_of_le (zmD h),zoZ h,λhP=>ztI hP h,Nat.le_trans (zlJ h) £⟩
þ zwg{ws:List Str}{B:List Tn}(h:∀t∈B,RightT ws t.2.1.nb t.2.2):Slim B:=λt ht us M hl hM hu=>zoO (h t ht) hl hM hu
structure BkOk (ws hs:List Str) (B:List Tn):Prop where
  ti:∀t∈B,zdl t.1
  nd:(B.map λt=>t.1).Nodup
  sg:∀x∈ws,zcw x
  sb:∀x∈hs,x∈ws
  lf:∀t∈B,LeftT zcw t.2.1
  ri:∀t∈B,RightW ws t.2.1.nb t.2.2
þ BookOk.bk{w0 w1 w2 w3 w4 w5:Str}{tt:List Str}{B:List Tn}(b:BookOk w0 w1 w2 w3 w4 w5 tt B) (T:Titles tt) (G:Signs w0 w1 w2 w3 w4 w5):BkOk ω [w2,w3,w4,w5] B:=
 ⟨λt ht=>T.ok _ (b.mem ht),b.nodup T,G.ok,λx hx=>List.mem_cons_of_mem _ (List.mem_cons_of_mem _ hx),λt ht=>b.left (G.ok _ ¢) (G.ok _ ¢) (G.ok _ ¢) (G.ok _ ¢) ht,b.ri⟩
section
variable {ws hs:List Str}{B:List Tn}{c:Int→Nat}
þ zzd (b:BkOk ws hs B) {p:Pl}(h:PlOk hs B p):(p.ev B c).way B=true:=by
 induction h with
 | @sign b' h ps hh hp ih=>
  rw[zbp,Tr.way,topB,zib λt ht=>(zfg (b.sg h (b.sb h hh)) (b.ti t ht)).symm,zjr,(zgn h).mpr (b.sg h (b.sb h hh))];ŝ[List.all_map,Bool.true_and,List.all_eq_true];§λp hp=>ih p hp
 | @turn k b' h ps t e hl b0 b1 hp ih=>
  have ht:t∈B:=List.mem_of_getElem? e;have hu:∀u∈ps.map (Pl.ev B c),u.way B=true:=λu hu=>by
   ø⟨p,hp,rfl⟩:=List.mem_map.mp hu;§ih p hp
  rw[zaU e];unfold evT;split
  ·§zjL b.ti hu _ (b.lf t ht).hb (by rw[List.length_map,hl];§(b.lf t ht).fits)
  ·rw[Tr.way,topB,zcJ b.nd ht,zjr];ŝ[List.length_map,hl,beq_self_eq_true,Bool.true_and,List.all_eq_true];§hu
  ·§zjL b.ti hu _ ((b.ri t ht).hb b.sg) (by rw[List.length_map,hl];§(b.ri t ht).fits)
þ zka{p:Pl}:∀{ps:List Pl},p∈ps→p.nt≤pnts ps
 |q::ps,h=>by
  rcases List.mem_cons.mp h with rfl |h
  ·simp [pnts]
  ·have:=zka h;simp [pnts];omega
þ znG{p:Pl}:∀{ps:List Pl},p∈ps→p.wt≤pwts ps
 |q::ps,h=>by
  rcases List.mem_cons.mp h with rfl |h
  ·simp [pwts]
  ·have:=znG h;simp [pwts];omega
þ zlS (n:Nat):1≤2 ^ n:=Nat.one_le_two_pow
end
mutual
ñ def Tr.mk (B:List Tn) (g:Tn→Tr):Tr→Tr
 | .bl n=> .bl n
 | .nd s ts=>match zaO B s with
  |none=> .nd s (mks B g ts)
  |some t=>(g t).fill (mks B g ts)
ñ def mks (B:List Tn) (g:Tn→Tr):List Tr→List Tr
 | []=>[]
 |t::ts=>t.mk B g::mks B g ts
end
þ zgw (B:List Tn) (g:Tn→Tr):∀ts:List Tr,mks B g ts=ts.map (Tr.mk B g)
 | []=>by simp [mks]
 |t::ts=>by simp [mks,zgw B g ts]
þ zhO{B:List Tn}{g:Tn→Tr}{s:Str}{ts:List Tr}(h:zaO B s=none):(Tr.nd s ts).mk B g= .nd s (ts.map (Tr.mk B g)):=by
 rw[Tr.mk,h,zgw]
þ zhM{B:List Tn}{g:Tn→Tr}{s:Str}{ts:List Tr}{t:Tn}(h:zaO B s=some t):(Tr.nd s ts).mk B g=(g t).fill (ts.map (Tr.mk B g)):=by
 rw[Tr.mk,h,zgw]
þ zbd{B:List Tn}(hB:∀t∈B,zdl t.1) {s:Str}(h:zcw s):zaO B s=none:=zib λt ht=>(zfg h (hB t ht)).symm
mutual
þ zfN{B:List Tn}{g:Tn→Tr}(hB:∀t∈B,zdl t.1):∀t:Tr,t.hd zcw→t.mk B g=t
 | .bl n,h=>by simp [Tr.hd]at h
 | .nd s ts,h=>by
  simp only[Tr.hd]at h;rw[Tr.mk,zbd hB h.1,zkU hB ts h.2]
þ zkU{B:List Tn}{g:Tn→Tr}(hB:∀t∈B,zdl t.1):∀ts:List Tr,hds zcw ts→mks B g ts=ts
 | [],h=>by simp [mks]
 |t::ts,h=>by
  simp only[hds]at h;rw[mks,zfN hB t h.1,zkU hB ts h.2]
end
mutual
þ zjV{B:List Tn}{g:Tn→Tr}(hB:∀t∈B,zdl t.1) {us:List Tr}:∀t:Tr,t.hb zcw→t.fits us.length→(t.fill us).mk B g=t.fill (us.map (Tr.mk B g))
 | .bl n,h,f=>by
  simp only[Tr.fits]at f;ŝ[Tr.fill];rw[List.getD_eq_getElem?_getD,List.getD_eq_getElem?_getD,List.getElem?_map,List.getElem?_eq_getElem (show n.toNat<us.length by omega)]
  rfl
 | .nd s ts,h,f=>by
  simp only[Tr.hb]at h;simp only[Tr.fits]at f;ŝ[Tr.fill];rw[Tr.mk,zbd hB h.1];ŝ[];rw[zoA hB ts h.2 f]
þ zoA{B:List Tn}{g:Tn→Tr}(hB:∀t∈B,zdl t.1) {us:List Tr}:∀ts:List Tr,hbs zcw ts→fitss us.length ts→mks B g (fills us ts)=fills (us.map (Tr.mk B g)) ts
 | [],h,f=>by simp [fills,mks]
 |t::ts,h,f=>by
  simp only[hbs]at h;simp only[fitss]at f;rw[fills,mks,fills,zjV hB t h.1 f.1,zoA hB ts h.2 f.2]
end
section
variable {ws hs:List Str}{B:List Tn}{c d:Int→Nat}
þ zzN (b:BkOk ws hs B) {g:Tn→Tr}(hg:∀t∈B,∀x:Int,0≤x→x<8→c x=1→ ∀us,(g t).fill us=evT t (d x) us) (h0:∀x:Int,0≤x→x<8→c x≠1→d x=c x) {p:Pl}(h:PlOk hs B p):(p.ev B c).mk B g=p.ev B d:=by
 induction h with
 | @sign b' h ps hh hp ih=>
  rw[zbp,zbp,zhO (zbd b.ti (b.sg h (b.sb h hh))),List.map_map];congr 1;§List.map_congr_left λp hp=>ih p hp
 | @turn k b' h ps t e hl b0 b1 hp ih=>
  have ht:t∈B:=List.mem_of_getElem? e;have em:(ps.map (Pl.ev B c)).map (Tr.mk B g)=ps.map (Pl.ev B d):=by
   rw[List.map_map];§List.map_congr_left λp hp=>ih p hp
  rw[zaU e,zaU e];by_cases hc:c b'=1
  ·rw[←hg t ht b' b0 b1 hc,hc];show(Tr.nd t.1 _).mk B g=_;rw[zhM (zcJ b.nd ht),em]
  ·rw[h0 b' b0 b1 hc];unfold evT;split
   ·rw[zjV b.ti _ (b.lf t ht).hb (by rw[List.length_map,hl];§(b.lf t ht).fits),em]
   ·rename_i z;§absurd z hc
   ·rw[zjV b.ti _ ((b.ri t ht).hb b.sg) (by rw[List.length_map,hl];§(b.ri t ht).fits),em]
ñ def zmp (c:Int→Nat):Int→Nat:=λx=>if c x=1 then 0 else c x
ñ def zeg (c:Int→Nat):Int→Nat:=λx=>if c x=1 then 2 else c x
þ ziO (b:BkOk ws hs B) {p:Pl}(h:PlOk hs B p):(p.ev B c).mk B (λt=>t.2.1)=p.ev B (zmp c):=
 zzN b (λt ht x _ _ hx us=>by rw[zmp,if_pos hx];rfl) (λx _ _ hx=>by rw[zmp,if_neg hx]) h
þ zgH (b:BkOk ws hs B) {p:Pl}(h:PlOk hs B p):(p.ev B c).mk B (λt=>t.2.2)=p.ev B (zeg c):=
 zzN b (λt ht x _ _ hx us=>by rw[zeg,if_pos hx];rfl) (λx _ _ hx=>by rw[zeg,if_neg hx]) h
þ zeC{p:Pl}(h:PlOk hs B p) (hc:∀x:Int,0≤x→x<8→c x=d x):p.ev B c=p.ev B d:=by
 induction h with
 | @sign b' h ps hh hp ih=>
  rw[zbp,zbp];congr 1;§List.map_congr_left λp hp=>ih p hp
 | @turn k b' h ps t e hl b0 b1 hp ih=>
  rw[zaU e,zaU e,hc b' b0 b1];congr 1;§List.map_congr_left λp hp=>ih p hp
end
þ znv{n:Nat}{h c d:Str}{L:Tr}(hL:L∈leftsL n h c d) {us:List Tr}(hu:us.length=L.nb):L.mt (L.fill us)=some us:=by
 unfold leftsL at hL;split at hL<;>simp only[List.mem_cons,List.not_mem_nil,or_false]at hL
 all_goals first
  | (subst hL;rcases us with _ |⟨u,_ |⟨v,_ |⟨x,_ |⟨y,us⟩⟩⟩⟩<;>simp [Tr.nb,nbs,Tr.fill,fills,Tr.mt,mts]at hu⊢ <;>omega)
  | (rcases hL with rfl |rfl<;>rcases us with _ |⟨u,_ |⟨v,_ |⟨x,_ |⟨y,us⟩⟩⟩⟩<;>simp [Tr.nb,nbs,Tr.fill,fills,Tr.mt,mts]at hu⊢ <;>omega)
ñ def zAn (B:List Tn):Prop:=∀t∈B,∀us:List Tr,us.length=t.2.1.nb→t.2.1.mt (t.2.1.fill us)=some us
þ BookOk.mt{w0 w1 w2 w3 w4 w5:Str}{tt:List Str}{B:List Tn}(b:BookOk w0 w1 w2 w3 w4 w5 tt B):zAn B:=λt ht us hu=>by
 ø⟨n,m,e⟩:=b.lf;have:t.2.1∈leftsL n w0 w2 w3++leftsL m w1 w2 w3:=by rw[←e];§List.mem_map.mpr ⟨t,ht,rfl⟩
 rcases List.mem_append.mp this with z |z
 ·§znv z hu
 ·§znv z hu
mutual
inductive Mv (B:List Tn):Nat→Tr→Tr→Tr→Prop
 |nn {n:Nat}{s z:Str}{ts us cs:List Tr}:zaO B s=none→zaO B z=none→Mvs B n ts us cs→Mv B (n+1) (.nd s ts) (.nd z us) (.nd s cs)
 |ns {n:Nat}{s z:Str}{ts us cs ms:List Tr}{t:Tn}:zaO B s=none→zaO B z=some t→t.2.1.mt (.nd s ts)=some ms→cs.length=t.2.1.nb→Mvs B n ms us cs→Mv B (n+1) (.nd s ts) (.nd z us) (t.2.2.fill cs)
 |sn {n:Nat}{s z:Str}{ts us cs ms:List Tr}{t:Tn}:zaO B s=some t→zaO B z=none→t.2.1.mt (.nd z us)=some ms→Mvs B n ts ms cs→Mv B (n+1) (.nd s ts) (.nd z us) (.nd s cs)
 |ss {n:Nat}{s z:Str}{ts us cs:List Tr}{t t':Tn}:zaO B s=some t'→zaO B z=some t→cs.length=t.2.1.nb→Mvs B n ts us cs→Mv B (n+1) (.nd s ts) (.nd z us) (t.2.2.fill cs)
inductive Mvs (B:List Tn):Nat→List Tr→List Tr→List Tr→Prop
 |nil {n:Nat}:Mvs B n [] [] []
 |cons {n:Nat}{a b c:Tr}{as bs cs:List Tr}:Mv B n a b c→Mvs B n as bs cs→Mvs B n (a::as) (b::bs) (c::cs)
end
mutual
þ Mv.monoA{B:List Tn}:∀{n:Nat}{a b c:Tr},Mv B n a b c→ ∀m,n≤m→Mv B m a b c
 |_,_,_,_, .nn h1 h2 h3=>λm h=>by
  obtain⟨m,rfl⟩:∃m',m=m'+1:=⟨m - 1,¥⟩
  §.nn h1 h2 (Mvs.monoA h3 m ¥)
 |_,_,_,_, .ns h1 h2 h3 h4 h5=>λm h=>by
  obtain⟨m,rfl⟩:∃m',m=m'+1:=⟨m - 1,¥⟩
  §.ns h1 h2 h3 h4 (Mvs.monoA h5 m ¥)
 |_,_,_,_, .sn h1 h2 h3 h4=>λm h=>by
  obtain⟨m,rfl⟩:∃m',m=m'+1:=⟨m - 1,¥⟩
  §.sn h1 h2 h3 (Mvs.monoA h4 m ¥)
 |_,_,_,_, .ss h1 h2 h3 h4=>λm h=>by
  obtain⟨m,rfl⟩:∃m',m=m'+1:=⟨m - 1,¥⟩
  §.ss h1 h2 h3 (Mvs.monoA h4 m ¥)
þ Mvs.monoA{B:List Tn}:∀{n:Nat}{a b c:List Tr},Mvs B n a b c→ ∀m,n≤m→Mvs B m a b c
 |_,_,_,_, .nil=>λ_ _=> .nil
 |_,_,_,_, .cons h1 h2=>λm h=> .cons (Mv.monoA h1 m h) (Mvs.monoA h2 m h)
end
þ Mv.mono{B:List Tn}{n m:Nat}{a b c:Tr}(h:n≤m) (M:Mv B n a b c):Mv B m a b c:=Mv.monoA M m h
þ Mvs.mono{B:List Tn}{n m:Nat}{a b c:List Tr}(h:n≤m) (M:Mvs B n a b c):Mvs B m a b c:=Mvs.monoA M m h
þ Mvs.get{B:List Tn}{n:Nat}:∀{as bs cs:List Tr}{i:Nat},Mvs B n as bs cs→i<cs.length→ ∃a b c,as[i]? =some a∧bs[i]? =some b∧cs[i]? =some c∧Mv B n a b c
 |_,_,_,i, .nil,h=>by simp at h
 |_,_,_,0, .cons h1 _,h=>⟨_,_,_,rfl,rfl,rfl,h1⟩
 |_,_,_,i+1, .cons _ h2,h=>by
  ø⟨a,b,c,e1,e2,e3,q⟩:=Mvs.get (i:=i) h2 (by simpa using h);§⟨a,b,c,by simpa using e1,by simpa using e2,by simpa using e3,q⟩
þ Mvs.of{B:List Tn}{n:Nat}{α:Type}{f g h:α→Tr}:∀(xs:List α),(∀x∈xs,Mv B n (f x) (g x) (h x))→Mvs B n (xs.map f) (xs.map g) (xs.map h)
 | [],_=> .nil
 |x::xs,q=> .cons (q x List.mem_cons_self) (Mvs.of xs λy hy=>q y (List.mem_cons_of_mem _ hy))
mutual
þ zmw{B:List Tn}(hB:∀t∈B,zdl t.1) {n:Nat}{us vs cs:List Tr}(h:Mvs B n us vs cs):∀t:Tr,t.hb zcw→t.fits cs.length→Mv B (n+t.depth) (t.fill us) (t.fill vs) (t.fill cs)
 | .bl k,q,f=>by
  simp only[Tr.fits]at f;ø⟨a,b,c,e1,e2,e3,m⟩:=h.get (i:=k.toNat) ¥;ŝ[Tr.fill,List.getD_eq_getElem?_getD,e1,e2,e3,Option.getD_some];§m.mono ¥
 | .nd s ts,q,f=>by
  simp only[Tr.hb]at q;simp only[Tr.fits]at f;have:=zoy hB h ts q.2 f;ŝ[Tr.fill,Tr.depth];rw[show n+(1+dts ts)=n+dts ts+1 by omega]
  §.nn (zbd hB q.1) (zbd hB q.1) this
þ zoy{B:List Tn}(hB:∀t∈B,zdl t.1) {n:Nat}{us vs cs:List Tr}(h:Mvs B n us vs cs):∀ts:List Tr,hbs zcw ts→fitss cs.length ts→Mvs B (n+dts ts) (fills us ts) (fills vs ts) (fills cs ts)
 | [],q,f=>by ŝ[fills];§.nil
 |t::ts,q,f=>by
  simp only[hbs]at q;simp only[fitss]at f;have h1:=zmw hB h t q.1 f.1;have h2:=zoy hB h ts q.2 f.2;ŝ[fills,dts];§.cons (h1.mono ¥) (h2.mono ¥)
end
ñ def ziv (c d:Int→Nat):Int→Nat:=λx=>if d x=1 then 2 else c x
þ zgy{ws hs:List Str}{B:List Tn}{c d:Int→Nat}(b:BkOk ws hs B) (hm:zAn B) (hc:∀x:Int,0≤x→x<8→(c x≤1∧d x≤1)∨(c x=2∧d x=2)) {p:Pl}(h:PlOk hs B p):Mv B (p.dp+3*p.nt) (p.ev B c) (p.ev B d) (p.ev B (ziv c d)):=by
 induction h with
 | @sign b' h ps hh hp ih=>
  rw[zbp,zbp,zbp,Pl.dp,Pl.nt,if_pos £,show 1+zoP ps+3*(0+pnts ps)=zoP ps+3*pnts ps+1 by omega]
  ¤.nn (zbd b.ti (b.sg h (b.sb h hh))) (zbd b.ti (b.sg h (b.sb h hh))) (.of ps λp hp=>(ih p hp).mono ?_);have:=zhg hp;have:=zka hp;omega
 | @turn k b' h ps t e hl b0 b1 hp ih=>
  have ht:t∈B:=List.mem_of_getElem? e;have en:(Pl.nd k b' h ps).nt=1+pnts ps:=by rw[Pl.nt,if_neg ¥]
  have M:Mvs B (zoP ps+3*pnts ps) (ps.map (Pl.ev B c)) (ps.map (Pl.ev B d)) (ps.map (Pl.ev B (ziv c d))):= .of ps λp hp=>(ih p hp).mono (by
   have:=zhg hp;have:=zka hp;omega)
  have lc:(ps.map (Pl.ev B (ziv c d))).length=t.2.1.nb:=by rw[List.length_map,hl]
  have l1:(ps.map (Pl.ev B c)).length=t.2.1.nb:=by rw[List.length_map,hl]
  have l2:(ps.map (Pl.ev B d)).length=t.2.1.nb:=by rw[List.length_map,hl]
  have tt:=zcJ b.nd ht;have L:=b.lf t ht;have R:=b.ri t ht;have hd:=L.dp;rw[zaU e,zaU e,zaU e,Pl.dp,en,show 1+zoP ps+3*(1+pnts ps)=zoP ps+3*pnts ps+3+1 by omega]
  have lsign:∀us,∃s ts,t.2.1.fill us= .nd s ts∧zaO B s=none:=λus=>by
   ø⟨s,ts,el⟩:=L.nd;have hb:=L.hb;rw[el,Tr.hb]at hb;§⟨s,fills us ts,by rw[el,Tr.fill],zbd b.ti hb.1⟩
  have hp:ziv c d b'=if d b'=1 then 2 else c b':=rfl;rw[hp];rcases hc b' b0 b1 with⟨c1,d1⟩ |⟨c2,d2⟩
  ·by_cases dz:d b'=1
   ·rw[if_pos dz,dz];by_cases cz:c b'=1
    ·rw[cz];§.ss tt tt lc (M.mono ¥)
    ·rw[show c b'=0 by omega]
     ø⟨s,ts,es,hs⟩:=lsign (ps.map (Pl.ev B c));have:=hm t ht _ l1;ŝ[evT];rw[es]at this⊢;§.ns hs tt this lc (M.mono ¥)
   ·rw[if_neg dz,show d b'=0 by omega]
    by_cases cz:c b'=1
    ·rw[cz];ø⟨s,ts,es,hs⟩:=lsign (ps.map (Pl.ev B d));have:=hm t ht _ l2;ŝ[evT];rw[es]at this⊢;§.sn tt hs this (M.mono ¥)
    ·rw[show c b'=0 by omega]
     ŝ[evT];§(zmw b.ti M _ L.hb (by rw[lc];§L.fits)).mono ¥
  ·rw[d2,if_neg £,c2];ŝ[evT];have:=R.dp;§(zmw b.ti M _ (R.hb b.sg) (by rw[lc];§R.fits)).mono ¥
þ zsD{P:Str→Prop}:∀{ts us:List Tr},hds P ts→hds P us→hds P (ts++us)
 | [],us,_,h=>h
 |t::ts,us,h,g=>by
  simp only[hds,List.cons_append]at h⊢;§⟨h.1,zsD h.2 g⟩
mutual
inductive PlAt (S:Sto):Pl→W→Prop
 |nd {k b:Int}{h:Str}{ps:List Pl}{a:Addr}{vs:List W}:S a=some (.lst vs)→PlsAt S ps vs→PlAt S (.nd k b h ps) (.tup [.int k, .int b, .str h, .ref a])
inductive PlsAt (S:Sto):List Pl→List W→Prop
 |nil:PlsAt S [] []
 |cons {p:Pl}{v:W}{ps:List Pl}{vs:List W}:PlAt S p v→PlsAt S ps vs→PlsAt S (p::ps) (v::vs)
end
mutual
þ PlAt.sub{S S':Sto}(h:Sub S S'):∀{p:Pl}{v:W},PlAt S p v→PlAt S' p v
 |_,_, .nd e q=> .nd (h _ _ e) (PlsAt.sub h q)
þ PlsAt.sub{S S':Sto}(h:Sub S S'):∀{ps:List Pl}{vs:List W},PlsAt S ps vs→PlsAt S' ps vs
 |_,_, .nil=> .nil
 |_,_, .cons a b=> .cons (PlAt.sub h a) (PlsAt.sub h b)
end
section
variable {S:Sto}
þ PlsAt.len:∀{ps:List Pl}{vs:List W},PlsAt S ps vs→ps.length=vs.length
 |_,_, .nil=>rfl
 |_,_, .cons _ h=>congrArg (· +1) (PlsAt.len h)
þ PlsAt.app:∀{ps qs:List Pl}{vs us:List W},PlsAt S ps vs→PlsAt S qs us→PlsAt S (ps++qs) (vs++us)
 |_,_,_,_, .nil,h=>h
 |_,_,_,_, .cons a b,h=> .cons a (PlsAt.app b h)
þ PlsAt.take:∀(n:Nat) {ps:List Pl}{vs:List W},PlsAt S ps vs→PlsAt S (ps.take n) (vs.take n)
 |0,_,_,_=> .nil
 |_+1,_,_, .nil=> .nil
 |n+1,_,_, .cons a b=> .cons a (PlsAt.take n b)
þ PlsAt.drop:∀(n:Nat) {ps:List Pl}{vs:List W},PlsAt S ps vs→PlsAt S (ps.drop n) (vs.drop n)
 |0,_,_,h=>h
 |_+1,_,_, .nil=> .nil
 |n+1,_,_, .cons _ b=>PlsAt.drop n b
þ PlsAt.rep{p:Pl}{v:W}(h:PlAt S p v):∀n:Nat,PlsAt S (List.replicate n p) (List.replicate n [v]).flatten
 |0=> .nil
 |n+1=>by
  rw[List.replicate_succ,List.replicate_succ,List.flatten_cons];§.cons h (PlsAt.rep h n)
end
ñ def pad (w:Str):Pl:= .nd (-1) 0 w []
ñ def zcb (need:Nat) (w:Str) (ps:List Pl):List Pl:=List.replicate (need - ps.length) (pad w)++ps
ñ def push (need:Nat) (w:Str) (k b:Int) (h:Str) (ps:List Pl):List Pl:=
 (zcb need w ps).take ((zcb need w ps).length - need)++[.nd k b h ((zcb need w ps).drop ((zcb need w ps).length - need))]
þ zny (w:Str):∀n:Nat,pwts (List.replicate n (pad w))=n
 |0=>by simp [pwts]
 |n+1=>by rw[List.replicate_succ,pwts,zny w n];simp [pad,Pl.wt,pwts];omega
þ zow (w:Str):∀n:Nat,pnts (List.replicate n (pad w))=0
 |0=>by simp [pnts]
 |n+1=>by rw[List.replicate_succ,pnts,zow w n];simp [pad,Pl.nt,pnts]
þ zho:∀ps:List Pl,ps.length≤pwts ps
 | []=>by simp
 |p::ps=>by have:=zho ps;have:=zwY p;simp [pwts];omega
þ zfk (need:Nat) (w:Str) (ps:List Pl):(zcb need w ps).length=need - ps.length+ps.length:=by simp [zcb]
þ zqK{need:Nat}{w:Str}{k b:Int}{h:Str}{ps:List Pl}:pwts (push need w k b h ps)=need - ps.length+pwts ps+1∧pnts (push need w k b h ps)=pnts ps+(if k<0 then 0 else 1)∧(push need w k b h ps).length=need - ps.length+ps.length - need+1:=by
 have hl:=zfk need w ps;have h1:pwts (zcb need w ps)=need - ps.length+pwts ps:=by rw[zcb,zdb,zny]
 have h2:pnts (zcb need w ps)=pnts ps:=by rw[zcb,zcn,zow];omega
 have h3:=zdb ((zcb need w ps).take ((zcb need w ps).length - need)) ((zcb need w ps).drop ((zcb need w ps).length - need));have h4:=zcn ((zcb need w ps).take ((zcb need w ps).length - need)) ((zcb need w ps).drop ((zcb need w ps).length - need));rw[List.take_append_drop]at h3 h4;unfold push;¤⟨?_,?_,?_⟩
 ·rw[zdb,pwts,pwts,Pl.wt];omega
 ·rw[zcn,pnts,pnts,Pl.nt];omega
 ·rw[List.length_append,List.length_take,List.length_singleton,hl];omega
þ zpA{need:Nat}{w:Str}(ps:List Pl):((zcb need w ps).drop ((zcb need w ps).length - need)).length=need:=by
 have hl:=zfk need w ps;rw[List.length_drop,hl];omega
þ zlh{ws:List Str}{B:List Tn}{need:Nat}{w:Str}{ps:List Pl}(hw:w∈ws) (h:∀p∈ps,PlOk ws B p):∀p∈zcb need w ps,PlOk ws B p:=λp hp=>by
 rcases List.mem_append.mp hp with z |z
 ·rw[(List.mem_replicate.mp z).2];§.sign hw λq hq=>by cases hq
 ·§h p z
þ zvo{ws:List Str}{B:List Tn}{need:Nat}{w:Str}{k b:Int}{h:Str}{ps:List Pl}(hw:w∈ws) (hp:∀p∈ps,PlOk ws B p) (hn:∀qs:List Pl,qs.length=need→(∀q∈qs,PlOk ws B q)→PlOk ws B (.nd k b h qs)):∀p∈push need w k b h ps,PlOk ws B p:=λp hq=>by
 rcases List.mem_append.mp hq with z |z
 ·§zlh hw hp p (List.mem_of_mem_take z)
 ·rw[List.mem_singleton.mp z];§hn _ (zpA ps) λq hq=>zlh hw hp q (List.mem_of_mem_drop hq)
ñ def zta:WS:=(zcq (znO (wTb (wOp oGt (wVar 3) (wC (.int 0)))) (wTb (wOp oLt (wVar 5) (wC (.int 5))))) (zat (wAsg (wOp (zfX λi j=> .int (i - j)) (wVar 3) (wC (.int 1))) (wGN 3))
  (zat (wAsg (zdm (ztW (ztX (zdL (zab (zce (zab (zlP (wC (.int 1))) (zab (wC (.int 0)) (zab (wOp oIx (wVar 2) (wC (.int 2))) (zab (zdm (zdL waNil)) waNil))))) waNil)) (wOp (zfX λi j=> .int (i - j)) (wVar 8) (wB zfI (zab (wVar 4) waNil)))) (wVar 4))) (wGN 4))
  (zat (wAsg (wOp (zfX λi j=> .int (i - j)) (wB zfI (zab (wVar 4) waNil)) (wVar 8)) (wGN 11))
  (wAsg (zdm (zoQ (zxD (wVar 4) woN (woS (wVar 11))) (zdL (zab (wOp zeo (wVar 9) (zce (zab (wSl (wVar 4) (woS (wVar 11)) woN) waNil))) waNil)))) (wGN 4))))) wNext)
þ zrs{r:Nat}:zfM r zaJ=(zat (wAsg (wOp (zdt (λ_ j=>0<j) λi j=> .int (i % j)) (wVar 6) (wC (.int 8))) (wGN 7))
  (zat (wAsg (ztV (zdL (zab (wC (.int 0)) (zab (wC (.int 0)) (zab (wC (.int 1)) (zab (wC (.int 2)) waNil))))) (wB zky (zab (wVar 7) (zab (wC (.int 3)) waNil)))) (wGN 8))
  (zat (wAsg (zce (zab (zlP (wC (.int 1))) (zab (wC (.int 0)) (zab (wOp oIx (wVar 2) (ztV (zdL (zab (wC (.int 2)) (zab (wC (.int 5)) (zab (wC (.int 3)) (zab (wC (.int 4)) waNil))))) (wB zky (zab (wVar 7) (zab (wC (.int 3)) waNil))))) waNil)))) (wGN 9))
  (zat (zcq (wTb (wOp oGt (wVar 7) (wC (.int 3)))) (zat (wAsg (wOp (zdt (λ_ j=>0<j) λi j=> .int (i % j)) (wOp (zdt ziZ λi j=> .int (i / j)) (wVar 6) (wC (.int 8))) (wB zfI (zab (wVar 1) waNil))) (wGN 10))
  (zat (wAsg (zan (zaD r) (zab (wOp oIx (wOp oIx (wVar 1) (wVar 10)) (wC (.int 1))) waNil)) (wGN 8))
  (zat (wAsg (zce (zab (wVar 10) (zab (wOp (zdt (λ_ j=>0<j) λi j=> .int (i % j)) (wOp (zdt ziZ λi j=> .int (i / j)) (wVar 6) (wC (.int 64))) (wC (.int 8))) (zab (wC (.str "")) waNil)))) (wGN 9))
  (wAsg (wOp zeo (wVar 5) (wC (.int 1))) (wGN 5))))) wNext)
  zta)))):=rfl
section
variable {w0 w1 w2 w3 w4 w5:Str}{r:Nat}{S:Sto}{aw st:Addr}{E:WX}{D:WEnds}
þ zqd{need:Nat}{k b room spent:Int}{h:Str}{ps:List Pl}{vs:List W}{x0 x1 x6 x7 x10 x11:Option W}(hw:S aw=some (.lst (six w0 w1 w2 w3 w4 w5))) (hst:S st=some (.lst vs)) (hp:PlsAt S ps vs) (hn:need≤3) (hl:ps.length≤100)
  (h1:D.nx [x0,x1,some (.ref aw),some (.int room),some (.ref st),some (.int spent),x6,x7,some (.int need),some (.tup [.int k, .int b, .str h]),x10,x11] S)
  (h2:0<room→spent<5→ ∀(st':Addr) (S':Sto) (vs':List W) (x11:Option W),Sub S S'→S' st'=some (.lst vs')→PlsAt S' (push need w2 k b h ps) vs'→D.nx [x0,x1,some (.ref aw),some (.int (room - 1)),some (.ref st'),some (.int spent),x6,x7,some (.int need),some (.tup [.int k, .int b, .str h]),x10,x11] S') :
  zta E D [x0,x1,some (.ref aw),some (.int room),some (.ref st),some (.int spent),x6,x7,some (.int need),some (.tup [.int k, .int b, .str h]),x10,x11] S:=by
 unfold zta;¶;split
 ·rename_i c1;split
  ·rename_i c2;ŝ[zai hw,six2];have f1:=λ(a:Addr) (ha:S a=none)=>keep (x:=Ob.lst []) hst ha;¤⟨Nat.zero_le _,λa ha=>⟨zak £,zak £,?_⟩⟩;rw[zai (f1 a ha),zai (f1 a ha)];have hlen:=hp.len;have en:((need:Int) - (vs.length:Int)).toNat=need - ps.length:=by omega
   rw[en];have pa:PlAt (put S a (Ob.lst [])) (pad w2) (.tup [.int (-1), .int 0, .str w2, .ref a]):= .nd zag .nil;have pp:PlsAt (put S a (Ob.lst [])) (zcb need w2 ps) ((List.replicate (need - ps.length) [W.tup [.int (-1), .int 0, .str w2, .ref a]]).flatten++vs):=(PlsAt.rep pa _).app (hp.sub (.put .refl ha));have pl:=pp.len;have sub1:Sub S (put S a (Ob.lst [])):= .put .refl ha;have hfl:((List.replicate (need - ps.length) [W.tup [.int (-1), .int 0, .str w2, .ref a]]).flatten).length≤3:=by
    rw[List.length_append,zfk]at pl;omega
   have e0:(1*(need - ps.length))≤sizeLine:=zak ¥;¤⟨⟨¥,¥,e0⟩,zak ¥,?_⟩
   generalize (List.replicate (need - ps.length) [W.tup [.int (-1), .int 0, .str w2, .ref a]]).flatten++vs=ys at pp pl⊢;generalize put S a (Ob.lst [])=S1 at pp sub1⊢;intro b2 hb2;have sub2:Sub S1 (put S1 b2 (.lst ys)):= .put .refl hb2;generalize put S1 b2 (Ob.lst ys)=S2 at sub2⊢;have hpl:=zfk need w2 ps;have ea:((ys.length:Nat):Int) - (need:Int)=((ys.length - need:Nat):Int):=by omega
   rw[ea,znI,zon];intro p hp3;have sub3:Sub S2 (put S2 p (.lst (ys.drop (ys.length - need)))):= .put .refl hp3;have fp:put S2 p (Ob.lst (ys.drop (ys.length - need))) p=some (.lst (ys.drop (ys.length - need))):=zag;generalize put S2 p (Ob.lst (ys.drop (ys.length - need)))=S3 at sub3 fp⊢;¤⟨zak £,zak £,zak £,zak (by rw[List.length_take];omega),λq hq=>?_⟩;have sub4:Sub S3 (put S3 q (.lst (ys.take (ys.length - need)++[.tup [.int k, .int b, .str h, .ref p]]))):= .put .refl hq;¤h2 c1 c2 q _ _ _ (((sub1.trans sub2).trans sub3).trans sub4) zag ?_;unfold push;have pp3:=pp.sub ((sub2.trans sub3).trans sub4);rw[←pl]at *;§(pp3.take _).app (.cons (.nd (sub4 _ _ fp) (pp3.drop _)) .nil)
  ·§h1
 ·§h1
þ zxg (n:Int) (h0:0≤n) (h1:n<8):∃m:Nat,m≤2∧atI [W.int 0,W.int 0,W.int 1,W.int 2] (if 3<n then 3 else n)=some (.int (m:Int)):=by
 rcases(show n=0∨n=1∨n=2∨(3≤n) by omega) with rfl |rfl |rfl |h
 ·§⟨0,£,rfl⟩
 ·§⟨0,£,rfl⟩
 ·§⟨1,£,rfl⟩
 ·have:(if 3<n then 3 else n)=3:=by split<;>omega
  rw[this];§⟨2,£,rfl⟩
þ zwu (n:Int) (h0:0≤n) (h1:n<8):∃(i:Int) (x:Str),x∈ [w2,w3,w4,w5]∧atI [W.int 2,W.int 5,W.int 3,W.int 4] (if 3<n then 3 else n)=some (.int i)∧atI (six w0 w1 w2 w3 w4 w5) i=some (.str x):=by
 rcases(show n=0∨n=1∨n=2∨(3≤n) by omega) with rfl |rfl |rfl |h
 ·§⟨2,w2,¢,rfl,rfl⟩
 ·§⟨5,w5,¢,rfl,rfl⟩
 ·§⟨3,w3,¢,rfl,rfl⟩
 ·have:(if 3<n then 3 else n)=3:=by split<;>omega
  rw[this];§⟨4,w4,¢,rfl,rfl⟩
inductive PlI (S:Sto) (ac ab aw:Addr) (hs:List Str) (B:List Tn) (m:Nat) (ws:List W) (σ:WSt) (S':Sto):Prop
 |mk (ns:List Int) (ps:List Pl) (vs:List W) (st:Addr) (room spent:Int) (x6 x7 x8 x9 x10 x11:Option W):ws=ns.map W.int→Sub S S'→S' st=some (.lst vs)→PlsAt S' ps vs→(∀p∈ps,PlOk hs B p)→0≤room→room≤m→(pnts ps:Int)≤spent→pnts ps≤4→(pwts ps:Int)+ps.length≤2*(m - room)+pnts ps+2→
  σ=[some (.ref ac),some (.ref ab),some (.ref aw),some (.int room),some (.ref st),some (.int spent),x6,x7,x8,x9,x10,x11]→PlI S ac ab aw hs B m ws σ S'
inductive PlW (S:Sto) (hs:List Str) (B:List Tn) (m:Nat) (f:Addr→WSt) (mm:Nat) (σ:WSt) (S2:Sto):Prop
 |mk (ps:List Pl) (vs:List W) (st:Addr):mm=ps.length→Sub S S2→S2 st=some (.lst vs)→PlsAt S2 ps vs→(∀p∈ps,PlOk hs B p)→pnts ps≤4→pwts ps+ps.length≤2*m+pnts ps+2→σ=f st→PlW S hs B m f mm σ S2
þ ztt{m:Nat}(hm9:m≤9) {Q:WK}{X:Str→Sto→Prop}{ac ab:Addr}{cells:List Int}{B:List Tn}(hc:S ac=some (.lst (cells.map W.int))) (hb:S ab=some (.lst (B.map zba))) (hw:S aw=some (.lst (six w0 w1 w2 w3 w4 w5))) (bk:BkOk ω [w2,w3,w4,w5] B) (hB:B≠ [])
  (h:∀(p:Pl) (v:W) (S':Sto),Sub S S'→PlAt S' p v→PlOk [w2,w3,w4,w5] B p→p.wt≤2*m+1+p.nt→p.nt≤4→Q v S'):zda (r+10) [.ref ac, .ref ab, .ref aw, .int m] S Q X:=by
 rw[show r+10=r+9+1 from rfl,zda];¶;¤⟨Nat.zero_le _,λst0 hst0=>?_⟩;rw[zai (keep hc hst0)];¤zmr (PlI S ac ab aw [w2,w3,w4,w5] B m) ?_ ?_ _ _ _ ⟨cells,[],[],st0,m,0,none,none,none,none,none,none,rfl, .put .refl hst0,zag, .nil,(λ_ h=>nomatch h),¥,¥,by simp [pnts],by simp [pnts],by simp [pnts,pwts],rfl⟩
 ·rintro w ws σ S' N ⟨ns,ps,vs,st,room,spent,x6,x7,x8,x9,x10,x11,ew,sub,hst,hp,ok,r0,r1,p0,p1,p2,rfl⟩ hN;cases ns with
  |nil=>cases ew
  |cons n ns=>
  cases ew;have fw:=sub _ _ hw;have fb:=sub _ _ hb;have fc:=sub _ _ hc;have m0:0≤n % 8:=Int.emod_nonneg _ £;have m1:n % 8<8:=Int.emod_lt_of_pos _ £;have hpl:=zho ps;ø⟨need,hneed,en⟩:=zxg (n % 8) m0 m1;ø⟨i,hd,hhd,e1,e2⟩:=zwu (w0:=w0) (w1:=w1) (w2:=w2) (w3:=w3) (w4:=w4) (w5:=w5) (n % 8) m0 m1;have go:∀(need:Nat) (k b:Int) (hh:Str) (sp:Int) (x10:Option W),need≤3→(∀qs:List Pl,qs.length=need→(∀q∈qs,PlOk [w2,w3,w4,w5] B q)→PlOk [w2,w3,w4,w5] B (.nd k b hh qs))→(k<0∧need≤2∧sp=spent∨ ¬k<0∧sp=spent+1)→
    ∀(E:WX) (D:WEnds),D.nx=N→zta E D [some (.ref ac),some (.ref ab),some (.ref aw),some (.int room),some (.ref st),some (.int sp),some (.int n),some (.int (n % 8)),some (.int need),some (.tup [.int k, .int b, .str hh]),x10,x11] S':=λneed k b hh sp x10 hn hok hk E D hD=>by
   subst hD;¤zqd fw hst hp hn ¥ ?_ λc1 c2 st' S2 vs' x11 sub2 hst2 hp2=>?_
   ·¤hN _ _ S' .refl fc ⟨ns,ps,vs,st,room,sp,_,_,_,_,_,_,rfl,sub,hst,hp,ok,r0,r1,¥,p1,p2,rfl⟩
   ·ø⟨s1,s2,s3⟩:=zqK (need:=need) (w:=w2) (k:=k) (b:=b) (h:=hh) (ps:=ps);have hz:ps.length=0→pwts ps=0∧pnts ps=0:=λz=>by
     cases ps with
     |nil=>§⟨rfl,rfl⟩
     |cons _ _=>simp at z
    have fin:(pnts (push need w2 k b hh ps):Int)≤sp→pnts (push need w2 k b hh ps)≤4→(pwts (push need w2 k b hh ps):Int)+(push need w2 k b hh ps).length≤2*(m - (room - 1))+pnts (push need w2 k b hh ps)+2→D.nx [some (.ref ac),some (.ref ab),some (.ref aw),some (.int (room - 1)),some (.ref st'),some (.int sp),some (.int n),some (.int (n % 8)),some (.int need),some (.tup [.int k, .int b, .str hh]),x10,x11] S2:=λf1 f2 f3=>
     hN _ _ S2 .refl (sub2 _ _ fc) ⟨ns,_,vs',st',room - 1,sp,_,_,_,_,_,_,rfl,sub.trans sub2,hst2,hp2,zvo ¢ ok hok,¥,¥,f1,f2,f3,rfl⟩
    rcases hk with⟨kn,n2,es⟩ |⟨kp,es⟩
    ·rw[if_pos kn]at s2;¤fin ¥ ¥ ?_;rcases Nat.eq_zero_or_pos ps.length with z |z
     ·have:=hz z;omega
     ·omega
    ·rw[if_neg kp]at s2;¤fin ¥ ¥ ?_;rcases Nat.eq_zero_or_pos ps.length with z |z
     ·have:=hz z;omega
     ·omega
  rw[zrs];¶;ŝ[en,e1];¶;ŝ[zai fw,e2];¤⟨£,zak £,zak £,zak £,?_⟩;split
  ·have hbl:(B.map zba)≠ []:=by simpa using hB
   ø⟨j,x,ej,ex⟩:=zpX (n / 8) hbl;have hlt:0<(B.map zba).length:=List.length_pos_iff.mpr hbl;have ek:n / 8 % ((B.map zba).length:Int)=(((n / 8 % ((B.map zba).length:Int)).toNat:Nat):Int):=by
    have:=Int.emod_nonneg (n / 8) (show((B.map zba).length:Int)≠0 by omega)
    omega
   have ek2:=zcz (xs:=B.map zba) (n:=(n / 8 % ((B.map zba).length:Int)).toNat);rw[←ek,ex,List.getElem?_map]at ek2;cases et:B[(n / 8 % ((B.map zba).length:Int)).toNat]? with
   |none=>rw[et]at ek2;cases ek2
   |some t=>
    rw[et]at ek2;have ext:x= .tup [.str t.1,enc t.2.1,enc t.2.2]:=by cases ek2;rfl
    have ht:t∈B:=List.mem_of_getElem? et;have LT:=bk.lf t ht;have hLd:=LT.dp;have hLw:=LT.wt;have hLn:=LT.nb;ŝ[zai fb,ex,ext];¶;rw[show atI [W.str t.1,enc t.2.1,enc t.2.2] 1=some (enc t.2.1) from rfl];¤⟨⟨£,£⟩,¥,?_⟩
    ¤zjM 4 hLd ¥ ¥ ⟨⟨£,£⟩,£,zak £,?_⟩
    have b0:0≤n / 64 % 8:=Int.emod_nonneg _ £;have b1:n / 64 % 8<8:=Int.emod_lt_of_pos _ £;¤go t.2.1.nb _ _ _ _ _ hLn (λqs hq hqs=>?_) (.inr ⟨¥,rfl⟩) _ _ rfl;rw[ek];§.turn et hq b0 b1 hqs
  ·§go need (-1) 0 hd spent _ ¥ (λqs hq hqs=> .sign hhd hqs) (.inl ⟨£,hneed,rfl⟩) _ _ rfl
 ·rintro σ S' ⟨ns,ps,vs,st,room,spent,x6,x7,x8,x9,x10,x11,ew,sub,hst,hp,ok,r0,r1,p0,p1,p2,rfl⟩;have hpl:=zho ps;¤⟨PlW S [w2,w3,w4,w5] B m (λst=>[some (.ref ac),some (.ref ab),some (.ref aw),some (.int room),some (.ref st),some (.int spent),x6,x7,x8,x9,x10,x11]),⟨_,ps,vs,st,rfl,sub,hst,hp,ok,p1,¥,rfl⟩,?_⟩
  rintro mm σ S2 ⟨ps,vs,st,rfl,sub,hst,hp,ok,p1,p2,rfl⟩;have hlen:=hp.len;have fw:=sub _ _ hw;¶;rw[zai hst];split
  ·rename_i hgt;ŝ[zfW];¶;ŝ[zai hst,zai fw,six4];have c1:zeu vs none (some (-2))=vs.take (vs.length - 2):=zhA 2 £;have c2:zeu vs (some (-2)) none=vs.drop (vs.length - 2):=zsA 2 £;rw[c1,c2];intro p hp3;have sub3:Sub S2 (put S2 p (.lst (vs.drop (vs.length - 2)))):= .put .refl hp3;have fp:put S2 p (Ob.lst (vs.drop (vs.length - 2))) p=some (.lst (vs.drop (vs.length - 2))):=zag;generalize put S2 p (Ob.lst (vs.drop (vs.length - 2)))=S3 at sub3 fp⊢;¤⟨zak £,zak £,zak (by rw[List.length_take];omega),λq hq=>?_⟩;have sub4:Sub S3 (put S3 q (.lst (vs.take (vs.length - 2)++[.tup [.int (-1), .int 0, .str w4, .ref p]]))):= .put .refl hq;have hp4:=hp.sub (sub3.trans sub4);have hw3:=zdb (ps.take (vs.length - 2)) (ps.drop (vs.length - 2));have hn3:=zcn (ps.take (vs.length - 2)) (ps.drop (vs.length - 2));rw[List.take_append_drop]at hw3 hn3;¤⟨_,_,?_, .refl,ps.take (vs.length - 2)++[.nd (-1) 0 w4 (ps.drop (vs.length - 2))],_,q,rfl,(sub.trans sub3).trans sub4,zag,(hp4.take _).app (.cons (.nd (sub4 _ _ fp) (hp4.drop _)) .nil),λx hx=>?_,?_,?_,rfl⟩
   ·rw[List.length_append,List.length_take,List.length_singleton];omega
   ·rcases List.mem_append.mp hx with z |z
    ·§ok x (List.mem_of_mem_take z)
    ·rw[List.mem_singleton.mp z];§.sign ¢ λy hy=>ok y (List.mem_of_mem_drop hy)
   ·rw[zcn,pnts,pnts,Pl.nt,if_pos £];omega
   ·rw[zdb,pwts,pwts,Pl.wt,List.length_append,List.length_take,List.length_singleton,zcn,pnts,pnts,Pl.nt,if_pos £];omega
  ·rename_i hle
   try ¶
   ŝ[zai fw,zCF];¤⟨Nat.zero_le _,λa ha=>⟨zak £,zak £,?_⟩⟩;rw[zai (keep hst ha)];¤⟨zak ¥,?_⟩;cases hp with
   |nil=>
    §⟨_, .refl,h (pad w5) _ _ (sub.trans (.put .refl ha)) (.nd zag .nil) (.sign ¢ λ_ z=>nomatch z) (by simp [pad,Pl.wt,pwts];omega) (by simp [pad,Pl.nt,pnts])⟩
   | @cons p v ps vs h1 h2=>
    rw[List.cons_append,zjS];have e0:ps=[]:=by
     cases ps with
     |nil=>rfl
     |cons q qs=>
      have:=h2.len;simp only[List.length_cons]at this hle;omega
    subst e0;simp only[pwts,pnts,List.length_cons,List.length_nil]at p1 p2;§⟨_, .refl,h p v _ (sub.trans (.put .refl ha)) (h1.sub (.put .refl ha)) (ok p List.mem_cons_self) ¥ ¥⟩
end
section
variable {r:Nat}{S:Sto}{Q:WK}{E:Str→Sto→Prop}{a:Addr}{B:List Tn}
þ zxx{x:Str}(hx:x.length≤1000) (h:Q (.bl (signB x)) S):zfb (r+2) [.str x] S Q E:=by
 have hxl:=zfG x;rw[zfb];¶;unfold signB at h;rw[←hxl]at h;cases e1:decide (1≤x.length) with
 |false=>
  rw[e1]at h;have:¬1≤x.length:=by simpa using e1
  have e1':decide ((1:Int)≤(x.length:Int))=false:=by simp;omega
  rw[e1'];¶;§⟨zak ¥,_, .refl,h⟩
 |true=>
  rw[e1]at h;have h1:1≤x.length:=by simpa using e1
  have e1':decide ((1:Int)≤(x.length:Int))=true:=by simp;omega
  rw[e1'];¤⟨zak ¥,?_⟩;¶;cases e2:decide (x.length≤8) with
  |false=>
   rw[e2]at h;have:¬x.length≤8:=by simpa using e2
   have e2':decide ((x.length:Int)≤8)=false:=by simp;omega
   rw[e2'];§⟨_, .refl,h⟩
  |true=>
   rw[e2]at h;have h2:x.length≤8:=by simpa using e2
   have e2':decide ((x.length:Int)≤8)=true:=by simp;omega
   rw[e2'];¶;§zsm ¥ ⟨_, .refl,h⟩
ñ def zeT:Option Tn→W
 |some t=>zba t
 |none=> .non
þ zkf (B:List Tn) (s:Str):B.findSome? (λt=>if t.1 == s then some (zba t) else none)=(zaO B s).map zba:=by
 unfold zaO
 induction B with
 |nil=>rfl
 |cons t B ih=>
  rw[List.findSome?_cons,List.find?_cons];cases e:t.1 == s with
  |true=>rfl
  |false=>simpa using ih
þ zfT{s:Str}(ha:S a=some (.lst (B.map zba))) (h:Q (zeT (zaO B s)) S):zaY (r+1) [.ref a, .str s] S Q E:=by
 rw[zaY];¶;rw[zai ha];¤zfn (S:=S) ?_ (λσ=>∃x,σ=[some (.ref a),some (.str s),x]) zba (λt=>if t.1 == s then some (zba t) else none) B _ ⟨_,rfl⟩ (λt ht σ N hI hno hret=>?_) (λe σ hI=>?_) λw e S' sb=>?_
 ·§ha
 ·ø⟨x,rfl⟩:=hI;ŝ[zfx];have ee:zba t= .tup [.str t.1,enc t.2.1,enc t.2.2]:=rfl;rw[ee];¶;cases e:t.1 == s with
  |true=>
   rw[e]at hret;§hret _ rfl _ .refl
  |false=>
   rw[e]at hno;§hno rfl _ _ ⟨_,rfl⟩ .refl
 ·ø⟨x,rfl⟩:=hI;¶;rw[zkf]at e;have:zaO B s=none:=by
   cases q:zaO B s with
   |none=>rfl
   |some t=>rw[q]at e;cases e
  rw[this]at h;§⟨_, .refl,h⟩
 ·rw[zkf]at e;cases q:zaO B s with
  |none=>rw[q]at e;cases e
  |some t=>
   rw[q]at e h;cases e;§⟨_,sb,h⟩
þ zpq (ts:List Tr):zhY (ts.map λt=>W.bl t.quiet)=some (ts.map Tr.quiet):=by
 have:=zkD (ts.map Tr.quiet);rw[List.map_map]at this;§this
þ znw:∀(d:Nat) {t:Tr}{r:Nat}{Q:WK}{E:Str→Sto→Prop},t.depth≤d→d+5≤r→t.hd (λs=>s.length≤1000)→t.weight≤90000→Q (.bl t.quiet) S→zdq (r+1) [enc t] S Q E
 |0,t,r,Q,E,hd,hr,hh,hw,h=>by have:=zbi t;omega
 |d+1, .bl n,r,Q,E,hd,hr,hh,hw,h=>by simp [Tr.hd]at hh
 |d+1, .nd s ts,r,Q,E,hd,hr,hh,hw,h=>by
  simp only[Tr.depth]at hd;simp only[Tr.weight]at hw;simp only[Tr.hd]at hh;have hk:=zbu ts;obtain⟨r,rfl⟩:∃r',r=r'+2:=⟨r - 2,¥⟩
  rw[zdq];ŝ[enc];¶;¤zxx hh.1 ?_;rw[Tr.quiet]at h;cases e:signB s with
  |false=>
   rw[e]at h;¶;§⟨_, .refl,h⟩
  |true=>
   rw[e]at h;¶;rw[zaB];¤zax (λσ=>∃x,σ=[x]) enc (λt=> .bl t.quiet) trivial ts [] _ ⟨none,rfl⟩ (by simp;omega) (λx hx σ R hI hR=>?_) ?_
   ·ø⟨y,rfl⟩:=hI;have hdx:=zcX hx;have hwx:=zcp hx;have:=zbi x;ŝ[zgO];¶;§znw d (t:=x) (r:=r+1) ¥ ¥ (hds_iff.mp hh.2 x hx) ¥ (hR _ _ ⟨_,rfl⟩ .refl)
   ·rw[List.nil_append,zpq];dsimp only;rw[ziX]at h;rw[zlB];§⟨S, .refl,h⟩
end
ñ def byC (f:Int):Int→Nat:=λb=>if b / f % 2=1 then 1 else 0
þ PlsAt.zip{S:Sto}:∀{ps:List Pl}{vs:List W},PlsAt S ps vs→ ∀x∈ps.zip vs,PlAt S x.1 x.2∧x.1∈ps
 |_,_, .nil,x,h=>by simp at h
 |_,_, .cons a b,x,h=>by
  rw[List.zip_cons_cons]at h;rcases List.mem_cons.mp h with rfl |h
  ·§⟨a,List.mem_cons_self⟩
  ·have:=PlsAt.zip b x h;§⟨this.1,List.mem_cons_of_mem _ this.2⟩
þ PlsAt.snd{S:Sto}{ps:List Pl}{vs:List W}(h:PlsAt S ps vs):(ps.zip vs).map Prod.snd=vs:=List.map_snd_zip (by rw[h.len];§Nat.le_refl _)
þ PlsAt.fst{S:Sto}{ps:List Pl}{vs:List W}(h:PlsAt S ps vs) {α:Type}(f:Pl→α):(ps.zip vs).map (λx=>f x.1)=ps.map f:=by
 have:(ps.zip vs).map Prod.fst=ps:=List.map_fst_zip (by rw[h.len];§Nat.le_refl _)
 conv=>rhs;rw[←this,List.map_map]
 rfl
section
variable {S:Sto}{a:Addr}{ws hs:List Str}{B:List Tn}
þ zux{f:Int}(hf:f=1∨f=2∨f=4∨f=8) (ha:S a=some (.lst (B.map zba))) (b:BkOk ws hs B):∀(d:Nat) {p:Pl}{v:W}{r:Nat}{Q:WK}{E:Str→Sto→Prop},p.dp≤d→d+8≤r→PlAt S p v→PlOk hs B p→p.wt≤1000→Q (enc (p.ev B (byC f))) S→zcQ (r+1) [v, .ref a, .int f] S Q E
 |0,p,v,r,Q,E,hd,hr,hp,ok,hw,h=>by have:=zwR p;omega
 |d+1, .nd k b' hh ps,v,r,Q,E,hd,hr,hp,ok,hw,h=>by
  cases hp with
  | @nd _ _ _ _ c vs hc hps=>
  simp only[Pl.dp]at hd;simp only[Pl.wt]at hw;have hlen:=zho ps;obtain⟨r,rfl⟩:∃r',r=r'+1:=⟨r - 1,¥⟩
  rw[zcQ];¶;rw[zai hc];rw[←hps.snd];have okp:∀x∈ps,PlOk hs B x:=by
   cases ok with
   |sign _ h=>§h
   |turn _ _ _ _ h=>§h
  ¤zax (λσ=>∃x,σ=[x,some (.ref a),some (.int f)]) Prod.snd (λx=>enc (x.1.ev B (byC f))) ?_ (ps.zip vs) [] _ ⟨none,rfl⟩ (by simp;omega) (λx hx σ R hI hR=>?_) ?_
  ·rw[hps.snd];§hc
  ·ø⟨y,rfl⟩:=hI;ø⟨h1,h2⟩:=hps.zip x hx;have:=zhg h2;have:=znG h2;ŝ[zgT];¶;§zux hf ha b d ¥ ¥ h1 (okp _ h2) ¥ (hR _ _ ⟨_,rfl⟩ .refl)
  ·rw[List.nil_append,hps.fst λp=>enc (p.ev B (byC f))];intro q hq;have eu:(ps.map λp=>enc (p.ev B (byC f)))=encs (ps.map (Pl.ev B (byC f))):=by rw[zaB,List.map_map];rfl
   rw[eu];have fq:put S q (Ob.lst (encs (ps.map (Pl.ev B (byC f))))) q=some (.lst (encs (ps.map (Pl.ev B (byC f))))):=zag;have fa:=keep (x:=Ob.lst (encs (ps.map (Pl.ev B (byC f))))) ha hq;have sub:Sub S (put S q (Ob.lst (encs (ps.map (Pl.ev B (byC f)))))):= .put .refl hq;generalize put S q (Ob.lst (encs (ps.map (Pl.ev B (byC f)))))=S1 at fq fa sub⊢
   try ¶
   cases ok with
   |sign hs' _=>
    rw[if_pos £]
    try rw[zai fq]
    rw[zbp]at h;rw[zaS,List.length_map];simp only[enc]at h;§⟨zak £,zak ¥,_,sub,h⟩
   | @turn k _ _ _ t e hl b0 b1 _=>
    have ek:atI (B.map zba) (k:Int)=some (.tup [.str t.1,enc t.2.1,enc t.2.2]):=by
     rw[zcz,List.getElem?_map,e];rfl
    have hdiv:ziZ b' f:=by rcases hf with rfl |rfl |rfl |rfl<;>§⟨£,£⟩
    have ht:t∈B:=List.mem_of_getElem? e;rw[zaU e]at h;rw[if_neg ¥];¤⟨hdiv,£,?_⟩
    ŝ[zai fa,ek];by_cases e1:b' / f % 2=1
    ·rw[e1];have:byC f b'=1:=by unfold byC;rw[if_pos e1]
     rw[this]at h;simp only[evT,enc]at h
     try ¶
     try rw[zai fq]
     rw[zaS,List.length_map];§⟨zak £,zak ¥,_,sub,h⟩
    ·have e2:(b' / f % 2 == 1)=false:=by simpa using e1
     rw[e2];have:byC f b'=0:=by unfold byC;rw[if_neg e1]
     rw[this]at h;simp only[evT]at h;¶;rw[show atI [W.str t.1,enc t.2.1,enc t.2.2] 1=some (enc t.2.1) from rfl];dsimp only;have hLd:=(b.lf t ht).dp;have hLw:=(b.lf t ht).wt;have hLn:=(b.lf t ht).nb;§zgB 4 hLd ¥ fq (by rw[List.length_map,hl];§(b.lf t ht).fits) ¥ ⟨_,sub,h⟩
end
þ ztH{x:Str}(h:zcw x):x.length≤1000:=by rw[zfG];have:=h.2.1;omega
þ zpL{x:Str}(h:zdl x):x.length≤1000:=by rw[zfG];have:=(zrN h).2;omega
ñ def zam (n:Int) (t:Tn):Tr:=if n=1 then t.2.1 else t.2.2
mutual
ñ def Tr.ar (B:List Tn):Tr→Prop
 | .bl _=>False
 | .nd s ts=>(∀t,zaO B s=some t→ts.length=t.2.1.nb)∧ars B ts
ñ def ars (B:List Tn):List Tr→Prop
 | []=>True
 |t::ts=>t.ar B∧ars B ts
end
þ ars_iff{B:List Tn}:∀{ts:List Tr},ars B ts↔ ∀t∈ts,t.ar B
 | []=>by simp [ars]
 |t::ts=>by simp [ars,ars_iff (ts:=ts)]
mutual
þ zyV{B:List Tn}:∀t:Tr,t.way B=true→t.ar B
 | .bl n,h=>by simp [Tr.way]at h
 | .nd s ts,h=>by
  simp only[Tr.way,Bool.and_eq_true]at h;ŝ[Tr.ar];¤⟨λt ht=>?_,zuY ts h.2⟩;have:=h.1;rw[topB,ht]at this;simpa using this
þ zuY{B:List Tn}:∀ts:List Tr,zgN B ts=true→ars B ts
 | [],h=>by simp [ars]
 |t::ts,h=>by
  simp only[zgN,Bool.and_eq_true]at h;ŝ[ars];§⟨zyV t h.1,zuY ts h.2⟩
end
section
variable {n:Int}
þ zmu (t:Tn) (h:n=1∨n=2):atI [W.str t.1,enc t.2.1,enc t.2.2] n=some (enc (zam n t)):=by
 rcases h with rfl |rfl<;>rfl
þ zni{t:Tr}(h1:t.weight≤400) (h2:t.depth≤40):t.small=true:=by
 unfold Tr.small;rw[decide_eq_true h1,decide_eq_true h2];rfl
end
ñ def zAp (r:Nat):WS:=(zat (wAsg (zdm (zcm 2 [0] (zxp (wVar 5) (wVar 6)) (wGT (zaE (wGN 0) (zaE (wGN 1) zdY))) zfw (zhU r (zcO r)))) (wGN 7))
  (zat (zcq (wTb (wOp (oIs false) (wVar 4) (wC .non))) (wRet (wOp zeo (zce (zab (wOp oIx (wVar 1) (wC (.int 0))) waNil)) (wB zen (zab (wVar 7) waNil)))) wNext)
  (wRet (zan (zdp r) (zab (wOp oIx (wVar 4) (wC (.int 2))) (zab (wVar 7) waNil))))))
ñ def ztc (r:Nat) (T:WS):WS:=(zat (zcq (znO (wTb (wOp (oIs false) (wVar 3) (wC .non))) (wTb (wOp (oIs true) (wVar 4) (wC .non)))) (wAsg (zan (zci r) (zab (wOp oIx (wVar 4) (wC (.int 1))) (zab (wVar 1) waNil))) (wGN 5)) wNext)
  (zat (zcq (znO (wTb (wOp (oIs true) (wVar 3) (wC .non))) (wTb (wOp (oIs false) (wVar 4) (wC .non)))) (wAsg (zan (zci r) (zab (wOp oIx (wVar 3) (wC (.int 1))) (zab (wVar 2) waNil))) (wGN 6)) wNext)
  T))
þ zpx{r:Nat}:zcO (r+1)=zcd 8 3 (zat (wAsg (zan (zaY r) (zab (wVar 0) (zab (wOp oIx (wVar 1) (wC (.int 0))) waNil))) (wGN 3))
  (zat (wAsg (zan (zaY r) (zab (wVar 0) (zab (wOp oIx (wVar 2) (wC (.int 0))) waNil))) (wGN 4))
  (zat (wAsg (wSl (wVar 1) (woS (wC (.int 1))) woN) (wGN 5))
  (zat (wAsg (wSl (wVar 2) (woS (wC (.int 1))) woN) (wGN 6))
  (ztc r (zAp r)))))):=rfl
mutual
þ zsC{P:Str→Prop}:∀(l t:Tr) (ys:List Tr),l.mt t=some ys→t.hd P→hds P ys∧wts ys≤t.weight
 | .bl _,t,ys,h,q=>by
  simp only[Tr.mt,Option.some.injEq]at h;subst h;ŝ[hds,wts];§⟨⟨q,trivial⟩,¥⟩
 | .nd s ls, .nd z us,ys,h,q=>by
  simp only[Tr.mt]at h;simp only[Tr.hd]at q;split at h
  ·have:=zuC ls us ys h q.2;ŝ[Tr.weight];§⟨this.1,¥⟩
  ·cases h
 | .nd _ _, .bl _,ys,h,q=>by simp [Tr.mt]at h
þ zuC{P:Str→Prop}:∀(ls us ys:List Tr),mts ls us=some ys→hds P us→hds P ys∧wts ys≤wts us
 | [],us,ys,h,q=>by simp only[mts,Option.some.injEq]at h;subst h;simp [hds,wts]
 |l::ls,[],ys,h,q=>by simp only[mts,Option.some.injEq]at h;subst h;simp [hds,wts]
 |l::ls,u::us,ys,h,q=>by
  simp only[mts]at h;simp only[hds]at q;split at h
  ·cases h
  ·rename_i xs ex;split at h
   ·cases h
   ·rename_i zs ez;simp only[Option.some.injEq]at h;subst h;have h1:=zsC l u xs ex q.1;have h2:=zuC ls us zs ez q.2;rw[zfe,wts];§⟨zsD h1.1 h2.1,¥⟩
end
mutual
þ zfF{P:Str→Prop}{m:Nat}:∀t:Tr,t.hd P→t.fits m
 | .bl n,h=>by simp [Tr.hd]at h
 | .nd s ts,h=>by
  simp only[Tr.hd]at h;ŝ[Tr.fits];§zmY ts h.2
þ zmY{P:Str→Prop}{m:Nat}:∀ts:List Tr,hds P ts→fitss m ts
 | [],h=>by simp [fitss]
 |t::ts,h=>by
  simp only[hds]at h;ŝ[fitss];§⟨zfF t h.1,zmY ts h.2⟩
end
þ Mvs.triples{B:List Tn}{n:Nat}:∀{as bs cs:List Tr},Mvs B n as bs cs→ ∃zs:List (Tr×Tr×Tr),as=zs.map (λz=>z.1)∧bs=zs.map (λz=>z.2.1)∧cs=zs.map (λz=>z.2.2)∧ ∀z∈zs,Mv B n z.1 z.2.1 z.2.2
 |_,_,_, .nil=>⟨[],rfl,rfl,rfl,λ_ h=>nomatch h⟩
 |_,_,_, .cons (a:=a) (b:=b) (c:=c) h1 h2=>by
  ø⟨zs,e1,e2,e3,h⟩:=Mvs.triples h2;§⟨(a,b,c)::zs,by rw[e1];rfl,by rw[e2];rfl,by rw[e3];rfl,λz hz=>(List.mem_cons.mp hz).elim (λe=>by rw[e];§h1) (h z)⟩
þ zkR:∀zs:List (Tr×Tr×Tr),pairs (encs (zs.map λz=>z.1)) (encs (zs.map λz=>z.2.1))=zs.map λz=>W.tup [enc z.1,enc z.2.1]
 | []=>by simp [encs,pairs]
 |z::zs=>by simp [encs,pairs,zkR zs]
ñ def zAR (f:Option Tn) (s:Str) (cs:List Tr):Tr:=match f with
 |none=> .nd s cs
 |some t=>t.2.2.fill cs
ñ def zzT (S:Sto) (v:W) (ws:List W):Prop:=v= .tup ws∨ ∃q,v= .ref q∧S q=some (.lst ws)
section
variable {S:Sto}{a:Addr}{B:List Tn}
þ zrv{v:W}{ws:List W}{Q:List W→(Sto→Prop)→Prop}(h:zzT S v ws) (hq:∀G:Sto→Prop,G S→(∀S',Sub S S'→G S')→Q ws G):zpN v S Q:=by
 rcases h with rfl |⟨q,rfl,e⟩
 ·rw[zkC];§hq _ trivial λ_ _=>trivial
 ·rw[zid,zai e];§hq _ e λS' sb=>sb _ _ e
þ zsT{n r:Nat}{x y:Tr}{as bs cs:List Tr}{va vb vf:W}{f:Option Tn}{x7:Option W}{s:Str}{ts:List Tr}(hx:x= .nd s ts) (ha:S a=some (.lst (B.map zba))) (h1:zzT S va (encs as)) (h2:zzT S vb (encs bs)) (M:Mvs B n as bs cs) (hl:as.length≤1000)
  (hR:∀t,f=some t→t.2.2.depth≤4∧t.2.2.weight≤100∧t.2.2.fits cs.length) (hr:5≤r)
  (one:∀{a' b' c':Tr}{Q:WK}{E:Str→Sto→Prop},a'∈as→b'∈bs→Mv B n a' b' c'→Q (enc c') S→zcO r [.ref a,enc a',enc b'] S Q E) {E:WX}{D:WEnds}
  (hQ:∀S',Sub S S'→D.rt (enc (zAR f s cs)) S') :
  zAp r E D [some (.ref a),some (enc x),some (enc y),some vf,some (zeT f),some va,some vb,x7] S:=by
 ø⟨zs,rfl,rfl,rfl,hz⟩:=M.triples;unfold zAp;¶;¤zrv h1 λG1 g1 k1=>zrv h2 λG2 g2 k2=>?_;rw[zkR];rw[List.length_map]at hl;¤zax (λσ=>∃x y,σ=[x,y,some (.ref a)]) (λz=>W.tup [enc z.1,enc z.2.1]) (λz=>enc z.2.2) ?_ zs [] _ ⟨none,none,rfl⟩ (by simp;omega) (λz hz' σ R hI hR=>?_) ?_
 ·§⟨g1,g2⟩
 ·ø⟨u,v,rfl⟩:=hI;ŝ[zhU];¶;¤one (a':=z.1) (b':=z.2.1) (c':=z.2.2) (List.mem_map.mpr ⟨z,hz',rfl⟩) (List.mem_map.mpr ⟨z,hz',rfl⟩) (hz z hz') ?_;§hR _ _ ⟨_,_,rfl⟩ .refl
 ·rw[List.nil_append];intro q hq;have eu:(zs.map λz=>enc z.2.2)=encs (zs.map λz=>z.2.2):=by rw[zaB,List.map_map];rfl
  rw[eu];have fq:put S q (Ob.lst (encs (zs.map λz=>z.2.2))) q=some (.lst (encs (zs.map λz=>z.2.2))):=zag;have sub:Sub S (put S q (Ob.lst (encs (zs.map λz=>z.2.2)))):= .put .refl hq;generalize put S q (Ob.lst (encs (zs.map λz=>z.2.2)))=S1 at fq sub⊢;obtain⟨r,rfl⟩:∃r',r=r'+1:=⟨r - 1,¥⟩
  cases f with
  |none=>
   subst hx;simp only[zeT,enc,zAR]at hQ⊢
   try ¶
   try rw[zai fq]
   rw[zaS,List.length_map];§⟨zak £,zak ¥,hQ _ sub⟩
  |some t=>
   have ee:zeT (some t)= .tup [.str t.1,enc t.2.1,enc t.2.2]:=rfl;rw[ee]
   try ¶
   rw[show atI [W.str t.1,enc t.2.1,enc t.2.2] 2=some (enc t.2.2) from rfl];dsimp only;ø⟨g1,g2,g3⟩:=hR t rfl;§zii 4 g1 ¥ fq (by rw[List.length_map];rw[List.length_map]at g3;§g3) ¥ (hQ _ sub)
þ Mv.nd{n:Nat}{x y z:Tr}:Mv B n x y z→ ∃s ts z' us,x= .nd s ts∧y= .nd z' us
 | .nn _ _ _=>⟨_,_,_,_,rfl,rfl⟩
 | .ns _ _ _ _ _=>⟨_,_,_,_,rfl,rfl⟩
 | .sn _ _ _ _=>⟨_,_,_,_,rfl,rfl⟩
 | .ss _ _ _ _=>⟨_,_,_,_,rfl,rfl⟩
section
variable {T:WS}{E:WX}{D:WEnds}{r:Nat}{x0 x1 x2 x5 x6 x7:Option W}
þ zwQ (h:T E D [x0,x1,x2,some (zeT none),some (zeT none),x5,x6,x7] S):ztc r T E D [x0,x1,x2,some (zeT none),some (zeT none),x5,x6,x7] S:=by
 rw[show zeT none=W.non from rfl]at h⊢;unfold ztc;¶;§h
þ zwH{t t':Tn}(h:T E D [x0,x1,x2,some (zeT (some t')),some (zeT (some t)),x5,x6,x7] S):ztc r T E D [x0,x1,x2,some (zeT (some t')),some (zeT (some t)),x5,x6,x7] S:=by
 have ee:∀t:Tn,zeT (some t)= .tup [.str t.1,enc t.2.1,enc t.2.2]:=λ_=>rfl;rw[ee,ee]at h⊢;unfold ztc;¶;§h
þ zxz{t:Tn}{x:Tr}{ms:List Tr}(e:t.2.1.mt x=some ms) (hr:t.2.1.depth<r) (ft:x.fits 0) (hw:t.2.1.weight≤90000) (h:∀q,S q=none→T E D [x0,some (enc x),x2,some (zeT none),some (zeT (some t)),some (.ref q),x6,x7] (put S q (.lst (encs ms)))):ztc (r+1) T E D [x0,some (enc x),x2,some (zeT none),some (zeT (some t)),x5,x6,x7] S:=by
 have ee:∀t:Tn,zeT (some t)= .tup [.str t.1,enc t.2.1,enc t.2.2]:=λ_=>rfl;have a1:∀t:Tn,atI [W.str t.1,enc t.2.1,enc t.2.2] 1=some (enc t.2.1):=λ_=>rfl;rw[ee,show zeT none=W.non from rfl]at *;unfold ztc;¶;rw[a1];dsimp only;¤zfm hr ft hw (λys hys q hq=>?_) λh0=>by rw[e]at h0;cases h0
 rw[e]at hys;cases hys
 try ¶
 §h q hq
þ zwm{t:Tn}{y:Tr}{ms:List Tr}(e:t.2.1.mt y=some ms) (hr:t.2.1.depth<r) (ft:y.fits 0) (hw:t.2.1.weight≤90000) (h:∀q,S q=none→T E D [x0,x1,some (enc y),some (zeT (some t)),some (zeT none),x5,some (.ref q),x7] (put S q (.lst (encs ms)))):ztc (r+1) T E D [x0,x1,some (enc y),some (zeT (some t)),some (zeT none),x5,x6,x7] S:=by
 have ee:∀t:Tn,zeT (some t)= .tup [.str t.1,enc t.2.1,enc t.2.2]:=λ_=>rfl;have a1:∀t:Tn,atI [W.str t.1,enc t.2.1,enc t.2.2] 1=some (enc t.2.1):=λ_=>rfl;rw[ee,show zeT none=W.non from rfl]at *;unfold ztc;¶;rw[a1];dsimp only;¤zfm hr ft hw (λys hys q hq=>?_) λh0=>by rw[e]at h0;cases h0
 rw[e]at hys;cases hys
 try ¶
 §h q hq
end
þ znj (hB:∀t∈B,t.2.1.depth≤4∧t.2.1.weight≤100∧t.2.2.depth≤4∧t.2.2.weight≤100∧t.2.2.fits t.2.1.nb):∀(n:Nat) {S:Sto}{x y z:Tr}{r:Nat}{Q:WK}{E:Str→Sto→Prop},S a=some (.lst (B.map zba))→Mv B n x y z→n+12≤r→x.hd (λ_=>True)→y.hd (λ_=>True)→x.weight≤1000→y.weight≤1000→Q (enc z) S→zcO (r+1) [.ref a,enc x,enc y] S Q E
 |0,S,x,y,z,r,Q,E,ha,M,hr,hx,hy,wx,wy,h=>by cases M
 |n+1,S,x,y,z,r,Q,E,ha,M,hr,hx,hy,wx,wy,h=>by
  obtain⟨r,rfl⟩:∃r',r=r'+1:=⟨r - 1,¥⟩
  have one:∀{as bs:List Tr},hds (λ_=>True) as→hds (λ_=>True) bs→wts as≤1000→wts bs≤1000→ ∀(S1:Sto),Sub S S1→ ∀{a' b' c':Tr}{Q:WK}{E:Str→Sto→Prop},a'∈as→b'∈bs→Mv B n a' b' c'→Q (enc c') S1→zcO (r+1) [.ref a,enc a',enc b'] S1 Q E:=λ{as bs} h1 h2 h3 h4 S1 sb {a' b' c' Q E} m1 m2 M q=>
   znj hB n (sb _ _ ha) M ¥ (hds_iff.mp h1 _ m1) (hds_iff.mp h2 _ m2) (by have:=zcp m1;omega) (by have:=zcp m2;omega) q
  have start:∀{s z:Str}{ts us:List Tr}{E':WX}{D:WEnds}{S1:Sto}{va vb vf:W}{f:Option Tn}{as bs cs:List Tr},S1 a=some (.lst (B.map zba))→Sub S S1→zzT S1 va (encs as)→zzT S1 vb (encs bs)→Mvs B n as bs cs→hds (λ_=>True) as→hds (λ_=>True) bs→wts as≤1000→wts bs≤1000→(∀t,f=some t→t∈B∧cs.length=t.2.1.nb)→(∀S',Sub S S'→D.rt (enc (zAR f s cs)) S')→
    zAp (r+1) E' D [some (.ref a),some (W.tup (W.str s::encs ts)),some (W.tup (W.str z::encs us)),some vf,some (zeT f),some va,some vb,none] S1:=λ{s z ts us E' D S1 va vb vf f as bs cs} hS1 sb q1 q2 M h1 h2 h3 h4 hf hQ=>by
   have hl:=zbu as;have:=zsT (x:= .nd s ts) (y:= .nd z us) (vf:=vf) (f:=f) (x7:=none) (E:=E') (D:=D) rfl hS1 q1 q2 M ¥ (λt ht=>by
    ø⟨m,e⟩:=hf t ht;ø⟨g1,g2,g3,g4,g5⟩:=hB t m;§⟨g3,g4,by rw[e];§g5⟩) ¥ (one h1 h2 h3 h4 S1 sb) λS' sb'=>hQ S' (sb.trans sb')
   simpa only[enc]using this
  ø⟨s,ts,z',us,rfl,rfl⟩:=M.nd;have ex:enc (.nd s ts)= .tup (.str s::encs ts):=by ŝ[enc]
  have ey:enc (.nd z' us)= .tup (.str z'::encs us):=by ŝ[enc]
  have hx':=hx;have hy':=hy;have wx':=wx;have wy':=wy;simp only[Tr.hd]at hx' hy';simp only[Tr.weight]at wx' wy';rw[zpx,ex,ey];¶;¤zfT ha (zfT ha ?_);cases M with
  | @nn _ _ _ _ _ cs e1 e2 M=>
   rw[e1,e2];§zwQ (start (f:=none) ha .refl (.inl rfl) (.inl rfl) M hx'.2 hy'.2 ¥ ¥ (λ_ h=>nomatch h) λS' sb=>⟨_,sb,h⟩)
  | @ns _ _ _ _ _ cs ms t e1 e2 e3 e4 M=>
   have ht:t∈B:=List.mem_of_find?_eq_some e2;have hm:=zsC t.2.1 _ _ e3 hx;have ft:=zfF (m:=0) _ hx;ø⟨g1,g2,g3,g4,g5⟩:=hB t ht;rw[e1,e2,←ex];¤zxz e3 ¥ ft ¥ λq hq=>?_;rw[ex];§start (f:=some t) (keep ha hq) (.put .refl hq) (.inr ⟨q,rfl,zag⟩) (.inl rfl) M hm.1 hy'.2 ¥ ¥ (λ_ h=>by cases h;§⟨ht,e4⟩) λS' sb=>⟨_,sb,h⟩
  | @sn _ _ _ _ _ cs ms t e1 e2 e3 M=>
   have ht:t∈B:=List.mem_of_find?_eq_some e1;have hm:=zsC t.2.1 _ _ e3 hy;have ft:=zfF (m:=0) _ hy;ø⟨g1,g2,g3,g4,g5⟩:=hB t ht;rw[e1,e2,←ey];¤zwm e3 ¥ ft ¥ λq hq=>?_;rw[ey];§start (f:=none) (keep ha hq) (.put .refl hq) (.inl rfl) (.inr ⟨q,rfl,zag⟩) M hx'.2 hm.1 ¥ ¥ (λ_ h=>nomatch h) λS' sb=>⟨_,sb,h⟩
  | @ss _ _ _ _ _ cs t t' e1 e2 e3 M=>
   have ht:t∈B:=List.mem_of_find?_eq_some e2;rw[e1,e2];§zwH (start (f:=some t) ha .refl (.inl rfl) (.inl rfl) M hx'.2 hy'.2 ¥ ¥ (λ_ h=>by cases h;§⟨ht,e3⟩) λS' sb=>⟨_,sb,h⟩)
end
þ zBF:zam 1=λt=>t.2.1:=by funext t;§if_pos rfl
þ zuo:zam 2=λt=>t.2.2:=by funext t;§if_neg £
section
mutual
þ zAO:∀(L t:Tr) (ys:List Tr),L.mt t=some ys→ ∀y∈ys,y.depth≤t.depth
 | .bl n,t,ys,e,y,hy=>by
  rw[Tr.mt]at e;cases e;rw[List.mem_singleton]at hy;rw[hy];§Nat.le_refl _
 | .nd s ls, .bl n,ys,e,y,hy=>by rw[Tr.mt]at e;cases e
 | .nd s ls, .nd z us,ys,e,y,hy=>by
  rw[Tr.mt]at e;split at e
  ·have:=znR ls us ys e y hy;rw[Tr.depth];omega
  ·cases e
þ znR:∀(ls us ys:List Tr),mts ls us=some ys→ ∀y∈ys,y.depth≤dts us
 | [],us,ys,e,y,hy=>by rw[mts]at e;cases e;cases hy
 |l::ls,[],ys,e,y,hy=>by rw[mts]at e;cases e;cases hy
 |l::ls,u::us,ys,e,y,hy=>by
  rw[mts]at e;cases q1:l.mt u with
  |none=>rw[q1]at e;cases e
  |some xs=>
   rw[q1]at e;cases q2:mts ls us with
   |none=>rw[q2]at e;cases e
   |some zs=>
    rw[q2]at e;cases e;rw[dts];rcases List.mem_append.mp hy with hy |hy
    ·have:=zAO l u xs q1 y hy;omega
    ·have:=znR ls us zs q2 y hy;omega
end
structure Pk (ws hs:List Str) (B:List Tn) (p:Pl):Prop where
  b:BkOk ws hs B
  m:zAn B
  o:PlOk hs B p
  dp:∀{c:Int→Nat},(p.ev B c).depth≤40
  wt:∀{c:Int→Nat},(p.ev B c).weight≤400
ñ def Ok2 (c d:Int→Nat):Prop:=∀x:Int,0≤x→x<8→(c x≤1∧d x≤1)∨(c x=2∧d x=2)
þ zkz{x y e1 e2 e3:W}(k1:∀{Q:WK}{E:Str→Sto→Prop},Q e1 S→zcv r [.ref a,x,y] S Q E) (k2:∀{Q:WK}{E:Str→Sto→Prop},Q e2 S→zfv r [.ref a,y] S Q E) (k3:∀{Q:WK}{E:Str→Sto→Prop},Q e3 S→zcO r [.ref a,x,y] S Q E) (h:Q e3 S):zdo (r+1) [.ref a,x,y] S Q E:=by
 rw[zdo];¶;§k1 (k2 (k3 ⟨_, .refl,h⟩))
end
þ zgf (f x:Int):byC f x≤1:=by unfold byC;split<;>omega
section
variable {B:List Tn}
þ zke (B:List Tn) (s:Str) (g:Tn→W):B.findSome? (λt=>if t.1 == s then some (g t) else none)=(zaO B s).map g:=by
 unfold zaO
 induction B with
 |nil=>rfl
 |cons t B ih=>
  rw[List.findSome?_cons,List.find?_cons];cases e:t.1 == s with
  |true=>rfl
  |false=>simpa using ih
end
þ zop (c d e:Int→Nat) (h1:∀x,c x≤1) (h2:∀x,d x≤1) (h3:∀x,e x≤1):Ok2 (ziv c e) (ziv d e):=λx _ _=>by
 have:=h1 x;have:=h2 x;unfold ziv;by_cases q:e x=1
 ·rw[if_pos q,if_pos q];§.inr ⟨rfl,rfl⟩
 ·rw[if_neg q,if_neg q];§.inl ⟨¥,¥⟩
ñ def pps (B:List Tn) (s:Str) (n:Nat):List (List Int):=match zaO B s with
 |none=>(List.range n).map λ(i:Nat)=>[(i:Int)]
 |some t=>t.2.1.bls.map λx=>x.1
mutual
ñ def Tr.us (B:List Tn) (p:List Int):Tr→List (List Int×Str)
 | .bl _=>[]
 | .nd s ts=>(match zaO B s with
  |none=>[]
  |some _=>[(p,s)])++usz B p (pps B s ts.length) ts
ñ def usz (B:List Tn) (p:List Int):List (List Int)→List Tr→List (List Int×Str)
 |q::qs,t::ts=>t.us B (p++q)++usz B p qs ts
 |_,_=>[]
end
ñ def ppl (B:List Tn) (k:Int) (n:Nat):List (List Int):=if k<0 then(List.range n).map λ(i:Nat)=>[(i:Int)] else(B.getD k.toNat (⟨#[]⟩, .bl 0, .bl 0)).2.1.bls.map λx=>x.1
mutual
ñ def Pl.ns (B:List Tn) (p:List Int):Pl→List (List Int×Int×Str)
 | .nd k b h ps=>(if k<0 then [] else [(p,b,(B.getD k.toNat (⟨#[]⟩, .bl 0, .bl 0)).1)])++nsz B p (ppl B k ps.length) ps
ñ def nsz (B:List Tn) (p:List Int):List (List Int)→List Pl→List (List Int×Int×Str)
 |q::qs,t::ts=>t.ns B (p++q)++nsz B p qs ts
 |_,_=>[]
end
þ zwi{B:List Tn}{p:List Int}{s:Str}{ts:List Tr}(h:zaO B s=none):(Tr.nd s ts).us B p=usz B p ((List.range ts.length).map λ(i:Nat)=>[(i:Int)]) ts:=by
 rw[Tr.us,pps,h];rfl
þ zwx{B:List Tn}{p:List Int}{s:Str}{ts:List Tr}{t:Tn}(h:zaO B s=some t):(Tr.nd s ts).us B p=(p,s)::usz B p (t.2.1.bls.map λx=>x.1) ts:=by
 rw[Tr.us,pps,h];rfl
ñ def zBY (c:Int→Nat) (xs:List (List Int×Int×Str)):List (List Int×Str):=(xs.filter λx=>c x.2.1 == 1).map λx=>(x.1,x.2.2)
ñ def zcS (B:List Tn) (t:Tr):Option Tn:=B.find? λu=>(u.2.1.mt t).isSome
mutual
ñ def Tr.op (B:List Tn) (p:List Int):Tr→List (List Int×Str)
 | .bl _=>[]
 | .nd s ts=>(match zcS B (.nd s ts) with
  |none=>[]
  |some t=>[(p,t.1)])++ops B p 0 ts
ñ def ops (B:List Tn) (p:List Int) (i:Nat):List Tr→List (List Int×Str)
 | []=>[]
 |t::ts=>t.op B (p++[(i:Int)])++ops B p (i+1) ts
end
þ zct{n:Nat}{h c d:Str}{L:Tr}(hL:L∈leftsL n h c d):∃ts,L= .nd h ts:=by
 unfold leftsL at hL;split at hL<;>simp only[List.mem_cons,List.not_mem_nil,or_false]at hL
 all_goals first
  | (subst hL;§⟨_,rfl⟩)
  | (rcases hL with rfl |rfl<;>§⟨_,rfl⟩)
þ zhN{s z:Str}{ls us:List Tr}(h:((Tr.nd s ls).mt (.nd z us)).isSome=true):s=z:=by
 simp only[Tr.mt]at h;split at h
 ·rename_i q;simp only[Bool.and_eq_true,beq_iff_eq]at q;§q.1
 ·cases h
þ zkX{n:Nat}{h c d:Str}{L M x:Tr}(hL:L∈leftsL n h c d) (hM:M∈leftsL n h c d) (h1:(L.mt x).isSome=true) (h2:(M.mt x).isSome=true):L=M:=by
  cases x with
  |bl k=>
    ø⟨ts,rfl⟩:=zct hL;simp [Tr.mt]at h1
  |nd s ts=>
    unfold leftsL at hL hM;split at hL<;>simp only[List.mem_cons,List.not_mem_nil,or_false]at hL hM
    all_goals first
      | (rw[hL,hM])
      | (rcases hL with rfl |rfl<;>rcases hM with rfl |rfl<;>first
          |rfl
          | (exfalso
             rcases ts with _ |⟨u,us⟩
             · simp [Tr.mt]at h1
             · cases u with
               |bl k=>simp [Tr.mt,mts]at h1 h2
               |nd z vs=>
                 rcases vs with _ |⟨v,vs⟩
                 · simp [Tr.mt,mts]at h1 h2
                 · rcases vs with _ |⟨v',vs⟩
                   · cases v with
                     |bl k=>simp [Tr.mt,mts]at h1 h2
                     |nd z' xs=>
                       rcases xs with _ |⟨x',xs⟩
                       · simp [Tr.mt,mts]at h1 h2
                       · simp [Tr.mt,mts]at h1 h2
                   · simp [Tr.mt,mts]at h1 h2))
section
variable {w0 w1 w2 w3 w4 w5:Str}{tt:List Str}{B:List Tn}
þ BookOk.one (b:BookOk w0 w1 w2 w3 w4 w5 tt B) (G:Signs w0 w1 w2 w3 w4 w5) {u v:Tn}(hu:u∈B) (hv:v∈B) {x:Tr}(h1:(u.2.1.mt x).isSome=true) (h2:(v.2.1.mt x).isSome=true):u.2.1=v.2.1:=by
 ø⟨n,m,e⟩:=b.lf;have mu:u.2.1∈leftsL n w0 w2 w3++leftsL m w1 w2 w3:=by rw[←e];§List.mem_map.mpr ⟨u,hu,rfl⟩
 have mv:v.2.1∈leftsL n w0 w2 w3++leftsL m w1 w2 w3:=by rw[←e];§List.mem_map.mpr ⟨v,hv,rfl⟩
 have key:∀{L M:Tr},L∈leftsL n w0 w2 w3→M∈leftsL m w1 w2 w3→(L.mt x).isSome=true→(M.mt x).isSome=true→False:=λ{L M} hL hM k1 k2=>by
  ø⟨ts,rfl⟩:=zct hL;ø⟨us,rfl⟩:=zct hM;cases x with
  |bl k=>simp [Tr.mt]at k1
  |nd s vs=>§G.n0 w1 ¢ ((zhN k1).trans (zhN k2).symm)
 rcases List.mem_append.mp mu with z |z<;>rcases List.mem_append.mp mv with y |y
 ·§zkX z y h1 h2
 ·§(key z y h1 h2).elim
 ·§(key y z h2 h1).elim
 ·§zkX z y h1 h2
þ zia (n:Nat) (h c d:Str):(leftsL n h c d).Nodup:=by
 unfold leftsL;split<;>simp
þ BookOk.inj (b:BookOk w0 w1 w2 w3 w4 w5 tt B) (G:Signs w0 w1 w2 w3 w4 w5):(B.map λt=>t.2.1).Nodup:=by
 ø⟨n,m,e⟩:=b.lf;rw[e,List.nodup_append];¤⟨zia ..,zia ..,λx hx y hy=>?_⟩;ø⟨ts,rfl⟩:=zct hx;ø⟨us,rfl⟩:=zct hy;intro z;cases z;§G.n0 _ ¢ rfl
þ zsz{α β:Type}{f:α→β}:∀{xs:List α}{x y:α},(xs.map f).Nodup→x∈xs→y∈xs→f x=f y→x=y
 |z::xs,x,y,h,hx,hy,e=>by
  rw[List.map_cons,List.nodup_cons]at h;rcases List.mem_cons.mp hx with h1 |h1
  ·rcases List.mem_cons.mp hy with h2 |h2
   ·rw[h1,h2]
   ·§(h.1 (List.mem_map.mpr ⟨y,h2,by rw[←e,h1]⟩)).elim
  ·rcases List.mem_cons.mp hy with h2 |h2
   ·§(h.1 (List.mem_map.mpr ⟨x,h1,by rw[e,h2]⟩)).elim
   ·§zsz h.2 h1 h2 e
þ BookOk.open_some (b:BookOk w0 w1 w2 w3 w4 w5 tt B) (G:Signs w0 w1 w2 w3 w4 w5) {t:Tn}(ht:t∈B) {us:List Tr}(hu:us.length=t.2.1.nb):zcS B (t.2.1.fill us)=some t:=by
 have hm:=b.mt t ht us hu;unfold zcS;cases e:B.find? λu=>(u.2.1.mt (t.2.1.fill us)).isSome with
 |none=>
  rw[List.find?_eq_none]at e;have:=e t ht;rw[hm]at this;simp at this
 |some u=>
  have hu':=List.find?_some e;have mu:=List.mem_of_find?_eq_some e;have:=b.one G mu ht hu' (by rw[hm];rfl);rw[zsz (b.inj G) mu ht this]
þ BookOk.open_none (b:BookOk w0 w1 w2 w3 w4 w5 tt B) {s:Str}{ts:List Tr}(h0:w0≠s) (h1:w1≠s):zcS B (.nd s ts)=none:=by
 ø⟨n,m,e⟩:=b.lf;unfold zcS;rw[List.find?_eq_none];intro u hu hz;have mu:u.2.1∈leftsL n w0 w2 w3++leftsL m w1 w2 w3:=by rw[←e];§List.mem_map.mpr ⟨u,hu,rfl⟩
 rcases List.mem_append.mp mu with z |z<;>ø⟨ls,el⟩:=zct z<;>rw[el]at hz
 ·§h0 (zhN hz)
 ·§h1 (zhN hz)
end
ñ def opz (B:List Tn) (p:List Int):List (List Int)→List Tr→List (List Int×Str)
 |q::qs,t::ts=>t.op B (p++q)++opz B p qs ts
 |_,_=>[]
þ zlg{B:List Tn}{n:Nat}{h c d:Str}{L:Tr}(hL:L∈leftsL n h c d) (h2:∀xs,zcS B (.nd c xs)=none) (h3:∀xs,zcS B (.nd d xs)=none) {us ks:List Tr}(hu:us.length=L.nb) (hk:L= .nd h ks) (p:List Int):ops B p 0 (fills us ks)=opz B p (L.bls.map λx=>x.1) us:=by
 unfold leftsL at hL;split at hL<;>simp only[List.mem_cons,List.not_mem_nil,or_false]at hL
 all_goals first
  | (subst hL;cases hk;rcases us with _ |⟨u,_ |⟨v,_ |⟨x,_ |⟨y,us⟩⟩⟩⟩<;>simp [Tr.nb,nbs,Tr.fill,fills,Tr.op,ops,h2,h3,opz,Tr.bls,Tr.plt,zgX,Tr.isBl,List.filter_cons]at hu⊢ <;>omega)
  | (rcases hL with rfl |rfl<;>cases hk<;>rcases us with _ |⟨u,_ |⟨v,_ |⟨x,_ |⟨y,us⟩⟩⟩⟩<;>simp [Tr.nb,nbs,Tr.fill,fills,Tr.op,ops,h2,h3,opz,Tr.bls,Tr.plt,zgX,Tr.isBl,List.filter_cons]at hu⊢ <;>omega)
þ zse{B:List Tn}{p:List Int}:∀(ts:List Tr) (i:Nat),ops B p i ts=opz B p ((List.range' i ts.length).map λ(i:Nat)=>[(i:Int)]) ts
 | [],i=>by simp [ops,opz]
 |t::ts,i=>by
  rw[ops,zse ts (i+1),List.length_cons,List.range'_succ,List.map_cons,opz]
mutual
inductive Wi (B:List Tn) (wn:List (List Int)):Nat→List Int→Tr→Tr→Prop
 |no {n:Nat}{p:List Int}{s:Str}{ts us:List Tr}:p∉wn→zaO B s=none→Wis B wn n p ((List.range ts.length).map λ(i:Nat)=>[(i:Int)]) ts us→Wi B wn (n+1) p (.nd s ts) (.nd s us)
 |yes {n:Nat}{p:List Int}{s:Str}{ts us ms:List Tr}{t:Tn}:p∈wn→zcS B (.nd s ts)=some t→t.2.1.mt (.nd s ts)=some ms→zaO B t.1=some t→Wis B wn n p (t.2.1.bls.map λx=>x.1) ms us→Wi B wn (n+1) p (.nd s ts) (.nd t.1 us)
inductive Wis (B:List Tn) (wn:List (List Int)):Nat→List Int→List (List Int)→List Tr→List Tr→Prop
 |nil {n:Nat}{p:List Int}:Wis B wn n p [] [] []
 |cons {n:Nat}{p q:List Int}{qs:List (List Int)}{t u:Tr}{ts us:List Tr}:Wi B wn n (p++q) t u→Wis B wn n p qs ts us→Wis B wn n p (q::qs) (t::ts) (u::us)
end
ñ def zkm (c:Int→Nat) (xs:List (List Int×Int×Str)):List (List Int):=(zBY c xs).map λx=>x.1
ñ def zhX (qs:List (List Int)):Prop:=qs.Pairwise λa b=>¬a <+:b∧ ¬b <+:a
ñ def encX (x:List Int×Str):W:= .tup [zcc x.1, .str x.2]
section
variable {a:Addr}{B:List Tn}
structure Lft (B:List Tn):Prop where
  d:∀t∈B,t.2.1.depth≤4
  w:∀t∈B,t.2.1.weight≤20
þ zoW{S:Sto}{r:Nat}{Q:WK}{E:Str→Sto→Prop}{s:Str}{ts:List Tr}(L:Lft B) (ha:S a=some (.lst (B.map zba))) (hl:ts.length≤1000) (hr:20≤r) (h:∀q,S q=none→Q (.ref q) (put S q (.lst ((pps B s ts.length).map zcc)))):zbX (r+1) [.ref a,enc (.nd s ts)] S Q E:=by
 obtain⟨r,rfl⟩:∃r',r=r'+1:=⟨r - 1,¥⟩
 rw[zbX];ŝ[enc];¶;¤zfT ha ?_;unfold pps at h;cases e:zaO B s with
 |none=>
  rw[e]at h;ŝ[zeT]
  try ¶
  rw[zaS];have e1:(((ts.length+1:Nat):Int) - 1).toNat=ts.length:=by omega
  rw[e1];¤⟨⟨¥,¥⟩,?_⟩
  rw[zpB];¤zax (λσ=>∃x,σ=[x]) (λi:Nat=>W.int i) (λi=>zcc [(i:Int)]) trivial (List.range ts.length) [] _ ⟨none,rfl⟩ (by simp;omega) (λx hx σ R hI hR=>?_) ?_
  ·ø⟨y,rfl⟩:=hI;ŝ[zeY];¶;§⟨zak £,hR _ _ ⟨_,rfl⟩ .refl⟩
  ·rw[List.nil_append];intro q hq;have:=h q hq;simp only[List.map_map]at this;§⟨_, .refl,this⟩
 |some t=>
  rw[e]at h;have ht:t∈B:=List.mem_of_find?_eq_some e;have ee:zeT (some t)= .tup [.str t.1,enc t.2.1,enc t.2.2]:=rfl;rw[ee]
  try ¶
  rw[show atI [W.str t.1,enc t.2.1,enc t.2.2] 1=some (enc t.2.1) from rfl];dsimp only;have h1:=L.d t ht;have h2:=L.w t ht;¤zpE ¥ ¥ λq hq=>?_;have:=h q hq;simp only[List.map_map]at this;§⟨_, .refl,this⟩
þ zln (B:List Tn) (x:Tr):B.findSome? (λt=>if(t.2.1.mt x).isSome then some (zba t) else none)=(zcS B x).map zba:=by
 unfold zcS
 induction B with
 |nil=>rfl
 |cons t B ih=>
  rw[List.findSome?_cons,List.find?_cons];cases e:(t.2.1.mt x).isSome with
  |true=>rfl
  |false=>simpa using ih
þ zhD{S:Sto}{r:Nat}{Q:WK}{E:Str→Sto→Prop}{x:Tr}(L:Lft B) (ha:S a=some (.lst (B.map zba))) (hf:x.fits 0) (hr:20≤r) (h:Q (zeT (zcS B x)) S):zbB (r+1) [.ref a,enc x] S Q E:=by
 obtain⟨r,rfl⟩:∃r',r=r'+1:=⟨r - 1,¥⟩
 rw[zbB];¶;rw[zai ha];¤zfn (S:=S) ?_ (λσ=>∃y,σ=[some (.ref a),some (enc x),y]) zba (λt=>if(t.2.1.mt x).isSome then some (zba t) else none) B _ ⟨_,rfl⟩ (λt ht σ N hI hno hret=>?_) (λe σ hI=>?_) λw e S' sb=>?_
 ·§ha
 ·ø⟨y,rfl⟩:=hI;ŝ[zeK];have ee:zba t= .tup [.str t.1,enc t.2.1,enc t.2.2]:=rfl;rw[ee];¶;rw[show atI [W.str t.1,enc t.2.1,enc t.2.2] 1=some (enc t.2.1) from rfl];dsimp only;have h1:=L.d t ht;have h2:=L.w t ht;¤zfm ¥ hf ¥ (λys hys q hq=>?_) λh0=>?_
  ·try ¶
   rw[hys]at hret;§hret _ rfl _ (.put .refl hq)
  ·try ¶
   rw[h0]at hno;§hno rfl _ _ ⟨_,rfl⟩ .refl
 ·ø⟨y,rfl⟩:=hI;¶;rw[zln]at e;have:zcS B x=none:=by
   cases q:zcS B x with
   |none=>rfl
   |some t=>rw[q]at e;cases e
  rw[this]at h;§⟨_, .refl,h⟩
 ·rw[zln]at e;cases q:zcS B x with
  |none=>rw[q]at e;cases e
  |some t=>
   rw[q]at e h;cases e;§⟨_,sb,h⟩
end
mutual
þ zkS (B:List Tn):∀(t:Tr) (p:List Int),(t.op B p).length≤t.weight
 | .bl n,p=>by simp [Tr.op]
 | .nd s ts,p=>by
  have:=zqj B ts p 0;rw[Tr.op,List.length_append,Tr.weight];split<;>simp<;>omega
þ zqj (B:List Tn):∀(ts:List Tr) (p:List Int) (i:Nat),(ops B p i ts).length≤wts ts
 | [],p,i=>by simp [ops]
 |t::ts,p,i=>by
  have h1:=zkS B t (p++[(i:Int)]);have h2:=zqj B ts p (i+1);rw[ops,List.length_append,wts];omega
end
section
variable {a f:Addr}{B:List Tn}
mutual
þ znx (L:Lft B) (haf:f≠a):∀(t:Tr) {r:Nat}{p:List Int}{xs:List W}{S:Sto}{Q:WK}{E:Str→Sto→Prop},t.depth+25≤r→S a=some (.lst (B.map zba))→S f=some (.lst xs)→xs.length+t.weight≤100000→p.length+t.depth≤1000→t.hd (λ_=>True)→
  Q .non (put S f (.lst (xs++(t.op B p).map encX)))→zbx (r+1) [.ref a,enc t,zcc p, .ref f] S Q E
 | .bl n,r,p,xs,S,Q,E,hr,ha,hf,hx,hp,hh,h=>by simp [Tr.hd]at hh
 | .nd s ts,r,p,xs,S,Q,E,hr,ha,hf,hx,hp,hh,h=>by
  have ft:=zfF (m:=0) _ hh;simp only[Tr.depth]at hr hp;simp only[Tr.weight]at hx;simp only[Tr.hd]at hh;obtain⟨r,rfl⟩:∃r',r=r'+1:=⟨r - 1,¥⟩
  rw[zbx];have ee:enc (.nd s ts)= .tup (.str s::encs ts):=by ŝ[enc]
  ¶;¤zhD L ha ft ¥ ?_;rw[Tr.op]at h;cases e:zcS B (.nd s ts) with
  |none=>
   rw[e]at h;simp only[List.nil_append]at h;ŝ[zeT];rw[ee]
   try ¶
   §zih L haf ts ¥ ha hf ¥ ¥ hh.2 λx5 x6=>⟨_, .refl,h⟩
  |some t=>
   rw[e]at h;have et:zeT (some t)= .tup [.str t.1,enc t.2.1,enc t.2.2]:=rfl;rw[et,ee]
   try ¶
   ŝ[zai hf,true_and];¤⟨zak £,zbC ¥,?_⟩;¤zih L haf ts (xs:=xs++[encX (p,t.1)]) ¥ (by rw[zaF (Ne.symm haf)];§ha) zag (by simp;omega) ¥ hh.2 λx5 x6=>⟨_, .refl,?_⟩;rw[zaX];simpa using h
þ zih (L:Lft B) (haf:f≠a):∀(ts:List Tr) {r:Nat}{p:List Int}{i:Nat}{xs:List W}{S:Sto}{E:WX}{D:WEnds}{t0 x4 x5 x6:Option W},dts ts+25≤r→S a=some (.lst (B.map zba))→S f=some (.lst xs)→xs.length+wts ts≤100000→p.length+1+dts ts≤1000→hds (λ_=>True) ts→
  (∀x5 x6,D.nx [some (.ref a),t0,some (zcc p),some (.ref f),x4,x5,x6] (put S f (.lst (xs++(ops B p i ts).map encX))))→
  forL (wGT (zaE (wGN 5) (zaE (wGN 6) zdY))) (zdx (r+1) (zbx (r+1))) E D (λ_=>True) (ziQ i (encs ts)) [some (.ref a),t0,some (zcc p),some (.ref f),x4,x5,x6] S
 | [],r,p,i,xs,S,E,D,t0,x4,x5,x6,hr,ha,hf,hx,hp,hh,h=>by
  ŝ[encs,ziQ,forL];have:=h x5 x6;rw[ops,List.map_nil,List.append_nil,zeX hf]at this;§this
 |t::ts,r,p,i,xs,S,E,D,t0,x4,x5,x6,hr,ha,hf,hx,hp,hh,h=>by
  simp only[dts]at hr hp;simp only[wts]at hx;simp only[hds]at hh;ŝ[encs,ziQ];¤zbt λN hN=>?_;ŝ[zdx];¶;rw[zok];¤⟨zak £,zak ¥,?_⟩;have ol:=zkS B t (p++[(i:Int)]);¤znx L haf t ¥ ha hf ¥ (by simp;omega) hh.1 ?_;¤hN _ _ _ .refl trivial (zih L haf ts (xs:=xs++(t.op B (p++[(i:Int)])).map encX) ¥ (by rw[zaF (Ne.symm haf)];§ha) zag (by simp;omega) ¥ hh.2 λx5 x6=>?_);rw[zaX];have:=h x5 x6;rw[ops,List.map_append]at this;simpa using this
end
þ zzM{p q:List Int}{S:Sto}{Q:WK}:zeo (zcc p) (zcc q) S Q=(p.length+q.length≤sizeLine∧Q (zcc (p++q)) S):=by
 unfold zcc;rw[zij,List.length_map,List.length_map,List.map_append]
ñ def PB (B:List Tn):Prop:=∀t∈B,∀x∈t.2.1.bls,x.1.length≤4
þ zpW{s:Str}{n:Nat}(h:PB B):∀q∈pps B s n,q.length≤4:=λq hq=>by
 unfold pps at hq;cases e:zaO B s with
 |none=>
  rw[e]at hq;ø⟨i,_,rfl⟩:=List.mem_map.mp hq;simp
 |some t=>
  rw[e]at hq;ø⟨x,hx,rfl⟩:=List.mem_map.mp hq;§h t (List.mem_of_find?_eq_some e) x hx
end
section
variable {a:Addr}{B:List Tn}{S:Sto}{r:Nat}{Q:WK}{E:Str→Sto→Prop}{t:Tr}
þ zdz (L:Lft B) (ha:S a=some (.lst (B.map zba))) (hd:t.depth≤60) (hr:t.depth+30≤r) (hw:t.weight≤1000) (hh:t.hd (λ_=>True)) (h:∀q,S q=none→Q (.ref q) (put S q (.lst ((t.op B []).map encX)))):zbo (r+1) [.ref a,enc t] S Q E:=by
 obtain⟨r,rfl⟩:∃r',r=r'+1:=⟨r - 1,¥⟩
 rw[zbo];¶;¤⟨Nat.zero_le _,λq hq=>⟨Nat.zero_le _,?_⟩⟩;have hqa:q≠a:=λz=>by rw[z,ha]at hq;cases hq
 ¤znx L hqa t (p:=[]) (xs:=[]) ¥ (keep ha hq) zag (by simp;omega) (by simp;omega) hh ?_;rw[zaX,List.nil_append];§⟨_, .refl,h q hq⟩
þ zhG{f:Addr}{xs:List (List Int×Str)}(hf:S f=some (.lst (xs.map encX))) (hl:xs.length≤10000) (h:∀q,S q=none→Q (.ref q) (put S q (.lst ((xs.map λx=>x.1).map zcc)))):zcZ (r+1) [.ref f] S Q E:=by
 rw[zcZ];¶;rw[zai hf];¤zax (λσ=>∃y,σ=[y]) encX (λx=>zcc x.1) ?_ xs [] _ ⟨none,rfl⟩ (by simp;omega) (λx hx σ R hI hR=>?_) ?_
 ·§hf
 ·ø⟨y,rfl⟩:=hI;ŝ[zfP,encX];¶;§hR _ _ ⟨_,rfl⟩ .refl
 ·rw[List.nil_append];intro q hq;have:=h q hq;rw[List.map_map]at this;§⟨_, .refl,this⟩
þ zkI{s:Str}{ts ms:List Tr}{u:Tn}(L:Lft B) (ha:S a=some (.lst (B.map zba))) (hh:(Tr.nd s ts).hd (λ_=>True)) (hw:(Tr.nd s ts).weight≤1000) (hr:25≤r) (h1:zcS B (.nd s ts)=some u) (h2:u.2.1.mt (.nd s ts)=some ms) (h:Q (enc (.nd u.1 ms)) S):zdg (r+1) [.ref a,enc (.nd s ts)] S Q E:=by
 obtain⟨r,rfl⟩:∃r',r=r'+1:=⟨r - 1,¥⟩
 have ht:u∈B:=List.mem_of_find?_eq_some h1;have ft:=zfF (m:=0) _ hh;have hm:=zsC u.2.1 _ _ h2 hh;have hl:=zbu ms;rw[zdg];¶;¤zhD L ha ft ¥ ?_;rw[h1];have et:zeT (some u)= .tup [.str u.1,enc u.2.1,enc u.2.2]:=rfl;rw[et]
 try ¶
 rw[show atI [W.str u.1,enc u.2.1,enc u.2.2] 1=some (enc u.2.1) from rfl];have g1:=L.d u ht;have g2:=L.w u ht;¤⟨zak £,zfm ¥ ft ¥ (λys hys q hq=>?_) λh0=>by rw[h2]at h0;cases h0⟩
 rw[h2]at hys;cases hys
 try ¶
 rw[zaS];simp only[enc]at h;§⟨zak ¥,_, .put .refl hq,h⟩
end
þ zuf{B:List Tn}{s:Str}{n:Nat}(h:zaO B s=none):pps B s n=(List.range n).map λ(i:Nat)=>[(i:Int)]:=by unfold pps;rw[h]
þ ztU{B:List Tn}{s:Str}{n:Nat}{t:Tn}(h:zaO B s=some t):pps B s n=t.2.1.bls.map λx=>x.1:=by unfold pps;rw[h]
þ Wis.len{B:List Tn}{wn:List (List Int)}{n:Nat}{p:List Int}:∀{qs:List (List Int)}{ts us:List Tr},Wis B wn n p qs ts us→us.length=ts.length
 |_,_,_, .nil=>rfl
 |_,_,_, .cons _ h=>by rw[List.length_cons,List.length_cons,Wis.len h]
section
variable {a w:Addr}{B:List Tn}{wn:List (List Int)}
þ zhL (n:Nat) (hP4:∀{t u:Tr}{p:List Int}{r:Nat}{S:Sto}{Q:WK}{E:Str→Sto→Prop},Wi B wn n p t u→n+40≤r+1→S a=some (.lst (B.map zba))→S w=some (.dct (ziC wn))→t.hd (λ_=>True)→t.weight≤1000→p.length+4*n≤1000→Q (enc u) S→zaZ (r+1) [.ref a,enc t,zcc p, .ref w] S Q E) :
  ∀{ts us:List Tr}{qs:List (List Int)}{p:List Int},Wis B wn n p qs ts us→ ∀{r:Nat}{xs:List W}{f:Addr}{S:Sto}{G:Sto→Prop}{E:WX}{D:WEnds}{t0 x4 x6 x7:Option W},(∀q∈qs,q.length≤4)→n+40≤r+1→S a=some (.lst (B.map zba))→S w=some (.dct (ziC wn))→S f=some (.lst xs)→f≠a→f≠w→xs.length+ts.length≤10000→wts ts≤1000→hds (λ_=>True) ts→p.length+4+4*n≤1000→(∀o,G (put S f o))→
  (∀x6 x7,D.nx [some (.ref a),t0,some (zcc p),some (.ref w),x4,some (.ref f),x6,x7] (put S f (.lst (xs++encs us))))→
  forL (wGT (zaE (wGN 6) (zaE (wGN 7) zdY))) (zdc (r+1) (zaZ (r+1))) E D G (pairs (qs.map zcc) (encs ts)) [some (.ref a),t0,some (zcc p),some (.ref w),x4,some (.ref f),x6,x7] S
 |_,_,_,p, .nil=>by
  rename_i r xs f S G E D t0 x4 x6 x7;intro hq hr ha hw hf n1 n2 hx hwt hh hp hG h;ŝ[List.map_nil,encs,pairs,forL];have:=h x6 x7;simp only[encs,List.append_nil,zeX hf]at this;§this
 |_,_,_,p, .cons (q:=q) (t:=t) (u:=u) (ts:=ts) (us:=us) h1 h2=>by
  rename_i r xs f S G E D t0 x4 x6 x7 qs;intro hq hr ha hw hf n1 n2 hx hwt hh hp hG h;simp only[wts]at hwt;simp only[hds]at hh;simp only[List.length_cons]at hx;have hq4:=hq q List.mem_cons_self;ŝ[List.map_cons,encs,pairs];¤zbt λN hN=>?_;ŝ[zdc];¶;ŝ[zai hf,true_and];rw[zzM];¤⟨zak ¥,hP4 h1 hr ha hw hh.1 ¥ (by simp;omega) ?_⟩
  try ¶
  rw[zai hf];¤⟨zbC ¥,?_⟩;¤hN _ _ _ .refl (hG _) (zhL n hP4 h2 (xs:=xs++[enc u]) (λq' hq'=>hq q' (List.mem_cons_of_mem _ hq')) hr (by rw[zaF (Ne.symm n1)];§ha) (by rw[zaF (Ne.symm n2)];§hw) zag n1 n2 (by simp;omega) ¥ hh.2 hp (λo=>by rw[zaX];§hG o) λx6 x7=>?_)
  rw[zaX];have:=h x6 x7;simpa [encs]using this
þ zkP (L:Lft B) (hP:PB B):∀(n:Nat) {t u:Tr}{p:List Int}{r:Nat}{S:Sto}{Q:WK}{E:Str→Sto→Prop},Wi B wn n p t u→n+40≤r+1→S a=some (.lst (B.map zba))→S w=some (.dct (ziC wn))→t.hd (λ_=>True)→t.weight≤1000→p.length+4*n≤1000→Q (enc u) S→zaZ (r+1) [.ref a,enc t,zcc p, .ref w] S Q E
 |0,t,u,p,r,S,Q,E,M,hr,ha,hw,hh,hwt,hp,h=>by cases M
 |n+1,t,u,p,r,S,Q,E,M,hr,ha,hw,hh,hwt,hp,h=>by
  obtain⟨r,rfl⟩:∃r',r=r'+1:=⟨r - 1,¥⟩
  have tail:∀{s:Str}{ts us:List Tr}{t0:Option W}{E':WX},Wis B wn n p (pps B s ts.length) ts us→hds (λ_=>True) ts→wts ts≤1000→Q (enc (.nd s us)) S→
    (1:Nat)=1→ ∀f,S f=none→zbX (r+1) [.ref a, .tup (.str s::encs ts)] (put S f (.lst [])) (λx S1=>zpN x S1 λxs G=>forL (wGT (zaE (wGN 6) (zaE (wGN 7) zdY))) (zdc (r+1) (zaZ (r+1))) E' { nx:=wRet (wOp zeo (zce (zab (wOp oIx (wVar 4) (wC (W.int 0))) waNil)) (wB zen (zab (wVar 5) waNil))) E' { nx:=λx S'=>∃S'',Sub S'' S'∧Q W.non S'',rt:=λw S'=>∃S'',Sub S'' S'∧Q w S'' },rt:=λw S'=>∃S'',Sub S'' S'∧Q w S'' } (λS'=>G S'∧True) (pairs xs (encs ts)) [some (.ref a),t0,some (zcc p),some (.ref w),some (.tup (.str s::encs ts)),some (.ref f),none,none] S1) E:=λ{s ts us t0 E'} WW hd hw' hQ _ f hf=>by
   have hk:=zbu ts;have n1:f≠a:=λz=>by rw[z,ha]at hf;cases hf
   have n2:f≠w:=λz=>by rw[z,hw]at hf;cases hf
   have ee:W.tup (W.str s::encs ts)=enc (.nd s ts):=by ŝ[enc]
   rw[ee];¤zoW L (keep ha hf) ¥ ¥ λq hq=>?_;rw[zid,zhf,←ee];ø⟨hq1,hq2⟩:=zdT hq;¤zhL n (zkP L hP n) WW (zpW hP) ¥ (keep (keep ha hf) hq) (keep (keep hw hf) hq) (keep zag hq) n1 n2 (by simp;omega) hw' hd ¥ (λo=>⟨?_,trivial⟩) λx6 x7=>?_
   ·show put _ f o q=_;rw[zaF hq2];§zag
   ·have hlu:us.length≤1000:=by
     have:=Wis.len WW;omega
    ¶;rw[zaS];simp only[enc]at hQ;¤⟨zak £,zak ¥,S,?_,hQ⟩;rw[znA hq2];§.put (.put .refl hf) hq1
  cases M with
  | @no _ _ s ts us h1 h2 h3=>
   simp only[Tr.hd]at hh;simp only[Tr.weight]at hwt;rw[zaZ];ŝ[enc];¶;rw[zma hw,zle,decide_eq_false h1]
   try ¶
   ¤⟨Nat.zero_le _,λf hf=>?_⟩;have:=tail (t0:=some (.tup (.str s::encs ts))) (E':=λc x S'=>E c S') (by rw[zuf h2];§h3) hh.2 ¥ h rfl f hf;simpa only[and_true]using this
  | @yes _ _ s ts us ms t h1 h2 h3 h4 h5=>
   have hm:=zsC t.2.1 _ _ h3 hh;rw[zaZ];¶;rw[zma hw,zle,decide_eq_true h1]
   try ¶
   ¤zkI L ha hh hwt ¥ h2 h3 ?_;ŝ[enc]
   try ¶
   ¤⟨Nat.zero_le _,λf hf=>?_⟩;have:=tail (t0:=some (.tup (.str s::encs ts))) (E':=λc x S'=>E c S') (by rw[ztU h4];§h5) hm.1 ¥ h rfl f hf;simpa only[and_true]using this
end
þ zlv{S:Sto}{n:Nat}:∀(p q:List Int),zgv (eqF S (n+1)) (p.map W.int) (q.map W.int)=some (decide (p=q))
 | [],[]=>by simp [zgv]
 | [],j::q=>by simp [zgv]
 |i::p,[]=>by simp [zgv]
 |i::p,j::q=>by
  rw[List.map_cons,List.map_cons,zgv,zqi,zlv p q];ŝ[Option.some.injEq];rw[Bool.eq_iff_iff];simp
þ zAE{S:Sto}{n:Nat}(p q:List Int):eqF S (n+2) (zcc p) (zcc q)=some (decide (p=q)):=by
 unfold zcc;rw[zuu,zlv]
þ zyD{S:Sto}{x:List Int}:∀ys:List (List Int),inF S (zcc x) (ys.map zcc)=some (decide (x∈ys))
 | []=>by simp [inF]
 |y::ys=>by
  rw[List.map_cons,inF,zAE (n:=57),zyD ys];ŝ[Option.some.injEq];rw[Bool.eq_iff_iff];ŝ[Bool.or_eq_true,decide_eq_true_eq,List.mem_cons];§⟨λh=>h.elim (λe=> .inl e.symm) .inr,λh=>h.elim (λe=> .inl e.symm) .inr⟩
section
variable {a:Addr}{B:List Tn}{wn:List (List Int)}{S:Sto}{r n:Nat}{Q:WK}{E:Str→Sto→Prop}{t u:Tr}{f:Addr}
þ ziM (L:Lft B) (hP:PB B) (M:Wi B wn n [] t u) (hn:n≤60) (hr:110≤r) (ha:S a=some (.lst (B.map zba))) (hf:S f=some (.lst (wn.map zcc))) (hh:t.hd (λ_=>True)) (hw:t.weight≤1000) (hl:wn.length≤10000) (h:Q (enc u) S):zdr (r+1) [.ref a,enc t, .ref f] S Q E:=by
 obtain⟨r,rfl⟩:∃r',r=r'+1:=⟨r - 1,¥⟩
 rw[zdr];¶;¤⟨Nat.zero_le _,?_⟩;rw[zai hf];¤zax (λσ=>∃y,σ=[y]) zcc (λp=>W.tup [zcc p, .bl true]) ?_ wn [] _ ⟨none,rfl⟩ (by simp;omega) (λx hx σ R hI hR=>?_) ?_
 ·§hf
 ·ø⟨y,rfl⟩:=hI;ŝ[zgU];¶;§⟨zak £,hR _ _ ⟨_,rfl⟩ .refl⟩
 ·rw[List.nil_append];have e:zfo (wn.map λp=>W.tup [zcc p, .bl true])=some wn:=zkl wn;rw[e];¤⟨¥,λd hd=>?_⟩;have e0:W.tup []=zcc []:=rfl;rw[e0];§zkP L hP n M ¥ (keep ha hd) zag hh hw (by simp;omega) ⟨_, .put .refl hd,h⟩
þ zuj{ks:List (List Int)}(L:Lft B) (hP:PB B) (M:Wi B wn n [] t u) (hn:n≤60) (hr:115≤r) (ha:S a=some (.lst (B.map zba))) (hf:S f=some (.lst (wn.map zcc))) (hh:t.hd (λ_=>True)) (hw:t.weight≤1000) (hd:t.depth≤60) (hl:wn.length≤10000) (hks:((t.op B []).map λx=>x.1)=ks) (hin:∀x∈wn,x∈ks) (h:Q (enc u) S):zgi (r+1) [.ref a,enc t, .ref f] S Q E:=by
 obtain⟨r,rfl⟩:∃r',r=r'+1:=⟨r - 1,¥⟩
 have ol:=zkS B t [];rw[zgi];¶;¤zdz L ha hd ¥ hw hh λq hq=>?_;¤zhG zag ¥ λq2 hq2=>?_;rw[hks];have f2:put (put S q (Ob.lst ((t.op B []).map encX))) q2 (Ob.lst (ks.map zcc)) q2=some (.lst (ks.map zcc)):=zag;have ff:=keep (x:=Ob.lst (ks.map zcc)) (keep (x:=Ob.lst ((t.op B []).map encX)) hf hq) hq2;have fa:=keep (x:=Ob.lst (ks.map zcc)) (keep (x:=Ob.lst ((t.op B []).map encX)) ha hq) hq2;have sub:Sub S (put (put S q (Ob.lst ((t.op B []).map encX))) q2 (Ob.lst (ks.map zcc))):= .trans (.put .refl hq) (.put .refl hq2);generalize put (put S q (Ob.lst ((t.op B []).map encX))) q2 (Ob.lst (ks.map zcc))=S2 at f2 ff fa sub⊢
 try ¶
 rw[zai ff];¤zfn (S:=S2) ?_ (λσ=>∃x,σ=[some (.ref a),some (enc t),some (.ref f),some (.ref q2),x]) zcc (λ_=>none) wn _ ⟨_,rfl⟩ (λx hx σ N hI hno hret=>?_) (λe σ hI=>?_) λw e S' sb=>?_
 ·§ff
 ·ø⟨y,rfl⟩:=hI;unfold ziJ;¶;rw[zai f2,zyD,decide_eq_true (hin x hx)]
  try ¶
  §hno rfl _ _ ⟨_,rfl⟩ .refl
 ·ø⟨y,rfl⟩:=hI
  try ¶
  §ziM L hP M hn ¥ fa ff hh hw hl ⟨_,sub,h⟩
 ·rw[List.findSome?_eq_none_iff.mpr (λ_ _=>rfl)]at e;cases e
end
section
variable {c:Int→Nat}
ñ def One (c:Int→Nat):Prop:=∀x:Int,0≤x→x<8→c x≤1
þ One.src (hc:One c):∀x:Int,0≤x→x<8→zmp c x=0:=λx h0 h1=>by
 have:=hc x h0 h1;unfold zmp;split<;>omega
end
þ zdM (f:Int):One (byC f):=λx _ _=>zgf f x
ñ def zza (B:List Tn) (x:List Int×Tr):List (List Int×Str):=(zcS B x.2).toList.map λb=>(x.1,b.1)
mutual
þ zrG (B:List Tn):∀(t:Tr) (p:List Int),t.fits 0→(t.plt p).flatMap (zza B)=t.op B p
 | .bl n,p,h=>by
  simp only[Tr.fits]at h;omega
 | .nd s ts,p,h=>by
  simp only[Tr.fits]at h;rw[Tr.plt,List.flatMap_cons,zqR B ts p 0 h,Tr.op,zza];cases zcS B (.nd s ts)<;>rfl
þ zqR (B:List Tn):∀(ts:List Tr) (p:List Int) (i:Nat),fitss 0 ts→(zgX p i ts).flatMap (zza B)=ops B p i ts
 | [],p,i,h=>by simp [zgX,ops]
 |t::ts,p,i,h=>by
  simp only[fitss]at h;rw[zgX,ops,List.flatMap_append,zrG B t _ h.1,zqR B ts p (i+1) h.2]
end
þ ztl (x:Int) (h0:0≤x) (h8:x<8):byC 8 x=0:=by
 have:∀n:Nat,n<8→byC 8 (n:Int)=0:=by decide
 ø⟨n,rfl⟩:=Int.eq_ofNat_of_zero_le h0;§this n ¥
structure Pre (S:Sto) (aw at' ab:Addr) (w0 w1 w2 w3 w4 w5:Str) (tt:List Str) (B:List Tn):Prop where
  G:Signs w0 w1 w2 w3 w4 w5
  T:Titles tt
  b:BookOk w0 w1 w2 w3 w4 w5 tt B
  fw:S aw=some (.lst (six w0 w1 w2 w3 w4 w5))
  ft:S at'=some (.lst (tt.map W.str))
  fb:S ab=some (.lst (B.map zba))
  sl:Slim B
þ Pre.bk{S:Sto}{aw at' ab:Addr}{w0 w1 w2 w3 w4 w5:Str}{tt:List Str}{B:List Tn}(P:Pre S aw at' ab w0 w1 w2 w3 w4 w5 tt B):BkOk ω [w2,w3,w4,w5] B:=P.b.bk P.T P.G
þ Pre.ne{S:Sto}{aw at' ab:Addr}{w0 w1 w2 w3 w4 w5:Str}{tt:List Str}{B:List Tn}(P:Pre S aw at' ab w0 w1 w2 w3 w4 w5 tt B):B≠ []:=by
 have h:=P.b.len;rintro rfl;simp at h
þ Pre.sub{S S':Sto}{aw at' ab:Addr}{w0 w1 w2 w3 w4 w5:Str}{tt:List Str}{B:List Tn}(P:Pre S aw at' ab w0 w1 w2 w3 w4 w5 tt B) (h:Sub S S'):Pre S' aw at' ab w0 w1 w2 w3 w4 w5 tt B:=⟨P.G,P.T,P.b,h _ _ P.fw,h _ _ P.ft,h _ _ P.fb,P.sl⟩
þ zwq{T:WS}{E:WX}{D:WEnds}{ns:List Int}{x1 x2 x3:Option W}{τ:WSt}{S:Sto}(h:∀(S':Sto) (aw at' ab:Addr) (w0 w1 w2 w3 w4 w5:Str) (tt:List Str) (B:List Tn),Pre S' aw at' ab w0 w1 w2 w3 w4 w5 tt B→T E D (some (.scr ns)::some (.ref aw)::some (.ref at')::some (.ref ab)::τ) S') :
  zat (wAsg (zan (zbs 199) (zab (zan (zaA 199) (zab (wVar 0) (zab (wC (.int 0)) waNil))) (zab (zan (zaA 199) (zab (wVar 0) (zab (wC (.int 1)) waNil))) (zab (wC (.bl false)) waNil)))) (wGN 1))
  (zat (wAsg (zan (zbs 199) (zab (zan (zaA 199) (zab (wVar 0) (zab (wC (.int 2)) waNil))) (zab (zan (zaA 199) (zab (wVar 0) (zab (wC (.int 3)) waNil))) (zab (wC (.bl true)) waNil)))) (wGN 2))
  (zat (wAsg (zan (zcT 199) (zab (wVar 0) (zab (wC (.int 4)) (zab (wVar 1) (zab (wVar 2) waNil))))) (wGN 3)) T)) E D (some (.scr ns)::x1::x2::x3::τ) S:=by
 ¶;¤zeV £ λc0=>zeV £ λc1=>zod λaw ws hw0 hws=>?_;ø⟨w0,w1,w2,w3,w4,w5,rfl,G⟩:=zmf hws;have fw:put S aw (Ob.lst ((ω).map W.str)) aw=some (.lst (six w0 w1 w2 w3 w4 w5)):=zag;generalize put S aw (Ob.lst ((ω).map W.str))=S1 at fw⊢;¤zeV £ λc2=>zeV £ λc3=>zod λat' tt ht0 htt=>?_;have ft:put S1 at' (Ob.lst (tt.map W.str)) at'=some (.lst (tt.map W.str)):=zag;replace fw:=keep (x:=Ob.lst (tt.map W.str)) fw ht0;generalize put S1 at' (Ob.lst (tt.map W.str))=S2 at fw ft⊢;¤zwT (r:=192) (zgP htt).len £ fw ft λab B n m hb0 e1 e2 e3=>?_;§h _ aw at' ab w0 w1 w2 w3 w4 w5 tt B ⟨G,zgP htt,⟨⟨n,m,e1⟩,e2,λt ht=>(e3 t ht).w⟩,keep (x:=Ob.lst (B.map zba)) fw hb0,keep (x:=Ob.lst (B.map zba)) ft hb0,zag,zwg e3⟩
section
variable {c d:Int→Nat}
þ zeF{c d:Int→Nat}(hc:One c) (hd:One d):Ok2 c d:=λx h0 h1=> .inl ⟨hc x h0 h1,hd x h0 h1⟩
end
ñ def u1 (B:List Tn) (p:Pl):List (List Int×Str):=zBY (byC 1) (p.ns B [])
mutual
ñ def Tr.ord (k:Nat):Tr→Option Nat
 | .bl n=>if n=(k:Int) then some (k+1) else none
 | .nd _ ts=>zps k ts
ñ def zps (k:Nat):List Tr→Option Nat
 | []=>some k
 |t::ts=>match t.ord k with
  |some m=>zps m ts
  |none=>none
end
ñ def zAt (B:List Tn) (z:Str):Prop:=∀u∈B,∀s ls,u.2.1= .nd s ls→s≠z
structure Ort (B:List Tn):Prop where
  inn:∀t∈B,∃s ls,t.2.1= .nd s ls∧hbs (zAt B) ls
  mt:zAn B
  fm:∀t∈B,∀x ys,t.2.1.mt x=some ys→x=t.2.1.fill ys∧ys.length=t.2.1.nb
  one:∀u∈B,∀v∈B,∀x:Tr,(u.2.1.mt x).isSome=true→(v.2.1.mt x).isSome=true→u=v
  od:∀t∈B,t.2.1.ord 0=some t.2.1.nb
mutual
þ zvg:∀(L x:Tr) (ys:List Tr) (k m:Nat),L.ord k=some m→L.mt x=some ys→ys.length+k=m∧ ∀pre post:List Tr,pre.length=k→L.fill (pre++ys++post)=x
 | .bl n,x,ys,k,m,h,e=>by
  rw[Tr.ord]at h;split at h
  ·rename_i hn;cases h;rw[Tr.mt]at e;cases e;¤⟨by simp;omega,λpre post hp=>?_⟩;rw[Tr.fill,hn,Int.toNat_natCast,List.getD_eq_getElem?_getD,List.append_assoc,List.getElem?_append_right ¥,hp,Nat.sub_self];rfl
  ·cases h
 | .nd s ls, .bl n,ys,k,m,h,e=>by rw[Tr.mt]at e;cases e
 | .nd s ls, .nd z us,ys,k,m,h,e=>by
  rw[Tr.mt]at e;split at e
  ·rename_i hc;rw[Bool.and_eq_true,beq_iff_eq,beq_iff_eq]at hc;rw[Tr.ord]at h;ø⟨h1,h2⟩:=zsq ls us ys k m hc.2 h e;§⟨h1,λpre post hp=>by rw[Tr.fill,h2 pre post hp,hc.1]⟩
  ·cases e
þ zsq:∀(ls us ys:List Tr) (k m:Nat),ls.length=us.length→zps k ls=some m→mts ls us=some ys→ys.length+k=m∧ ∀pre post:List Tr,pre.length=k→fills (pre++ys++post) ls=us
 | [],us,ys,k,m,hl,h,e=>by
  rw[zps]at h;cases h;rw[mts]at e;cases e;cases us with
  |nil=>§⟨¢,λ_ _ _=>by rw[fills]⟩
  |cons _ _=>cases hl
 |l::ls,[],ys,k,m,hl,h,e=>by cases hl
 |l::ls,u::us,ys,k,m,hl,h,e=>by
  rw[zps]at h;rw[mts]at e;cases q:l.ord k with
  |none=>rw[q]at h;cases h
  |some j=>
   rw[q]at h;cases q1:l.mt u with
   |none=>rw[q1]at e;cases e
   |some xs=>
    rw[q1]at e;cases q2:mts ls us with
    |none=>rw[q2]at e;cases e
    |some zs=>
     rw[q2]at e;cases e;ø⟨h1,h2⟩:=zvg l u xs k j q q1;ø⟨h3,h4⟩:=zsq ls us zs j m (by simpa using hl) h q2;¤⟨by rw[List.length_append];omega,λpre post hp=>?_⟩;rw[fills];have e1:=h2 pre (zs++post) hp;have e2:=h4 (pre++xs) post (by rw[List.length_append];omega);have a1:pre++(xs++zs)++post=pre++xs++(zs++post):=by simp
     have a2:pre++(xs++zs)++post=pre++xs++zs++post:=by simp
     rw[a1,e1,←a1,a2,e2]
end
þ zoH{n:Nat}{h c d:Str}{L:Tr}(hL:L∈leftsL n h c d):L.ord 0=some L.nb:=by
 unfold leftsL at hL;split at hL<;>simp only[List.mem_cons,List.not_mem_nil,or_false]at hL
 all_goals first
  | (subst hL;simp [Tr.ord,zps,Tr.nb,nbs])
  | (rcases hL with rfl |rfl<;>simp [Tr.ord,zps,Tr.nb,nbs])
þ zhw{n:Nat}{h c d:Str}{P:Str→Prop}(hc:P c) (hd:P d) {L:Tr}(hL:L∈leftsL n h c d):∃ls,L= .nd h ls∧hbs P ls:=by
 unfold leftsL at hL;split at hL<;>simp only[List.mem_cons,List.not_mem_nil,or_false]at hL
 all_goals first
  | (subst hL;§⟨_,rfl,by simp [hbs,Tr.hb,hc,hd]⟩)
  | (rcases hL with rfl |rfl<;>§⟨_,rfl,by simp [hbs,Tr.hb,hc,hd]⟩)
section
variable {w0 w1 w2 w3 w4 w5:Str}{tt:List Str}{B:List Tn}
þ BookOk.mem_lefts (b:BookOk w0 w1 w2 w3 w4 w5 tt B) {t:Tn}(ht:t∈B):∃n,t.2.1∈leftsL n w0 w2 w3∨t.2.1∈leftsL n w1 w2 w3:=by
 ø⟨n,m,e⟩:=b.lf;have:t.2.1∈leftsL n w0 w2 w3++leftsL m w1 w2 w3:=by rw[←e];§List.mem_map.mpr ⟨t,ht,rfl⟩
 rcases List.mem_append.mp this with z |z
 ·§⟨n, .inl z⟩
 ·§⟨m, .inr z⟩
þ BookOk.ort (b:BookOk w0 w1 w2 w3 w4 w5 tt B) (G:Signs w0 w1 w2 w3 w4 w5):Ort B:=by
 have top:∀z,z≠w0→z≠w1→zAt B z:=λz h0 h1 u hu s ls e=>by
  ø⟨n,z |z⟩:=b.mem_lefts hu
  ·ø⟨l,e',_⟩:=zhw (P:=λ_=>True) trivial trivial z;rw[e]at e';cases e';§h0.symm
  ·ø⟨l,e',_⟩:=zhw (P:=λ_=>True) trivial trivial z;rw[e]at e';cases e';§h1.symm
 have t2:=top w2 (G.n0 w2 ¢).symm (G.n1 w2 ¢).symm;have t3:=top w3 (G.n0 w3 ¢).symm (G.n1 w3 ¢).symm;have od:∀t∈B,t.2.1.ord 0=some t.2.1.nb:=λt ht=>by
  ø⟨n,z |z⟩:=b.mem_lefts ht
  ·§zoH z
  ·§zoH z
 ¤⟨λt ht=>?_,b.mt,λt ht x ys e=>?_,λu hu v hv x h1 h2=>zsz (b.inj G) hu hv (b.one G hu hv h1 h2),od⟩
 ·ø⟨n,z |z⟩:=b.mem_lefts ht
  ·ø⟨l,e',h⟩:=zhw t2 t3 z;§⟨_,_,e',h⟩
  ·ø⟨l,e',h⟩:=zhw t2 t3 z;§⟨_,_,e',h⟩
 ·have ho:=od t ht;ø⟨h1,h2⟩:=zvg _ _ _ _ _ ho e;have:=h2 [] [] rfl;simp only[List.nil_append,List.append_nil]at this;§⟨this.symm,¥⟩
end
structure Wy (ws:List Str) (B:List Tn) (a:Tr):Prop where
  hd:a.hd λs=>s∈ws∨ ∃t∈B,t.1=s
  ar:a.ar B
ñ abbrev src (B:List Tn) (a:Tr):Tr:=a.mk B λt=>t.2.1
ñ abbrev gol (B:List Tn) (a:Tr):Tr:=a.mk B λt=>t.2.2
section
variable {ws:List Str}{B:List Tn}
þ zmN{P:Str→Prop}:∀{ts:List Tr}{t:Tr},hds P ts→t∈ts→t.hd P
 |u::ts,t,h,ht=>by
  rw[hds]at h;rcases List.mem_cons.mp ht with rfl |ht
  ·§h.1
  ·§zmN h.2 ht
þ zlV:∀{ts:List Tr}{t:Tr},ars B ts→t∈ts→t.ar B
 |u::ts,t,h,ht=>by
  rw[ars]at h;rcases List.mem_cons.mp ht with rfl |ht
  ·§h.1
  ·§zlV h.2 ht
þ Wy.cases (b:BkOk ws ws B) {a:Tr}(h:Wy ws B a):(∃s as,a= .nd s as∧s∈ws∧zaO B s=none∧ ∀x∈as,Wy ws B x)∨(∃t as,t∈B∧a= .nd t.1 as∧zaO B t.1=some t∧as.length=t.2.1.nb∧ ∀x∈as,Wy ws B x):=by
 ø⟨h1,h2⟩:=h;cases a with
 |bl n=>rw[Tr.hd]at h1;§h1.elim
 |nd s as=>
  rw[Tr.hd]at h1;rw[Tr.ar]at h2;have kids:∀x∈as,Wy ws B x:=λx hx=>⟨zmN h1.2 hx,zlV h2.2 hx⟩;rcases h1.1 with h |⟨t,ht,rfl⟩
  ·§.inl ⟨s,as,rfl,h,zbd b.ti (b.sg s h),kids⟩
  ·have e:=zcJ b.nd ht;§.inr ⟨t,as,ht,rfl,e,h2.1 t e,kids⟩
þ zcC{g:Tn→Tr}{s:Str}{as:List Tr}(h:zaO B s=none):(Tr.nd s as).mk B g= .nd s (as.map (Tr.mk B g)):=by
 rw[Tr.mk,h,zgw]
þ zco{g:Tn→Tr}{t:Tn}{as:List Tr}(h:zaO B t.1=some t):(Tr.nd t.1 as).mk B g=(g t).fill (as.map (Tr.mk B g)):=by
 rw[Tr.mk,h,zgw]
mutual
þ zzw (b:BkOk ws ws B) (O:Ort B):∀(L a:Tr),L.hb (zAt B)→Wy ws B a→(L.mt (src B a)).isSome=true→(L.mt a).isSome=true
 | .bl n,a,_,_,_=>by rw[Tr.mt];rfl
 | .nd z ls,a,hL,ha,h=>by
  rw[Tr.hb]at hL;rcases ha.cases b with⟨s,as,rfl,hs,e,kids⟩ |⟨t,as,ht,rfl,e,hl,kids⟩
  ·rw[show src B (.nd s as)= .nd s (as.map (src B)) from zcC e,Tr.mt,List.length_map]at h;rw[Tr.mt];split at h
   ·rename_i hc;rw[if_pos hc];§zmq b O ls as hL.2 kids h
   ·cases h
  ·ø⟨s0,l0,e0,_⟩:=O.inn t ht;rw[show src B (.nd t.1 as)=t.2.1.fill (as.map (src B)) from zco e,e0,Tr.fill]at h;§absurd (zhN h).symm (hL.1 t ht s0 l0 e0)
þ zmq (b:BkOk ws ws B) (O:Ort B):∀(ls as:List Tr),hbs (zAt B) ls→(∀x∈as,Wy ws B x)→(mts ls (as.map (src B))).isSome=true→(mts ls as).isSome=true
 | [],as,_,_,_=>by rw[mts];rfl
 |l::ls,[],_,_,_=>by rw[mts];rfl
 |l::ls,a::as,hL,ha,h=>by
  rw[hbs]at hL;rw[List.map_cons,mts]at h;cases q1:l.mt (src B a) with
  |none=>rw[q1]at h;cases h
  |some xs=>
   rw[q1]at h;cases q2:mts ls (as.map (src B)) with
   |none=>rw[q2]at h;cases h
   |some zs=>
    have h1:=zzw b O l a hL.1 (ha a ¢) (by rw[q1];rfl);have h2:=zmq b O ls as hL.2 (λx hx=>ha x (List.mem_cons_of_mem _ hx)) (by rw[q2];rfl);ø⟨x1,h1⟩:=Option.isSome_iff_exists.mp h1;ø⟨x2,h2⟩:=Option.isSome_iff_exists.mp h2;rw[mts,h1,h2];rfl
end
end
section
variable {ws:List Str}{B:List Tn}
þ Wy.kids{s:Str}{as:List Tr}(h:Wy ws B (.nd s as)):∀x∈as,Wy ws B x:=λx hx=>by
 ø⟨h1,h2⟩:=h;rw[Tr.hd]at h1;rw[Tr.ar]at h2;§⟨zmN h1.2 hx,zlV h2.2 hx⟩
mutual
þ zwj:∀(L a:Tr) (ys:List Tr),L.mt a=some ys→Wy ws B a→ ∀y∈ys,Wy ws B y
 | .bl n,a,ys,e,h,y,hy=>by
  rw[Tr.mt]at e;cases e;rw[List.mem_singleton]at hy;rw[hy];§h
 | .nd s ls, .bl n,ys,e,h,y,hy=>by rw[Tr.mt]at e;cases e
 | .nd s ls, .nd z us,ys,e,h,y,hy=>by
  rw[Tr.mt]at e;split at e
  ·§zuS ls us ys e h.kids y hy
  ·cases e
þ zuS:∀(ls us ys:List Tr),mts ls us=some ys→(∀x∈us,Wy ws B x)→ ∀y∈ys,Wy ws B y
 | [],us,ys,e,h,y,hy=>by rw[mts]at e;cases e;cases hy
 |l::ls,[],ys,e,h,y,hy=>by rw[mts]at e;cases e;cases hy
 |l::ls,u::us,ys,e,h,y,hy=>by
  rw[mts]at e;cases q1:l.mt u with
  |none=>rw[q1]at e;cases e
  |some xs=>
   rw[q1]at e;cases q2:mts ls us with
   |none=>rw[q2]at e;cases e
   |some zs=>
    rw[q2]at e;cases e;rcases List.mem_append.mp hy with hy |hy
    ·§zwj l u xs q1 (h u ¢) y hy
    ·§zuS ls us zs q2 (λx hx=>h x (List.mem_cons_of_mem _ hx)) y hy
end
þ znl (b:BkOk ws ws B) {t:Tn}(ht:t∈B) {vs:List Tr}(hl:vs.length=t.2.1.nb) (g:Tn→Tr):(t.2.1.fill vs).mk B g=t.2.1.fill (vs.map (Tr.mk B g)):=
 zjV b.ti _ (b.lf t ht).hb (by rw[hl];§(b.lf t ht).fits)
þ zex (b:BkOk ws ws B) (O:Ort B) {t:Tn}(ht:t∈B) {s:Str}{bs us:List Tr}(e:zaO B s=none) (hw:Wy ws B (.nd s bs)) (hl:us.length=t.2.1.nb) (h:src B (.nd s bs)=t.2.1.fill us) :
  ∃vs, .nd s bs=t.2.1.fill vs∧vs.length=t.2.1.nb∧vs.map (src B)=us∧(∀x∈vs,Wy ws B x)∧wts vs≤(Tr.nd s bs).weight:=by
 ø⟨s0,ls,e0,hin⟩:=O.inn t ht;have hm:t.2.1.mt (src B (.nd s bs))=some us:=by rw[h];§O.mt t ht us hl
 have h1:(t.2.1.mt (.nd s bs)).isSome=true:=by
  have hm':=hm;rw[show src B (.nd s bs)= .nd s (bs.map (src B)) from zcC e,e0,Tr.mt,List.length_map]at hm';rw[e0,Tr.mt];split at hm'
  ·rename_i hc;rw[if_pos hc];§zmq b O ls bs hin hw.kids (by rw[hm'];rfl)
  ·cases hm'
 ø⟨vs,hv⟩:=Option.isSome_iff_exists.mp h1;ø⟨h2,h3⟩:=O.fm t ht _ _ hv;¤⟨vs,h2,h3,?_,zwj _ _ _ hv hw,zks _ _ _ hv⟩;rw[h2,show src B (t.2.1.fill vs)=_ from znl b ht h3 _,O.mt t ht _ (by rw[List.length_map,h3])]at hm;§Option.some.inj hm
þ zdv{s:Str}{as:List Tr}:(Tr.nd s as).weight=1+wts as:=by rw[Tr.weight]
inductive PlB (P:Int→Prop):Pl→Prop
 |sign {b:Int}{h:Str}{ps:List Pl}:(∀p∈ps,PlB P p)→PlB P (.nd (-1) b h ps)
 |turn {k:Nat}{b:Int}{h:Str}{ps:List Pl}:P b→(∀p∈ps,PlB P p)→PlB P (.nd k b h ps)
ñ def zxB (x:Int):Prop:=x=1∨x=2∨x=3
þ ztd (b:BkOk ws ws B) (O:Ort B):∀(n:Nat) (x y:Tr),x.weight+y.weight≤n→Wy ws B x→Wy ws B y→src B x=src B y→ ∃p,PlOk ws B p∧PlB zxB p∧p.ev B (byC 1)=x∧p.ev B (byC 2)=y
 |0,x,y,hn,hx,hy,e=>by
  rcases hx.cases b with⟨s,as,rfl,_⟩ |⟨t,as,_,rfl,_⟩<;>rw[zdv]at hn<;>omega
 |n+1,x,y,hn,hx,hy,e=>by
  have lists:∀(xs ys:List Tr),wts xs+wts ys≤n→(∀x∈xs,Wy ws B x)→(∀y∈ys,Wy ws B y)→xs.map (src B)=ys.map (src B)→ ∃ps:List Pl,(∀p∈ps,PlOk ws B p)∧(∀p∈ps,PlB zxB p)∧ps.map (Pl.ev B (byC 1))=xs∧ps.map (Pl.ev B (byC 2))=ys:=by
   intro xs
   induction xs with
   |nil=>
    intro ys _ _ _ e;cases ys with
    |nil=>§⟨[],¢,¢,rfl,rfl⟩
    |cons y ys=>cases e
   |cons x xs ih=>
    intro ys hw h1 h2 e;cases ys with
    |nil=>cases e
    |cons y ys=>
     rw[List.map_cons,List.map_cons,List.cons.injEq]at e;rw[wts,wts]at hw;ø⟨p,hp,hq,e1,e2⟩:=ztd b O n x y ¥ (h1 x ¢) (h2 y ¢) e.1;ø⟨ps,hps,hqs,e3,e4⟩:=ih ys ¥ (λz hz=>h1 z (List.mem_cons_of_mem _ hz)) (λz hz=>h2 z (List.mem_cons_of_mem _ hz)) e.2;§⟨p::ps,λq hq=>by
      rcases List.mem_cons.mp hq with rfl |hq
      ·§hp
      ·§hps q hq,λq hz=>by
      rcases List.mem_cons.mp hz with rfl |hz
      ·§hq
      ·§hqs q hz,by rw[List.map_cons,e1,e3],by rw[List.map_cons,e2,e4]⟩
  rcases hx.cases b with⟨s,as,rfl,hs,es,ka⟩ |⟨t,as,ht,rfl,et,la,ka⟩
  ·rcases hy.cases b with⟨s',bs,rfl,hs',es',kb⟩ |⟨t,bs,ht,rfl,et,lb,kb⟩
   ·rw[show src B (.nd s as)=_ from zcC es,show src B (.nd s' bs)=_ from zcC es']at e;injection e with e1 e2;subst e1;rw[zdv,zdv]at hn;ø⟨ps,hps,hqs,e3,e4⟩:=lists as bs ¥ ka kb e2;§⟨.nd (-1) 0 s ps, .sign hs hps, .sign hqs,by rw[zbp,e3],by rw[zbp,e4]⟩
   ·rw[show src B (.nd t.1 bs)=_ from zco et]at e;ø⟨vs,ev,lv,ms,kv,wv⟩:=zex b O ht es hx (by rw[List.length_map,lb]) e;rw[zdv (s:=t.1)]at hn;ø⟨ps,hps,hqs,e3,e4⟩:=lists vs bs ¥ kv kb ms;ø⟨k,hk⟩:=List.getElem?_of_mem ht;¤⟨.nd k 2 t.1 ps, .turn hk (by rw[←lb,←e4,List.length_map]) £ £ hps, .turn (by unfold zxB;decide) hqs,?_,?_⟩
    ·rw[zaU hk,e3,ev,show byC 1 2=0 by decide];rfl
    ·rw[zaU hk,e4,show byC 2 2=1 by decide];rfl
  ·rcases hy.cases b with⟨s,bs,rfl,hs,es,kb⟩ |⟨u,bs,hu,rfl,eu,lb,kb⟩
   ·rw[show src B (.nd t.1 as)=_ from zco et]at e;ø⟨vs,ev,lv,ms,kv,wv⟩:=zex b O ht es hy (by rw[List.length_map,la]) e.symm;rw[zdv (s:=t.1)]at hn;ø⟨ps,hps,hqs,e3,e4⟩:=lists as vs ¥ ka kv ms.symm;ø⟨k,hk⟩:=List.getElem?_of_mem ht;¤⟨.nd k 1 t.1 ps, .turn hk (by rw[←la,←e3,List.length_map]) £ £ hps, .turn (by unfold zxB;decide) hqs,?_,?_⟩
    ·rw[zaU hk,e3,show byC 1 1=1 by decide];rfl
    ·rw[zaU hk,e4,ev,show byC 2 1=0 by decide];rfl
   ·rw[show src B (.nd t.1 as)=_ from zco et,show src B (.nd u.1 bs)=_ from zco eu]at e;have m1:=O.mt t ht (as.map (src B)) (by rw[List.length_map,la]);have m2:=O.mt u hu (bs.map (src B)) (by rw[List.length_map,lb]);have:t=u:=O.one t ht u hu _ (by rw[m1];rfl) (by rw[show(t.2.1.fill (as.map (src B)))=_ from e,m2];rfl)
    subst this;have e2:as.map (src B)=bs.map (src B):=by
     rw[show(t.2.1.fill (as.map (src B)))=_ from e,m2]at m1;§(Option.some.inj m1).symm
    rw[zdv,zdv]at hn;ø⟨ps,hps,hqs,e3,e4⟩:=lists as bs ¥ ka kb e2;ø⟨k,hk⟩:=List.getElem?_of_mem ht;¤⟨.nd k 3 t.1 ps, .turn hk (by rw[←la,←e3,List.length_map]) £ £ hps, .turn (by unfold zxB;decide) hqs,?_,?_⟩
    ·rw[zaU hk,e3,show byC 1 3=1 by decide];rfl
    ·rw[zaU hk,e4,show byC 2 3=1 by decide];rfl
end
þ zsv:∀xs ys:List Tr,wts (xs++ys)=wts xs+wts ys
 | [],ys=>by rw[List.nil_append,wts,Nat.zero_add]
 |x::xs,ys=>by rw[List.cons_append,wts,wts,zsv xs ys,Nat.add_assoc]
mutual
þ zjm:∀(L:Tr) (k m:Nat),L.ord k=some m→k≤m∧L.nb+k=m∧ ∀(us:List Tr),m≤us.length→(L.fill us).weight+(m - k)=L.weight+wts ((us.drop k).take (m - k))∧ ∀u∈(us.drop k).take (m - k),u.depth≤(L.fill us).depth
 | .bl n,k,m,h=>by
  rw[Tr.ord]at h;split at h
  ·rename_i hn;cases h;¤⟨¥,by rw[Tr.nb];omega,λus hu=>?_⟩
   have hk:k<us.length:=by omega
   have e:(us.drop k).take (k+1 - k)=[us[k]]:=by
    rw[show k+1 - k=1 by omega,List.drop_eq_getElem_cons hk]
    rfl
   have f:(Tr.bl n).fill us=us[k]:=by
    rw[Tr.fill,hn,Int.toNat_natCast,List.getD_eq_getElem?_getD,List.getElem?_eq_getElem hk];rfl
   rw[e,f];¤⟨?_,λu hu=>?_⟩
   ·ŝ[Tr.weight,wts];omega
   ·rw[List.mem_singleton]at hu;rw[hu];§Nat.le_refl _
  ·cases h
 | .nd s ls,k,m,h=>by
  rw[Tr.ord]at h;ø⟨h1,h2,h3⟩:=zgb ls k m h;¤⟨h1,by rw[Tr.nb];§h2,λus hu=>?_⟩
  ø⟨h4,h5⟩:=h3 us hu;rw[Tr.fill,Tr.weight,Tr.weight,Tr.depth];§⟨¥,λu hu'=>Nat.le_trans (h5 u hu') ¥⟩
þ zgb:∀(ls:List Tr) (k m:Nat),zps k ls=some m→k≤m∧nbs ls+k=m∧ ∀(us:List Tr),m≤us.length→wts (fills us ls)+(m - k)=wts ls+wts ((us.drop k).take (m - k))∧ ∀u∈(us.drop k).take (m - k),u.depth≤dts (fills us ls)
 | [],k,m,h=>by
  rw[zps]at h;cases h;¤⟨Nat.le_refl _,by rw[nbs];omega,λus _=>?_⟩
  rw[Nat.sub_self,List.take_zero,fills];§⟨rfl,λu hu=>by cases hu⟩
 |l::ls,k,m,h=>by
  rw[zps]at h;cases q:l.ord k with
  |none=>rw[q]at h;cases h
  |some j=>
   rw[q]at h;ø⟨h1,h2,h3⟩:=zjm l k j q;ø⟨g1,g2,g3⟩:=zgb ls j m h;¤⟨¥,by rw[nbs];omega,λus hu=>?_⟩
   ø⟨h4,h5⟩:=h3 us ¥;ø⟨g4,g5⟩:=g3 us hu;have e:(us.drop k).take (m - k)=(us.drop k).take (j - k)++(us.drop j).take (m - j):=by
    rw[show m - k=(j - k)+(m - j) by omega,List.take_add,List.drop_drop,show k+(j - k)=j by omega]
   rw[e,zsv,fills,wts,wts,dts];¤⟨¥,λu hu=>?_⟩;rcases List.mem_append.mp hu with hu |hu
   ·have:=h5 u hu;omega
   ·have:=g5 u hu;omega
end
þ zrW:∀(L:Tr),L.nb≤L.weight:=λL=>by rw[←zyI];§zvN L
þ zrb:∀ls:List Tr,nbs ls≤wts ls
 | []=>by rw[nbs,wts];§Nat.le_refl _
 |l::ls=>by rw[nbs,wts];have:=zrW l;have:=zrb ls;omega
section
variable {B:List Tn}
þ Ort.fill (O:Ort B) {t:Tn}(ht:t∈B) {us:List Tr}(hl:us.length=t.2.1.nb):(t.2.1.fill us).weight+t.2.1.nb=t.2.1.weight+wts us∧1+wts us≤(t.2.1.fill us).weight∧1+dts us≤(t.2.1.fill us).depth:=by
 ø⟨s,ls,e,_⟩:=O.inn t ht;have ho:=O.od t ht;ø⟨_,h2,h3⟩:=zjm _ _ _ ho;ø⟨h4,_⟩:=h3 us ¥;rw[Nat.sub_zero,List.drop_zero,List.take_of_length_le ¥]at h4;have hw:1+t.2.1.nb≤t.2.1.weight:=by
  rw[e,Tr.nb,Tr.weight];have:=zrb ls;omega
 ¤⟨h4,¥,?_⟩
 rw[e]at ho hl⊢;rw[Tr.ord]at ho;ø⟨_,_,g3⟩:=zgb _ _ _ ho;ø⟨_,g5⟩:=g3 us ¥;rw[Nat.sub_zero,List.drop_zero,List.take_of_length_le ¥]at g5;rw[Tr.fill,Tr.depth];have:=zuR g5;omega
mutual
ñ def Pl.pn:Pl→Nat
 | .nd k _ _ ps=>(if k<0 then 0 else 1)+pns ps
ñ def pns:List Pl→Nat
 | []=>0
 |p::ps=>max p.pn (pns ps)
end
ñ def zr:Int→Nat:=λ_=>0
end
section
variable {B:List Tn}
mutual
ñ def Tr.ne (B:List Tn):Tr→Nat
 | .bl _=>0
 | .nd s ts=>(match zaO B s with
  |none=>0
  |some _=>1)+nes B ts
ñ def nes (B:List Tn):List Tr→Nat
 | []=>0
 |t::ts=>max (t.ne B) (nes B ts)
end
þ zmM{t:Tr}:∀{ts:List Tr},t∈ts→t.ne B≤nes B ts
 |u::ts,h=>by
  rw[nes];rcases List.mem_cons.mp h with rfl |h
  ·omega
  ·have:=zmM h;omega
þ ziI{n:Nat}:∀{ts:List Tr},(∀t∈ts,t.ne B≤n)→nes B ts≤n
 | [],_=>by rw[nes];omega
 |t::ts,h=>by
  rw[nes];have:=h t ¢;have:=ziI λu hu=>h u (List.mem_cons_of_mem _ hu);omega
mutual
þ zjW (hB:∀t∈B,zdl t.1) {us:List Tr}:∀t:Tr,t.hb zcw→(t.fill us).ne B≤nes B us
 | .bl n,_=>by
  rw[Tr.fill,List.getD_eq_getElem?_getD];cases e:us[n.toNat]? with
  |none=>simp [Tr.ne]
  |some u=>§zmM (List.mem_of_getElem? e)
 | .nd s ts,h=>by
  rw[Tr.hb]at h;rw[Tr.fill,Tr.ne,zbd hB h.1];have:=zoL hB (us:=us) ts h.2;simpa using this
þ zoL (hB:∀t∈B,zdl t.1) {us:List Tr}:∀ts:List Tr,hbs zcw ts→nes B (fills us ts)≤nes B us
 | [],_=>by rw[fills,nes];omega
 |t::ts,h=>by
  rw[hbs]at h;rw[fills,nes];have:=zjW hB (us:=us) t h.1;have:=zoL hB (us:=us) ts h.2;omega
end
mutual
þ zuv:∀(L:Tr) (k m:Nat),L.ord k=some m→ ∀(us:List Tr),m≤us.length→ ∀u∈(us.drop k).take (m - k),u.ne B≤(L.fill us).ne B
 | .bl n,k,m,h,us,hu,u,hm=>by
  rw[Tr.ord]at h;split at h
  ·rename_i hn;cases h;have hk:k<us.length:=by omega
   have e:(us.drop k).take (k+1 - k)=[us[k]]:=by
    rw[show k+1 - k=1 by omega,List.drop_eq_getElem_cons hk]
    rfl
   have f:(Tr.bl n).fill us=us[k]:=by
    rw[Tr.fill,hn,Int.toNat_natCast,List.getD_eq_getElem?_getD,List.getElem?_eq_getElem hk];rfl
   rw[e,List.mem_singleton]at hm;rw[f,hm];§Nat.le_refl _
  ·cases h
 | .nd s ls,k,m,h,us,hu,u,hm=>by
  rw[Tr.ord]at h;have:=zqV ls k m h us hu u hm;rw[Tr.fill,Tr.ne];omega
þ zqV:∀(ls:List Tr) (k m:Nat),zps k ls=some m→ ∀(us:List Tr),m≤us.length→ ∀u∈(us.drop k).take (m - k),u.ne B≤nes B (fills us ls)
 | [],k,m,h,us,hu,u,hm=>by
  rw[zps]at h;cases h;rw[Nat.sub_self,List.take_zero]at hm;cases hm
 |l::ls,k,m,h,us,hu,u,hm=>by
  rw[zps]at h;cases q:l.ord k with
  |none=>rw[q]at h;cases h
  |some j=>
   rw[q]at h;ø⟨h1,_,_⟩:=zjm l k j q;ø⟨g1,_,_⟩:=zgb ls j m h;have e:(us.drop k).take (m - k)=(us.drop k).take (j - k)++(us.drop j).take (m - j):=by
    rw[show m - k=(j - k)+(m - j) by omega,List.take_add,List.drop_drop,show k+(j - k)=j by omega]
   rw[e]at hm;rw[fills,nes];rcases List.mem_append.mp hm with hm |hm
   ·have:=zuv l k j q us ¥ u hm;omega
   ·have:=zqV ls j m h us hu u hm;omega
end
þ Ort.ne (O:Ort B) {t:Tn}(ht:t∈B) {us:List Tr}(hl:us.length=t.2.1.nb):nes B us≤(t.2.1.fill us).ne B:=ziI λu hu=>by
 ¤zuv _ _ _ (O.od t ht) us ¥ u ?_;rw[Nat.sub_zero,List.drop_zero,List.take_of_length_le ¥];§hu
þ zgD{c:Int→Nat}{p:Pl}{ps:List Pl}(hp:p∈ps):(p.ev B c).ne B≤nes B (ps.map (Pl.ev B c)):=zmM (List.mem_map.mpr ⟨p,hp,rfl⟩)
þ zpU{n:Nat}:∀{ps:List Pl},(∀p∈ps,p.pn≤n)→pns ps≤n
 | [],_=>by rw[pns];omega
 |p::ps,h=>by
  rw[pns];have:=h p ¢;have:=zpU λu hu=>h u (List.mem_cons_of_mem _ hu);omega
þ zBc{c d:Int→Nat}(b:BkOk ws ws B) (O:Ort B) (hc:One c) (hd:One d) {p:Pl}(h:PlOk ws B p) (hb:PlB (λx=>c x=1∨d x=1) p):p.pn≤(p.ev B c).ne B+(p.ev B d).ne B:=by
 induction h with
 | @sign b' h ps hh hp ih=>
  have kids:∀p∈ps,PlB (λx=>c x=1∨d x=1) p:=by
   cases hb with
   |sign h=>§h
  have:pns ps≤nes B (ps.map (Pl.ev B c))+nes B (ps.map (Pl.ev B d)):=zpU λp hp=>by
   have:=ih p hp (kids p hp);have:=zgD (B:=B) (c:=c) hp;have:=zgD (B:=B) (c:=d) hp;omega
  have e:=zbd b.ti (b.sg h hh);rw[zbp,zbp,Pl.pn,if_pos £,Tr.ne,Tr.ne,e];simpa using this
 | @turn k b' h ps t e hl b0 b1 hp ih=>
  have ht:t∈B:=List.mem_of_getElem? e;obtain⟨hb1,kids⟩:(c b'=1∨d b'=1)∧ ∀p∈ps,PlB (λx=>c x=1∨d x=1) p:=by
   cases hb with
   |turn h1 h2=>§⟨h1,h2⟩
  have key:pns ps≤nes B (ps.map (Pl.ev B c))+nes B (ps.map (Pl.ev B d)):=zpU λp hp=>by
   have:=ih p hp (kids p hp);have:=zgD (B:=B) (c:=c) hp;have:=zgD (B:=B) (c:=d) hp;omega
  have en:(Pl.nd k b' h ps).pn=1+pns ps:=by rw[Pl.pn,if_neg ¥]
  have low:∀c:Int→Nat,One c→nes B (ps.map (Pl.ev B c))+c b'≤(evT t (c b') (ps.map (Pl.ev B c))).ne B:=λc hc=>by
   have l1:(ps.map (Pl.ev B c)).length=t.2.1.nb:=by rw[List.length_map,hl]
   have:=hc b' b0 b1;by_cases h1:c b'=1
   ·rw[h1];show _≤(Tr.nd t.1 _).ne B;rw[Tr.ne,zcJ b.nd ht];show _≤1+_;omega
   ·rw[show c b'=0 by omega]
    §O.ne ht l1
  rw[zaU e,zaU e,en];have:=low c hc;have:=low d hd;omega
þ zwk{c d:Int→Nat}(b:BkOk ws ws B) (O:Ort B) (hc:One c) (hd:One d) {p:Pl}(h:PlOk ws B p):(p.ev B (ziv c d)).ne B≤(p.ev B c).ne B:=by
 induction h with
 | @sign b' h ps hh hp ih=>
  have:nes B (ps.map (Pl.ev B (ziv c d)))≤nes B (ps.map (Pl.ev B c)):=ziI λu hu=>by
   ø⟨p,hp,rfl⟩:=List.mem_map.mp hu;§Nat.le_trans (ih p hp) (zgD hp)
  have e:=zbd b.ti (b.sg h hh);rw[zbp,zbp,Tr.ne,Tr.ne,e];simpa using this
 | @turn k b' h ps t e hl b0 b1 hp ih=>
  have ht:t∈B:=List.mem_of_getElem? e;have key:nes B (ps.map (Pl.ev B (ziv c d)))≤nes B (ps.map (Pl.ev B c)):=ziI λu hu=>by
   ø⟨p,hp,rfl⟩:=List.mem_map.mp hu;§Nat.le_trans (ih p hp) (zgD hp)
  have l1:(ps.map (Pl.ev B c)).length=t.2.1.nb:=by rw[List.length_map,hl]
  have low:nes B (ps.map (Pl.ev B c))+c b'≤(evT t (c b') (ps.map (Pl.ev B c))).ne B:=by
   have:=hc b' b0 b1;by_cases h1:c b'=1
   ·rw[h1];show _≤(Tr.nd t.1 _).ne B;rw[Tr.ne,zcJ b.nd ht];show _≤1+_;omega
   ·rw[show c b'=0 by omega]
    §O.ne ht l1
  rw[zaU e,zaU e];¤Nat.le_trans ?_ low;have hp:ziv c d b'=if d b'=1 then 2 else c b':=rfl;rw[hp];by_cases dz:d b'=1
  ·rw[if_pos dz];have:=zjW b.ti (us:=ps.map (Pl.ev B (ziv c d))) t.2.2 ((b.ri t ht).hb b.sg);show(t.2.2.fill _).ne B≤_;omega
  ·rw[if_neg dz];have:=hc b' b0 b1;by_cases h1:c b'=1
   ·rw[h1];show(Tr.nd t.1 _).ne B≤_;rw[Tr.ne,zcJ b.nd ht];show 1+_≤_;omega
   ·rw[show c b'=0 by omega]
    have:=zjW b.ti (us:=ps.map (Pl.ev B (ziv c d))) t.2.1 (b.lf t ht).hb;show(t.2.1.fill _).ne B≤_;omega
end
mutual
þ Mv.one{B:List Tn}:∀{n m:Nat}{a b c d:Tr},Mv B n a b c→Mv B m a b d→c=d
 |_,_,_,_,_,_, .nn h1 h2 h3,g=>by
  cases g with
  |nn g1 g2 g3=>rw[Mvs.one h3 g3]
  |ns g1 g2 g3 g4 g5=>rw[h2]at g2;cases g2
  |sn g1 g2 g3 g4=>rw[h1]at g1;cases g1
  |ss g1 g2 g3 g4=>rw[h1]at g1;cases g1
 |_,_,_,_,_,_, .ns h1 h2 h3 h4 h5,g=>by
  cases g with
  |nn g1 g2 g3=>rw[h2]at g2;cases g2
  |ns g1 g2 g3 g4 g5=>
   rw[h2]at g2;cases g2;rw[h3]at g3;cases g3;rw[Mvs.one h5 g5]
  |sn g1 g2 g3 g4=>rw[h1]at g1;cases g1
  |ss g1 g2 g3 g4=>rw[h1]at g1;cases g1
 |_,_,_,_,_,_, .sn h1 h2 h3 h4,g=>by
  cases g with
  |nn g1 g2 g3=>rw[h1]at g1;cases g1
  |ns g1 g2 g3 g4 g5=>rw[h1]at g1;cases g1
  |sn g1 g2 g3 g4=>
   rw[h1]at g1;cases g1;rw[h3]at g3;cases g3;rw[Mvs.one h4 g4]
  |ss g1 g2 g3 g4=>rw[h2]at g2;cases g2
 |_,_,_,_,_,_, .ss h1 h2 h3 h4,g=>by
  cases g with
  |nn g1 g2 g3=>rw[h1]at g1;cases g1
  |ns g1 g2 g3 g4 g5=>rw[h1]at g1;cases g1
  |sn g1 g2 g3 g4=>rw[h2]at g2;cases g2
  |ss g1 g2 g3 g4=>
   rw[h2]at g2;cases g2;rw[Mvs.one h4 g4]
þ Mvs.one{B:List Tn}:∀{n m:Nat}{a b c d:List Tr},Mvs B n a b c→Mvs B m a b d→c=d
 |_,_,_,_,_,_, .nil,g=>by
  cases g;rfl
 |_,_,_,_,_,_, .cons h1 h2,g=>by
  cases g with
  |cons g1 g2=>rw[Mv.one h1 g1,Mvs.one h2 g2]
end
open Classical in
ñ def res (B:List Tn) (x y:Tr):Tr:=if h:∃z n,Mv B n x y z then choose h else x
þ Mv.res{B:List Tn}{n:Nat}{x y z:Tr}(h:Mv B n x y z):res B x y=z:=by
 unfold L2.res;have e:∃z n,Mv B n x y z:=⟨z,n,h⟩;rw[dif_pos e];ø⟨m,h'⟩:=Classical.choose_spec e;§Mv.one h' h
structure Bk2 (ws:List Str) (B:List Tn):Prop where
  b:BkOk ws ws B
  O:Ort B
  lw:∀t∈B,t.2.1.hb λs=>s∈ws
  sl:Slim B
þ BookOk.bk2{w0 w1 w2 w3 w4 w5:Str}{tt:List Str}{B:List Tn}(b:BookOk w0 w1 w2 w3 w4 w5 tt B) (T:Titles tt) (G:Signs w0 w1 w2 w3 w4 w5) (sl:Slim B):Bk2 ω B:=by
 have k:=b.bk T G;¤⟨⟨k.ti,k.nd,k.sg,λx hx=>hx,k.lf,k.ri⟩,b.ort G,λt ht=>?_,sl⟩;ø⟨n,z |z⟩:=b.mem_lefts ht
 ·§(zhr (P:=λs=>s∈ ω) ¢ ¢ ¢ _ z).hb
 ·§(zhr (P:=λs=>s∈ ω) ¢ ¢ ¢ _ z).hb
section
variable {ws:List Str}{B:List Tn}{x y:Tr}{p:Pl}
þ Bk2.wy (K:Bk2 ws B) {c:Int→Nat}{p:Pl}(h:PlOk ws B p):Wy ws B (p.ev B c):=by
 ¤⟨?_,zyV _ (zzd K.b h)⟩
 induction h with
 | @sign b' h ps hh hp ih=>
  rw[zbp,Tr.hd,hds_iff];¤⟨.inl hh,λu hu=>?_⟩;ø⟨p,hp,rfl⟩:=List.mem_map.mp hu;§ih p hp
 | @turn k b' h ps t e hl b0 b1 hp ih=>
  have ht:t∈B:=List.mem_of_getElem? e;have hu:∀u∈ps.map (Pl.ev B c),u.hd λs=>s∈ws∨ ∃t∈B,t.1=s:=λu hu=>by
   ø⟨p,hp,rfl⟩:=List.mem_map.mp hu;§ih p hp
  rw[zaU e];unfold evT;split
  ·§zjf hu _ (zrx (λs hs=> .inl hs) _ (K.lw t ht)) (by rw[List.length_map,hl];§(K.b.lf t ht).fits)
  ·rw[Tr.hd,hds_iff];§⟨.inr ⟨t,ht,rfl⟩,hu⟩
  ·§zjf hu _ ((K.b.ri t ht).hb (λs hs=> .inl hs)) (by rw[List.length_map,hl];§(K.b.ri t ht).fits)
þ zBT (x:Int) (h:zxB x):byC 1 x=1∨byC 2 x=1:=by
 rcases h with rfl |rfl |rfl
 ·§.inl £
 ·§.inr £
 ·§.inl £
þ PlB.imp{P Q:Int→Prop}(h:∀x,P x→Q x) {p:Pl}(hp:PlB P p):PlB Q p:=by
 induction hp with
 |sign _ ih=>§.sign ih
 |turn hb _ ih=>§.turn (h _ hb) ih
þ zro (K:Bk2 ws B) (hx:Wy ws B x) (hy:Wy ws B y) (e:src B x=src B y):∃p,PlOk ws B p∧p.ev B (byC 1)=x∧p.ev B (byC 2)=y∧p.pn≤x.ne B+y.ne B∧p.ev B zr=src B x:=by
 ø⟨p,hp,hb,e1,e2⟩:=ztd K.b K.O _ x y (Nat.le_refl _) hx hy e;¤⟨p,hp,e1,e2,?_,?_⟩
 ·have:=zBc K.b K.O (zdM 1) (zdM 2) hp (hb.imp zBT);rw[e1,e2]at this;§this
 ·rw[←e1];show _=(p.ev B (byC 1)).mk B λt=>t.2.1;rw[ziO K.b hp];§zeC hp λb h0 h1=>((zdM 1).src b h0 h1).symm
structure Two (ws:List Str) (B:List Tn) (x y:Tr):Prop where
  K:Bk2 ws B
  ex:∃p c d,Pk ws ws B p∧One c∧One d∧p.ev B c=x∧p.ev B d=y
þ Two.symm (h:Two ws B x y):Two ws B y x:=by
 ø⟨p,c,d,k,hc,hd,e1,e2⟩:=h.ex;§⟨h.K,p,d,c,k,hd,hc,e2,e1⟩
structure Moved (ws:List Str) (B:List Tn) (x y z:Tr):Prop where
  wy:Wy ws B z
  sr:src B z=gol B y
  go:gol B z=gol B (res B y x)
  ne:z.ne B≤x.ne B
end
section
variable {ws:List Str}{B:List Tn}{x t:Tr}
structure Bd (t:Tr) (n:Nat):Prop where
  w:2 ^ n*t.weight≤400
  d:t.depth+3*n≤40
þ zBS (b:BkOk ws ws B) {p:Pl}(h:PlOk ws B p):(p.ev B zr).ne B=0:=by
 induction h with
 | @sign b' h ps hh hp ih=>
  have:nes B (ps.map (Pl.ev B zr))≤0:=ziI λu hu=>by
   ø⟨p,hp,rfl⟩:=List.mem_map.mp hu;rw[ih p hp];§Nat.le_refl _
  have e:=zbd b.ti (b.sg h hh);rw[zbp,Tr.ne,e];show 0+_=0;omega
 | @turn k b' h ps t e hl b0 b1 hp ih=>
  have ht:t∈B:=List.mem_of_getElem? e;have:nes B (ps.map (Pl.ev B zr))≤0:=ziI λu hu=>by
   ø⟨p,hp,rfl⟩:=List.mem_map.mp hu;rw[ih p hp];§Nat.le_refl _
  have:=zjW b.ti (us:=ps.map (Pl.ev B zr)) t.2.1 (b.lf t ht).hb;rw[zaU e];show(t.2.1.fill _).ne B=0;omega
þ zCX:∀x:Int,0≤x→x<8→zr x=byC 8 x:=λx h0 h8=>(ztl x h0 h8).symm
þ Bk2.src (K:Bk2 ws B) (h:Wy ws B x):Wy ws B (src B x)∧L2.src B (src B x)=L2.src B x∧(L2.src B x).ne B=0∧gol B (L2.src B x)=L2.src B x:=by
 ø⟨p,hp,_,rfl,_⟩:=ztd K.b K.O _ x x (Nat.le_refl _) h h rfl;have e:L2.src B (p.ev B (byC 1))=p.ev B zr:=by
  show(p.ev B (byC 1)).mk B (λt=>t.2.1)=_;rw[ziO K.b hp];§zeC hp (zdM 1).src
 rw[e];¤⟨K.wy hp,?_,zBS K.b hp,?_⟩
 ·show(p.ev B zr).mk B (λt=>t.2.1)=_;rw[ziO K.b hp];rfl
 ·show(p.ev B zr).mk B (λt=>t.2.2)=_;rw[zgH K.b hp];rfl
þ Bk2.gol (K:Bk2 ws B) (h:Wy ws B x):Wy ws B (gol B x)∧L2.src B (L2.gol B x)=L2.gol B x∧(L2.gol B x).ne B=0∧L2.gol B (L2.gol B x)=L2.gol B x:=by
 ø⟨p,hp,_,rfl,_⟩:=ztd K.b K.O _ x x (Nat.le_refl _) h h rfl;have e:L2.gol B (p.ev B (byC 1))=p.ev B (zeg (byC 1)):=zgH K.b hp;have tg:∀x,zeg (byC 1) x≠1:=λx=>by unfold zeg;split<;>omega
 have s:L2.src B (p.ev B (zeg (byC 1)))=p.ev B (zeg (byC 1)):=by
  show(p.ev B (zeg (byC 1))).mk B (λt=>t.2.1)=_;rw[ziO K.b hp];§zeC hp λb _ _=>by rw[zmp,if_neg (tg b)]
 have w:Wy ws B (p.ev B (zeg (byC 1))):=K.wy hp;rw[e];¤⟨w,s,?_,?_⟩
 ·have:=(K.src w).2.2.1;rwa [s]at this
 ·have:=(K.src w).2.2.2;rwa [s]at this
end
ñ def zeM (B:List Tn):Tr→List Tr→Tr
 |t,[]=>t
 |_,x::xs=>zeM B (gol B x) xs
ñ def Roa (ws:List Str) (B:List Tn):Tr→List Tr→Prop
 |_,[]=>True
 |t,x::xs=>Wy ws B x∧src B x=t∧Roa ws B (gol B x) xs
ñ def nR (B:List Tn):List Tr→Nat
 | []=>0
 |x::xs=>x.ne B+nR B xs
ñ def zeE (B:List Tn):Tr→List Tr→List Tr
 |x,[]=>[x]
 |x,o::os=>x::zeE B (res B x o) os
ñ def zea (B:List Tn):Tr→List Tr→List Tr
 |_,[]=>[]
 |x,o::os=>res B o x::zea B (res B x o) os
ñ def zcW (B:List Tn):Tr→List Tr→Tr
 |x,[]=>x
 |x,o::os=>zcW B (res B x o) os
ñ def zmb (B:List Tn):List Tr→List Tr→List (List Tr)
 | [],_=>[]
 |x::xs,os=>zeE B x os::zmb B xs (zea B x os)
ñ def zlZ (B:List Tn):List Tr→List Tr→List (List Tr)
 | [],os=>[os]
 |x::xs,os=>os::zlZ B xs (zea B x os)
ñ def zar (B:List Tn):List Tr→List Tr→List Tr
 | [],_=>[]
 |x::xs,os=>zcW B x os::zar B xs (zea B x os)
ñ def zdH (B:List Tn):List Tr→List Tr→List Tr
 | [],os=>os
 |x::xs,os=>zdH B xs (zea B x os)
section
variable {ws:List Str}{B:List Tn}
þ znr:∀(os:List Tr) (x:Tr),(zeE B x os).length=os.length+1
 | [],x=>rfl
 |o::os,x=>by rw[zeE,List.length_cons,znr os];rfl
þ zjh:∀(os:List Tr) (x:Tr),(zea B x os).length=os.length
 | [],x=>rfl
 |o::os,x=>by rw[zea,List.length_cons,zjh os];rfl
þ zlf:∀(os:List Tr) (x:Tr),(zeE B x os).getLast? =some (zcW B x os)
 | [],x=>rfl
 |o::os,x=>by
  rw[zeE,List.getLast?_cons,zlf os,zcW];rfl
þ zhd:∀(xs os:List Tr),(zar B xs os).length=xs.length
 | [],os=>rfl
 |x::xs,os=>by rw[zar,List.length_cons,zhd xs];rfl
þ zoB:∀(xs os:List Tr),(zdH B xs os).length=os.length
 | [],os=>rfl
 |x::xs,os=>by rw[zdH,zoB xs,zjh]
þ Roa.end_wy (K:Bk2 ws B):∀(xs:List Tr) {t:Tr},Roa ws B t xs→Wy ws B t→src B t=t→Wy ws B (zeM B t xs)∧src B (zeM B t xs)=zeM B t xs
 | [],t,_,h,e=>⟨h,e⟩
 |x::xs,t,⟨hx,ex,hr⟩,_,_=>Roa.end_wy K xs hr (K.gol hx).1 (K.gol hx).2.1
end
þ zgA{α β:Type}{R:α→β→Prop}:∀{xs:List α}{ys:List β}{xs':List α}{ys':List β},Paired R xs ys→Paired R xs' ys'→Paired R (xs++xs') (ys++ys')
 |_,_,_,_, .nil,h=>h
 |_,_,_,_, .cons h1 h2,h=> .cons h1 (zgA h2 h)
þ zcu{α β:Type}{R R':α→β→Prop}(f:∀x y,R x y→R' x y):∀{xs:List α}{ys:List β},Paired R xs ys→Paired R' xs ys
 |_,_, .nil=> .nil
 |_,_, .cons h1 h2=> .cons (f _ _ h1) (zcu f h2)
mutual
þ zzt:∀(L t:Tr) (ms:List Tr) (p:List Int),L.mt t=some ms→Paired (λ(x:List Int×Tr) m=>∃e,x.1=p++e∧t.at e=some m) ((L.plt p).filter λx=>x.2.isBl) ms
 | .bl n,t,ms,p,e=>by
  rw[Tr.mt]at e;cases e;rw[Tr.plt];§.cons ⟨[],¢,by rw[Tr.at]⟩ .nil
 | .nd s ls, .bl n,ms,p,e=>by rw[Tr.mt]at e;cases e
 | .nd s ls, .nd z us,ms,p,e=>by
  rw[Tr.mt]at e;split at e
  ·rename_i hc;rw[Bool.and_eq_true,beq_iff_eq,beq_iff_eq]at hc;rw[Tr.plt,List.filter_cons_of_neg (by simp [Tr.isBl])];¤zcu ?_ (zut ls us ms p 0 hc.2 e);rintro x m ⟨j,e,u,h1,h2,h3⟩;¤⟨(j:Int)::e,by rw[h1,Nat.zero_add],?_⟩
   rw[Tr.at,if_neg ¥,Int.toNat_natCast,h2];§h3
  ·cases e
þ zut:∀(ls us ms:List Tr) (p:List Int) (i:Nat),ls.length=us.length→mts ls us=some ms→Paired (λ(x:List Int×Tr) m=>∃(j:Nat) (e:List Int) (u:Tr),x.1=p++((i+j:Nat):Int)::e∧us[j]? =some u∧u.at e=some m) ((zgX p i ls).filter λx=>x.2.isBl) ms
 | [],us,ms,p,i,hl,e=>by
  rw[mts]at e;cases e;rw[zgX];§.nil
 |l::ls,[],ms,p,i,hl,e=>by cases hl
 |l::ls,u::us,ms,p,i,hl,e=>by
  rw[mts]at e;cases q1:l.mt u with
  |none=>rw[q1]at e;cases e
  |some xs=>
   rw[q1]at e;cases q2:mts ls us with
   |none=>rw[q2]at e;cases e
   |some zs=>
    rw[q2]at e;cases e;rw[zgX,List.filter_append];¤zgA (zcu ?_ (zzt l u xs _ q1)) (zcu ?_ (zut ls us zs p (i+1) (by simpa using hl) q2))
    ·rintro x m ⟨e,h1,h2⟩;§⟨0,e,u,by rw[h1];simp,rfl,h2⟩
    ·rintro x m ⟨j,e,v,h1,h2,h3⟩;§⟨j+1,e,v,by rw[h1,show i+1+j=i+(j+1) by omega],by rw[List.getElem?_cons_succ];§h2,h3⟩
end
þ zqP{L t:Tr}{ms:List Tr}(h:L.mt t=some ms):Paired (λq m=>t.at q=some m) (L.bls.map λx=>x.1) ms:=by
 have:=zzt L t ms [] h;clear h;unfold Tr.bls;generalize (L.plt []).filter (λx=>x.2.isBl)=xs at this⊢
 induction this with
 |nil=>§.nil
 |cons h1 h2 ih=>
  ø⟨e,h3,h4⟩:=h1;rw[List.map_cons];rw[List.nil_append]at h3;§.cons (by rw[h3];§h4) ih
ñ def cnt (wn:List (List Int)) (p:List Int):Nat:=wn.countP λq=>p.isPrefixOf q
þ zrz (wn:List (List Int)) (p q:List Int):cnt wn (p++q)≤cnt wn p:=by
 unfold cnt;¤List.countP_mono_left λx _ h=>?_;ø⟨e,rfl⟩:=List.isPrefixOf_iff_prefix.mp h;§List.isPrefixOf_iff_prefix.mpr ⟨q++e,¢⟩
þ zvh:∀(wn:List (List Int)) (p:List Int) (i:Int) (q:List Int),p∈wn→cnt wn (p++i::q)+1≤cnt wn p
 |w::wn,p,i,q,h=>by
  unfold cnt;rw[List.countP_cons,List.countP_cons];have hs:=zrz wn p (i::q);unfold cnt at hs;rcases List.mem_cons.mp h with rfl |h
  ·have h1:(p++i::q).isPrefixOf p=false:=by
    rw[Bool.eq_false_iff];intro z;ø⟨e,z⟩:=List.isPrefixOf_iff_prefix.mp z;have:=congrArg List.length z;simp at this
   have h2:p.isPrefixOf p=true:=List.isPrefixOf_iff_prefix.mpr ⟨[],¢⟩
   rw[h1,h2];simp;omega
  ·have ih:=zvh wn p i q h;unfold cnt at ih;have h3:(p++i::q).isPrefixOf w=true→p.isPrefixOf w=true:=λz=>by
    ø⟨e,rfl⟩:=List.isPrefixOf_iff_prefix.mp z;§List.isPrefixOf_iff_prefix.mpr ⟨i::q++e,¢⟩
   by_cases z:(p++i::q).isPrefixOf w=true
   ·rw[if_pos z,if_pos (h3 z)];omega
   ·rw[if_neg z];omega
þ zmO{B:List Tn}:∀{ts:List Tr},(∀t∈ts,t.ar B)→ars B ts
 | [],_=>by rw[ars];trivial
 |t::ts,h=>by rw[ars];§⟨h t ¢,zmO λu hu=>h u (List.mem_cons_of_mem _ hu)⟩
structure Sh (ws:List Str) (B:List Tn) (t:Tr):Prop where
  wy:Wy ws B t
  q:src B t=t
section
variable {ws:List Str}{B:List Tn}
þ Sh.cases (K:Bk2 ws B) {t:Tr}(h:Sh ws B t):∃s ts,t= .nd s ts∧s∈ws∧zaO B s=none∧ ∀x∈ts,Sh ws B x:=by
 rcases h.wy.cases K.b with⟨s,ts,rfl,hs,e,k⟩ |⟨u,ts,hu,rfl,e,hl,k⟩
 ·have q:=h.q;rw[show src B (.nd s ts)=_ from zcC e]at q;injection q with _ q;¤⟨s,ts,rfl,hs,e,λx hx=>⟨k x hx,?_⟩⟩;ø⟨i,hi,rfl⟩:=List.getElem_of_mem hx;have:=congrArg (λl=>l[i]?) q;simp only[List.getElem?_map,List.getElem?_eq_getElem hi]at this;§Option.some.inj this
 ·have q:=h.q;rw[show src B (.nd u.1 ts)=_ from zco e]at q;ø⟨s0,l0,e0,_⟩:=K.O.inn u hu;have hb:=(K.b.lf u hu).hb;rw[e0,Tr.hb]at hb;rw[e0,Tr.fill]at q;injection q with q _;§absurd q (zfg hb.1 (K.b.ti u hu))
þ Sh.parts (K:Bk2 ws B) {t:Tr}(h:Sh ws B t) {u:Tn}(hu:u∈B) {ms:List Tr}(e:u.2.1.mt t=some ms):t=u.2.1.fill ms∧ms.length=u.2.1.nb∧ ∀x∈ms,Sh ws B x:=by
 ø⟨h1,h2⟩:=K.O.fm u hu _ _ e;¤⟨h1,h2,λx hx=>⟨zwj _ _ _ e h.wy x hx,?_⟩⟩;have q:=h.q;rw[h1,show src B (u.2.1.fill ms)=_ from znl K.b hu h2 _]at q;have m1:=K.O.mt u hu ms h2;have m2:=K.O.mt u hu (ms.map (src B)) (by rw[List.length_map,h2]);rw[show u.2.1.fill (ms.map (src B))=_ from q,m1]at m2;have q:=Option.some.inj m2;ø⟨i,hi,rfl⟩:=List.getElem_of_mem hx;have:=congrArg (λl=>l[i]?) q;simp only[List.getElem?_map,List.getElem?_eq_getElem hi]at this;§(Option.some.inj this).symm
ñ def zxC (B:List Tn) (wn:List (List Int)) (p:List Int) (t:Tr):Prop:=∀q∈wn,∀e v,q=p++e→t.at e=some v→(zcS B v).isSome=true
þ zsw{s:Str}{ts:List Tr}{i:Nat}{u:Tr}(h:ts[i]? =some u) (e:List Int):(Tr.nd s ts).at ((i:Int)::e)=u.at e:=by
 rw[Tr.at,if_neg ¥,Int.toNat_natCast,h]
þ zrm{wn:List (List Int)}{n:Nat}{p:List Int}{c:Nat}(ih:∀(t:Tr) (p:List Int),t.depth≤n→Sh ws B t→zxC B wn p t→ ∃u,Wi B wn n p t u∧src B u=t∧Wy ws B u∧u.ne B≤cnt wn p) :
  ∀{qs:List (List Int)}{ts:List Tr},Paired (λq t=>t.depth≤n∧Sh ws B t∧zxC B wn (p++q) t∧cnt wn (p++q)≤c) qs ts→ ∃us,Wis B wn n p qs ts us∧us.map (src B)=ts∧(∀u∈us,Wy ws B u)∧nes B us≤c
 |_,_, .nil=>⟨[], .nil,rfl,¢,by rw[nes];omega⟩
 |_,_, .cons ⟨h1,h2,h3,h4⟩ h=>by
  ø⟨u,w,e,y,k⟩:=ih _ _ h1 h2 h3;ø⟨us,ws',es,ys,ks⟩:=zrm ih h;¤⟨u::us, .cons w ws',by rw[List.map_cons,e,es],λv hv=>?_,by rw[nes];omega⟩
  rcases List.mem_cons.mp hv with rfl |hv
  ·§y
  ·§ys v hv
þ ztP (K:Bk2 ws B) {wn:List (List Int)}:∀(n:Nat) (t:Tr) (p:List Int),t.depth≤n→Sh ws B t→zxC B wn p t→ ∃u,Wi B wn n p t u∧src B u=t∧Wy ws B u∧u.ne B≤cnt wn p
 |0,t,p,hd,h,_=>by
  ø⟨s,ts,rfl,_⟩:=h.cases K;rw[Tr.depth]at hd;omega
 |n+1,t,p,hd,h,hw=>by
  ø⟨s,ts,rfl,hs,e,k⟩:=h.cases K;rw[Tr.depth]at hd;by_cases hp:p∈wn
  ·have ho:=hw p hp [] (.nd s ts) ¢ (by rw[Tr.at]);ø⟨u,ho⟩:=Option.isSome_iff_exists.mp ho;have hu:u∈B:=List.mem_of_find?_eq_some ho;have hm:(u.2.1.mt (.nd s ts)).isSome=true:=by simpa using List.find?_some ho
   ø⟨ms,hm⟩:=Option.isSome_iff_exists.mp hm;ø⟨f1,f2,f3⟩:=h.parts K hu hm;have ba:=zqP hm;have hdm:∀y∈ms,y.depth≤n:=λy hy=>by
    ø⟨s0,l0,e0,_⟩:=K.O.inn u hu;rw[e0,Tr.mt]at hm;split at hm
    ·have:=znR _ _ _ hm y hy;omega
    ·cases hm
   have hne:∀q∈u.2.1.bls.map (λx=>x.1),∃i e,q=i::e:=λq hq=>by
    ø⟨z,hz,rfl⟩:=List.mem_map.mp hq;ø⟨h1,h2,_⟩:=zqp hz;cases hq:z.1 with
    |nil=>
     rw[hq,Tr.at]at h1;have h3:u.2.1=z.2:=Option.some.inj h1;ø⟨s0,l0,e0,_⟩:=K.O.inn u hu;rw[←h3,e0]at h2;cases h2
    |cons i is=>§⟨i,is,rfl⟩
   have pr:∀{qs:List (List Int)}{xs:List Tr},(∀q∈qs,∃i e,q=i::e)→(∀x∈xs,x.depth≤n∧Sh ws B x)→Paired (λq m=>(Tr.nd s ts).at q=some m) qs xs→Paired (λq t=>t.depth≤n∧Sh ws B t∧zxC B wn (p++q) t∧cnt wn (p++q)≤cnt wn p - 1) qs xs:=by
    intro qs xs h1 h2 h3
    induction h3 with
    |nil=>§.nil
    | @cons q m qs xs h4 _ ih=>
     ø⟨i,e,rfl⟩:=h1 q ¢;ø⟨g1,g2⟩:=h2 m ¢;¤.cons ⟨g1,g2,λq' hq' e' v' h5 h6=>hw q' hq' (i::e++e') v' (by rw[h5];simp) (by rw[znf _ e' h4];§h6),?_⟩ (ih (λq hq=>h1 q (List.mem_cons_of_mem _ hq)) λx hx=>h2 x (List.mem_cons_of_mem _ hx));have:=zvh wn p i e hp;omega
   ø⟨us,wi,es,ys,ks⟩:=zrm (ztP K n) (pr hne (λx hx=>⟨hdm x hx,f3 x hx⟩) ba);have et:=zcJ K.b.nd hu;have lu:us.length=u.2.1.nb:=by rw[←f2,←es,List.length_map]
   ¤⟨.nd u.1 us, .yes hp ho hm et wi,?_,⟨?_,?_⟩,?_⟩
   ·rw[show src B (.nd u.1 us)=_ from zco et,es,f1]
   ·rw[Tr.hd,hds_iff];§⟨.inr ⟨u,hu,rfl⟩,λx hx=>(ys x hx).hd⟩
   ·rw[Tr.ar];¤⟨λt ht=>?_,zmO λx hx=>(ys x hx).ar⟩;rw[et]at ht;cases ht;§lu
   ·rw[Tr.ne,et];have h1:1≤cnt wn p:=by
     unfold cnt;§List.countP_pos_iff.mpr ⟨p,hp,List.isPrefixOf_iff_prefix.mpr ⟨[],¢⟩⟩
    show 1+_≤_;omega
  ·have pr:∀(i:Nat) (xs:List Tr),(∀(j:Nat) x,xs[j]? =some x→ts[i+j]? =some x)→Paired (λq t=>t.depth≤n∧Sh ws B t∧zxC B wn (p++q) t∧cnt wn (p++q)≤cnt wn p) ((List.range' i xs.length).map λ(i:Nat)=>[(i:Int)]) xs:=by
    intro i xs
    induction xs generalizing i with
    |nil=>intro _;§.nil
    |cons x xs ih=>
     intro hx;have hi:=hx 0 x rfl;rw[Nat.add_zero]at hi;have hm:x∈ts:=List.mem_of_getElem? hi;have hdx:=zcX hm;rw[List.length_cons,List.range'_succ,List.map_cons];¤.cons ⟨¥,k x hm,λq' hq' e' v' h5 h6=>hw q' hq' ((i:Int)::e') v' (by rw[h5];simp) (by rw[zsw hi];§h6),zrz wn p _⟩ (ih (i+1) λj y hy=>?_);have:=hx (j+1) y (by rw[List.getElem?_cons_succ];§hy);rw[show i+1+j=i+(j+1) by omega]
     §this
   have pr0:=pr 0 ts λj x h=>by rw[Nat.zero_add];§h
   rw[←List.range_eq_range']at pr0;ø⟨us,wi,es,ys,ks⟩:=zrm (ztP K n) pr0;¤⟨.nd s us, .no hp e wi,?_,⟨?_,?_⟩,?_⟩
   ·rw[show src B (.nd s us)=_ from zcC e,es]
   ·rw[Tr.hd,hds_iff];§⟨.inl hs,λx hx=>(ys x hx).hd⟩
   ·rw[Tr.ar];§⟨λt ht=>(by rw[e]at ht;cases ht),zmO λx hx=>(ys x hx).ar⟩
   ·rw[Tr.ne,e];show 0+_≤_;omega
end
mutual
þ zgR:∀t:Tr,t.depth≤t.weight
 | .bl _=>by rw[Tr.depth,Tr.weight];§Nat.le_refl _
 | .nd _ ts=>by rw[Tr.depth,Tr.weight];have:=zgr ts;omega
þ zgr:∀ts:List Tr,dts ts≤wts ts
 | []=>by rw[dts,wts];§Nat.le_refl _
 |t::ts=>by rw[dts,wts];have:=zgR t;have:=zgr ts;omega
end
þ zrc{B:List Tn}:∀(ps:List Pl),(∀p∈ps,(p.ev B zr).weight≤p.wt+2*p.nt)→wts (ps.map (Pl.ev B zr))≤pwts ps+2*pnts ps
 | [],_=>by simp [wts]
 |p::ps,h=>by
  have h1:=h p List.mem_cons_self;have h2:=zrc ps λq hq=>h q (List.mem_cons_of_mem _ hq);rw[List.map_cons,wts,pwts,pnts];omega
þ zqz{ws hs:List Str}{B:List Tn}(b:BkOk ws hs B) {p:Pl}(h:PlOk hs B p):(p.ev B zr).weight≤p.wt+2*p.nt:=by
 induction h with
 | @sign b' h ps hh hp ih=>
  have:=zrc ps ih;rw[zbp,Tr.weight,Pl.wt,Pl.nt,if_pos £];omega
 | @turn k b' h ps t e hl b0 b1 hp ih=>
  have ht:t∈B:=List.mem_of_getElem? e;have:=zrc ps ih;have:=(b.lf t ht).fw (ps.map (Pl.ev B zr)) (by rw[List.length_map,hl]);rw[zaU e,Pl.wt,Pl.nt,if_neg ¥];show(t.2.1.fill _).weight≤_;omega
þ PlOk.sub{ws hs:List Str}{B:List Tn}(h:∀x∈hs,x∈ws) {p:Pl}(hp:PlOk hs B p):PlOk ws B p:=by
 induction hp with
 |sign h1 _ ih=>§.sign (h _ h1) ih
 |turn e hl b0 b1 _ ih=>§.turn e hl b0 b1 ih
section
variable {w0 w1 w2 w3 w4 w5:Str}{tt:List Str}{B:List Tn}{S:Sto}{aw at' ab ac:Addr}{cs:List Int}{Q:WK}{X:Str→Sto→Prop}
þ Pre.bk2 (P:Pre S aw at' ab w0 w1 w2 w3 w4 w5 tt B):Bk2 ω B:=P.b.bk2 P.T P.G P.sl
þ Pre.ok_shape{Y:Str→Sto→Prop}{v8:Int}(h8:v8=8) (P:Pre S aw at' ab w0 w1 w2 w3 w4 w5 tt B) (hc:S ac=some (.lst (cs.map W.int)))
  (h:∀(t:Tr) (S':Sto),Sub S S'→Sh ω B t→Bd t 4→Q (enc t) S'):zda 199 [.ref ac, .ref ab, .ref aw, .int 6] S (λv S1=>zcQ 199 [v, .ref ab, .int v8] S1 Q Y) X:=by
 subst h8;¤L2.ztt (r:=189) (m:=6) £ hc P.fb P.fw P.bk P.ne λp v S' sub pa po pw pn=>?_;have K:=P.bk2;have po2:PlOk ω B p:=po.sub λx hx=>List.mem_cons_of_mem _ (List.mem_cons_of_mem _ hx);have hdp:=zoc p;¤L2.zux (r:=198) £ (sub _ _ P.fb) P.bk 23 ¥ ¥ pa po ¥ ?_;have e:p.ev B (byC 8)=p.ev B zr:=zeC po λx h0 h1=>(zCX x h0 h1).symm;rw[e];have hw:=zqz P.bk po;have hd:=zgR (p.ev B zr);¤h _ S' sub ⟨K.wy po2,?_⟩ ⟨¥,¥⟩
 show(p.ev B zr).mk B (λt=>t.2.1)=_;rw[ziO K.b po2];rfl
end
section
þ zjB{α:Type}(xs:List α) (x:α):atI (xs++[x]) (-1)=some x:=by
 unfold atI ixN;rw[if_neg £,List.length_append,List.length_singleton];rw[if_pos ¥];show(xs++[x])[_]? =some x;rw[show((-1+((xs.length+1:Nat):Int)).toNat)=xs.length by omega,List.getElem?_concat_length]
end
structure At (S0 S:Sto) (d o b:Addr) (xs:List Tr):Prop where
  d:b≠d
  o:b≠o
  e:S b=some (.lst (xs.map enc))
  z:S0 b=none
þ zjx{S0 S:Sto}{q:Addr}(s:Sub S0 S) (h:S q=none):S0 q=none:=by
 cases e:S0 q with
 |none=>rfl
 |some v=>rw[s _ _ e]at h;cases h
þ At.sub{S0 S S':Sto}{d o b:Addr}{xs:List Tr}(h:At S0 S d o b xs) (s:Sub S S'):At S0 S' d o b xs:=⟨h.d,h.o,s _ _ h.e,h.z⟩
þ At.pd{S0 S:Sto}{d o b:Addr}{xs:List Tr}{v:Ob}(h:At S0 S d o b xs):At S0 (put S d v) d o b xs:=⟨h.d,h.o,by rw[zaF h.d];§h.e,h.z⟩
þ At.po{S0 S:Sto}{d o b:Addr}{xs:List Tr}{v:Ob}(h:At S0 S d o b xs):At S0 (put S o v) d o b xs:=⟨h.d,h.o,by rw[zaF h.o];§h.e,h.z⟩
ñ abbrev Ats (S0 S:Sto) (d o:Addr) (bs:List Addr) (xss:List (List Tr)):Prop:=Paired (At S0 S d o) bs xss
þ zfE{α β:Type}{R:α→β→Prop}{xs:List α}{ys:List β}{x:α}{y:β}(h:Paired R xs ys) (g:R x y):Paired R (xs++[x]) (ys++[y]):=zgA h (.cons g .nil)
þ zud{t:Tr}{r:Nat}{S:Sto}{Q:WK}{X:Str→Sto→Prop}(hw:t.weight≤400) (hd:t.depth≤40) (h:Q (enc t) S):zbe (r+5) [enc t] S Q X:=by
 rw[show r+5=r+4+1 from rfl,zbe];¶;¤zpy (r:=r+3) ¥ ?_;rw[zni hw hd]
 try ¶
 §⟨_, .refl,h⟩
þ zkT{α β:Type}(f:α→W) (g:β→W):∀(xs:List α) (ys:List β),pairs (xs.map f) (ys.map g)=(xs.zip ys).map λp=> .tup [f p.1,g p.2]
 | [],ys=>by simp [pairs]
 |x::xs,[]=>by simp [pairs]
 |x::xs,y::ys=>by rw[List.map_cons,List.map_cons,pairs,zkT f g xs ys];rfl
þ zrE{B:List Tn}:∀(os:List Tr) (x:Tr),(os.zip (zeE B x os)).map (λp=>res B p.1 p.2)=zea B x os
 | [],x=>rfl
 |o::os,x=>by rw[zeE,List.zip_cons_cons,List.map_cons,zrE os,zea]
section
variable {ws:List Str}{B:List Tn}{l1 l2 d o ρ:Addr}{r:Nat}{E:WX}{D:WEnds}{T:WS}{t:Tr}{xs os:List Tr}{S:Sto}{y0 y1 y2 y3 y4 y5 y6 y7:Option W}
þ zCD (hw:t.weight≤400) (hd:t.depth≤40) (hr:60≤r) (h:T E D [y0,some (.tup [enc t, .ref l1]),y2,y3,y4,y5,y6,y7] S) :
  zfJ r T E D [y0,some (.tup [enc t, .ref l1]),y2,y3,y4,y5,y6,y7] S:=by
 rw[zfJ];¶;obtain⟨r,rfl⟩:∃r',r=r'+5:=⟨r - 5,¥⟩
 §zud hw hd h
þ zCS (h:∀d,S d=none→T E D [y0,y1,y2,some (.ref d),y4,y5,y6,y7] (put S d (.lst []))):zfO r T E D [y0,y1,y2,y3,y4,y5,y6,y7] S:=by
 rw[zfO];¶;§⟨Nat.zero_le _,h⟩
þ zCw{vs:List W}(hl:S l2=some (.lst vs)) (h:∀ρ,S ρ=none→T E D [y0,y1,some (.tup [enc t, .ref l2]),y3,some (.ref ρ),y5,y6,y7] (put S ρ (.lst vs))):zfS r T E D [y0,y1,some (.tup [enc t, .ref l2]),y3,y4,y5,y6,y7] S:=by
 rw[zfS];¶;show zcY S l2 λws=>∀ρ,S ρ=none→T E D [y0,y1,some (.tup [enc t, .ref l2]),y3,some (.ref ρ),y5,y6,y7] (put S ρ (.lst ws));rw[zai hl];§h
þ zCK (h:∀o,S o=none→T E D [y0,y1,y2,y3,some (.ref ρ),some (.ref o),y6,y7] (put S o (.lst [.ref ρ]))):zgs r T E D [y0,y1,y2,y3,some (.ref ρ),y5,y6,y7] S:=by
 rw[zgs];¶;§⟨£,h⟩
þ zBu{q:Addr}{vs:List W}(hd:S d=some (.lst vs)) (hn:vs.length≤1000) (h:T E D [y0,y1,y2,some (.ref d),y4,y5,y6,some (.ref q)] (put S d (.lst (vs++[.ref q])))) :
  zeW r T E D [y0,y1,y2,some (.ref d),y4,y5,y6,some (.ref q)] S:=by
 rw[zeW];¶;rw[zai hd,zai hd];§⟨trivial,zbC ¥,h⟩
þ zBb{vs:List W}(hd:S o=some (.lst vs)) (hn:vs.length≤1000) (h:D.nx [y0,y1,y2,y3,some (.ref ρ),some (.ref o),y6,y7] (put S o (.lst (vs++[.ref ρ])))) :
  zeZ r E D [y0,y1,y2,y3,some (.ref ρ),some (.ref o),y6,y7] S:=by
 rw[zeZ];¶;rw[zai hd,zai hd];§⟨trivial,zbC ¥,h⟩
structure Grd (S0 S:Sto) (B:List Tn) (xs os:List Tr) (d o:Addr):Prop where
  sub:Sub S0 S
  d0:S0 d=none
  o0:S0 o=none
  ne:d≠o
  ex:∃ds rs,S d=some (.lst (ds.map W.ref))∧S o=some (.lst (rs.map W.ref))∧Ats S0 S d o ds (zmb B xs os)∧Ats S0 S d o rs (zlZ B xs os)
end
ñ def opl (B:List Tn) (t:Tr):List (List Int):=(t.op B []).map λx=>x.1
þ Sh.hdT{ws:List Str}{B:List Tn}{t:Tr}(h:Sh ws B t):t.hd λ_=>True:=zhC (λ_ _=>trivial) _ h.wy.hd
þ Sh.wn{ws:List Str}{B:List Tn}{t:Tr}(h:Sh ws B t) {wn:List (List Int)}(hw:∀q∈wn,q∈opl B t):zxC B wn [] t:=by
 intro q hq e v he hv;rw[List.nil_append]at he;subst he;ø⟨x,hx,rfl⟩:=List.mem_map.mp (hw q hq);rw[←zrG B t [] (zfF _ h.hdT)]at hx;ø⟨y,hy,hx⟩:=List.mem_flatMap.mp hx;unfold zza at hx;ø⟨u,hu,rfl⟩:=List.mem_map.mp hx;have:=(zwV hy).1;rw[this]at hv;cases hv;cases e:zcS B y.2 with
 |none=>rw[e]at hu;cases hu
 |some _=>rfl
section
variable {ws:List Str}{B:List Tn}{t:Tr}{xs:List Tr}
þ Roa.snoc:∀(xs:List Tr) {t u:Tr},Roa ws B t xs→Wy ws B u→src B u=zeM B t xs→Roa ws B t (xs++[u])
 | [],t,u,_,hu,e=>⟨hu,e,trivial⟩
 |x::xs,t,u,⟨h1,h2,h3⟩,hu,e=>⟨h1,h2,Roa.snoc xs h3 hu e⟩
þ zhj:∀(xs:List Tr) (t u:Tr),zeM B t (xs++[u])=gol B u
 | [],t,u=>rfl
 |x::xs,t,u=>zhj xs (gol B x) u
þ Bd.small{n:Nat}(h:Bd t n):t.weight≤400∧t.depth≤40:=by
 have h1:=h.w;have h2:=h.d;§⟨Nat.le_trans (Nat.le_mul_of_pos_left _ (zlS _)) h1,¥⟩
end
þ ziG{α β:Type}{R:α→β→Prop}:∀{xs:List α}{ys:List β},Paired R xs ys→ ∃zs:List (α×β),zs.map (λz=>z.1)=xs∧zs.map (λz=>z.2)=ys∧ ∀z∈zs,R z.1 z.2
 |_,_, .nil=>⟨[],rfl,rfl,¢⟩
 |_,_, .cons h1 h2=>by
  ø⟨zs,e1,e2,h3⟩:=ziG h2;§⟨(_,_)::zs,by rw[List.map_cons,e1],by rw[List.map_cons,e2],λz hz=>by
   rcases List.mem_cons.mp hz with rfl |hz
   ·§h1
   ·§h3 z hz⟩
þ zhy{α β γ:Type}{R:α→β→Prop}{R':β→γ→Prop}:∀{xs:List α}{ys:List β}{zs:List γ},Paired R xs ys→Paired R' ys zs→Paired (λx z=>∃y,R x y∧R' y z) xs zs
 |_,_,_, .nil, .nil=> .nil
 |_,_,_, .cons h1 h2, .cons g1 g2=> .cons ⟨_,h1,g1⟩ (zhy h2 g2)
þ zhF{α β:Type}{R:α→β→Prop}:∀{ys:List β}{xs:List α}{y:β},Paired R xs (ys++[y])→ ∃pre x,xs=pre++[x]∧R x y
 | [],_,y, .cons h .nil=>⟨[],_,rfl,h⟩
 |_::ys,_,y, .cons (a:=a) h g=>by
  ø⟨pre,x,e,h⟩:=zhF g;§⟨a::pre,x,by rw[e];rfl,h⟩
section
variable {ws:List Str}{B:List Tn}
þ zpT (os:List Tr) (x:Tr):∃l,zeE B x os=l++[zcW B x os]:=by
 have:=zlf (B:=B) os x;rw[List.getLast?_eq_some_iff]at this;§this
þ zkA:∀(xs os:List Tr),Paired (λline u=>∃l,line=l++[u]) (zmb B xs os) (zar B xs os)
 | [],os=> .nil
 |x::xs,os=> .cons (zpT os x) (zkA xs _)
þ zll:∀(xs os:List Tr),∃l,zlZ B xs os=l++[zdH B xs os]
 | [],os=>⟨[],rfl⟩
 |x::xs,os=>by
  ø⟨l,e⟩:=zll xs (zea B x os);§⟨os::l,by rw[zlZ,e,zdH];rfl⟩
þ zec:∀(os:List Tr) (x:Tr) (xs:List Tr),zar B os (x::xs)=zar B (zea B x os) xs
 | [],x,xs=>by rw[zar,zea,zar]
 |o::os,x,xs=>by rw[zar,zea,zea,zcW,zar,zec os]
þ zcD:∀(os:List Tr),zar B os []=os
 | []=>by rw[zar]
 |o::os=>by rw[zar,zea,zcW,zcD os]
þ zde:∀(xs os:List Tr),zdH B xs os=zar B os xs
 | [],os=>by rw[zdH,zcD]
 |x::xs,os=>by rw[zdH,zec,zde xs]
þ zsc:∀(xs ys:List Tr) (t:Tr),zeM B t (xs++ys)=zeM B (zeM B t xs) ys
 | [],ys,t=>rfl
 |x::xs,ys,t=>zsc xs ys (gol B x)
þ Roa.app:∀(xs:List Tr) {ys:List Tr}{t:Tr},Roa ws B t xs→Roa ws B (zeM B t xs) ys→Roa ws B t (xs++ys)
 | [],_,_,_,h=>h
 |x::xs,_,_,⟨h1,h2,h3⟩,h=>⟨h1,h2,Roa.app xs h3 h⟩
end
section
variable {B:List Tn}{l d o:Addr}{r:Nat}{xs os:List Tr}{S:Sto}{Q:WK}{X:Str→Sto→Prop}
þ zkq{S0:Sto}{ds:List Addr}(hd:S d=some (.lst (ds.map W.ref))) (hn:xs.length≤700) (AD:Ats S0 S d o ds (zmb B xs os)) (h:∀q,S q=none→Q (.ref q) (put S q (.lst ((zar B xs os).map enc)))):zdi (r+1) [.tup [.ref d, .ref o]] S Q X:=by
 ø⟨zs,e1,e2,h3⟩:=ziG (zhy AD (zkA xs os));rw[zdi];¶;rw[zai hd];have e3:ds.map W.ref=zs.map λz=>W.ref z.1:=by rw[←e1,List.map_map];rfl
 have hz:zs.length=xs.length:=by rw[←zhd (B:=B) xs os,←e2,List.length_map]
 rw[e3];¤zax (λσ=>∃y,σ=[y]) (λz:Addr×Tr=>W.ref z.1) (λz=>enc z.2) (by rw[←e3];§hd) zs [] _ ⟨none,rfl⟩ (by simp;omega) (λz hz σ R hI hR=>?_) ?_
 ·ø⟨y,rfl⟩:=hI;ø⟨line,A,l,rfl⟩:=h3 z hz;rw[zft];¶;have Ae:=A.e;rw[List.map_append]at Ae;rw[zai Ae,show [z.2].map enc=[enc z.2] from rfl,zjB];§hR _ _ ⟨_,rfl⟩ .refl
 ·intro q hq;have:=h q hq;rw[←e2,List.map_map]at this;§⟨_, .refl,this⟩
end
structure Rds (S:Sto) (ws:List Str) (B:List Tn) (ab:Addr) (t:Tr) (l1 l2:Addr) (xs os:List Tr):Prop where
  K:Bk2 ws B
  fb:S ab=some (.lst (B.map zba))
  sh:Sh ws B t
  bd:Bd t 4
  f1:S l1=some (.lst (xs.map enc))
  f2:S l2=some (.lst (os.map enc))
  r1:Roa ws B t xs
  r2:Roa ws B t os
  n:nR B xs+nR B os≤4
  x3:xs.length≤3
  o3:os.length≤3
  hB:B.length≤1000
þ Rds.symm{S:Sto}{ws:List Str}{B:List Tn}{ab:Addr}{t:Tr}{l1 l2:Addr}{xs os:List Tr}(h:Rds S ws B ab t l1 l2 xs os):Rds S ws B ab t l2 l1 os xs:=⟨h.K,h.fb,h.sh,h.bd,h.f2,h.f1,h.r2,h.r1,by have:=h.n;omega,h.o3,h.x3,h.hB⟩
þ zCn (ns:List Int) (i:Nat):(zeu ns (some (i:Int)) (some ((i+3:Nat):Int))).length≤3:=by
 rw[zvz i (i+3),List.length_take];omega
section
variable {ws:List Str}{B:List Tn}{x t g:Tr}
þ zve:One zr:=λ_ _ _=>Nat.zero_le _
þ Bk2.plan1 (K:Bk2 ws B) (h:Wy ws B x):∃p,PlOk ws B p∧p.ev B (byC 1)=x∧p.ev B zr=L2.src B x:=by
 ø⟨p,hp,e1,_,_,hs⟩:=zro K h h rfl;§⟨p,hp,e1,hs⟩
þ Bk2.res_src (K:Bk2 ws B) (h:Wy ws B x):res B x (L2.src B x)=x:=by
 ø⟨p,hp,e1,hs⟩:=K.plan1 h;have m:=(zgy (c:=byC 1) (d:=zr) K.b K.O.mt (zeF (zdM 1) zve) hp).res;rw[hs,e1]at m;rw[m];§e1▸zeC hp λb _ _=>rfl
þ Bk2.src_res (K:Bk2 ws B) (h:Wy ws B x):res B (L2.src B x) x=L2.gol B x:=by
 ø⟨p,hp,e1,hs⟩:=K.plan1 h;have m:=(zgy (c:=zr) (d:=byC 1) K.b K.O.mt (zeF zve (zdM 1)) hp).res;rw[hs,e1]at m;rw[m,←e1];show _=(p.ev B (byC 1)).mk B λt=>t.2.2;rw[zgH K.b hp];¤zeC hp λb h0 h1=>?_;have:=zdM 1 b h0 h1;unfold ziv zeg zr;split<;>omega
þ zef (K:Bk2 ws B):∀(os:List Tr) {g:Tr},Roa ws B g os→zea B g os=os∧zcW B g os=zeM B g os
 | [],g,_=>⟨rfl,rfl⟩
 |o::os,g,⟨ho,eo,hr⟩=>by
  have h1:=K.res_src ho;have h2:=K.src_res ho;rw[eo]at h1 h2;ø⟨h3,h4⟩:=zef K os hr;rw[zea,zcW,h1,h2,h3,h4];§⟨rfl,rfl⟩
þ zns:∀(xs ys os:List Tr),zdH B (xs++ys) os=zdH B ys (zdH B xs os)
 | [],ys,os=>rfl
 |x::xs,ys,os=>by rw[List.cons_append,zdH,zdH,zns xs ys]
þ zjn:∀(xs ys os:List Tr),zar B (xs++ys) os=zar B xs os++zar B ys (zdH B xs os)
 | [],ys,os=>rfl
 |x::xs,ys,os=>by rw[List.cons_append,zar,zar,zdH,zjn xs ys,List.cons_append]
þ zei (xs os zs:List Tr):zar B xs (os++zs)=zar B (zar B xs os) zs:=by
 rw[←zde,zns,zde,zde]
end
section
variable {ws:List Str}{B:List Tn}{x t:Tr}{xs:List Tr}
þ Sh.quiet (K:Bk2 ws B) (h:Sh ws B x):x.quiet=true:=by
 ¤ziW x ?_;have:∀(n:Nat) (x:Tr),x.depth≤n→Sh ws B x→x.hd zcw:=by
  intro n
  induction n with
  |zero=>
   intro x hd h;have:=zbi x;omega
  |succ n ih=>
   intro x hd h;ø⟨s,ts,rfl,hs,_,k⟩:=h.cases K;rw[Tr.depth]at hd;rw[Tr.hd,hds_iff];§⟨K.b.sg s hs,λu hu=>ih u (by have:=zcX hu;omega) (k u hu)⟩
 §this _ x (Nat.le_refl _) h
þ Wy.len (K:Bk2 ws B) (h:Wy ws B x):x.hd λs=>s.length≤1000:=zhC (λs hs=>by
 rcases hs with hs |⟨t,ht,rfl⟩
 ·§ztH (K.b.sg s hs)
 ·§zpL (K.b.ti t ht)) _ h.hd
þ zoC{α:Type}(f:α→Bool):∀(xs:List α),zhY (xs.map λx=>W.bl (f x))=some (xs.map f)
 | []=>rfl
 |x::xs=>by rw[List.map_cons,zhY,zoC f xs];rfl
end
section
variable {ws:List Str}{B:List Tn}
þ zqA (K:Bk2 ws B) {g:Tr}(hg:Sh ws B g) {us:List Tr}(h:∀u∈us,u=g):us.all Tr.quiet=true:=List.all_eq_true.mpr λu hu=>by
 rw[h u hu];§hg.quiet K
end
section
variable {ws:List Str}{B:List Tn}
þ zwL (b:BkOk ws ws B) (O:Ort B) {t:Tn}(ht:t∈B) {x:Tr}{us:List Tr}(hx:Wy ws B x) (hl:us.length=t.2.1.nb) (h:src B x=t.2.1.fill us) :
  ∃(m:Nat) (vs:List Tr),m≤1∧x=evT t m vs∧vs.map (src B)=us∧(∀y∈vs,Wy ws B y)∧wts vs+1≤x.weight:=by
 rcases hx.cases b with⟨s,as,rfl,hs,es,ka⟩ |⟨u,as,hu,rfl,eu,la,ka⟩
 ·ø⟨vs,ev,lv,ms,kv,wv⟩:=zex b O ht es hx hl h;have hm:=O.mt t ht vs lv;rw[←ev]at hm;ø⟨s0,ls,e0,_⟩:=O.inn t ht;rw[e0,Tr.mt]at hm;split at hm
  ·have:=zgG _ _ _ hm;§⟨0,vs,¥,ev,ms,kv,by rw[zdv];omega⟩
  ·cases hm
 ·rw[show src B (.nd u.1 as)=_ from zco eu]at h;have m1:=O.mt t ht us hl;have m2:=O.mt u hu (as.map (src B)) (by rw[List.length_map,la]);have:u=t:=O.one u hu t ht _ (by rw[m2];rfl) (by rw[show u.2.1.fill (as.map (src B))=_ from h,m1];rfl)
  subst this;rw[show u.2.1.fill (as.map (src B))=_ from h,m1]at m2;§⟨1,as,¥,rfl,(Option.some.inj m2).symm,ka,by rw[zdv];omega⟩
þ zuW (b:BkOk ws ws B) (O:Ort B):∀(n:Nat) (x y z:Tr),x.weight+y.weight+z.weight≤n→Wy ws B x→Wy ws B y→Wy ws B z→src B x=src B y→src B z=src B y→ ∃p,PlOk ws B p∧p.ev B (byC 1)=x∧p.ev B (byC 2)=y∧p.ev B (byC 4)=z
 |0,x,y,z,hn,hx,hy,hz,e,e'=>by
  rcases hx.cases b with⟨s,as,rfl,_⟩ |⟨t,as,_,rfl,_⟩<;>rw[zdv]at hn<;>omega
 |n+1,x,y,z,hn,hx,hy,hz,e,e'=>by
  have lists:∀(xs ys zs:List Tr),wts xs+wts ys+wts zs≤n→(∀x∈xs,Wy ws B x)→(∀y∈ys,Wy ws B y)→(∀z∈zs,Wy ws B z)→xs.map (src B)=ys.map (src B)→zs.map (src B)=ys.map (src B)→ ∃ps:List Pl,(∀p∈ps,PlOk ws B p)∧ps.map (Pl.ev B (byC 1))=xs∧ps.map (Pl.ev B (byC 2))=ys∧ps.map (Pl.ev B (byC 4))=zs:=by
   intro xs
   induction xs with
   |nil=>
    intro ys zs _ _ _ _ e e';cases ys with
    |nil=>
     cases zs with
     |nil=>§⟨[],¢,rfl,rfl,rfl⟩
     |cons z zs=>cases e'
    |cons y ys=>cases e
   |cons x xs ih=>
    intro ys zs hw h1 h2 h3 e e';cases ys with
    |nil=>cases e
    |cons y ys=>
     cases zs with
     |nil=>cases e'
     |cons z zs=>
      rw[List.map_cons,List.map_cons,List.cons.injEq]at e e';rw[wts,wts,wts]at hw;ø⟨p,hp,e1,e2,e3⟩:=zuW b O n x y z ¥ (h1 x ¢) (h2 y ¢) (h3 z ¢) e.1 e'.1;ø⟨ps,hps,f1,f2,f3⟩:=ih ys zs ¥ (λz hz=>h1 z (List.mem_cons_of_mem _ hz)) (λz hz=>h2 z (List.mem_cons_of_mem _ hz)) (λz hz=>h3 z (List.mem_cons_of_mem _ hz)) e.2 e'.2;§⟨p::ps,λq hq=>by
       rcases List.mem_cons.mp hq with rfl |hq
       ·§hp
       ·§hps q hq,by rw[List.map_cons,e1,f1],by rw[List.map_cons,e2,f2],by rw[List.map_cons,e3,f3]⟩
  by_cases h:∃t us,t∈B∧us.length=t.2.1.nb∧src B x=t.2.1.fill us
  ·ø⟨t,us,ht,hl,h⟩:=h;ø⟨m1,v1,l1,e1,s1,k1,w1⟩:=zwL b O ht hx hl h;ø⟨m2,v2,l2,e2,s2,k2,w2⟩:=zwL b O ht hy hl (e▸h);ø⟨m3,v3,l3,e3,s3,k3,w3⟩:=zwL b O ht hz hl (by rw[e',←e];§h);ø⟨ps,hps,f1,f2,f3⟩:=lists v1 v2 v3 ¥ k1 k2 k3 (s1.trans s2.symm) (s3.trans s2.symm);ø⟨k,hk⟩:=List.getElem?_of_mem ht;have a:∃i:Int,0≤i∧i<8∧byC 1 i=m1∧byC 2 i=m2∧byC 4 i=m3:=by
    obtain rfl |rfl:m1=0∨m1=1:=by omega
    all_goals obtain rfl |rfl:m2=0∨m2=1:=by omega
    all_goals obtain rfl |rfl:m3=0∨m3=1:=by omega
    ·§⟨0,£⟩
    ·§⟨4,£⟩
    ·§⟨2,£⟩
    ·§⟨6,£⟩
    ·§⟨1,£⟩
    ·§⟨5,£⟩
    ·§⟨3,£⟩
    ·§⟨7,£⟩
   ø⟨i,i0,i8,a1,a2,a3⟩:=a;have lp:ps.length=t.2.1.nb:=by
    rw[←hl,←s1,←f1,List.length_map,List.length_map]
   ¤⟨.nd k i t.1 ps, .turn hk lp i0 i8 hps,?_,?_,?_⟩
   ·rw[zaU hk,f1,a1,e1]
   ·rw[zaU hk,f2,a2,e2]
   ·rw[zaU hk,f3,a3,e3]
  ·rcases hx.cases b with⟨s,as,rfl,hs,es,ka⟩ |⟨t,as,ht,rfl,et,la,ka⟩
   ·rcases hy.cases b with⟨s',bs,rfl,hs',es',kb⟩ |⟨t,bs,ht,rfl,et,lb,kb⟩
    ·rcases hz.cases b with⟨s'',cs,rfl,hs'',es'',kc⟩ |⟨t,cs,ht,rfl,et,lc,kc⟩
     ·rw[show src B (.nd s as)=_ from zcC es,show src B (.nd s' bs)=_ from zcC es']at e;rw[show src B (.nd s'' cs)=_ from zcC es'',show src B (.nd s' bs)=_ from zcC es']at e';injection e with e1 e2;injection e' with e3 e4;subst e1;subst e3;rw[zdv,zdv,zdv]at hn;ø⟨ps,hps,f1,f2,f3⟩:=lists as bs cs ¥ ka kb kc e2 e4;§⟨.nd (-1) 0 _ ps, .sign hs hps,by rw[zbp,f1],by rw[zbp,f2],by rw[zbp,f3]⟩
     ·§absurd ⟨t,cs.map (src B),ht,by rw[List.length_map,lc],by rw[e,←e'];§zco et⟩ h
    ·§absurd ⟨t,bs.map (src B),ht,by rw[List.length_map,lb],by rw[e];§zco et⟩ h
   ·§absurd ⟨t,as.map (src B),ht,by rw[List.length_map,la],zco et⟩ h
þ Bk2.cube (K:Bk2 ws B) {x y z t:Tr}(hx:Wy ws B x) (hy:Wy ws B y) (hz:Wy ws B z) (ex:L2.src B x=t) (ey:L2.src B y=t) (ez:L2.src B z=t):res B (res B x y) (res B z y)=res B (res B x z) (res B y z):=by
 ø⟨p,hp,rfl,rfl,rfl⟩:=zuW K.b K.O _ x y z (Nat.le_refl _) hx hy hz (ex.trans ey.symm) (ez.trans ey.symm);have o1:=zdM 1;have o2:=zdM 2;have o4:=zdM 4;have m:∀{c d:Int→Nat},Ok2 c d→res B (p.ev B c) (p.ev B d)=p.ev B (ziv c d):=λh=>(zgy K.b K.O.mt h hp).res;rw[m (zeF o1 o2),m (zeF o4 o2),m (zeF o1 o4),m (zeF o2 o4),m (zop _ _ _ (zgf 1) (zgf 4) (zgf 2)),m (zop _ _ _ (zgf 1) (zgf 2) (zgf 4))];¤zeC hp λi _ _=>?_;have l1:=zgf 1 i;have l2:=zgf 2 i;have l4:=zgf 4 i;unfold ziv;generalize byC 1 i=a at *;generalize byC 2 i=b at *;generalize byC 4 i=c at *;obtain rfl |rfl:a=0∨a=1:=by omega
 all_goals obtain rfl |rfl:b=0∨b=1:=by omega
 all_goals obtain rfl |rfl:c=0∨c=1:=by omega
 all_goals rfl
þ Bk2.moved (K:Bk2 ws B) {x y:Tr}(hx:Wy ws B x) (hy:Wy ws B y) (e:L2.src B x=L2.src B y):Moved ws B x y (res B x y):=by
 ø⟨p,hp,rfl,rfl,_,_⟩:=zro K hx hy e;have o1:=zdM 1;have o2:=zdM 2;have m1:=(zgy (c:=byC 1) (d:=byC 2) K.b K.O.mt (zeF o1 o2) hp).res;have m2:=(zgy (c:=byC 2) (d:=byC 1) K.b K.O.mt (zeF o2 o1) hp).res;rw[m1];¤⟨K.wy hp,?_,?_,zwk K.b K.O o1 o2 hp⟩
 ·show(p.ev B (ziv (byC 1) (byC 2))).mk B (λt=>t.2.1)=(p.ev B (byC 2)).mk B λt=>t.2.2;rw[ziO K.b hp,zgH K.b hp];¤zeC hp λx h0 h1=>?_;have a:=zgf 1 x;have b:=zgf 2 x;unfold zmp zeg ziv;generalize byC 1 x=m at a⊢;generalize byC 2 x=n at b⊢;obtain rfl |rfl:m=0∨m=1:=by omega
  all_goals obtain rfl |rfl:n=0∨n=1:=by omega
  all_goals rfl
 ·rw[m2];show(p.ev B (ziv (byC 1) (byC 2))).mk B (λt=>t.2.2)=(p.ev B (ziv (byC 2) (byC 1))).mk B λt=>t.2.2;rw[zgH K.b hp,zgH K.b hp];¤zeC hp λx h0 h1=>?_;have a:=zgf 1 x;have b:=zgf 2 x;unfold zeg ziv;generalize byC 1 x=m at a⊢;generalize byC 2 x=n at b⊢;obtain rfl |rfl:m=0∨m=1:=by omega
  all_goals obtain rfl |rfl:n=0∨n=1:=by omega
  all_goals rfl
þ zdN (K:Bk2 ws B):∀(os:List Tr) {x t:Tr},Wy ws B x→L2.src B x=t→Roa ws B t os→Roa ws B (gol B x) (zea B x os)∧Wy ws B (zcW B x os)∧L2.src B (zcW B x os)=zeM B t os∧zeM B (gol B x) (zea B x os)=gol B (zcW B x os)
 | [],x,t,hx,ex,_=>⟨trivial,hx,ex,rfl⟩
 |o::os,x,t,hx,ex,⟨ho,eo,hr⟩=>by
  have m:=K.moved hx ho (ex.trans eo.symm);have m':=K.moved ho hx (eo.trans ex.symm);ø⟨h1,h2,h3,h4⟩:=zdN K os m.wy m.sr hr;¤⟨?_,h2,h3,?_⟩
  ·rw[zea];¤⟨m'.wy,m'.sr,?_⟩;rw[m'.go];§h1
  ·rw[zea,zeM,zcW,m'.go];§h4
þ zbA (K:Bk2 ws B):∀(xs os:List Tr) {t:Tr},Roa ws B t xs→Roa ws B t os→Roa ws B (zeM B t os) (zar B xs os)
 | [],os,t,_,_=>trivial
 |x::xs,os,t,⟨hx,ex,hr⟩,ho=>by
  ø⟨h1,h2,h3,h4⟩:=zdN K os hx ex ho;rw[zar];¤⟨h2,h3,?_⟩;rw[←h4];§zbA K xs _ hr h1
þ znp (K:Bk2 ws B):∀(xs os:List Tr) {t:Tr},Roa ws B t xs→Roa ws B t os→zeM B (zeM B t os) (zar B xs os)=zeM B (zeM B t xs) (zar B os xs)
 | [],os,t,_,_=>by rw[zcD,zar];rfl
 |x::xs,os,t,⟨hx,ex,hr⟩,ho=>by
  ø⟨h1,h2,h3,h4⟩:=zdN K os hx ex ho;rw[zar,zeM,←h4,znp K xs _ hr h1,zeM,zec]
þ zjJ (x y:Tr):zar B [x] [y]=[res B x y]:=by
 rw[zar,zcW,zcW,zar]
þ zyT (K:Bk2 ws B):∀(as:List Tr) {y z t:Tr},Roa ws B t as→Wy ws B y→Wy ws B z→L2.src B y=t→L2.src B z=t→zar B (zar B as [y]) (zar B [z] [y])=zar B (zar B as [z]) (zar B [y] [z])
 | [],y,z,t,_,_,_,_,_=>by rw[zar,zar,zar,zar]
 |x::as,y,z,t,⟨hx,ex,hr⟩,hy,hz,ey,ez=>by
  have hc:=K.cube hx hy hz ex ey ez;have hc1:=K.cube hz hy hx ez ey ex;have hc2:=K.cube hy hz hx ey ez ex;have my:=K.moved hy hx (ey.trans ex.symm);have mz:=K.moved hz hx (ez.trans ex.symm);have ih:=zyT K as hr my.wy mz.wy my.sr mz.sr;rw[zjJ,zjJ]at ih⊢;have d:∀u,zar B (x::as) [u]=res B x u::zar B as [res B u x]:=λu=>by
   rw[zar,zcW,zcW,zea,zea]
  rw[d,d];have d':∀v w u,zar B (v::w) [u]=res B v u::zar B w [res B u v]:=λv w u=>by
   rw[zar,zcW,zcW,zea,zea]
  rw[d',d',hc,hc1,ih,←hc2]
þ zxK (K:Bk2 ws B):∀(bs as:List Tr) {z t:Tr},Roa ws B t as→Roa ws B t bs→Wy ws B z→L2.src B z=t→zar B (zar B as bs) (zar B [z] bs)=zar B (zar B as [z]) (zar B bs [z])
 | [],as,z,t,_,_,_,_=>by rw[zcD,zcD,zar,zcD]
 |y::bs,as,z,t,ha,⟨hy,ey,hb⟩,hz,ez=>by
  have h1:=zyT K as ha hy hz ey ez;have ra:=zbA K as [y] ha ⟨hy,ey,trivial⟩;have mz:=K.moved hz hy (ez.trans ey.symm);have ih:=zxK K bs (zar B as [y]) ra hb mz.wy mz.sr;have e1:∀X:List Tr,zar B X (y::bs)=zar B (zar B X [y]) bs:=λX=>by rw[←zei];rfl
  have e2:zar B (y::bs) [z]=zar B [y] [z]++zar B bs (zar B [z] [y]):=by
   rw[show y::bs=[y]++bs from rfl,zjn,zde]
  rw[e1,e1,e2,zei,←h1,zjJ z y,ih]
þ cube (K:Bk2 ws B):∀(cs bs as:List Tr) {t:Tr},Roa ws B t as→Roa ws B t bs→Roa ws B t cs→zar B (zar B as bs) (zar B cs bs)=zar B (zar B as cs) (zar B bs cs)
 | [],bs,as,t,_,_,_=>by rw[zar,zcD,zcD,zcD]
 |z::cs,bs,as,t,ha,hb,⟨hz,ez,hc⟩=>by
  have h1:=zxK K bs as ha hb hz ez;have ra:=zbA K as [z] ha ⟨hz,ez,trivial⟩;have rb:=zbA K bs [z] hb ⟨hz,ez,trivial⟩;have ih:=cube K cs (zar B bs [z]) (zar B as [z]) ra rb hc;have e1:∀X:List Tr,zar B X (z::cs)=zar B (zar B X [z]) cs:=λX=>by rw[←zei];rfl
  have e2:zar B (z::cs) bs=zar B [z] bs++zar B cs (zar B bs [z]):=by
   rw[show z::cs=[z]++cs from rfl,zjn,zde]
  rw[e1,e1,e2,zei,h1,ih]
end
section
variable {ws:List Str}{B:List Tn}{t g:Tr}
þ Sh.go (K:Bk2 ws B) (h:Sh ws B g):gol B g=g:=by
 have:=(K.src h.wy).2.2.2;rwa [h.q]at this
þ zuF (K:Bk2 ws B) {xs:List Tr}(h:Roa ws B t xs) (ht:Sh ws B t):Sh ws B (zeM B t xs):=by
 have:=Roa.end_wy K xs h ht.wy ht.q;§⟨this.1,this.2⟩
þ znY (K:Bk2 ws B):∀(n:Nat) {xs:List Tr},Roa ws B g xs→zar B xs (List.replicate n g)=xs
 |0,xs,_=>by rw[List.replicate_zero,zcD]
 |n+1,xs,h=>by rw[List.replicate_succ,zec,(zef K xs h).1,znY K n h]
þ znq (K:Bk2 ws B):∀(n:Nat) {zs:List Tr},Roa ws B g zs→zar B (List.replicate n g) zs=List.replicate n (zeM B g zs)
 |0,zs,_=>by rw[List.replicate_zero,zar,List.replicate_zero]
 |n+1,zs,h=>by
  ø⟨q1,q2⟩:=zef K zs h;rw[List.replicate_succ,zar,q1,q2,znq K n h,List.replicate_succ]
þ zww (K:Bk2 ws B) (hg:Sh ws B g) (n:Nat):(List.replicate n g).all Tr.quiet=true:=zqA K hg λ_ h=>List.eq_of_mem_replicate h
end
section
variable {ws:List Str}{B:List Tn}{t g x:Tr}{a b c:List Tr}
ñ def Le (B:List Tn) (t:Tr) (a c:List Tr):Prop:=zar B a c=List.replicate a.length (zeM B t c)
þ ziP:∀{ts:List Tr}{u:Tr},zfr ts=true→u∈ts→u.quiet=true
 |t::ts,u,h,hu=>by
  rw[zfr,Bool.and_eq_true]at h;rcases List.mem_cons.mp hu with rfl |hu
  ·§h.1
  ·§ziP h.2 hu
þ zjw (K:Bk2 ws B):∀(n:Nat) (x:Tr),x.weight≤n→Wy ws B x→x.quiet=true→Sh ws B x
 |0,x,hn,hx,q=>by
  rcases hx.cases K.b with⟨s,as,rfl,_⟩ |⟨t,as,_,rfl,_⟩<;>rw[zdv]at hn<;>omega
 |n+1,x,hn,hx,q=>by
  rcases hx.cases K.b with⟨s,as,rfl,hs,es,ka⟩ |⟨t,as,ht,rfl,et,la,ka⟩
  ·rw[Tr.quiet,Bool.and_eq_true]at q;rw[zdv]at hn;¤⟨hx,?_⟩;rw[show src B (.nd s as)=_ from zcC es];congr 1;¤(List.map_congr_left λu hu=>?_).trans (List.map_id _);§(zjw K n u (by have:=zcp hu;omega) (ka u hu) (ziP q.2 hu)).q
  ·rw[Tr.quiet,Bool.and_eq_true]at q;have:=zbd K.b.ti ((zgn _).mp q.1);rw[et]at this;cases this
þ zlm (K:Bk2 ws B):∀(us:List Tr) {g:Tr},Roa ws B g us→us.all Tr.quiet=true→us=List.replicate us.length g
 | [],g,_,_=>rfl
 |u::us,g,⟨hu,eu,hr⟩,h=>by
  rw[List.all_cons,Bool.and_eq_true]at h;have s:=zjw K _ u (Nat.le_refl _) hu h.1;have e:u=g:=by rw[←eu,s.q]
  subst e;rw[s.go K]at hr;rw[List.length_cons,List.replicate_succ,←zlm K us hr h.2]
þ znt (K:Bk2 ws B) (ha:Roa ws B t a) (hc:Roa ws B t c) (h:(zar B a c).all Tr.quiet=true):Le B t a c:=by
 have:=zlm K _ (zbA K _ _ ha hc) h;rwa [zhd]at this
þ zqm (K:Bk2 ws B) (ht:Sh ws B t) (ha:Roa ws B t a) (hb:Roa ws B t b) (hc:Roa ws B t c) (h1:Le B t a b) (h2:Le B t b c):(zar B a c).all Tr.quiet=true:=by
 have e:=cube K c b a ha hb hc;have h2':zar B b c=_:=h2;have h1':zar B a b=_:=h1;rw[h2',znY K _ (zbA K _ _ ha hc),h1',znq K _ (zbA K _ _ hc hb)]at e;rw[←e];§zww K (zuF K (zbA K _ _ hc hb) (zuF K hb ht)) _
end
mutual
ñ def Tr.wd:Tr→Prop
 | .bl _=>True
 | .nd _ ts=>ts.length≤1000∧wds ts
ñ def wds:List Tr→Prop
 | []=>True
 |t::ts=>t.wd∧wds ts
end
þ wds_iff:∀{ts:List Tr},wds ts↔ ∀t∈ts,t.wd
 | []=>by simp [wds]
 |t::ts=>by simp [wds,wds_iff (ts:=ts)]
þ zvL{t:Tr}(h:t.wd):t.kids.length≤1000:=by
 cases t with
 |bl n=>simp [Tr.kids]
 |nd s ts=>simpa [Tr.kids]using h.1
þ zvp{ts:List Tr}(h:∀x∈ts,x.wd):∀x∈ts.flatMap Tr.kids,x.wd:=λx hx=>by
 ø⟨t,ht,hk⟩:=List.mem_flatMap.mp hx;have:=h t ht;cases t with
 |bl n=>simp [Tr.kids]at hk
 |nd s us=>§wds_iff.mp this.2 x (by simpa [Tr.kids]using hk)
þ zik{r:Nat}{a b:Addr}{ps:List W}{E:WX}{D:WEnds}{x0:Option W}(hba:b≠a):∀(ts:List Tr) {S:Sto}{us:List Tr}{x2:Option W},S a=some (.lst (encs us))→S b=some (.lst ps)→(∀t∈ts,t.kids.length≤1000)→us.length+1000*ts.length≤500000→
  (∀x2,D.nx [x0,some (.ref a),x2] (put S a (.lst (encs (us++ts.flatMap Tr.kids)))))→
  forL (wGN 2) (zbz (r+1) zaJ) E D (λS'=>S' b=some (.lst ps)) (encs ts) [x0,some (.ref a),x2] S
 | [],S,us,x2,ha,hb,hA,hl,h=>by
  have:=h x2;simp only[List.flatMap_nil,List.append_nil,zeX ha]at this;simpa [encs,forL]using this
 |t::ts,S,us,x2,ha,hb,hA,hl,h=>by
  simp only[List.length_cons]at hl;have hk:=hA t List.mem_cons_self;ŝ[encs];¤zbt λN hN=>?_;ŝ[zbz];¶;ŝ[zai ha,true_and];¤zfL ?_;¶;rw[zai ha];¤⟨zak (by rw[zaS,zaS];omega),hN _ _ _ .refl (by rw[zaF hba];§hb) ?_⟩;rw[←zev];¤zik hba ts zag (by rw[zaF hba];§hb) (λu hu=>hA u (List.mem_cons_of_mem _ hu)) (by rw[List.length_append];omega) λx2=>?_;rw[zaX];have:=h x2;rw[List.flatMap_cons,←List.append_assoc]at this;§this
þ zkL{ts:List Tr}{b:Addr}{r:Nat}{S:Sto}{Q:WK}{E:Str→Sto→Prop}(hb:S b=some (.lst (encs ts))) (hA:∀t∈ts,t.kids.length≤1000) (hw:ts.length≤400) (h:∀a,S a=none→Q (.ref a) (put S a (.lst (encs (ts.flatMap Tr.kids))))):zbn (r+2) [.ref b] S Q E:=by
 rw[zbn];¶;¤⟨Nat.zero_le _,λa ha=>?_⟩;have hba:=zpJ hb ha;rw[zai (keep hb ha)];¤zik (us:=[]) hba ts (by simp [zag,encs]) (keep hb ha) hA (by simp;omega) λx2=>?_;rw[zaX];¶;§⟨_, .refl,h a ha⟩
þ zhH{t:Tr}{r:Nat}{S:Sto}{Q:WK}{E:Str→Sto→Prop}(hA:t.wd) (h:Q (.bl t.small) S):zcN (r+3) [enc t] S Q E:=by
 rw[zcN];¶;¤⟨zak £,λa ha=>?_⟩;¤⟨λm σ S'=>∃(ts:List Tr) (k d:Nat) (b:Addr),m=wts ts∧(∀x∈ts,x.wd)∧k+wts ts=t.weight∧d+dts ts=t.depth∧k≤400∧d≤40∧S b=none∧S'=put S b (.lst (encs ts))∧σ=[some (enc t),some (.int k),some (.int d),some (.ref b)],⟨_,[t],0,0,a,rfl,(λx hx=>by rw[List.mem_singleton.mp hx];§hA),by simp [wts],by simp [dts],£,£,ha,by simp [encs],rfl⟩,?_⟩
 rintro m σ S' ⟨ts,k,d,b,rfl,hds,hwt,hk,hk4,hd4,hb,rfl,rfl⟩;¶;cases ts with
 |nil=>
  ŝ[encs,List.isEmpty_nil];¶;simp only[dts,wts,Nat.add_zero]at hk hwt;have e:t.small=true:=by unfold Tr.small;rw[decide_eq_true ¥,decide_eq_true ¥];rfl
  rw[e]at h;§⟨_, .put .refl hb,h⟩
 |cons u us=>
  have hne:(encs (u::us)).isEmpty=false:=by simp [encs]
  rw[hne];have hfl:=zjE (u::us);have hdf:=zjl (ts:=u::us) ¢;have hlw:=zbu (u::us);ŝ[zfc];¶;rw[zaS];have no:400<t.weight∨40<t.depth→ ∃S'',Sub S'' (put S b (Ob.lst (encs (u::us))))∧Q (W.bl false) S'':=λz=>by
   have e:t.small=false:=by
    unfold Tr.small;rcases z with z |z
    ·rw[decide_eq_false ¥];rfl
    ·rw[decide_eq_false (p:=t.depth≤40) ¥,Bool.and_false]
   rw[e]at h;§⟨_, .put .refl hb,h⟩
  split
  ·§no (.inl ¥)
  ·split
   ·§no (.inr ¥)
   ·¤zkL zag (λx hx=>zvL (hds x hx)) ¥ λc hc=>?_;ø⟨hc1,hc2⟩:=zdT hc;¤⟨wts ((u::us).flatMap Tr.kids),put S c (.lst (encs ((u::us).flatMap Tr.kids))),by simp only[List.length_cons]at hfl;omega, .put2 (.put .refl hb),_,k+(u::us).length,d+1,c,rfl,zvp hds,¥,¥,¥,¥,hc1,rfl,?_⟩
    push_cast
    rfl
structure SidesW (g:Tn→Tr) (B:List Tn):Prop where
  fits:∀t∈B,(g t).fits t.2.1.nb
  dp:∀t∈B,(g t).depth≤4
  wt:∀t∈B,(g t).weight≤20
section
variable {S:Sto}{a:Addr}{B:List Tn}{n:Int}
þ zhI (ha:S a=some (.lst (B.map zba))) (hn:n=1∨n=2) (hg:SidesW (zam n) B):∀(d:Nat) {t:Tr}{r:Nat}{Q:WK}{E:Str→Sto→Prop},t.depth≤d→d+10≤r→t.ar B→t.weight≤1000→Q (enc (t.mk B (zam n))) S→zbT (r+1) [.ref a,enc t, .int n] S Q E
 |0,t,r,Q,E,hd,hr,hh,hw,h=>by have:=zbi t;omega
 |d+1, .bl k,r,Q,E,hd,hr,hh,hw,h=>by simp [Tr.ar]at hh
 |d+1, .nd s ts,r,Q,E,hd,hr,hh,hw,h=>by
  simp only[Tr.depth]at hd;simp only[Tr.weight]at hw;simp only[Tr.ar]at hh;have hk:=zbu ts;obtain⟨r,rfl⟩:∃r',r=r'+1:=⟨r - 1,¥⟩
  rw[zbT];ŝ[enc];¶;rw[zaB];¤zax (λσ=>∃x,σ=[x,some (.ref a),some (.int n)]) enc (λt=>enc (t.mk B (zam n))) trivial ts [] _ ⟨none,rfl⟩ (by simp;omega) (λx hx σ R hI hR=>?_) ?_
  ·ø⟨y,rfl⟩:=hI;have hdx:=zcX hx;have hwx:=zcp hx;ŝ[zfs];¶;§zhI ha hn hg d ¥ ¥ (ars_iff.mp hh.2 x hx) ¥ (hR _ _ ⟨_,rfl⟩ .refl)
  ·rw[List.nil_append];intro q hq;have eu:(ts.map λt=>enc (t.mk B (zam n)))=encs (ts.map (Tr.mk B (zam n))):=by rw[zaB,List.map_map];rfl
   rw[eu];have fq:put S q (Ob.lst (encs (ts.map (Tr.mk B (zam n))))) q=some (.lst (encs (ts.map (Tr.mk B (zam n))))):=zag;have fa:=keep (x:=Ob.lst (encs (ts.map (Tr.mk B (zam n))))) ha hq;have sub:Sub S (put S q (Ob.lst (encs (ts.map (Tr.mk B (zam n)))))):= .put .refl hq;generalize put S q (Ob.lst (encs (ts.map (Tr.mk B (zam n)))))=S1 at fq fa sub⊢;¤zfT fa ?_;cases e:zaO B s with
   |none=>
    rw[zhO e]at h;ŝ[zeT]
    try ¶
    try rw[zai fq]
    rw[zaS,List.length_map];simp only[enc]at h;§⟨zak £,zak ¥,_,sub,h⟩
   |some t=>
    have ht:t∈B:=List.mem_of_find?_eq_some e;have ee:zeT (some t)= .tup [.str t.1,enc t.2.1,enc t.2.2]:=rfl;rw[zhM e]at h;rw[ee]
    try ¶
    rw[zmu t hn];dsimp only;have hgw:=hg.wt t ht;§zii 4 (hg.dp t ht) ¥ fq (by rw[List.length_map,hh.1 t e];§hg.fits t ht) ¥ ⟨_,sub,h⟩
þ zoF (hnd:(B.map λt=>t.1).Nodup) (ha:S a=some (.lst (B.map zba))) (hn:n=1∨n=2) (hg:SidesW (zam n) B):∀(d:Nat) {t:Tr}{r:Nat}{Q:WK}{E:Str→Sto→Prop},t.depth≤d→d+10≤r→t.ar B→t.weight≤1000→Q (enc (t.mk B (zam n))) S→zbP (r+1) [.ref a,enc t, .int n] S Q E
 |0,t,r,Q,E,hd,hr,hh,hw,h=>by have:=zbi t;omega
 |d+1, .bl k,r,Q,E,hd,hr,hh,hw,h=>by simp [Tr.ar]at hh
 |d+1, .nd s ts,r,Q,E,hd,hr,hh,hw,h=>by
  simp only[Tr.depth]at hd;simp only[Tr.weight]at hw;simp only[Tr.ar]at hh;have hk:=zbu ts;obtain⟨r,rfl⟩:∃r',r=r'+1:=⟨r - 1,¥⟩
  rw[zbP];ŝ[enc];¶;rw[zaB];¤zax (λσ=>∃x,σ=[x,some (.ref a),some (.int n)]) enc (λt=>enc (t.mk B (zam n))) trivial ts [] _ ⟨none,rfl⟩ (by simp;omega) (λx hx σ R hI hR=>?_) ?_
  ·ø⟨y,rfl⟩:=hI;have hdx:=zcX hx;have hwx:=zcp hx;ŝ[zfZ];¶;§zoF hnd ha hn hg d ¥ ¥ (ars_iff.mp hh.2 x hx) ¥ (hR _ _ ⟨_,rfl⟩ .refl)
  ·rw[List.nil_append];intro q hq;have eu:(ts.map λt=>enc (t.mk B (zam n)))=encs (ts.map (Tr.mk B (zam n))):=by rw[zaB,List.map_map];rfl
   rw[eu,←zaB];have fq:put S q (Ob.lst (encs (ts.map (Tr.mk B (zam n))))) q=some (.lst (encs (ts.map (Tr.mk B (zam n))))):=zag;have fa:=keep (x:=Ob.lst (encs (ts.map (Tr.mk B (zam n))))) ha hq;have sub:Sub S (put S q (Ob.lst (encs (ts.map (Tr.mk B (zam n)))))):= .put .refl hq;generalize put S q (Ob.lst (encs (ts.map (Tr.mk B (zam n)))))=S1 at fq fa sub⊢
   try ¶
   rw[zai fa];¤zfn (S:=S1) ?_ (λσ=>∃x,σ=[some (.ref a),some (.tup (.str s::encs ts)),some (.int n),some (.ref q),x]) zba (λt=>if t.1 == s then some (enc ((zam n t).fill (ts.map (Tr.mk B (zam n))))) else none) B _ ⟨_,rfl⟩ (λt ht σ N hI hno hret=>?_) (λe σ hI=>?_) λw e S' sb=>?_
   ·§fa
   ·ø⟨x,rfl⟩:=hI;ŝ[zgj];have ee:zba t= .tup [.str t.1,enc t.2.1,enc t.2.2]:=rfl;rw[ee];¶;cases e:t.1 == s with
    |true=>
     rw[e]at hret
     try ¶
     rw[zmu t hn];dsimp only;have et:t.1=s:=by simpa using e
     have hgw:=hg.wt t ht;¤zgB 4 (hg.dp t ht) ¥ fq ?_ ¥ (hret _ rfl _ .refl);rw[List.length_map,hh.1 t (by rw[←et];§zcJ hnd ht)];§hg.fits t ht
    |false=>
     rw[e]at hno;§hno rfl _ _ ⟨_,rfl⟩ .refl
   ·ø⟨x,rfl⟩:=hI;rw[zke]at e;have e0:zaO B s=none:=by
     cases z:zaO B s with
     |none=>rfl
     |some t=>rw[z]at e;cases e
    rw[zhO e0]at h
    try ¶
    rw[zkb]
    try rw[zai fq]
    try ¶
    simp only[enc]at h;¤⟨zak ?_,_,sub,h⟩;rw[zaS,List.length_map];omega
   ·rw[zke]at e;cases z:zaO B s with
    |none=>rw[z]at e;cases e
    |some t=>
     rw[z]at e;rw[zhM z]at h;cases e;§⟨_,sub.trans sb,h⟩
þ ziE{t:Tr}{r:Nat}{Q:WK}{E:Str→Sto→Prop}(ha:S a=some (.lst (B.map zba))) (hg:SidesW (zam 1) B) (hd:t.depth≤40) (hr:60≤r) (hh:t.ar B) (hw:t.weight≤1000) (hwd:(t.mk B (zam 1)).wd)
  (h1:(t.mk B (zam 1)).small=true→Q (enc (t.mk B (zam 1))) S) (h2:(t.mk B (zam 1)).small=false→E "TooGreat" S):zff (r+1) [.ref a,enc t] S Q E:=by
 obtain⟨r,rfl⟩:∃r',r=r'+5:=⟨r - 5,¥⟩
 rw[zff];¶;¤zhI ha (.inl rfl) hg 40 (r:=r+4) hd ¥ hh hw ?_;rw[zbe];¶;¤zhH (r:=r+1) hwd ?_;cases e:(t.mk B (zam 1)).small with
 |true=>
  try ¶
  §⟨_, .refl,_, .refl,h1 e⟩
 |false=>
  try ¶
  try rw[zha]
  try ¶
  §⟨zak £,h2 e⟩
þ zne{t:Tr}{r:Nat}{Q:WK}{E:Str→Sto→Prop}(ha:S a=some (.lst (B.map zba))) (hg:SidesW (zam 2) B) (hd:t.depth≤40) (hr:60≤r) (hh:t.ar B) (hw:t.weight≤1000) (hwd:(t.mk B (zam 2)).wd)
  (h1:(t.mk B (zam 2)).small=true→Q (enc (t.mk B (zam 2))) S) (h2:(t.mk B (zam 2)).small=false→E "TooGreat" S):zfv (r+1) [.ref a,enc t] S Q E:=by
 obtain⟨r,rfl⟩:∃r',r=r'+5:=⟨r - 5,¥⟩
 rw[zfv];¶;¤zhI ha (.inr rfl) hg 40 (r:=r+4) hd ¥ hh hw ?_;rw[zbe];¶;¤zhH (r:=r+1) hwd ?_;cases e:(t.mk B (zam 2)).small with
 |true=>
  try ¶
  §⟨_, .refl,_, .refl,h1 e⟩
 |false=>
  try ¶
  try rw[zha]
  try ¶
  §⟨zak £,h2 e⟩
end
ñ def szW (t:Tr):W:= .tup [.int t.weight, .int t.depth]
þ zit{α:Type}(f:α→Int):∀xs:List α,zby (xs.map λx=>W.int (f x))=some (xs.map f)
 | []=>rfl
 |x::xs=>by rw[List.map_cons,zby,zit f xs];rfl
þ zmR:∀ts:List Tr,(ts.map λt=>(t.weight:Int)).sum=(wts ts:Int)
 | []=>rfl
 |t::ts=>by rw[List.map_cons,List.sum_cons,zmR ts,wts];push_cast;rfl
þ zuH (ns:List Int):∀(k j:Nat),j≤k→ns.getD j 0≤pmx ns k
 |0,j,h=>by
  rw[Nat.le_zero.mp h,pmx];§Int.le_refl _
 |k+1,j,h=>by
  rw[pmx];rcases Nat.lt_or_ge j (k+1) with z |z
  ·have:=zuH ns k j ¥;split<;>omega
  ·have e:j=k+1:=by omega
   subst e;split<;>omega
þ zvc (ns:List Int):∀k:Nat,∃j,j≤k∧pmx ns k=ns.getD j 0
 |0=>⟨0,Nat.le_refl _,rfl⟩
 |k+1=>by
  rw[pmx];split
  ·§⟨k+1,Nat.le_refl _,rfl⟩
  ·ø⟨j,h1,h2⟩:=zvc ns k;§⟨j,¥,h2⟩
þ zvm:∀{ts:List Tr},ts≠ []→ ∃t∈ts,t.depth=dts ts
 | [],h=>absurd rfl h
 | [t],_=>⟨t,¢,by simp [dts]⟩
 |t::u::ts,_=>by
  ø⟨x,hx,e⟩:=zvm (ts:=u::ts) ¢;rcases Nat.le_total t.depth (dts (u::ts)) with z |z
  ·§⟨x,List.mem_cons_of_mem _ hx,e.trans (Nat.max_eq_right z).symm⟩
  ·§⟨t,List.mem_cons_self,(Nat.max_eq_left z).symm⟩
þ zsi (ts:List Tr):(if(ts.map λt=>(t.depth:Int))=[] then(0:Int) else pmx (ts.map λt=>(t.depth:Int)) ((ts.map λt=>(t.depth:Int)).length - 1))=(dts ts:Int):=by
 by_cases h:ts=[]
 ·subst h;rfl
 ·have hl:0<ts.length:=List.length_pos_iff.mpr h;rw[if_neg (by simpa using h),List.length_map];have g:∀j,j<ts.length→(ts.map λt=>(t.depth:Int)).getD j 0=((ts[j]?.getD (.bl 0)).depth:Int):=λj hj=>by simp [hj]
  apply Int.le_antisymm
  ·ø⟨j,h1,h2⟩:=zvc (ts.map λt=>(t.depth:Int)) (ts.length - 1);rw[h2,g j ¥,List.getElem?_eq_getElem ¥];have:=zcX (List.getElem_mem (l:=ts) (n:=j) ¥);ŝ[Option.getD_some];omega
  ·ø⟨t,ht,e⟩:=zvm h;ø⟨j,hj,ej⟩:=List.mem_iff_getElem.mp ht;have:=zuH (ts.map λt=>(t.depth:Int)) (ts.length - 1) j ¥;rw[g j hj,List.getElem?_eq_getElem hj,ej]at this;simp only[Option.getD_some]at this;omega
þ zgK (us:List Tr):∀ts:List Tr,fills us ts=ts.map (Tr.fill us)
 | []=>by simp [fills]
 |t::ts=>by rw[fills,zgK us ts];rfl
section
variable {t:Tn}
þ zdu (t:Tr):t.small=false↔((400:Int)<t.weight∨(40:Int)<t.depth):=by
 unfold Tr.small;rw[Bool.and_eq_false_iff,decide_eq_false_iff_not,decide_eq_false_iff_not];omega
end
ñ def stk (x:Tr):List Str→Tr
 | []=>x
 |h::hs=> .nd h [stk x hs]
section
variable {w1 w2:Str}
structure Fit (B:List Tn) (X:Tr):Prop where
  dp:X.depth≤40
  wt:X.weight≤1000
  ar:X.ar B
  w1:(X.mk B (zam 1)).wd
  w2:(X.mk B (zam 2)).wd
  hd:X.hd λ_=>True
end
þ zyU (s:Str) (ts:List Tr):szW (.nd s ts)= .tup [.int (1+(wts ts:Int)), .int (1+(dts ts:Int))]:=by
 unfold szW;rw[Tr.weight,Tr.depth]
 push_cast
 rfl
section
variable {B:List Tn}
þ zir{g:Tn→W}(s:Str):∀B:List Tn,B.findSome? (λt=>if t.1 == s then some (g t) else none)=(zaO B s).map g
 | []=>rfl
 |t::B=>by
  unfold zaO;rw[List.findSome?_cons,List.find?_cons];cases e:t.1 == s with
  |true=>rfl
  |false=>§zir s B
end
section
variable {S:Sto}{a:Addr}{B:List Tn}{r:Nat}{Q:WK}{E:Str→Sto→Prop}{X Y:Tr}
þ ztf{t:Tr}(h:t.small=true):t.depth<60:=by
 rcases Nat.lt_or_ge t.depth 60 with z |z
 ·§z
 ·have:=(zdu t).mpr (.inr ¥);rw[this]at h;cases h
þ zph (ha:S a=some (.lst (B.map zba))) (hg:SidesW (zam 1) B) (fX:Fit B X) (fY:Fit B Y) (hr:62≤r)
  (h1:(X.mk B (zam 1)).small=false∨(Y.mk B (zam 1)).small=false→E "TooGreat" S)
  (h2:(X.mk B (zam 1)).small=true→(Y.mk B (zam 1)).small=true→X.mk B (zam 1)≠Y.mk B (zam 1)→E "Apart" S)
  (h3:(X.mk B (zam 1)).small=true→(Y.mk B (zam 1)).small=true→X.mk B (zam 1)=Y.mk B (zam 1)→Q (enc (X.mk B (zam 1))) S):zcv (r+1) [.ref a,enc X,enc Y] S Q E:=by
 obtain⟨r,rfl⟩:∃r',r=r'+1:=⟨r - 1,¥⟩
 rw[zcv];¶;¤ziE ha hg fX.dp ¥ fX.ar fX.wt fX.w1 (λe=>?_) λe=>h1 (.inl e);¤ziE ha hg fY.dp ¥ fY.ar fY.wt fY.w1 (λe2=>?_) λe2=>h1 (.inr e2);rw[zui 60 _ _ (ztf e2)];cases z:(Y.mk B (zam 1)).same (X.mk B (zam 1)) with
 |true=>
  try ¶
  §⟨_, .refl,h3 e e2 ((zhl _ _).mp z).symm⟩
 |false=>
  try ¶
  try rw[zha]
  try ¶
  ¤⟨zak £,h2 e e2 λk=>?_⟩;rw[k,zhT]at z;cases z
end
section
þ znu{us:List Tr}{q:Addr}:∀(d:Nat) {t:Tr}{r:Nat}{S:Sto}{Q:WK}{E:Str→Sto→Prop},t.depth≤d→d≤r→S q=some (.lst (us.map szW))→t.fits us.length→t.weight≤1000→Q (szW (t.fill us)) S→zaT (r+1) [enc t, .ref q] S Q E
 |0,t,r,S,Q,E,hd,hr,hq,hf,hw,h=>by have:=zbi t;omega
 |d+1, .bl n,r,S,Q,E,hd,hr,hq,hf,hw,h=>by
  simp only[Tr.fits]at hf;simp only[Tr.fill]at h;rw[zaT];have e0:enc (.bl n)= .int n:=by ŝ[enc]
  rw[e0];¶;have e:atI (us.map szW) n=some (szW (us.getD n.toNat (.bl n))):=by
   have q:=zcz (xs:=us.map szW) (n:=n.toNat);rw[Int.toNat_of_nonneg hf.1]at q;rw[q,List.getElem?_map,List.getD_eq_getElem?_getD,List.getElem?_eq_getElem ¥];rfl
  rw[zai hq,e];§⟨S, .refl,h⟩
 |d+1, .nd s ts,r,S,Q,E,hd,hr,hq,hf,hw,h=>by
  simp only[Tr.depth]at hd;simp only[Tr.weight]at hw;simp only[Tr.fits]at hf;have hk:=zbu ts;obtain⟨r,rfl⟩:∃r',r=r'+1:=⟨r - 1,¥⟩
  have en:enc (.nd s ts)= .tup (.str s::encs ts):=by simp [enc]
  rw[zaT,en];¶;rw[zaB];¤zax (λσ=>∃x,σ=[x,some (.ref q)]) enc (λt=>szW (t.fill us)) trivial ts [] _ ⟨none,rfl⟩ (by simp;omega) (λx hx σ R hI hR=>?_) ?_
  ·ø⟨y,rfl⟩:=hI;ŝ[zdJ];¶;§znu d (by have:=zcX hx;omega) ¥ hq (zgq hf hx) (by have:=zcp hx;omega) (hR _ _ ⟨_,rfl⟩ .refl)
  ·rw[List.nil_append];intro q2 hq2;have fq:put S q2 (Ob.lst (ts.map λt=>szW (t.fill us))) q2=some (.lst (ts.map λt=>szW (t.fill us))):=zag;have sub:Sub S (put S q2 (Ob.lst (ts.map λt=>szW (t.fill us)))):= .put .refl hq2;generalize put S q2 (Ob.lst (ts.map λt=>szW (t.fill us)))=S1 at fq sub⊢
   try ¶
   try rw[zai fq]
   ¤zax (λσ=>∃x,σ=[x]) (λt:Tr=>szW (t.fill us)) (λt=>W.int ((t.fill us).weight:Int)) fq ts [] _ ⟨none,rfl⟩ (by simp;omega) (λx hx σ R hI hR=>?_) ?_
   ·ø⟨y,rfl⟩:=hI;ŝ[zdR,szW];¶;§hR _ _ ⟨_,rfl⟩ .refl
   ·rw[List.nil_append,zit λt:Tr=>((t.fill us).weight:Int)];dsimp only;rw[zoN];¶
    try rw[zai fq]
    ¤zax (λσ=>∃x,σ=[x]) (λt:Tr=>szW (t.fill us)) (λt=>W.int ((t.fill us).depth:Int)) fq ts [] _ ⟨none,rfl⟩ (by simp;omega) (λx hx σ R hI hR=>?_) ?_
    ·ø⟨y,rfl⟩:=hI;ŝ[zdV,szW];¶;§hR _ _ ⟨_,rfl⟩ .refl
    ·rw[List.nil_append,zit λt:Tr=>((t.fill us).depth:Int)]
     try ¶
     have em:∀f:Tr→Int,(ts.map λt=>f (t.fill us))=(ts.map (Tr.fill us)).map f:=λf=>by rw[List.map_map];rfl
     have e1:=zmR (ts.map (Tr.fill us));have e2:=zsi (ts.map (Tr.fill us));rw[←em λt=>(t.weight:Int)]at e1;rw[←em λt=>(t.depth:Int)]at e2;rw[e1,e2];¤⟨zak £,_,sub,?_⟩;rw[Tr.fill,zgK,zyU]at h;§h
end
section
variable {S:Sto}{a:Addr}{B:List Tn}
þ zkO (hnd:(B.map λt=>t.1).Nodup) (ha:S a=some (.lst (B.map zba))) (hg:SidesW (zam 2) B):∀(d:Nat) {t:Tr}{r:Nat}{Q:WK}{E:Str→Sto→Prop},t.depth≤d→d+10≤r→t.ar B→t.weight≤1000→Q (szW (t.mk B (zam 2))) S→zbq (r+1) [.ref a,enc t] S Q E
 |0,t,r,Q,E,hd,hr,hh,hw,h=>by have:=zbi t;omega
 |d+1, .bl k,r,Q,E,hd,hr,hh,hw,h=>by simp [Tr.ar]at hh
 |d+1, .nd s ts,r,Q,E,hd,hr,hh,hw,h=>by
  simp only[Tr.depth]at hd;simp only[Tr.weight]at hw;simp only[Tr.ar]at hh;have hk:=zbu ts;obtain⟨r,rfl⟩:∃r',r=r'+1:=⟨r - 1,¥⟩
  have en:enc (.nd s ts)= .tup (.str s::encs ts):=by simp [enc]
  rw[zbq,en];¶;rw[zaB];¤zax (λσ=>∃x,σ=[x,some (.ref a)]) enc (λt=>szW (t.mk B (zam 2))) trivial ts [] _ ⟨none,rfl⟩ (by simp;omega) (λx hx σ R hI hR=>?_) ?_
  ·ø⟨y,rfl⟩:=hI;have hdx:=zcX hx;have hwx:=zcp hx;ŝ[zee];¶;§zkO hnd ha hg d ¥ ¥ (ars_iff.mp hh.2 x hx) ¥ (hR _ _ ⟨_,rfl⟩ .refl)
  ·rw[List.nil_append];intro q hq;have em:(ts.map λt=>szW (t.mk B (zam 2)))=(ts.map (Tr.mk B (zam 2))).map szW:=by rw[List.map_map];rfl
   have fq:put S q (Ob.lst (ts.map λt=>szW (t.mk B (zam 2)))) q=some (.lst (ts.map λt=>szW (t.mk B (zam 2)))):=zag;have fa:=keep (x:=Ob.lst (ts.map λt=>szW (t.mk B (zam 2)))) ha hq;have sub:Sub S (put S q (Ob.lst (ts.map λt=>szW (t.mk B (zam 2))))):= .put .refl hq;rw[←zaB];generalize put S q (Ob.lst (ts.map λt=>szW (t.mk B (zam 2))))=S1 at fq fa sub⊢
   try ¶
   rw[zai fa];¤zfn (S:=S1) ?_ (λσ=>∃x,σ=[some (.ref a),some (.tup (.str s::encs ts)),some (.ref q),x]) zba (λt=>if t.1 == s then some (szW ((zam 2 t).fill (ts.map (Tr.mk B (zam 2))))) else none) B _ ⟨_,rfl⟩ (λt ht σ N hI hno hret=>?_) (λe σ hI=>?_) λw e S' sb=>?_
   ·§fa
   ·ø⟨x,rfl⟩:=hI;ŝ[zek];have ee:zba t= .tup [.str t.1,enc t.2.1,enc t.2.2]:=rfl;rw[ee];¶;cases e:t.1 == s with
    |true=>
     rw[e]at hret
     try ¶
     rw[zmu t (.inr rfl)];dsimp only;have et:t.1=s:=by simpa using e
     have hgw:=hg.wt t ht;rw[em]at fq;¤znu 4 (hg.dp t ht) ¥ fq ?_ ¥ (hret _ rfl _ .refl);rw[List.length_map,hh.1 t (by rw[←et];§zcJ hnd ht)];§hg.fits t ht
    |false=>
     rw[e]at hno;§hno rfl _ _ ⟨_,rfl⟩ .refl
   ·ø⟨x,rfl⟩:=hI;rw[zir]at e;have e0:zaO B s=none:=by
     cases z:zaO B s with
     |none=>rfl
     |some t=>rw[z]at e;cases e
    rw[zhO e0]at h
    try ¶
    try rw[zai fq]
    ¤zax (λσ=>∃x,σ=[x]) (λt:Tr=>szW (t.mk B (zam 2))) (λt=>W.int ((t.mk B (zam 2)).weight:Int)) fq ts [] _ ⟨none,rfl⟩ (by simp;omega) (λx hx σ R hI hR=>?_) ?_
    ·ø⟨y,rfl⟩:=hI;ŝ[zeh,szW];¶;§hR _ _ ⟨_,rfl⟩ .refl
    ·rw[List.nil_append,zit λt:Tr=>((t.mk B (zam 2)).weight:Int)];dsimp only;rw[zoN];¶
     try rw[zai fq]
     ¤zax (λσ=>∃x,σ=[x]) (λt:Tr=>szW (t.mk B (zam 2))) (λt=>W.int ((t.mk B (zam 2)).depth:Int)) fq ts [] _ ⟨none,rfl⟩ (by simp;omega) (λx hx σ R hI hR=>?_) ?_
     ·ø⟨y,rfl⟩:=hI;ŝ[zeb,szW];¶;§hR _ _ ⟨_,rfl⟩ .refl
     ·rw[List.nil_append,zit λt:Tr=>((t.mk B (zam 2)).depth:Int)]
      try ¶
      have ew:∀f:Tr→Int,(ts.map λt=>f (t.mk B (zam 2)))=(ts.map (Tr.mk B (zam 2))).map f:=λf=>by rw[List.map_map];rfl
      have e1:=zmR (ts.map (Tr.mk B (zam 2)));have e2:=zsi (ts.map (Tr.mk B (zam 2)));rw[←ew λt=>(t.weight:Int)]at e1;rw[←ew λt=>(t.depth:Int)]at e2;rw[e1,e2];¤⟨zak £,_,sub,?_⟩;rw[zyU]at h;§h
   ·rw[zir]at e;cases z:zaO B s with
    |none=>rw[z]at e;cases e
    |some t=>
     rw[z]at e;rw[zhM z]at h;cases e;§⟨_,sub.trans sb,h⟩
þ zpH{t:Tr}{r:Nat}{Q:WK}{E:Str→Sto→Prop}(hnd:(B.map λt=>t.1).Nodup) (ha:S a=some (.lst (B.map zba))) (hg:SidesW (zam 2) B) (hdp:t.depth≤40) (har:t.ar B) (hwt:t.weight≤1000) (hr:60≤r) (h:Q (.bl (!(t.mk B (zam 2)).small)) S):zaq (r+1) [.ref a,enc t] S Q E:=by
 obtain⟨r,rfl⟩:∃r',r=r'+1:=⟨r - 1,¥⟩
 rw[zaq];¶;¤zkO hnd ha hg 40 hdp ¥ har hwt ?_;unfold szW
 try ¶
 have e1:atI [W.int ((t.mk B (zam 2)).weight:Int),W.int ((t.mk B (zam 2)).depth:Int)] 0=some (W.int ((t.mk B (zam 2)).weight:Int)):=rfl;have e2:atI [W.int ((t.mk B (zam 2)).weight:Int),W.int ((t.mk B (zam 2)).depth:Int)] 1=some (W.int ((t.mk B (zam 2)).depth:Int)):=rfl
 try ŝ[e1,e2]
 try ¶
 by_cases z:(400:Int)<((t.mk B (zam 2)).weight:Int)
 ·rw[(zdu _).mpr (.inl z)]at h;ŝ[z,decide_true,if_true];§⟨_, .refl,h⟩
 ·ŝ[z,decide_false,if_false,Bool.false_eq_true];by_cases y:(40:Int)<((t.mk B (zam 2)).depth:Int)
  ·rw[(zdu _).mpr (.inr y)]at h;ŝ[y,decide_true];§⟨_, .refl,h⟩
  ·have e:(t.mk B (zam 2)).small=true:=by
    cases e:(t.mk B (zam 2)).small with
    |true=>rfl
    |false=>rcases(zdu _).mp e with k |k<;>contradiction
   rw[e]at h;ŝ[y,decide_false];§⟨_, .refl,h⟩
end
mutual
þ zoM{us:List Tr}(hu:∀u∈us,u.wd):∀t:Tr,t.weight≤1000→(t.fill us).wd
 | .bl n,h=>by
  rw[Tr.fill,List.getD_eq_getElem?_getD];cases e:us[n.toNat]? with
  |none=>§trivial
  |some u=>§hu u (List.mem_of_getElem? e)
 | .nd s ts,h=>by
  rw[Tr.weight]at h;have:=zbu ts;rw[Tr.fill];¤⟨?_,zkN hu ts ¥⟩;rw[zgK,List.length_map];omega
þ zkN{us:List Tr}(hu:∀u∈us,u.wd):∀ts:List Tr,wts ts≤1000→wds (fills us ts)
 | [],h=>by rw[fills];§trivial
 |t::ts,h=>by
  rw[wts]at h;rw[fills];§⟨zoM hu t ¥,zkN hu ts ¥⟩
end
mutual
þ zry{B:List Tn}{g:Tn→Tr}(hg:∀t∈B,(g t).weight≤1000):∀t:Tr,t.weight≤1000→(t.mk B g).wd
 | .bl n,h=>by rw[Tr.mk];§trivial
 | .nd s ts,h=>by
  rw[Tr.weight]at h;have hl:=zbu ts;have ih:=zvf hg ts ¥;rw[zgw]at ih;cases e:zaO B s with
  |none=>
   rw[zhO e];§⟨by rw[List.length_map];omega,ih⟩
  |some u=>
   rw[zhM e];§zoM (wds_iff.mp ih) _ (hg u (List.mem_of_find?_eq_some e))
þ zvf{B:List Tn}{g:Tn→Tr}(hg:∀t∈B,(g t).weight≤1000):∀ts:List Tr,wts ts≤1000→wds (mks B g ts)
 | [],h=>by rw[mks];§trivial
 |t::ts,h=>by
  rw[wts]at h;rw[mks];§⟨zry hg t ¥,zvf hg ts ¥⟩
end
þ zgz{f:Tr→Tr}:∀as:List Tr,(∀x∈as,x.weight≤(f x).weight)→wts as≤wts (as.map f)
 | [],h=>by simp [wts]
 |x::as,h=>by
  have:=zgz as λy hy=>h y (List.mem_cons_of_mem _ hy);have:=h x List.mem_cons_self;rw[List.map_cons,wts,wts];omega
þ zgC{f:Tr→Tr}:∀as:List Tr,(∀x∈as,x.depth≤(f x).depth)→dts as≤dts (as.map f)
 | [],h=>by simp [dts]
 |x::as,h=>by
  have:=zgC as λy hy=>h y (List.mem_cons_of_mem _ hy);have:=h x List.mem_cons_self;rw[List.map_cons,dts,dts];omega
section
variable {ws:List Str}{B:List Tn}
þ znF (K:Bk2 ws B):∀(n:Nat) (x:Tr),x.weight≤n→Wy ws B x→x.weight≤(src B x).weight∧x.depth≤(src B x).depth
 |0,x,hn,h=>by have:=zed x;omega
 |n+1,x,hn,h=>by
  rcases h.cases K.b with⟨s,as,rfl,hs,e,hk⟩ |⟨t,as,ht,rfl,e,hl,hk⟩
  ·rw[Tr.weight]at hn;have ih:∀y∈as,y.weight≤(src B y).weight∧y.depth≤(src B y).depth:=λy hy=>znF K n y (by have:=zcp hy;omega) (hk y hy);have h1:=zgz (f:=src B) as λy hy=>(ih y hy).1;have h2:=zgC (f:=src B) as λy hy=>(ih y hy).2;show _≤(Tr.mk B _ (Tr.nd s as)).weight∧_≤(Tr.mk B _ (Tr.nd s as)).depth;rw[zcC e,Tr.weight,Tr.weight,Tr.depth,Tr.depth];§⟨Nat.add_le_add_left h1 1,Nat.add_le_add_left h2 1⟩
  ·rw[Tr.weight]at hn;have ih:∀y∈as,y.weight≤(src B y).weight∧y.depth≤(src B y).depth:=λy hy=>znF K n y (by have:=zcp hy;omega) (hk y hy);have h1:=zgz (f:=src B) as λy hy=>(ih y hy).1;have h2:=zgC (f:=src B) as λy hy=>(ih y hy).2;ø⟨_,g1,g2⟩:=K.O.fill ht (us:=as.map (src B)) (by rw[List.length_map,hl]);show _≤(Tr.mk B _ (Tr.nd t.1 as)).weight∧_≤(Tr.mk B _ (Tr.nd t.1 as)).depth;rw[zco e,Tr.weight,Tr.depth];§⟨Nat.le_trans (Nat.add_le_add_left h1 1) g1,Nat.le_trans (Nat.add_le_add_left h2 1) g2⟩
ñ def zie (B:List Tn) (wn:List (List Int)) (p:List Int) (t:Tr):Prop:=∀e v,t.at e=some v→(p++e∈wn↔(zcS B v).isSome=true)
þ zjF{wn:List (List Int)}{n:Nat}{p:List Int}(ih:∀{t u:Tr}{p:List Int},Wi B wn n p t u→Sh ws B t→zie B wn p t→u.us B p=t.op B p):∀{qs:List (List Int)}{ts us:List Tr},Wis B wn n p qs ts us→Paired (λq t=>Sh ws B t∧zie B wn (p++q) t) qs ts→usz B p qs us=opz B p qs ts
 |_,_,_, .nil,_=>rfl
 |_,_,_, .cons a b,h=>by
  cases h with
  |cons c d=>
   ŝ[usz,opz];rw[ih a c.1 c.2,zjF ih b d]
þ zlY{w0 w1 w2 w3 w4 w5:Str}{tt:List Str}(b:BookOk w0 w1 w2 w3 w4 w5 tt B) (G:Signs w0 w1 w2 w3 w4 w5) (K:Bk2 ws B) {wn:List (List Int)}:∀(n:Nat) {t u:Tr}{p:List Int},Wi B wn n p t u→Sh ws B t→zie B wn p t→u.us B p=t.op B p
 |0,t,u,p,W,h,hw=>nomatch W
 |n+1,t,u,p,W,h,hw=>by
  have at0:∀(s:Str) (ts:List Tr),(Tr.nd s ts).at []=some (.nd s ts):=λs ts=>by rw[Tr.at]
  cases W with
  | @no _ _ s ts us hp e W=>
   have ho:zcS B (.nd s ts)=none:=by
    cases k:zcS B (.nd s ts) with
    |none=>rfl
    |some v=>
     have:=(hw [] _ (at0 s ts)).mpr (by rw[k];rfl);rw[List.append_nil]at this;§absurd this hp
   ø⟨s',ts',e0,hs,_,k⟩:=h.cases K;cases e0;have pr:∀(i:Nat) (xs:List Tr),(∀(j:Nat) x,xs[j]? =some x→ts[i+j]? =some x)→Paired (λq t=>Sh ws B t∧zie B wn (p++q) t) ((List.range' i xs.length).map λ(i:Nat)=>[(i:Int)]) xs:=by
    intro i xs
    induction xs generalizing i with
    |nil=>intro _;§.nil
    |cons x xs ih=>
     intro hx;have hi:=hx 0 x rfl;rw[Nat.add_zero]at hi;have hm:x∈ts:=List.mem_of_getElem? hi;rw[List.length_cons,List.range'_succ,List.map_cons];¤.cons ⟨k x hm,λe' v' h6=>?_⟩ (ih (i+1) λj y hy=>?_)
     ·have:=hw ((i:Int)::e') v' (by rw[zsw hi];§h6);rw[List.append_assoc];§this
     ·have:=hx (j+1) y (by rw[List.getElem?_cons_succ];§hy);rw[show i+1+j=i+(j+1) by omega]
      §this
   have pr0:=pr 0 ts λj x h=>by rw[Nat.zero_add];§h
   have wl:us.length=ts.length:=W.len;rw[zwi e,wl,Tr.op,ho];show usz B p _ us=[]++ops B p 0 ts;rw[List.nil_append,zse,List.range_eq_range'];rw[List.range_eq_range']at W;§zjF (zlY b G K n) W pr0
  | @yes _ _ s ts us ms u hp ho hm et W=>
   have hu:u∈B:=List.mem_of_find?_eq_some ho;ø⟨f1,f2,f3⟩:=h.parts K hu hm;have pr:∀{qs:List (List Int)}{xs:List Tr},(∀x∈xs,Sh ws B x)→Paired (λq m=>(Tr.nd s ts).at q=some m) qs xs→Paired (λq t=>Sh ws B t∧zie B wn (p++q) t) qs xs:=by
    intro qs xs h2 h3
    induction h3 with
    |nil=>§.nil
    | @cons q m qs xs h4 _ ih=>
     ¤.cons ⟨h2 m ¢,λe' v' h6=>?_⟩ (ih λx hx=>h2 x (List.mem_cons_of_mem _ hx));have:=hw (q++e') v' (by rw[znf _ e' h4];§h6);rw[List.append_assoc];§this
   have z:=zjF (zlY b G K n) W (pr f3 (zqP hm));rw[zwx et,z,Tr.op,ho];show _=[(p,u.1)]++ops B p 0 ts;rw[List.singleton_append];congr 1;ø⟨m,hL⟩:=b.mem_lefts hu;have o2:∀xs,zcS B (.nd w2 xs)=none:=λxs=>b.open_none (G.n0 w2 ¢) (G.n1 w2 ¢);have o3:∀xs,zcS B (.nd w3 xs)=none:=λxs=>b.open_none (G.n0 w3 ¢) (G.n1 w3 ¢);rcases hL with hL |hL
   ·ø⟨ks,ek⟩:=zct hL;have:=zlg hL o2 o3 f2 ek p;rw[ek,Tr.fill]at f1;injection f1 with _ f1;rw[f1];§this.symm
   ·ø⟨ks,ek⟩:=zct hL;have:=zlg hL o2 o3 f2 ek p;rw[ek,Tr.fill]at f1;injection f1 with _ f1;rw[f1];§this.symm
þ Sh.all{t:Tr}(h:Sh ws B t):zie B (opl B t) [] t:=λe v hv=>by
 have ft:=zfF (m:=0) _ h.hdT;rw[List.nil_append];constructor
 ·intro he;§h.wn (λq hq=>hq) e he e v ¢ hv
 ·intro ho;ø⟨u,ho⟩:=Option.isSome_iff_exists.mp ho;have m:=zuN t [] e v hv;rw[List.nil_append]at m;unfold opl;rw[←zrG B t [] ft];¤List.mem_map.mpr ⟨(e,u.1),List.mem_flatMap.mpr ⟨(e,v),m,?_⟩,rfl⟩;unfold zza;rw[ho];simp
structure Ful (ws:List Str) (B:List Tn) (t u:Tr):Prop where
  wi:Wi B (opl B t) t.depth [] t u
  sr:src B u=t
  wy:Wy ws B u
  us:u.us B []=t.op B []
þ zym{w0 w1 w2 w3 w4 w5:Str}{tt:List Str}(b:BookOk w0 w1 w2 w3 w4 w5 tt B) (G:Signs w0 w1 w2 w3 w4 w5) (K:Bk2 ws B) {t:Tr}(h:Sh ws B t):∃u,Ful ws B t u:=by
 ø⟨u,wi,e,y,_⟩:=ztP K t.depth t [] (Nat.le_refl _) h (h.wn λq hq=>hq);§⟨u,wi,e,y,zlY b G K _ wi h h.all⟩
open Classical in
ñ def fw (ws:List Str) (B:List Tn) (t:Tr):Tr:=if h:∃u,Ful ws B t u then choose h else t
þ zjI{w0 w1 w2 w3 w4 w5:Str}{tt:List Str}(b:BookOk w0 w1 w2 w3 w4 w5 tt B) (G:Signs w0 w1 w2 w3 w4 w5) (K:Bk2 ws B) {t:Tr}(h:Sh ws B t):Ful ws B t (fw ws B t):=by
 have e:=zym b G K h;unfold fw;rw[dif_pos e];§Classical.choose_spec e
ñ def hh (ws:List Str) (B:List Tn) (t:Tr):Nat→Tr
 |0=>t
 |k+1=>gol B (fw ws B (hh ws B t k))
ñ def wys (ws:List Str) (B:List Tn) (t:Tr) (k:Nat):List Tr:=(List.range k).map λi=>fw ws B (hh ws B t i)
ñ def Go (ws:List Str) (B:List Tn) (t:Tr) (l:Nat) (i:Nat):Prop:=i<l∧(hh ws B t i).op B []≠ []∧(hh ws B t (i+1)).small=true
ñ def Out (ws:List Str) (B:List Tn) (t:Tr) (l:Nat) (k:Nat) (z:Bool):Prop:=(∀i,i<k→Go ws B t l i)∧match z with
 |false=>l≤k∨(hh ws B t k).op B []=[]
 |true=>k<l∧(hh ws B t k).op B []≠ []∧(hh ws B t (k+1)).small=false
þ zsa{w0 w1 w2 w3 w4 w5:Str}{tt:List Str}(b:BookOk w0 w1 w2 w3 w4 w5 tt B) (G:Signs w0 w1 w2 w3 w4 w5) (K:Bk2 ws B) {t:Tr}(h:Sh ws B t):∀k,Sh ws B (hh ws B t k)
 |0=>h
 |k+1=>by
  have f:=zjI b G K (zsa b G K h k);ø⟨g1,g2,_,_⟩:=K.gol f.wy;§⟨g1,g2⟩
þ znV{t:Tr}{l k:Nat}(h0:t.small=true) (h:∀i,i<k→Go ws B t l i):(hh ws B t k).small=true:=by
 cases k with
 |zero=>§h0
 |succ k=>§(h k ¥).2.2
þ zjy{t:Tr}(k:Nat):wys ws B t (k+1)=wys ws B t k++[fw ws B (hh ws B t k)]:=by
 unfold wys;rw[List.range_succ,List.map_append];rfl
þ zlT{t:Tr}(k:Nat):(wys ws B t k).length=k:=by
 unfold wys;rw[List.length_map,List.length_range]
end
þ ztj{S S1:Sto}{a:Addr}{x y:Ob}(h:Sub (put S a x) S1):Sub (put S a y) (put S1 a y):=λb o e=>by
 by_cases z:b=a
 ·subst z;rw[zag]at e⊢;§e
 ·rw[zaF z]at e⊢;§h b o (by rw[zaF z];§e)
þ zey{t:Tr}(h:t.small=true):t.weight≤400∧t.depth≤40:=by
 have no:¬t.small=false:=by rw[h];simp
 constructor
 ·rcases Nat.lt_or_ge 400 t.weight with z |z
  ·§absurd ((zdu t).mpr (.inl ¥)) no
  ·§z
 ·rcases Nat.lt_or_ge 40 t.depth with z |z
  ·§absurd ((zdu t).mpr (.inr ¥)) no
  ·§z
structure CxB (w0 w1 w2 w3 w4 w5:Str) (tt:List Str) (B:List Tn):Prop where
  b:BookOk w0 w1 w2 w3 w4 w5 tt B
  T:Titles tt
  G:Signs w0 w1 w2 w3 w4 w5
  sl:Slim B
structure WyF (ws:List Str) (B:List Tn) (x u:Tr):Prop where
  f:Ful ws B x u
  wt:u.weight≤400
  dp:u.depth≤40
  ar:u.ar B
  hd:u.hd λ_=>True
  wd:(u.mk B (zam 2)).wd
section
variable {w0 w1 w2 w3 w4 w5:Str}{tt:List Str}{B:List Tn}{t:Tr}{S:Sto}{a:Addr}{r:Nat}{Q:WK}{E:Str→Sto→Prop}
þ CxB.bk (c:CxB w0 w1 w2 w3 w4 w5 tt B):BkOk ω [w2,w3,w4,w5] B:=c.b.bk c.T c.G
þ CxB.K (c:CxB w0 w1 w2 w3 w4 w5 tt B):Bk2 ω B:=c.b.bk2 c.T c.G c.sl
þ CxB.L (c:CxB w0 w1 w2 w3 w4 w5 tt B):Lft B:=⟨λt ht=>(c.bk.lf t ht).dp,λt ht=>by
 have h1:=(c.bk.lf t ht).wt;have h2:=(c.bk.lf t ht).nb;omega⟩
þ CxB.P (c:CxB w0 w1 w2 w3 w4 w5 tt B):PB B:=λt ht x hx=>by
 have h1:=(zqp hx).2.2;have h2:=c.L.d t ht;omega
þ CxB.g2 (c:CxB w0 w1 w2 w3 w4 w5 tt B):SidesW (zam 2) B:=⟨λt ht=>(c.b.ri t ht).fits,λt ht=>(c.b.ri t ht).dp,λt ht=>Nat.le_trans (c.b.ri t ht).wt £⟩
þ CxB.way (c:CxB w0 w1 w2 w3 w4 w5 tt B) {x:Tr}(h:Sh ω B x) (hs:x.small=true):WyF ω B x (fw ω B x):=by
 have f:=zjI c.b c.G c.K h;ø⟨h1,h2⟩:=znF c.K _ _ (Nat.le_refl _) f.wy;rw[f.sr]at h1 h2;ø⟨h3,h4⟩:=zey hs;§⟨f,¥,¥,f.wy.ar,zhC (λ_ _=>trivial) _ f.wy.hd,zry (λt ht=>Nat.le_trans (c.g2.wt t ht) £) _ ¥⟩
þ zpl (c:CxB w0 w1 w2 w3 w4 w5 tt B) (ha:S a=some (.lst (B.map zba))) {x:Tr}(h:Sh ω B x) (hs:x.small=true) (hr:120≤r) (q:Q (enc (fw ω B x)) S):zel (r+1) [.ref a,enc x] S Q E:=by
 have w:=c.way h hs;ø⟨h3,h4⟩:=zey hs;have hl:=zkS B x [];obtain⟨r,rfl⟩:∃r',r=r'+1:=⟨r - 1,¥⟩
 rw[zel];¶;¤zdz c.L ha ¥ ¥ ¥ h.hdT λq1 hq1=>?_;¤zhG zag ¥ λq2 hq2=>?_;§ziM c.L c.P w.f.wi ¥ ¥ (keep (keep ha hq1) hq2) zag h.hdT ¥ (by unfold opl;rw[List.length_map];omega) ⟨_, .trans (.put .refl hq1) (.put .refl hq2),q⟩
þ zrU (c:CxB w0 w1 w2 w3 w4 w5 tt B) (ha:S a=some (.lst (B.map zba))) (h:Sh ω B t) (hs:t.small=true) {l:Nat}(hl:l≤10) (hr:130≤r)
  (h1:∀k,Out ω B t l k false→ ∀S' q,Sub S S'→S' q=some (.lst (encs (wys ω B t k)))→Q (.tup [.tup [enc t, .ref q], .bl ((hh ω B t k).op B []).isEmpty]) S')
  (h2:∀k,Out ω B t l k true→ ∀S',Sub S S'→E "TooGreat" S'):zgd (r+1) [.ref a,enc t, .int l] S Q E:=by
 obtain⟨r,rfl⟩:∃r',r=r'+1:=⟨r - 1,¥⟩
 rw[zgd];¶;¤⟨Nat.zero_le _,λq hq=>?_⟩;¤⟨λm σ S'=>∃k x5,m=l - k∧(∀i,i<k→Go ω B t l i)∧S'=put S q (.lst (encs (wys ω B t k)))∧σ=[some (.ref a),some (enc t),some (.int l),some (.ref q),some (enc (hh ω B t k)),x5],⟨_,0,none,rfl,λi hi=>absurd hi (Nat.not_lt_zero i),by simp [wys,encs],rfl⟩,?_⟩
 rintro m σ S' ⟨k,x5,rfl,hg,rfl,rfl⟩;have sh:=zsa c.b c.G c.K h k;have sm:=znV hs hg;ø⟨b1,b2⟩:=zey sm;have sb:Sub S (put S q (Ob.lst (encs (wys ω B t k)))):= .put .refl hq;have fa:=sb _ _ ha;have fq:put S q (Ob.lst (encs (wys ω B t k))) q=some (.lst (encs (wys ω B t k))):=zag;have fin:∀S1,Sub (put S q (Ob.lst (encs (wys ω B t k)))) S1→(l≤k∨(hh ω B t k).op B []=[])→2≤sizeLine∧zum (zan (zbo (r+1)) (zab (wVar 0) (zab (wVar 4) waNil))) (λc x S'=>E c S') [some (.ref a),some (enc t),some (.int l),some (.ref q),some (enc (hh ω B t k)),x5] S1 λw S1=>2≤sizeLine∧ ∃S'',Sub S'' S1∧Q (.tup [.tup [enc t, .ref q],w]) S'':=λS1 s1 hk=>by
  rw[zxj];¶;¤⟨zak £,zdz c.L (s1 _ _ fa) ¥ ¥ ¥ sh.hdT λq2 hq2=>?_⟩;¶;have ee:(((hh ω B t k).op B []).map encX).isEmpty=((hh ω B t k).op B []).isEmpty:=by cases(hh ω B t k).op B []<;>rfl
  rw[ee,Bool.not_not];§⟨zak £,_, .refl,h1 k ⟨hg,hk⟩ _ q ((sb.trans s1).trans (.put .refl hq2)) (keep (s1 _ _ fq) hq2)⟩
 have w:=c.way sh sm;have eg:(fw ω B (hh ω B t k)).mk B (zam 2)=hh ω B t (k+1):=by rw[zuo];rfl
 have el:(encs (wys ω B t k)).length=k:=by rw[zaS,zlT]
 ¶;rw[el];split
 ·rename_i lt;¤zdz c.L fa ¥ ¥ ¥ sh.hdT λq2 hq2=>?_;have s2:Sub (put S q (Ob.lst (encs (wys ω B t k)))) (put (put S q (Ob.lst (encs (wys ω B t k)))) q2 (Ob.lst (((hh ω B t k).op B []).map encX))):= .put .refl hq2;¶;cases e:(hh ω B t k).op B []with
  |nil=>
   rw[e]at s2;ŝ[List.map_nil,List.isEmpty_nil,Bool.not_true,Bool.false_eq_true,if_false];§fin _ s2 (.inr e)
  |cons x xs=>
   rw[e]at s2;simp only[List.map_cons,List.isEmpty_cons,Bool.not_false,if_true]at s2⊢;generalize put (put S q (Ob.lst (encs (wys ω B t k)))) q2 (Ob.lst (encX x::xs.map encX))=S2 at s2⊢;have ne:(hh ω B t k).op B []≠ []:=by rw[e];simp
   ŝ[ziK];¶;¤zpl c (s2 _ _ fa) sh sm ¥ ?_;¤zne (s2 _ _ fa) c.g2 w.dp ¥ w.ar (by have:=w.wt;omega) w.wd (λz=>?_) λz=>?_
   ·rw[eg]at z⊢
    try ¶
    rw[zai (s2 _ _ fq)];¤⟨trivial,?_⟩;rw[zai (s2 _ _ fq)];¤⟨zbC (by rw[el];omega),l - (k+1),put S q (.lst (encs (wys ω B t (k+1)))),¥,?_,k+1,_,rfl,λi hi=>?_,rfl,rfl⟩
    ·rw[zjy,zev];§ztj s2
    ·rcases Nat.lt_or_ge i k with y |y
     ·§hg i y
     ·rw[show i=k by omega]
      §⟨¥,ne,z⟩
   ·rw[eg]at z;§h2 k ⟨hg,¥,ne,z⟩ _ (sb.trans s2)
 ·§fin _ .refl (.inl ¥)
end
þ zqW{d:Nat}:∀{ts:List Tr},(∀x∈ts,x.depth≤d)→dts ts≤d
 | [],_=>by simp [dts]
 |t::ts,h=>by
  have h1:=h t List.mem_cons_self;have h2:=zqW (ts:=ts) λx hx=>h x (List.mem_cons_of_mem _ hx);rw[dts];omega
section
variable {ws:List Str}{B:List Tn}
þ zhp{wn:List (List Int)}{n:Nat}{p:List Int}(ih:∀{t u:Tr}{p:List Int},Wi B wn n p t u→Sh ws B t→zie B wn p t→ ∀y,Wy ws B y→src B y=t→ ∃z,Mv B n y u z∧z.hd zcw):∀{qs:List (List Int)}{ts us:List Tr},Wis B wn n p qs ts us→Paired (λq t=>Sh ws B t∧zie B wn (p++q) t) qs ts→ ∀ys:List Tr,(∀y∈ys,Wy ws B y)→ys.map (src B)=ts→ ∃zs,Mvs B n ys us zs∧hds zcw zs∧zs.length=ts.length
 |_,_,_, .nil,_,ys,hy,e=>by
  have:ys=[]:=by cases ys<;>simp at e⊢
  subst this;§⟨[], .nil,trivial,rfl⟩
 |_,_,_, .cons a b,h,ys,hy,e=>by
  cases h with
  |cons c d=>
   cases ys with
   |nil=>simp at e
   |cons y ys=>
    rw[List.map_cons]at e;injection e with e1 e2;ø⟨z,M,hz⟩:=ih a c.1 c.2 y (hy y List.mem_cons_self) e1;ø⟨zs,Ms,hzs,hl⟩:=zhp ih b d ys (λx hx=>hy x (List.mem_cons_of_mem _ hx)) e2;§⟨z::zs, .cons M Ms,⟨hz,hzs⟩,by simp [hl]⟩
þ zjg{w0 w1 w2 w3 w4 w5:Str}{tt:List Str}(b:BookOk w0 w1 w2 w3 w4 w5 tt B) (G:Signs w0 w1 w2 w3 w4 w5) (K:Bk2 ω B) {wn:List (List Int)}:∀(n:Nat) {t u:Tr}{p:List Int},Wi B wn n p t u→Sh ω B t→zie B wn p t→ ∀y,Wy ω B y→src B y=t→ ∃z,Mv B n y u z∧z.hd zcw
 |0,t,u,p,W,h,hw,y,hy,ey=>nomatch W
 |n+1,t,u,p,W,h,hw,y,hy,ey=>by
  have at0:∀(s:Str) (ts:List Tr),(Tr.nd s ts).at []=some (.nd s ts):=λs ts=>by rw[Tr.at]
  cases W with
  | @no _ _ s ts us hp e W=>
   have ho:zcS B (.nd s ts)=none:=by
    cases k:zcS B (.nd s ts) with
    |none=>rfl
    |some v=>
     have:=(hw [] _ (at0 s ts)).mpr (by rw[k];rfl);rw[List.append_nil]at this;§absurd this hp
   ø⟨s',ts',e0,hs,_,k⟩:=h.cases K;cases e0;rcases hy.cases K.b with⟨s1,as,rfl,hs1,e1,hk⟩ |⟨v,as,hv,rfl,e1,hl,hk⟩
   ·have q:=ey;rw[show src B (.nd s1 as)=_ from zcC e1]at q;injection q with q1 q2;subst q1;have pr:∀(i:Nat) (xs:List Tr),(∀(j:Nat) x,xs[j]? =some x→ts[i+j]? =some x)→Paired (λq t=>Sh ω B t∧zie B wn (p++q) t) ((List.range' i xs.length).map λ(i:Nat)=>[(i:Int)]) xs:=by
     intro i xs
     induction xs generalizing i with
     |nil=>intro _;§.nil
     |cons x xs ih=>
      intro hx;have hi:=hx 0 x rfl;rw[Nat.add_zero]at hi;have hm:x∈ts:=List.mem_of_getElem? hi;rw[List.length_cons,List.range'_succ,List.map_cons];¤.cons ⟨k x hm,λe' v' h6=>?_⟩ (ih (i+1) λj y hy=>?_)
      ·have:=hw ((i:Int)::e') v' (by rw[zsw hi];§h6);rw[List.append_assoc];§this
      ·have:=hx (j+1) y (by rw[List.getElem?_cons_succ];§hy);rw[show i+1+j=i+(j+1) by omega]
       §this
    have pr0:=pr 0 ts λj x h=>by rw[Nat.zero_add];§h
    rw[List.range_eq_range']at W;ø⟨zs,Ms,hz,_⟩:=zhp (zjg b G K n) W pr0 as hk q2;§⟨.nd s1 zs, .nn e1 e Ms,K.b.sg s1 hs1,hz⟩
   ·exfalso;have q:=ey;rw[show src B (.nd v.1 as)=_ from zco e1]at q;have o:=b.open_some G hv (us:=as.map (src B)) (by rw[List.length_map,hl]);rw[show v.2.1.fill (as.map (src B))=_ from q,ho]at o;cases o
  | @yes _ _ s ts us ms v hp ho hm et W=>
   have hv:v∈B:=List.mem_of_find?_eq_some ho;ø⟨f1,f2,f3⟩:=h.parts K hv hm;have pr:∀{qs:List (List Int)}{xs:List Tr},(∀x∈xs,Sh ω B x)→Paired (λq m=>(Tr.nd s ts).at q=some m) qs xs→Paired (λq t=>Sh ω B t∧zie B wn (p++q) t) qs xs:=by
    intro qs xs h2 h3
    induction h3 with
    |nil=>§.nil
    | @cons q m qs xs h4 _ ih=>
     ¤.cons ⟨h2 m ¢,λe' v' h6=>?_⟩ (ih λx hx=>h2 x (List.mem_cons_of_mem _ hx));have:=hw (q++e') v' (by rw[znf _ e' h4];§h6);rw[List.append_assoc];§this
   have prm:=pr f3 (zqP hm);have fin:∀zs:List Tr,hds zcw zs→zs.length=v.2.1.nb→(v.2.2.fill zs).hd zcw:=λzs hz hl=>zjf (hds_iff.mp hz) _ ((b.ri v hv).hb λx hx=>K.b.sg x hx) (by rw[hl];§(b.ri v hv).fits);rcases hy.cases K.b with⟨s1,as,rfl,hs1,e1,hk⟩ |⟨v',as,hv',rfl,e1,hl,hk⟩
   ·rw[f1]at ey;ø⟨vs,g1,g2,g3,g4,_⟩:=zex K.b K.O hv e1 hy f2 ey;ø⟨zs,Ms,hz,hl⟩:=zhp (zjg b G K n) W prm vs g4 g3;¤⟨v.2.2.fill zs, .ns e1 et ?_ (by rw[hl,f2]) Ms,fin zs hz (by rw[hl,f2])⟩;rw[g1];§K.O.mt v hv vs g2
   ·have q:=ey;rw[show src B (.nd v'.1 as)=_ from zco e1]at q;have o:=b.open_some G hv' (us:=as.map (src B)) (by rw[List.length_map,hl]);rw[show v'.2.1.fill (as.map (src B))=_ from q,ho]at o;cases o;have m1:=K.O.mt v hv (as.map (src B)) (by rw[List.length_map,hl]);rw[show v.2.1.fill (as.map (src B))=_ from q,hm]at m1;have m2:as.map (src B)=ms:=(Option.some.inj m1).symm;ø⟨zs,Ms,hz,hl'⟩:=zhp (zjg b G K n) W prm as hk m2;§⟨v.2.2.fill zs, .ss e1 et (by rw[hl',f2]) Ms,fin zs hz (by rw[hl',f2])⟩
þ zht{w0 w1 w2 w3 w4 w5:Str}{tt:List Str}(c:CxB w0 w1 w2 w3 w4 w5 tt B) {t y:Tr}(h:Sh ω B t) (hy:Wy ω B y) (e:src B y=t):res B y (fw ω B t)=gol B (fw ω B t):=by
 have f:=zjI c.b c.G c.K h;ø⟨z,M,hz⟩:=zjg c.b c.G c.K _ f.wi h h.all y hy e;have er:res B y (fw ω B t)=z:=M.res;have m:=c.K.moved hy f.wy (by rw[e,f.sr]);have s:=m.sr;rw[er]at s⊢;rw[←s];§(zfN c.K.b.ti z hz).symm
þ zmm{w0 w1 w2 w3 w4 w5:Str}{tt:List Str}(c:CxB w0 w1 w2 w3 w4 w5 tt B):∀(n:Nat) (y:Tr) (p:List Int),y.weight≤n→Wy ω B y→(src B y).op B p=[]→y.hd zcw
 |0,y,p,hn,h,_=>by have:=zed y;omega
 |n+1,y,p,hn,h,ho=>by
  rcases h.cases c.K.b with⟨s,as,rfl,hs,e,hk⟩ |⟨v,as,hv,rfl,e,hl,hk⟩
  ·rw[Tr.weight]at hn;¤⟨c.K.b.sg s hs,?_⟩;rw[show src B (.nd s as)=_ from zcC e,Tr.op]at ho;have ho2:=(List.append_eq_nil_iff.mp ho).2;have all:∀(i:Nat) (xs:List Tr),(∀x∈xs,x∈as)→ops B p i (xs.map (src B))=[]→hds zcw xs:=by
    intro i xs
    induction xs generalizing i with
    |nil=>intro _ _;§trivial
    |cons x xs ih=>
     intro hx z;rw[List.map_cons,ops]at z;ø⟨z1,z2⟩:=List.append_eq_nil_iff.mp z;have hm:=hx x List.mem_cons_self;§⟨zmm c n x _ (by have:=zcp hm;omega) (hk x hm) z1,ih (i+1) (λy hy=>hx y (List.mem_cons_of_mem _ hy)) z2⟩
   §all 0 as (λx hx=>hx) ho2
  ·exfalso;have o:=c.b.open_some c.G hv (us:=as.map (src B)) (by rw[List.length_map,hl]);ø⟨s0,l0,e0,_⟩:=c.K.O.inn v hv;rw[show src B (.nd v.1 as)=_ from zco e]at ho;rw[e0,Tr.fill]at ho o;rw[Tr.op,o]at ho;simp at ho
þ zrj{w0 w1 w2 w3 w4 w5:Str}{tt:List Str}(c:CxB w0 w1 w2 w3 w4 w5 tt B) {t:Tr}(h:Sh ω B t) {k:Nat}(hr:(hh ω B t k).op B []=[]):∀j,hh ω B t (k+j)=hh ω B t k
 |0=>rfl
 |j+1=>by
  have ih:=zrj c h hr j;show gol B (fw ω B (hh ω B t (k+j)))=_;have f:=zjI c.b c.G c.K (zsa c.b c.G c.K h k);have q:=zmm c _ _ [] (Nat.le_refl _) f.wy (by rw[f.sr];§hr);rw[ih,show gol B (fw ω B (hh ω B t k))=_ from zfN c.K.b.ti _ q];have s:=f.sr;rwa [show src B (fw ω B (hh ω B t k))=_ from zfN c.K.b.ti _ q]at s
end
section
variable {w0 w1 w2 w3 w4 w5:Str}{tt:List Str}{B:List Tn}{t:Tr}{S:Sto}{a:Addr}{r:Nat}{Q:WK}{E:Str→Sto→Prop}
þ zoY (c:CxB w0 w1 w2 w3 w4 w5 tt B) (ha:S a=some (.lst (B.map zba))) (h:Sh ω B t) (hs:t.small=true) {l:Nat}(hl:l≤10) (hr:140≤r)
  (h1:∀k,Out ω B t l k false→ ∀S' q,Sub S S'→S' q=some (.lst (encs (wys ω B t k)))→Q (.tup [.tup [enc t, .ref q], .bl ((hh ω B t k).op B []).isEmpty]) S')
  (h2:∀k,Out ω B t l k true→ ∀S',Sub S S'→Q .non S'):zcI (r+1) [.ref a,enc t, .int l] S Q E:=by
 obtain⟨r,rfl⟩:∃r',r=r'+1:=⟨r - 1,¥⟩
 rw[zcI];¶;¤zrU c ha h hs hl ¥ (λk ho S2 q s2 fq=>?_) λk ho S2 s2=>?_
 ·try ¶
  §⟨_, .refl,h1 k ho _ _ s2 fq⟩
 ·§⟨¢,_, .refl,h2 k ho _ s2⟩
end
mutual
ñ def Tr.onc (c:Str):Tr→List Int→Tr×List Int
 | .bl n,sn=>(if n∈sn then .nd c [] else .bl n,sn++[n])
 | .nd s ts,sn=>(.nd s (zoG c ts sn).1,(zoG c ts sn).2)
ñ def zoG (c:Str):List Tr→List Int→List Tr×List Int
 | [],sn=>([],sn)
 |t::ts,sn=>((t.onc c sn).1::(zoG c ts (t.onc c sn).2).1,(zoG c ts (t.onc c sn).2).2)
end
structure OncOk (c:Str) (t u:Tr):Prop where
  dp:u.depth=t.depth
  wt:u.weight=t.weight
  ft:∀m,t.fits m→u.fits m
  hb:∀{P:Str→Prop},P c→t.hb P→u.hb P
  fw:∀us:List Tr,(u.fill us).weight≤(t.fill us).weight
structure OncsOk (c:Str) (ts us:List Tr):Prop where
  dp:dts us=dts ts
  wt:wts us=wts ts
  ft:∀m,fitss m ts→fitss m us
  hb:∀{P:Str→Prop},P c→hbs P ts→hbs P us
  fw:∀vs:List Tr,wts (fills vs us)≤wts (fills vs ts)
mutual
þ znB (c:Str):∀(t:Tr) (sn:List Int),OncOk c t (t.onc c sn).1∧(t.onc c sn).2.length≤sn.length+t.weight
 | .bl n,sn=>by
  rw[Tr.onc];¤⟨?_,by simp [Tr.weight]⟩
  dsimp only;split
  ·§⟨by simp [Tr.depth,dts],by simp [Tr.weight,wts],λm _=>(by simp [Tr.fits,fitss]),λh _=>(by simpa [Tr.hb,hbs]using h),λus=>by
    have:=zed ((Tr.bl n).fill us);simpa [Tr.fill,fills,Tr.weight,wts]using this⟩
  ·§⟨rfl,rfl,λm h=>h,λ_ h=>h,λus=>Nat.le_refl _⟩
 | .nd s ts,sn=>by
  ø⟨h,hl⟩:=zmg c ts sn;rw[Tr.onc];¤⟨⟨by rw[Tr.depth,Tr.depth,h.dp],by rw[Tr.weight,Tr.weight,h.wt],λm hm=>?_,λhc hm=>?_,λus=>?_⟩,by rw[Tr.weight];dsimp only;omega⟩
  ·rw[Tr.fits]at hm⊢;§h.ft m hm
  ·rw[Tr.hb]at hm⊢;§⟨hm.1,h.hb hc hm.2⟩
  ·rw[Tr.fill,Tr.fill,Tr.weight,Tr.weight];have:=h.fw us;omega
þ zmg (c:Str):∀(ts:List Tr) (sn:List Int),OncsOk c ts (zoG c ts sn).1∧(zoG c ts sn).2.length≤sn.length+wts ts
 | [],sn=>by
  rw[zoG];§⟨⟨rfl,rfl,λm h=>h,λ_ h=>h,λus=>Nat.le_refl _⟩,¢⟩
 |t::ts,sn=>by
  ø⟨h,hl⟩:=znB c t sn;ø⟨g,gl⟩:=zmg c ts (t.onc c sn).2;rw[zoG];¤⟨⟨by rw[dts,dts,h.dp,g.dp],by rw[wts,wts,h.wt,g.wt],λm hm=>?_,λhc hm=>?_,λus=>?_⟩,by rw[wts];dsimp only;omega⟩
  ·rw[fitss]at hm⊢;§⟨h.ft m hm.1,g.ft m hm.2⟩
  ·rw[hbs]at hm⊢;§⟨h.hb hc hm.1,g.hb hc hm.2⟩
  ·rw[fills,fills,wts,wts];have:=h.fw us;have:=g.fw us;omega
end
þ zzA{r:Nat}{self:WSp}{E:WX}{σ:WSt}{S:Sto}{Q:WK}:zeD r self E σ S Q=zan self (zab (wVar 0) (zab (wVar 1) (zab (wVar 2) waNil))) E σ S Q:=rfl
section
variable {c:Str}{q:Addr}
mutual
þ zrq:∀(t:Tr) {r:Nat}{sn:List Int}{S:Sto}{Q:WK}{E:Str→Sto→Prop},t.depth≤r→S q=some (.lst (sn.map W.int))→sn.length+t.weight≤1000→Q (enc (t.onc c sn).1) (put S q (.lst ((t.onc c sn).2.map W.int)))→zbS (r+1) [enc t, .ref q, .str c] S Q E
 | .bl n,r,sn,S,Q,E,hd,hq,hl,h=>by
  rw[Tr.onc]at h;rw[zbS];have e0:enc (.bl n)= .int n:=by ŝ[enc]
  rw[e0];rw[Tr.weight]at hl;¶;rw[zai hq];¤⟨trivial,?_⟩;rw[zai hq];¤⟨zbC (by rw[List.length_map];omega),zak £,zak £,λp hp=>?_⟩;have ec:zeu (sn.map W.int++[W.int n]) none (some (-1))=sn.map W.int:=by
   rw[show zeu (sn.map W.int++[W.int n]) none (some (-1))=_ from zhA 1 £];simp
  rw[ec,zqy];dsimp only;by_cases z:n∈sn
  ·rw[if_pos z]at h;rw[if_pos (List.contains_iff_mem.mpr z),show atI [W.int n,W.tup [W.str c]] 1=some (W.tup [W.str c]) from rfl];¤⟨_, .put .refl hp,?_⟩;simpa [enc,encs]using h
  ·rw[if_neg z]at h;rw[if_neg (λk=>z (List.contains_iff_mem.mp k)),show atI [W.int n,W.tup [W.str c]] 0=some (W.int n) from rfl];¤⟨_, .put .refl hp,?_⟩;simpa [enc,encs]using h
 | .nd s ts,r,sn,S,Q,E,hd,hq,hl,h=>by
  rw[Tr.onc]at h;rw[Tr.depth]at hd;rw[Tr.weight]at hl;obtain⟨r,rfl⟩:∃r',r=r'+1:=⟨r - 1,¥⟩
  have en:∀us,enc (.nd s us)= .tup (.str s::encs us):=λus=>by simp [enc]
  rw[en]at h⊢;rw[zbS];¶;¤zov ts ¥ hq ¥ (by have:=zbu ts;simp;omega) ?_;rw[zkb,List.nil_append,zaS];have ol:(zoG c ts sn).1.length≤wts ts:=by
   have h1:=zbu (zoG c ts sn).1;rw[(zmg c ts sn).1.wt]at h1;§h1
  §⟨zak (by simp;omega),_, .refl,h⟩
þ zov:∀(ts:List Tr) {r:Nat}{sn:List Int}{acc:List W}{x0:Option W}{S:Sto}{E:WX}{Q:List W→Sto→Prop},dts ts≤r→S q=some (.lst (sn.map W.int))→sn.length+wts ts≤1000→acc.length+ts.length≤1000→Q (acc++encs (zoG c ts sn).1) (put S q (.lst ((zoG c ts sn).2.map W.int)))→zfp (wGN 0) zfw (zeD (r+1) (zbS (r+1))) E (λ_=>True) Q (encs ts) acc [x0,some (.ref q),some (.str c)] S
 | [],r,sn,acc,x0,S,E,Q,hd,hq,hl,ha,h=>by
  rw[zoG]at h;simp only[encs,List.append_nil,zeX hq]at h;simpa [encs,zfp]using h
 |t::ts,r,sn,acc,x0,S,E,Q,hd,hq,hl,ha,h=>by
  rw[zoG]at h;rw[dts]at hd;rw[wts]at hl;rw[List.length_cons]at ha;have hk:=(znB c t sn).2;ŝ[encs,zfp,zfw,if_true];¶;rw[zzA];¶;¤zrq t ¥ hq ¥ ⟨zbC ¥,_, .refl,?_⟩;¤zov ts ¥ zag ¥ (by simp;omega) ?_;rw[zaX];simpa [encs]using h
end
ñ def onB (w2:Str) (t:Tn):Tn:=(t.1,t.2.1,(t.2.2.onc w2 []).1)
end
section
variable {w0 w1 w2 w3 w4 w5:Str}{tt:List Str}{B:List Tn}
þ BookOk.onc (b:BookOk w0 w1 w2 w3 w4 w5 tt B):BookOk w0 w1 w2 w3 w4 w5 tt (B.map (onB w2)):=by
 ø⟨n,m,e⟩:=b.lf;¤⟨⟨n,m,by rw[List.map_map,←e];rfl⟩,?_,λt ht=>?_⟩
 ·rw[List.map_map,List.length_map,←b.ti];rfl
 ·ø⟨u,hu,rfl⟩:=List.mem_map.mp ht;have h:=b.ri u hu;have o:=(znB w2 u.2.2 []).1;§⟨by show(u.2.2.onc w2 []).1.depth≤4;rw[o.dp];§h.dp,o.ft _ h.fits,λ{P} hP=>o.hb (hP w2 ¢) (h.hb hP),by show(u.2.2.onc w2 []).1.weight≤7;rw[o.wt];§h.wt⟩
þ Slim.onc (sl:Slim B):Slim (B.map (onB w2)):=λt ht us M h1 h2 h3=>by
 ø⟨u,hu,rfl⟩:=List.mem_map.mp ht;have o:=(znB w2 u.2.2 []).1.fw us;ø⟨g1,g2⟩:=sl u hu us M h1 h2 h3;§⟨Nat.le_trans o g1,λz=>Nat.le_trans o (g2 z)⟩
end
section
variable {w0 w1 w2 w3 w4 w5:Str}{tt:List Str}{B:List Tn}{t:Tr}
þ zvH (t:Tr):∀k,zeM B t (wys ω B t k)=hh ω B t k
 |0=>rfl
 |k+1=>by rw[zjy,zhj];rfl
þ zvO (c:CxB w0 w1 w2 w3 w4 w5 tt B) (h:Sh ω B t) (hs:t.small=true) {l k:Nat}(ho:∀i,i<k→Go ω B t l i):∀x∈wys ω B t k,x.depth≤40∧x.weight≤1000∧x.ar B∧(gol B x).small=true:=λx hx=>by
 unfold wys at hx;ø⟨i,hi,rfl⟩:=List.mem_map.mp hx;have hi:=List.mem_range.mp hi;have w:=c.way (zsa c.b c.G c.K h i) (znV hs λj hj=>ho j ¥);§⟨w.dp,by have:=w.wt;omega,w.ar,(ho i hi).2.2⟩
end
þ zzW{B:List Tn}(O:Ort B) {t:Tn}(ht:t∈B) {s:Str}{ts ms:List Tr}(h:t.2.1.mt (.nd s ts)=some ms):dts ms≤dts ts:=by
 ø⟨s0,l0,e0,_⟩:=O.inn t ht;rw[e0,Tr.mt]at h;split at h
 ·§zqW (znR _ _ _ h)
 ·cases h
mutual
þ Mv.bd{B:List Tn}(O:Ort B):∀{n:Nat}{x y z:Tr},Mv B n x y z→Mv B x.depth x y z
 |_,_,_,_, .nn a b m=>by
  rw[Tr.depth,Nat.add_comm];§.nn a b (Mvs.bd O m)
 |_,_,_,_, .ns a b c d m=>by
  rw[Tr.depth,Nat.add_comm];§.ns a b c d ((Mvs.bd O m).monoA _ (zzW O (List.mem_of_find?_eq_some b) c))
 |_,_,_,_, .sn a b c m=>by
  rw[Tr.depth,Nat.add_comm];§.sn a b c (Mvs.bd O m)
 |_,_,_,_, .ss a b c m=>by
  rw[Tr.depth,Nat.add_comm];§.ss a b c (Mvs.bd O m)
þ Mvs.bd{B:List Tn}(O:Ort B):∀{n:Nat}{xs ys zs:List Tr},Mvs B n xs ys zs→Mvs B (dts xs) xs ys zs
 |_,_,_,_, .nil=> .nil
 |_,_,_,_, .cons a b=>by
  rw[dts];§.cons ((Mv.bd O a).monoA _ ¥) ((Mvs.bd O b).monoA _ ¥)
end
section
variable {ws:List Str}{B:List Tn}{x y:Tr}{a:Addr}{r:Nat}{S:Sto}{Q:WK}{E:Str→Sto→Prop}
þ Bk2.mv (K:Bk2 ws B) (hx:Wy ws B x) (hy:Wy ws B y) (e:L2.src B x=L2.src B y):Mv B x.depth x y (res B x y):=by
 ø⟨p,hp,rfl,rfl,_,_⟩:=zro K hx hy e;have m:=zgy (c:=byC 1) (d:=byC 2) K.b K.O.mt (zeF (zdM 1) (zdM 2)) hp;have m1:=m.res;rw[m1];§m.bd K.O
þ Bk2.fitw (K:Bk2 ws B) (hx:Wy ws B x) (hs:(L2.src B x).small=true):x.depth≤40∧x.weight≤400∧x.ar B∧x.hd λ_=>True:=by
 ø⟨g1,g2⟩:=znF K _ _ (Nat.le_refl _) hx;ø⟨h1,h2⟩:=zey hs;§⟨¥,¥,hx.ar,zhC (λ_ _=>trivial) _ hx.hd⟩
þ Bk2.gW (K:Bk2 ws B):SidesW (zam 2) B:=⟨λt ht=>(K.b.ri t ht).fits,λt ht=>(K.b.ri t ht).dp,λt ht=>Nat.le_trans (K.b.ri t ht).wt £⟩
þ Bk2.okmv (K:Bk2 ws B):∀t∈B,t.2.1.depth≤4∧t.2.1.weight≤100∧t.2.2.depth≤4∧t.2.2.weight≤100∧t.2.2.fits t.2.1.nb:=λt ht=>by
 have h1:=K.b.lf t ht;have h2:=K.b.ri t ht;have h3:=h1.wt;have h4:=h1.nb;have h5:=h2.wt;§⟨h1.dp,¥,h2.dp,¥,h2.fits⟩
structure Cel (ws:List Str) (B:List Tn) (x y:Tr):Prop where
  K:Bk2 ws B
  wx:Wy ws B x
  wy:Wy ws B y
  e:src B x=src B y
  sm:(src B y).small=true
þ Cel.symm (h:Cel ws B x y):Cel ws B y x:=⟨h.K,h.wy,h.wx,h.e.symm,by rw[h.e];§h.sm⟩
þ Cel.ok_move (h:Cel ws B x y) (ha:S a=some (.lst (B.map zba))) (hr:60≤r) (q:Q (enc (res B x y)) S):zcO (r+1) [.ref a,enc x,enc y] S Q E:=by
 ø⟨d1,w1,_,h1⟩:=h.K.fitw h.wx (by rw[h.e];§h.sm);ø⟨d2,w2,_,h2⟩:=h.K.fitw h.wy h.sm;§znj h.K.okmv x.depth ha (h.K.mv h.wx h.wy h.e) ¥ h1 h2 ¥ ¥ q
þ Bk2.ok_goalX (K:Bk2 ws B) (hx:Wy ws B x) (hs:(L2.src B x).small=true) (ha:S a=some (.lst (B.map zba))) (hr:60≤r) (h1:(L2.gol B x).small=true→Q (enc (L2.gol B x)) S) (h2:(L2.gol B x).small=false→E "TooGreat" S):zfv (r+1) [.ref a,enc x] S Q E:=by
 ø⟨d1,w1,a1,_⟩:=K.fitw hx hs;have e2:x.mk B (zam 2)=L2.gol B x:=by rw[zuo]
 ¤zne ha K.gW d1 hr a1 ¥ (zry (λt ht=>Nat.le_trans (K.gW.wt t ht) £) _ ¥) (λz=>?_) λz=>?_
 ·rw[e2]at z⊢;§h1 z
 ·rw[e2]at z;§h2 z
end
section
variable {ws:List Str}{B:List Tn}{a l q:Addr}{r:Nat}{E:WX}{D:WEnds}
þ zoI{S:Sto}{G:Sto→Prop}(K:Bk2 ws B) (hG:G S) (ha:S a=some (.lst (B.map zba))) (hr:60≤r):∀(xs:List Tr) {t:Tr}(y1 y2:Option W),Roa ws B t xs→t.small=true→((∀x∈xs,(gol B x).small=true)→ ∀z,D.nx [some (.ref a),y1,z] S)→((∃x∈xs,(gol B x).small=false)→ ∀σ,E "TooGreat" σ S)→forL (wGN 2) (zdG (r+1) zaJ) E D G (xs.map enc) [some (.ref a),y1,y2] S
 | [],t,y1,y2,_,_,h,_=>h (λ_ hx=>nomatch hx) y2
 |x::xs,t,y1,y2,⟨h1,h2,h3⟩,hs,h,hE=>by
  rw[List.map_cons];¤zbt λN hN=>?_;rw[ziq,zdG];¶;¤K.ok_goalX h1 (by rw[h2];§hs) ha ¥ (λz=>?_) λz=>hE ⟨x,List.mem_cons_self,z⟩ _;¤hN _ _ _ .refl hG (zoI K hG ha hr xs y1 _ h3 z (λk=>h λu hu=>?_) λ⟨u,hu,e⟩=>hE ⟨u,List.mem_cons_of_mem _ hu,e⟩);rcases List.mem_cons.mp hu with e |e
  ·rw[e];§z
  ·§k u e
þ zdX{S:Sto}{xs:List Tr}{t:Tr}{Q:WK}{X:Str→Sto→Prop}(K:Bk2 ws B) (ha:S a=some (.lst (B.map zba))) (hl:S l=some (.lst (xs.map enc))) (hx:Roa ws B t xs) (hs:t.small=true) (hr:60≤r) (h:(∀x∈xs,(gol B x).small=true)→Q .non S) (hX:(∃x∈xs,(gol B x).small=false)→X "TooGreat" S):zaW (r+2) [.ref a, .ref l] S Q X:=by
 rw[show r+2=r+1+1 from rfl,zaW];¶;rw[zai hl];§zoI K hl ha hr xs _ _ hx hs (λk z=>⟨_, .refl,h k⟩) λk σ=>hX k
ñ def LOk (B:List Tn):Tr→List Tr→Prop
 |_,[]=>True
 |x,o::os=>(gol B (res B x o)).small=true∧LOk B (res B x o) os
þ zmW{S0:Sto}{G:Sto→Prop}(K:Bk2 ws B) (ha:S0 a=some (.lst (B.map zba))) (h0:S0 q=none) (hG:∀S,Sub S0 S→G S) (hr:64≤r):∀(os:List Tr) {x t:Tr},Wy ws B x→src B x=t→Roa ws B t os→t.small=true→(∀o∈os,(gol B o).small=true)→ ∀(xs:List W) {S:Sto}{y1 y2 y4 y5:Option W},xs.length+os.length≤900→Sub S0 S→S q=some (.lst (xs++[enc x]))→
  (LOk B x os→ ∀S' y4 y5,Sub S0 S'→S' q=some (.lst (xs++(zeE B x os).map enc))→D.nx [some (.ref a),y1,y2,some (.ref q),y4,y5] S')→(¬LOk B x os→ ∀σ S',Sub S0 S'→E "TooGreat" σ S')→
  forL (wGN 4) (zcy r zaJ) E D G (os.map enc) [some (.ref a),y1,y2,some (.ref q),y4,y5] S
 | [],x,t,hx,ex,hR,hs,hg=>λxs S y1 y2 y4 y5 hl sb hq h _=>h trivial S _ _ sb hq
 |o::os,x,t,hx,ex,⟨r1,r2,r3⟩,hs,hg=>by
  intro xs S y1 y2 y4 y5 hl sb hq h hE;have cl:Cel ws B x o:=⟨K,hx,r1,by rw[ex,r2],by rw[r2];§hs⟩
  have m:=K.moved hx r1 cl.e;have go:=hg o List.mem_cons_self;rw[List.map_cons];rw[List.length_cons]at hl;¤zbt λN hN=>?_;rw[ziq,zcy];rw[zck];¶;rw[zai hq,zjB];dsimp only;obtain⟨r',er⟩:∃r',r=r'+2:=⟨r - 2,¥⟩
  rw[er];¤cl.ok_move (r:=r'+1) (sb _ _ ha) ¥ ?_;rw[zcj];¶;¤⟨£,λv hv=>?_⟩;have sv:Sub S0 (put S v (Ob.lst [enc (res B x o)])):=sb.trans (.put .refl hv);¤zdX (xs:=[res B x o]) (t:=gol B o) K (sv _ _ ha) zag ⟨m.wy,m.sr,trivial⟩ go ¥ (λk=>?_) λ⟨u,hu,e⟩=>?_
  ·have k0:=k _ List.mem_cons_self;rw[zcl];¶;have fq:=keep (x:=Ob.lst [enc (res B x o)]) hq hv;rw[zai fq,zai fq];¤⟨trivial,zbC (by rw[List.length_append,List.length_singleton];omega),?_⟩;have sb2:Sub S0 (put (put S v (Ob.lst [enc (res B x o)])) q (.lst (xs++[enc x]++[enc (res B x o)]))):= .put sv h0;¤hN _ _ _ .refl (hG _ sb2) (zmW K ha h0 hG hr os m.wy m.sr r3 go (λu hu=>hg u (List.mem_cons_of_mem _ hu)) (xs++[enc x]) (by rw[List.length_append,List.length_singleton];omega) sb2 zag (λlk S' z4 z5 s' hq'=>?_) λnk=>hE λlk=>nk lk.2);¤h ⟨k0,lk⟩ S' z4 z5 s' ?_;rw[hq',zeE,List.map_cons];simp
  ·rw[List.mem_singleton.mp hu]at e;§hE (λlk=>by rw[lk.1]at e;cases e) _ _ sv
þ ziA{S:Sto}{x t:Tr}{os:List Tr}{Q:WK}{X:Str→Sto→Prop}(K:Bk2 ws B) (ha:S a=some (.lst (B.map zba))) (hl:S l=some (.lst (os.map enc))) (hx:Wy ws B x) (ex:src B x=t) (hR:Roa ws B t os) (hs:t.small=true) (hg:∀o∈os,(gol B o).small=true) (hn:os.length≤800) (hr:64≤r)
  (h:LOk B x os→ ∀S' q,Sub S S'→S q=none→S' q=some (.lst ((zeE B x os).map enc))→Q (.ref q) S') (hX:¬LOk B x os→ ∀S',Sub S S'→X "TooGreat" S'):zbv (r+1) [.ref a,enc x, .ref l] S Q X:=by
 rw[zbv,zgg];¤⟨rfl,?_⟩;rw[zcE];¶;¤⟨£,λq hq=>?_⟩;rw[zcK];¶;rw[zai (keep hl hq)];¤zmW K ha hq (λS' sb=>sb _ _ hl) hr os hx ex hR hs hg [] (by simp;omega) (.put .refl hq) zag (λlk S' y4 y5 sb hq'=>?_) λnk σ S' sb=>hX nk S' sb;rw[zcF];¶;§⟨_, .refl,h lk S' q sb hq (by rw[hq',List.nil_append])⟩
end
ñ def GOk (B:List Tn):List Tr→List Tr→Prop
 | [],_=>True
 |x::xs,os=>LOk B x os∧GOk B xs (zea B x os)
section
variable {ws:List Str}{B:List Tn}
þ zfY (K:Bk2 ws B):∀(os:List Tr) {x t:Tr},Wy ws B x→src B x=t→Roa ws B t os→LOk B x os→ ∀u∈zea B x os,(gol B u).small=true
 | [],x,t,_,_,_,_,u,hu=>by cases hu
 |o::os,x,t,hx,ex,⟨r1,r2,r3⟩,⟨l1,l2⟩,u,hu=>by
  have m:=K.moved hx r1 (by rw[ex,r2]);rw[zea]at hu;rcases List.mem_cons.mp hu with e |e
  ·rw[e,←m.go];§l1
  ·§zfY K os m.wy m.sr r3 l2 u e
þ znM (K:Bk2 ws B):∀(os:List Tr) {x t:Tr},Wy ws B x→src B x=t→Roa ws B t os→t.small=true→(∀o∈os,(gol B o).small=true)→ ∀p∈os.zip (zeE B x os),Cel ws B p.1 p.2
 | [],x,t,_,_,_,_,_,p,hp=>by cases hp
 |o::os,x,t,hx,ex,⟨r1,r2,r3⟩,hs,hg,p,hp=>by
  have cl:Cel ws B x o:=⟨K,hx,r1,by rw[ex,r2],by rw[r2];§hs⟩
  have m:=K.moved hx r1 cl.e;rw[zeE,List.zip_cons_cons]at hp;rcases List.mem_cons.mp hp with rfl |hp
  ·§cl.symm
  ·§znM K os m.wy m.sr r3 (hg o List.mem_cons_self) (λu hu=>hg u (List.mem_cons_of_mem _ hu)) p hp
end
section
variable {ws:List Str}{B:List Tn}{a l1 l2 d o ρ:Addr}{r:Nat}{E:WX}{D:WEnds}{T:WS}{t t':Tr}{xs os:List Tr}{S:Sto}{y1 y2 y3 y4 y5 y6 y7:Option W}
þ zyO{x:Tr}{q:Addr}(ha:S a=some (.lst (B.map zba))) (hl:S ρ=some (.lst (os.map enc))) (hq:S q=some (.lst ((zeE B x os).map enc))) (hc:∀p∈os.zip (zeE B x os),Cel ws B p.1 p.2) (hn:os.length≤800) (hr:63≤r)
  (h:∀ρ',S ρ'=none→T E D [some (.ref a),y1,y2,y3,some (.ref ρ'),y5,y6,some (.ref q)] (put S ρ' (.lst ((zea B x os).map enc)))) :
  zeO r T E D [some (.ref a),y1,y2,y3,some (.ref ρ),y5,y6,some (.ref q)] S:=by
 rw[zeO];¶;rw[zai hl,zai hq,zkT];¤zax (λσ=>∃u v,σ=[u,v,some (.ref a)]) (λp:Tr×Tr=> .tup [enc p.1,enc p.2]) (λp=>enc (res B p.1 p.2)) ⟨hl,hq⟩ (os.zip (zeE B x os)) [] _ ⟨none,none,rfl⟩ (by rw[List.length_zip,znr];simp;omega) (λp hp σ R hI hR=>?_) ?_
 ·ø⟨u,v,rfl⟩:=hI;have h2:=hc p hp;rw[zzg];show zaE (wGN 0) (zaE (wGN 1) zdY) [enc p.1,enc p.2] _ S _;rw[zjG];show wGN 0 _ _ _ _;rw[ziq,zjG];show wGN 1 _ _ _ _;rw[ziq,zra,zna];show zan _ _ _ [some (enc p.1),some (enc p.2),some (.ref a)] _ _;¶;obtain⟨r,rfl⟩:∃r',r=r'+1:=⟨r - 1,¥⟩
  §h2.ok_move ha ¥ (hR _ _ ⟨_,_,rfl⟩ .refl)
 ·intro ρ' hρ;have:=h ρ' hρ;rw[←zrE,List.map_map]at this;§this
þ znZ{S0:Sto}{G:Sto→Prop}(K:Bk2 ws B) (ha:S0 a=some (.lst (B.map zba))) (hd0:S0 d=none) (ho0:S0 o=none) (hdo:d≠o) (hG:∀S,Sub S0 S→G S) (hr:66≤r):∀(xs:List Tr) {os:List Tr}{t:Tr},Roa ws B t xs→Roa ws B t os→t.small=true→(∀x∈xs,(gol B x).small=true)→(∀x∈os,(gol B x).small=true)→ ∀{S:Sto}{ρ:Addr}{ds rs:List Addr}{Ds Rs:List (List Tr)}{y1 y2 y6 y7:Option W},os.length≤800→ds.length+xs.length≤800→rs.length+xs.length≤800→Sub S0 S→S d=some (.lst (ds.map W.ref))→S o=some (.lst (rs.map W.ref++[.ref ρ]))→Ats S0 S d o ds Ds→Ats S0 S d o rs Rs→At S0 S d o ρ os→
  (GOk B xs os→ ∀S' ds' rs' y4 y6 y7,Sub S0 S'→S' d=some (.lst (ds'.map W.ref))→S' o=some (.lst (rs'.map W.ref))→Ats S0 S' d o ds' (Ds++zmb B xs os)→Ats S0 S' d o rs' (Rs++zlZ B xs os)→D.nx [some (.ref a),y1,y2,some (.ref d),y4,some (.ref o),y6,y7] S')→(¬GOk B xs os→ ∀σ S',Sub S0 S'→E "TooGreat" σ S')→
  forL (wGN 6) (zhm r zaJ) E D G (xs.map enc) [some (.ref a),y1,y2,some (.ref d),some (.ref ρ),some (.ref o),y6,y7] S
 | [],os,t,u1,u2,u3,u4,u5=>by
  rename_i S ρ ds rs Ds Rs y1 y2 y6 y7;intro _ _ _ sb hd ho AD AR Aρ h _;¤h trivial S ds (rs++[ρ]) _ _ _ sb hd ?_ ?_ ?_
  ·rw[ho,List.map_append];rfl
  ·rw[zmb,List.append_nil];§AD
  ·rw[zlZ];§zfE AR Aρ
 |x::xs,os,t,⟨x1,x2,x3⟩,hRo,hs,gx,go=>by
  rename_i S ρ ds rs Ds Rs y1 y2 y6 y7;intro n1 n2 n3 sb hd ho AD AR Aρ h hE;rw[List.length_cons]at n2 n3;rw[List.map_cons];¤zbt λN hN=>?_;rw[ziq,zhm];rw[zgm];¶;obtain⟨r',er⟩:∃r',r=r'+1:=⟨r - 1,¥⟩
  have er2:zbv r=zbv (r'+1):=by rw[er]
  rw[er2];¤ziA K (sb _ _ ha) Aρ.e x1 x2 hRo hs go n1 ¥ (λlk S1 q s1 hq0 hq=>?_) λnk S1 s1=>hE (λgk=>nk gk.1) _ _ (sb.trans s1);¤zyO (s1 _ _ (sb _ _ ha)) (s1 _ _ Aρ.e) hq (znM K os x1 x2 hRo hs go) n1 ¥ λρ' hρ=>?_;have s2:Sub S (put S1 ρ' (.lst ((zea B x os).map enc))):=s1.trans (.put .refl hρ);have qd:q≠d:=by rintro rfl;rw[hd]at hq0;cases hq0
  have qo:q≠o:=by rintro rfl;rw[ho]at hq0;cases hq0
  have ρd:ρ'≠d:=by rintro rfl;rw[s1 _ _ hd]at hρ;cases hρ
  have ρo:ρ'≠o:=by rintro rfl;rw[s1 _ _ ho]at hρ;cases hρ
  have Aq:At S0 (put S1 ρ' (.lst ((zea B x os).map enc))) d o q (zeE B x os):=⟨qd,qo,keep hq hρ,zjx sb hq0⟩;have Aρ':At S0 (put S1 ρ' (.lst ((zea B x os).map enc))) d o ρ' (zea B x os):=⟨ρd,ρo,zag,zjx (sb.trans s1) hρ⟩;have AD':=zcu (λ_ _ z=>At.sub z s2) AD;have AR':=zcu (λ_ _ z=>At.sub z s2) AR;have A0:=Aρ.sub s2;have hd2:=s2 _ _ hd;have ho2:=s2 _ _ ho;have sb2:=sb.trans s2;generalize put S1 ρ' (.lst ((zea B x os).map enc))=S2 at Aq Aρ' AD' AR' A0 hd2 ho2 sb2⊢;have ld:(ds.map W.ref).length≤1000:=by rw[List.length_map];omega
  have lo:(rs.map W.ref++[W.ref ρ]).length≤1000:=by rw[List.length_append,List.length_map,List.length_singleton];omega
  ¤zBu hd2 ld ?_;¤zBb (vs:=rs.map W.ref++[.ref ρ]) (by rw[zaF hdo.symm];§ho2) lo ?_;have sb3:Sub S0 (put (put S2 d (.lst (ds.map W.ref++[.ref q]))) o (.lst (rs.map W.ref++[.ref ρ]++[.ref ρ']))):= .put (.put sb2 hd0) ho0;¤hN _ _ _ .refl (hG _ sb3) (znZ K ha hd0 ho0 hdo hG hr xs (ds:=ds++[q]) (rs:=rs++[ρ]) (Ds:=Ds++[zeE B x os]) (Rs:=Rs++[os]) x3 (zdN K os x1 x2 hRo).1 (gx x List.mem_cons_self) (λu hu=>gx u (List.mem_cons_of_mem _ hu)) (zfY K os x1 x2 hRo lk) (by rw[zjh];§n1) (by rw[List.length_append,List.length_singleton];omega) (by rw[List.length_append,List.length_singleton];omega) sb3 ?_ ?_ ?_ ?_ Aρ'.pd.po (λgk S' ds' rs' z4 z6 z7 s' h1 h2 h3 h4=>?_) λng=>hE λgk=>ng gk.2)
  ·rw[zaF hdo,zag,List.map_append];rfl
  ·rw[zag,List.map_append];rfl
  ·§zfE (zcu (λ_ _ z=>At.po (At.pd z)) AD') Aq.pd.po
  ·§zfE (zcu (λ_ _ z=>At.po (At.pd z)) AR') A0.pd.po
  ·¤h ⟨lk,gk⟩ S' ds' rs' z4 z6 z7 s' h1 h2 ?_ ?_
   ·rw[zmb];rw[List.append_assoc]at h3;§h3
   ·rw[zlZ];rw[List.append_assoc]at h4;§h4
structure GGood (B:List Tn) (xs os:List Tr):Prop where
  gx:∀x∈xs,(gol B x).small=true
  go:∀x∈os,(gol B x).small=true
  ok:GOk B xs os
þ zor{Q:WK}{X:Str→Sto→Prop}(K:Bk2 ws B) (ha:S a=some (.lst (B.map zba))) (h1:S l1=some (.lst (xs.map enc))) (h2:S l2=some (.lst (os.map enc))) (hx:Roa ws B t xs) (ho:Roa ws B t' os) (hs:t.small=true) (nx:xs.length≤700) (no:os.length≤700) (hr:70≤r)
  (hA:t≠t'→X "Apart" S) (hX:t=t'→ ¬GGood B xs os→ ∀S',Sub S S'→X "TooGreat" S')
  (h:t=t'→GGood B xs os→ ∀S' d o,Grd S S' B xs os d o→Q (.tup [.ref d, .ref o]) S'):ziY (r+1) [.ref a, .tup [enc t, .ref l1], .tup [enc t', .ref l2]] S Q X:=by
 ø⟨b1,b2⟩:=zey hs;rw[ziY,zgg];¤⟨rfl,?_⟩;rw[zhi];¶;rw[zui 60 _ _ ¥];cases e:t.same t' with
 |false=>
  try ¶
  try rw[zha]
  try ¶
  ¤⟨zak £,hA λk=>?_⟩;rw[k,zhT]at e;cases e
 |true=>
  have et:t=t':=(zhl _ _).mp e;subst et
  try ¶
  ¤zCD b1 b2 ¥ ?_;rw[zhh];¶;obtain⟨r',er⟩:∃r',r=r'+2:=⟨r - 2,¥⟩
  have er2:zaW r=zaW (r'+2):=by rw[er]
  rw[er2];¤zdX K ha h1 hx hs ¥ (λgx=>?_) λ⟨u,hu,eu⟩=>hX rfl (λg=>by have:=g.gx u hu;rw[eu]at this;cases this) _ .refl
  rw[zhk];¶;rw[er2];¤zdX K ha h2 ho hs ¥ (λgo=>?_) λ⟨u,hu,eu⟩=>hX rfl (λg=>by have:=g.go u hu;rw[eu]at this;cases this) _ .refl
  ¤zCS λd hd=>zCw (keep h2 hd) λρ hρ=>zCK λo h0=>?_;have ρd:ρ≠d:=by rintro rfl;rw[zag]at hρ;cases hρ
  have od:o≠d:=by rintro rfl;rw[zaF ρd.symm,zag]at h0;cases h0
  have oρ:o≠ρ:=by rintro rfl;rw[zag]at h0;cases h0
  have oS:S o=none:=by rw[zaF oρ,zaF od]at h0;§h0
  have sb:Sub S (put (put (put S d (.lst [])) ρ (.lst (os.map enc))) o (.lst [.ref ρ])):=(Sub.put .refl hd).trans ((Sub.put .refl hρ).trans (.put .refl h0));rw[zhs];¶;show zcY _ l1 _;rw[zai (sb _ _ h1)];¤znZ K ha hd oS od.symm (λS' s'=>s' _ _ h1) ¥ xs (ds:=[]) (rs:=[]) (Ds:=[]) (Rs:=[]) hx ho hs gx go ¥ (by simp;omega) (by simp;omega) sb ?_ zag .nil .nil ⟨ρd,oρ.symm,?_,by rw[zaF ρd]at hρ;§hρ⟩ (λgk S' ds rs y4 y6 y7 s' g1 g2 g3 g4=>?_) λng σ S' s'=>hX rfl (λg=>ng g.ok) _ s'
  ·rw[zaF od.symm,zaF ρd.symm,zag];rfl
  ·rw[zaF oρ.symm,zag]
  ·rw[zhq];¶;§⟨£,_, .refl,h rfl ⟨gx,go,gk⟩ S' d o ⟨s',hd,oS,od.symm,ds,rs,g1,g2,g3,g4⟩⟩
end
section
variable {ws:List Str}{B:List Tn}
þ ziH:∀(os:List Tr) {x:Tr},LOk B x os→(gol B x).small=true→(gol B (zcW B x os)).small=true
 | [],x,_,h=>h
 |o::os,x,⟨l1,l2⟩,h=>ziH os l2 l1
þ ziT (K:Bk2 ws B):∀(xs os:List Tr) {t:Tr},Roa ws B t xs→Roa ws B t os→GOk B xs os→(∀x∈xs,(gol B x).small=true)→ ∀u∈zar B xs os,(gol B u).small=true
 | [],os,t,_,_,_,_,u,hu=>by cases hu
 |x::xs,os,t,⟨x1,x2,x3⟩,ho,⟨g1,g2⟩,gx,u,hu=>by
  rw[zar]at hu;rcases List.mem_cons.mp hu with e |e
  ·rw[e];§ziH os g1 (gx x List.mem_cons_self)
  ·§ziT K xs _ x3 (zdN K os x1 x2 ho).1 g2 (λv hv=>gx v (List.mem_cons_of_mem _ hv)) u e
þ ziU (K:Bk2 ws B):∀(xs os:List Tr) {t:Tr},Roa ws B t xs→Roa ws B t os→GOk B xs os→(∀x∈os,(gol B x).small=true)→ ∀u∈zdH B xs os,(gol B u).small=true
 | [],os,t,_,_,_,go,u,hu=>go u hu
 |x::xs,os,t,⟨x1,x2,x3⟩,ho,⟨g1,g2⟩,go,u,hu=>by
  rw[zdH]at hu;§ziU K xs _ x3 (zdN K os x1 x2 ho).1 g2 (zfY K os x1 x2 ho g1) u hu
þ zhu:∀(us:List Tr) {t:Tr},Roa ws B t us→t.small=true→(∀x∈us,(gol B x).small=true)→ ∀u∈us,Wy ws B u∧(src B u).small=true
 | [],t,_,_,_,u,hu=>by cases hu
 |x::us,t,⟨x1,x2,x3⟩,hs,g,u,hu=>by
  rcases List.mem_cons.mp hu with e |e
  ·rw[e];§⟨x1,by rw[x2];§hs⟩
  ·§zhu us x3 (g x List.mem_cons_self) (λv hv=>g v (List.mem_cons_of_mem _ hv)) u e
þ zeN:∀(us:List Tr) {t:Tr},t.small=true→(∀x∈us,(gol B x).small=true)→(zeM B t us).small=true
 | [],t,hs,_=>hs
 |x::us,t,hs,g=>zeN us (g x List.mem_cons_self) λv hv=>g v (List.mem_cons_of_mem _ hv)
þ zsB (K:Bk2 ws B) {xs os:List Tr}{t:Tr}(hx:Roa ws B t xs) (ho:Roa ws B t os):Roa ws B (zeM B t xs) (zdH B xs os):=by
 rw[zde];§zbA K os xs ho hx
end
section
variable {ws:List Str}{B:List Tn}{x t t':Tr}{a l l1 l2:Addr}{r:Nat}{xs os:List Tr}{S:Sto}{Q:WK}{X:Str→Sto→Prop}
þ zkk (K:Bk2 ws B) (hl:S l=some (.lst (xs.map enc))) (tx:∀x∈xs,Wy ws B x∧(src B x).small=true) (hn:xs.length≤1000) (hr:62≤r) (h:Q (.bl (xs.all Tr.quiet)) S):zdC (r+1) [.ref l] S Q X:=by
 rw[zdC];¶;rw[zai hl];obtain⟨r,rfl⟩:∃r',r=r'+1:=⟨r - 1,¥⟩
 ¤zax (λσ=>∃y,σ=[y]) enc (λx=>W.bl x.quiet) hl xs [] _ ⟨none,rfl⟩ (by simp;omega) (λx hx σ R hI hR=>?_) ?_
 ·ø⟨y,rfl⟩:=hI;ø⟨h1,h2⟩:=tx x hx;ø⟨d1,w1,_,_⟩:=K.fitw h1 h2;rw[zgu];¶;§L2.znw 40 d1 ¥ (h1.len K) ¥ (hR _ _ ⟨_,rfl⟩ .refl)
 ·rw[List.nil_append,zoC];¤⟨_, .refl,?_⟩;rw[List.all_map];§h
þ zsp (K:Bk2 ws B) (ha:S a=some (.lst (B.map zba))) (hl:S l=some (.lst (xs.map enc))) (tx:∀x∈xs,Wy ws B x∧(src B x).small=true) (gx:∀x∈xs,(gol B x).small=true) (hr:64≤r) (h:Q (enc (zeM B t xs)) S):zpp (r+1) [.ref a, .tup [enc t, .ref l]] S Q X:=by
 rw[zpp,zgg];¤⟨rfl,?_⟩;rw[zmQ];¶;rw[show atI [enc t,W.ref l] 1=some (.ref l) from rfl];¶;rw[zai hl];rcases List.eq_nil_or_concat xs with rfl |⟨ys,u,rfl⟩
 ·§⟨_, .refl,h⟩
 ·rw[List.concat_eq_append]at *;have hne:((ys++[u]).map enc).isEmpty=false:=by simp
  ø⟨h1,h2⟩:=tx u ¢;have h3:=gx u ¢;rw[zhj]at h
  try rw[hne]
  rw[if_neg £,zmk];¶;rw[show atI [enc t,W.ref l] 1=some (.ref l) from rfl];¶;rw[List.map_append]at hl;rw[zai hl,show [u].map enc=[enc u] from rfl,zjB];obtain⟨r,rfl⟩:∃r',r=r'+1:=⟨r - 1,¥⟩
  §K.ok_goalX h1 h2 ha ¥ (λ_=>⟨_, .refl,h⟩) λz=>by rw[h3]at z;cases z
þ zoU (K:Bk2 ws B) (ha:S a=some (.lst (B.map zba))) (h1:S l1=some (.lst (xs.map enc))) (h2:S l2=some (.lst (os.map enc))) (hx:Roa ws B t xs) (ho:Roa ws B t' os) (hs:t.small=true) (nx:xs.length≤700) (no:os.length≤700) (hr:75≤r)
  (hA:t≠t'→X "Apart" S) (hX:t=t'→ ¬GGood B xs os→ ∀S',Sub S S'→X "TooGreat" S')
  (h:t=t'→GGood B xs os→ ∀S',Sub S S'→Q (.bl ((zar B xs os).all Tr.quiet)) S'):zge (r+1) [.ref a, .tup [enc t, .ref l1], .tup [enc t', .ref l2]] S Q X:=by
 obtain⟨r,rfl⟩:∃r',r=r'+1:=⟨r - 1,¥⟩
 rw[zge];¶;¤zor K ha h1 h2 hx ho hs nx no ¥ hA hX λet gg S1 d o g=>?_;subst et;ø⟨ds,rs,g1,g2,g3,g4⟩:=g.ex;¤zkq g1 nx g3 λq hq=>?_;¤zkk K zag (zhu _ (zbA K xs os hx ho) (zeN os hs gg.go) (ziT K xs os hx ho gg.ok gg.gx)) (by rw[zhd];omega) ¥ ?_;§⟨_, .refl,h rfl gg _ (g.sub.trans (.put .refl hq))⟩
þ ziz (K:Bk2 ws B) (ha:S a=some (.lst (B.map zba))) (h1:S l1=some (.lst (xs.map enc))) (h2:S l2=some (.lst (os.map enc))) (hx:Roa ws B t xs) (ho:Roa ws B t' os) (hs:t.small=true) (nx:xs.length≤700) (no:os.length≤700) (hr:75≤r)
  (hA:t≠t'→X "Apart" S) (hX:t=t'→ ¬GGood B xs os→ ∀S',Sub S S'→X "TooGreat" S')
  (h:t=t'→GGood B xs os→ ∀S' q,Sub S S'→S q=none→S' q=some (.lst ((xs++zdH B xs os).map enc))→Q (.tup [enc t, .ref q]) S'):zcG (r+1) [.ref a, .tup [enc t, .ref l1], .tup [enc t', .ref l2]] S Q X:=by
 obtain⟨r,rfl⟩:∃r',r=r'+1:=⟨r - 1,¥⟩
 rw[zcG,zgg];¤⟨rfl,?_⟩;rw[zdA];¶;¤zor K ha h1 h2 hx ho hs nx no ¥ hA hX λet gg S1 d o g=>?_;subst et;ø⟨ds,rs,g1,g2,g3,g4⟩:=g.ex;ø⟨pl,el⟩:=zll (B:=B) xs os;rw[el]at g4;ø⟨pre,ρ,rfl,Aρ⟩:=zhF g4;rw[List.map_append]at g2;rw[zdI];¶;rw[show atI [W.ref d,W.ref o] 1=some (.ref o) from rfl,show atI [enc t,W.ref l1] 1=some (.ref l1) from rfl];¶;rw[zai g2,show [ρ].map W.ref=[W.ref ρ] from rfl,zjB];¶;have h1':=g.sub _ _ h1;have Ae:=Aρ.e;have lo:(zdH B xs os).length≤700:=by rw[zoB];§no
 rw[zai h1',zai Ae];¤⟨zak (by rw[List.length_map,List.length_map];omega),λq hq=>⟨£,_, .refl,?_⟩⟩;§h rfl gg _ q (g.sub.trans (.put .refl hq)) (zjx g.sub hq) (by rw[zag,List.map_append])
end
section
variable {w0 w1 w2 w3 w4 w5:Str}{tt:List Str}{B:List Tn}
þ znb (t:Tr):∀i,hh ω B (gol B (fw ω B t)) i=hh ω B t (i+1)
 |0=>rfl
 |i+1=>by
  show gol B (fw ω B (hh ω B (gol B (fw ω B t)) i))=gol B (fw ω B (hh ω B t (i+1)));rw[znb t i]
þ zjK (t:Tr) (m:Nat):wys ω B t (m+1)=fw ω B t::wys ω B (gol B (fw ω B t)) m:=by
 unfold wys;rw[List.range_succ_eq_map,List.map_cons,List.map_map];congr 1;apply List.map_congr_left;intro i _;show fw ω B (hh ω B t (i+1))=_;rw[znb]
þ zdS (c:CxB w0 w1 w2 w3 w4 w5 tt B):∀(m:Nat) {t:Tr},Sh ω B t→Roa ω B t (wys ω B t m)
 |0,t,_=>trivial
 |m+1,t,h=>by
  have f:=zjI c.b c.G c.K h;ø⟨g1,g2,_,_⟩:=c.K.gol f.wy;rw[zjK];§⟨f.wy,f.sr,zdS c m ⟨g1,g2⟩⟩
þ zmS (c:CxB w0 w1 w2 w3 w4 w5 tt B) {t x:Tr}(h:Sh ω B t) (hx:Wy ω B x) (ex:src B x=t) (m:Nat):zea B x (wys ω B t (m+1))=res B (fw ω B t) x::wys ω B (gol B (fw ω B t)) m∧Sh ω B (zcW B x (wys ω B t (m+1))):=by
 have f:=zjI c.b c.G c.K h;ø⟨g1,g2,_,_⟩:=c.K.gol f.wy;have r:=zdS c m (t:=gol B (fw ω B t)) ⟨g1,g2⟩;ø⟨q1,q2⟩:=zef c.K _ r;rw[zjK,zea,zcW,zht c h hx ex,q1,q2];have e:=Roa.end_wy c.K _ r g1 g2;§⟨rfl,e.1,e.2⟩
þ zuP (c:CxB w0 w1 w2 w3 w4 w5 tt B):∀(m:Nat) {t x:Tr},Sh ω B t→Wy ω B x→src B x=t→(zar B (wys ω B (gol B x) m) (zea B x (wys ω B t (m+1)))).all Tr.quiet=true
 |0,t,x,h,hx,ex=>rfl
 |m+1,t,x,h,hx,ex=>by
  have f:=zjI c.b c.G c.K h;ø⟨t1,t2,_,_⟩:=c.K.gol f.wy;ø⟨g1,g2,_,_⟩:=c.K.gol hx;have h':Sh ω B (gol B x):=⟨g1,g2⟩;have f':=zjI c.b c.G c.K h';have m1:=c.K.moved f.wy hx (by rw[f.sr,ex]);have m2:=c.K.moved f'.wy m1.wy (by rw[f'.sr,m1.sr]);have s1:src B (res B (fw ω B (gol B x)) (res B (fw ω B t) x))=gol B (fw ω B t):=by
   rw[m2.sr,m1.go,zht c h hx ex];§(c.K.gol f.wy).2.2.2
  have s2:gol B (res B (fw ω B (gol B x)) (res B (fw ω B t) x))=gol B (fw ω B (gol B x)):=by
   rw[m2.go,zht c h' m1.wy m1.sr];§(c.K.gol f'.wy).2.2.2
  have sh1:Sh ω B (gol B (fw ω B t)):=⟨t1,t2⟩;have ih:=zuP c m sh1 m2.wy s1;ø⟨r1,r2⟩:=zmS c sh1 m2.wy s1 m;rw[(zmS c h hx ex (m+1)).1,zjK,zar,zcW,List.all_cons,zea,zht c h' m1.wy m1.sr,zec];ø⟨k1,k2,_,_⟩:=c.K.gol f'.wy;rw[(zef c.K _ (zdS c m (t:=gol B (fw ω B (gol B x))) ⟨k1,k2⟩)).1];rw[s2]at ih;rw[ih,r2.quiet c.K];rfl
þ zfi (c:CxB w0 w1 w2 w3 w4 w5 tt B):∀(xs:List Tr) {t:Tr}{m:Nat},Sh ω B t→Roa ω B t xs→xs.length≤m→(zar B xs (wys ω B t m)).all Tr.quiet=true
 | [],t,m,_,_,_=>rfl
 |x::xs,t,m,h,⟨x1,x2,x3⟩,hl=>by
  rw[List.length_cons]at hl;obtain⟨m,rfl⟩:∃k,m=k+1:=⟨m - 1,¥⟩
  ø⟨g1,g2,_,_⟩:=c.K.gol x1;have h':Sh ω B (gol B x):=⟨g1,g2⟩;have ro:=zdS c (m+1) h;have rr:=(zdN c.K _ x1 x2 ro).1;have rw':=zdS c m h';have l1:=znt c.K x3 rw' (zfi c xs h' x3 ¥);have l2:=znt c.K rw' rr (zuP c m h x1 x2);rw[zar,List.all_cons,(zmS c h x1 x2 m).2.quiet c.K,zqm c.K h' x3 rw' rr l1 l2];rfl
þ zld (c:CxB w0 w1 w2 w3 w4 w5 tt B):∀(us:List Tr) {g:Tr},Roa ω B g us→us.all Tr.quiet=true→zeM B g us=g
 | [],g,_,_=>rfl
 |u::us,g,⟨u1,u2,u3⟩,h=>by
  rw[List.all_cons,Bool.and_eq_true]at h;have s:=zjw c.K _ u (Nat.le_refl _) u1 h.1;have e:gol B u=u:=by
   have:=(c.K.src u1).2.2.2;rw[s.q]at this;§this
  show zeM B (gol B u) us=g;rw[zld c us u3 h.2,e,←u2];§s.q.symm
þ zpC (c:CxB w0 w1 w2 w3 w4 w5 tt B) {xs os:List Tr}{t:Tr}(hx:Roa ω B t xs) (ho:Roa ω B t os) (h:(zar B xs os).all Tr.quiet=true):zeM B t (xs++zdH B xs os)=zeM B t os:=by
 rw[zsc,zde,←znp c.K xs os hx ho];§zld c _ (zbA c.K xs os hx ho) h
end
section
variable {w0 w1 w2 w3 w4 w5:Str}{tt:List Str}{B:List Tn}
þ zxw (c:CxB w0 w1 w2 w3 w4 w5 tt B) {g:Tr}(h:Sh ω B g) (hr:g.op B []=[]):fw ω B g=g:=by
 have f:=zjI c.b c.G c.K h;have q:=zmm c _ _ [] (Nat.le_refl _) f.wy (by rw[f.sr];§hr);have s:=f.sr;rwa [show src B (fw ω B g)=_ from zfN c.K.b.ti _ q]at s
þ zox (c:CxB w0 w1 w2 w3 w4 w5 tt B) {t:Tr}(h:Sh ω B t) {k:Nat}(hr:(hh ω B t k).op B []=[]):∀j,wys ω B t (k+j)=wys ω B t k++List.replicate j (hh ω B t k)
 |0=>by simp
 |j+1=>by
  rw[←Nat.add_assoc,zjy,zox c h hr j,zrj c h hr j,zxw c (zsa c.b c.G c.K h k) hr,List.append_assoc,List.replicate_succ']
þ zkw (c:CxB w0 w1 w2 w3 w4 w5 tt B) {g:Tr}:∀(j:Nat) {us:List Tr},Roa ω B g us→zar B us (List.replicate j g)=us
 |0,us,_=>by rw[List.replicate_zero,zcD]
 |j+1,us,h=>by rw[List.replicate_succ,zec,(zef c.K us h).1,zkw c j h]
þ zpt (c:CxB w0 w1 w2 w3 w4 w5 tt B) {xs:List Tr}{t:Tr}(h:Sh ω B t) (hx:Roa ω B t xs) {l k:Nat}(ho:Out ω B t l k false) (hl:xs.length≤l):(zar B xs (wys ω B t k)).all Tr.quiet=true:=by
 rcases ho.2 with z |z
 ·§zfi c xs h hx ¥
 ·rcases Nat.lt_or_ge k l with y |y
  ·have:=zfi c xs (m:=k+(l - k)) h hx ¥;have rd:=zbA c.K xs _ hx (zdS c k h);rw[zvH]at rd;rw[zox c h z,zei,zkw c _ rd]at this;§this
  ·§zfi c xs h hx ¥
end
section
variable {ws:List Str}{B:List Tn}{x y t:Tr}{a l1 l2:Addr}{r:Nat}{S:Sto}{Q:WK}{X:Str→Sto→Prop}
þ Bk2.g1W (K:Bk2 ws B):SidesW (zam 1) B:=⟨λt ht=>(K.b.lf t ht).fits,λt ht=>(K.b.lf t ht).dp,λt ht=>by
 have h1:=(K.b.lf t ht).wt;have h2:=(K.b.lf t ht).nb;show t.2.1.weight≤20;omega⟩
þ Bk2.fitF (K:Bk2 ws B) (hx:Wy ws B x) (hs:(L2.src B x).small=true):Fit B x:=by
 ø⟨d1,w1,a1,h1⟩:=K.fitw hx hs;§⟨d1,¥,a1,zry (λt ht=>Nat.le_trans (K.g1W.wt t ht) £) _ ¥,zry (λt ht=>Nat.le_trans (K.gW.wt t ht) £) _ ¥,h1⟩
þ Cel.ok_behind (h:Cel ws B x y) (gy:(gol B y).small=true) (ha:S a=some (.lst (B.map zba))) (hr:70≤r) (q:Q (enc (res B x y)) S):zdo (r+2) [.ref a,enc x,enc y] S Q X:=by
 have e1:∀z:Tr,z.mk B (zam 1)=src B z:=λz=>by rw[zBF]
 have sx:(src B x).small=true:=by rw[h.e];§h.sm
 ¤zkz (r:=r+1) (e1:=enc (x.mk B (zam 1))) (e2:=enc (gol B y)) (λ{Q E} q=>?_) (λ{Q E} q=>?_) (λ{Q E} q=>h.ok_move ha ¥ q) q
 ·¤zph ha h.K.g1W (h.K.fitF h.wx sx) (h.K.fitF h.wy h.sm) ¥ (λz=>?_) (λ_ _ z=>?_) λ_ _ _=>q
  ·rw[e1,e1,sx,h.sm]at z;rcases z with z |z<;>cases z
  ·rw[e1,e1]at z;§absurd h.e z
 ·§h.K.ok_goalX h.wy h.sm ha ¥ (λ_=>q) λz=>by rw[gy]at z;cases z
þ Bk2.ok_gr43 (K:Bk2 ws B) (hx:Wy ws B x) (hs:(L2.src B x).small=true) (ha:S a=some (.lst (B.map zba))) (hr:60≤r) (q:Q (.bl (!(L2.gol B x).small)) S):zaq (r+1) [.ref a,enc x] S Q X:=by
 ø⟨d1,w1,a1,_⟩:=K.fitw hx hs;¤zpH K.b.nd ha K.gW d1 a1 ¥ hr ?_;rw[show x.mk B (zam 2)=L2.gol B x by rw[zuo]]
 §q
ñ def PL (B:List Tn):Tr→List Tr→Prop
 |_,[]=>True
 |x,o::os=>(gol B x).small=true∧PL B (res B x o) os
þ zuA:∀(os:List Tr) {x:Tr},PL B x os→(gol B (zcW B x os)).small=true→(gol B x).small=true∧LOk B x os
 | [],x,_,h=>⟨h,trivial⟩
 |o::os,x,⟨p1,p2⟩,h=>⟨p1,zuA os p2 h⟩
þ znC:∀(os:List Tr) {x:Tr},(gol B x).small=true→LOk B x os→PL B x os∧(gol B (zcW B x os)).small=true
 | [],x,h,_=>⟨trivial,h⟩
 |o::os,x,h,⟨l1,l2⟩=>⟨⟨h,(znC os l1 l2).1⟩,(znC os l1 l2).2⟩
end
section
variable {ws:List Str}{B:List Tn}{a tn:Addr}{r:Nat}{E:WX}{D:WEnds}
þ zqN{S0:Sto}{G:Sto→Prop}(K:Bk2 ws B) (ha:S0 a=some (.lst (B.map zba))) (h0:S0 tn=none) (hG:∀S,Sub S0 S→G S) (hr:80≤r):∀(os:List Tr) {x t:Tr},Wy ws B x→src B x=t→Roa ws B t os→t.small=true→(∀o∈os,(gol B o).small=true)→ ∀(acc:List Tr) {S:Sto}{y1 y2 y3 y6:Option W},acc.length+os.length≤900→Sub S0 S→S tn=some (.lst (acc.map enc))→
  (PL B x os→ ∀S' y6,Sub S0 S'→S' tn=some (.lst ((acc++zea B x os).map enc))→D.nx [some (.ref a),y1,y2,y3,some (enc (zcW B x os)),some (.ref tn),y6] S')→(¬PL B x os→ ∀S',Sub S0 S'→D.rt (.bl false) S')→
  forL (wGN 6) (zeR r zaJ) E D G (os.map enc) [some (.ref a),y1,y2,y3,some (enc x),some (.ref tn),y6] S
 | [],x,t,hx,ex,hR,hs,hg=>λacc S y1 y2 y3 y6 hl sb hq h _=>by
  have:=h trivial S y6 sb (by rw[zea,List.append_nil];§hq);§this
 |o::os,x,t,hx,ex,⟨r1,r2,r3⟩,hs,hg=>by
  intro acc S y1 y2 y3 y6 hl sb hq h hE;have cl:Cel ws B x o:=⟨K,hx,r1,by rw[ex,r2],by rw[r2];§hs⟩
  have m:=K.moved hx r1 cl.e;have go:=hg o List.mem_cons_self;have fa:=sb _ _ ha;obtain⟨r',er⟩:∃r',r=r'+2:=⟨r - 2,¥⟩
  rw[List.map_cons];rw[List.length_cons]at hl;¤zbt λN hN=>?_;rw[ziq];have eb:zdo r=zdo (r'+2):=by rw[er]
  have eg:zaq r=zaq (r'+1+1):=by rw[er]
  ŝ[zeR];¶;rw[eg];¤K.ok_gr43 (r:=r'+1) hx (by rw[ex];§hs) fa ¥ ?_;cases e:(gol B x).small with
  |false=>
   try ¶
   §hE (λp=>by rw[p.1]at e;cases e) _ sb
  |true=>
   try ¶
   ¤K.ok_gr43 (r:=r'+1) r1 cl.sm fa ¥ ?_;rw[go]
   try ¶
   rw[zai hq];¤⟨trivial,?_⟩;rw[eb];¤cl.symm.ok_behind e fa ¥ ?_;rw[zai hq];¤⟨zbC (by rw[List.length_map];omega),?_⟩;have na:a≠tn:=zpJ ha h0;have sb2:Sub S0 (put S tn (Ob.lst (acc.map enc++[enc (res B o x)]))):= .put sb h0;have f2:put S tn (Ob.lst (acc.map enc++[enc (res B o x)])) tn=some (.lst ((acc++[res B o x]).map enc)):=by rw[zag,List.map_append];rfl
   generalize put S tn (Ob.lst (acc.map enc++[enc (res B o x)]))=S2 at sb2 f2⊢;¤cl.ok_behind go (sb2 _ _ ha) ¥ ?_;¤hN _ _ _ .refl (hG _ sb2) (zqN K ha h0 hG hr os m.wy m.sr r3 go (λu hu=>hg u (List.mem_cons_of_mem _ hu)) (acc++[res B o x]) (by rw[List.length_append,List.length_singleton];omega) sb2 f2 (λpl S' z6 s' hq'=>?_) λnp=>hE λp=>np p.2);¤h ⟨e,pl⟩ S' z6 s' ?_;rw[hq',zea,List.append_assoc];rfl
þ zrF{S0:Sto}{G:Sto→Prop}(K:Bk2 ws B) (ha:S0 a=some (.lst (B.map zba))) (hG:∀S,Sub S0 S→G S) (hr:80≤r):∀(xs:List Tr) {os:List Tr}{t:Tr},Roa ws B t xs→Roa ws B t os→t.small=true→(∀x∈xs,(gol B x).small=true)→(∀x∈os,(gol B x).small=true)→ ∀{S:Sto}{l:Addr}{y1 y2 y4 y5 y6:Option W},os.length≤800→Sub S0 S→S l=some (.lst (os.map enc))→
  (GOk B xs os→ ∀S' y3 y4 y5 y6,Sub S0 S'→D.nx [some (.ref a),y1,y2,y3,y4,y5,y6] S')→(¬GOk B xs os→ ∀S',Sub S0 S'→D.rt (.bl false) S')→
  forL (wGN 4) (zfa r zaJ) E D G (xs.map enc) [some (.ref a),y1,y2,some (.ref l),y4,y5,y6] S
 | [],os,t,u1,u2,u3,u4,u5=>by
  rename_i S l y1 y2 y4 y5 y6;intro hn sb hl h _;§h trivial S _ _ _ _ sb
 |x::xs,os,t,⟨x1,x2,x3⟩,hRo,hs,gx,go=>by
  rename_i S l y1 y2 y4 y5 y6;intro hn sb hl h hE;rw[List.map_cons];¤zbt λN hN=>?_;rw[ziq];ŝ[zfa];¶;¤⟨Nat.zero_le _,λtn htn=>?_⟩;have s1:Sub S (put S tn (Ob.lst [])):= .put .refl htn;rw[zai (s1 _ _ hl)];¤zqN (S0:=S) K (sb _ _ ha) htn ?_ hr os x1 x2 hRo hs go [] (by simp;omega) s1 zag (λpl S2 z6 s2 f2=>?_) λnp S2 s2=>?_
  ·§λS' s'=>s' _ _ hl
  ·have gx0:=gx x List.mem_cons_self;ø⟨q1,q2,q3,q4⟩:=zdN K os x1 x2 hRo;obtain⟨r',er⟩:∃r',r=r'+1:=⟨r - 1,¥⟩
   have eb:zaq r=zaq (r'+1):=by rw[er]
   try ¶
   rw[eb];¤K.ok_gr43 q2 (by rw[q3];§zeN os hs go) (s2 _ _ (sb _ _ ha)) ¥ ?_;cases e:(gol B (zcW B x os)).small with
   |false=>
    try ¶
    ¤hE (λg=>?_) _ (sb.trans s2);rw[(znC os gx0 g.1).2]at e;cases e
   |true=>
    have lk:=(zuA os pl e).2
    try ¶
    rw[List.nil_append]at f2;§hN _ _ _ .refl (hG _ (sb.trans s2)) (zrF K ha hG hr xs x3 q1 gx0 (λu hu=>gx u (List.mem_cons_of_mem _ hu)) (zfY K os x1 x2 hRo lk) (by rw[zjh];§hn) (sb.trans s2) f2 (λgk=>h ⟨lk,gk⟩) λng=>hE λg=>ng g.2)
  ·§hE (λg=>np (znC os (gx x List.mem_cons_self) g.1).1) _ (sb.trans s2)
þ zsO{S:Sto}{xs os:List Tr}{t:Tr}{l1 l2:Addr}{Q:WK}{X:Str→Sto→Prop}(K:Bk2 ws B) (ha:S a=some (.lst (B.map zba))) (h1:S l1=some (.lst (xs.map enc))) (h2:S l2=some (.lst (os.map enc))) (hx:Roa ws B t xs) (ho:Roa ws B t os) (hs:t.small=true) (gx:∀x∈xs,(gol B x).small=true) (go:∀x∈os,(gol B x).small=true) (hn:os.length≤800) (hr:80≤r)
  (h:GOk B xs os→ ∀S',Sub S S'→Q (.bl true) S') (hX:¬GOk B xs os→ ∀S',Sub S S'→Q (.bl false) S'):zej (r+1) [.ref a, .ref l1, .ref l2] S Q X:=by
 rw[zej];¶;rw[zai h2];intro l hl;have s1:Sub S (put S l (Ob.lst (os.map enc))):= .put .refl hl;rw[zai (s1 _ _ h1)];¤zrF K ha (λS' s'=>s' _ _ h1) hr xs hx ho hs gx go hn s1 zag (λgk S' y3 y4 y5 y6 s'=>?_) λng S' s'=>⟨_, .refl,hX ng _ s'⟩
 try ¶
 §⟨_, .refl,h gk _ s'⟩
þ zpI{S:Sto}{xs os:List Tr}{t:Tr}{l1 l2:Addr}{Q:WK}{X:Str→Sto→Prop}(K:Bk2 ws B) (ha:S a=some (.lst (B.map zba))) (h1:S l1=some (.lst (xs.map enc))) (h2:S l2=some (.lst (os.map enc))) (hx:Roa ws B t xs) (ho:Roa ws B t os) (hs:t.small=true) (nx:xs.length≤700) (no:os.length≤700) (hr:80≤r)
  (h:GGood B xs os→ ∀S',Sub S S'→Q (.bl ((zar B xs os).all Tr.quiet)) S') (hX:¬GGood B xs os→ ∀S',Sub S S'→Q .non S'):zcH (r+1) [.ref a, .tup [enc t, .ref l1], .tup [enc t, .ref l2]] S Q X:=by
 obtain⟨r,rfl⟩:∃r',r=r'+1:=⟨r - 1,¥⟩
 rw[zcH];¶;¤zoU K ha h1 h2 hx ho hs nx no ¥ (λz=>absurd rfl z) (λ_ ng S' s'=>?_) λ_ gg S' s'=>?_
 ·§⟨¢,_, .refl,hX ng _ s'⟩
 ·try ¶
  §⟨_, .refl,h gg _ s'⟩
end
section
variable {ws:List Str}{B:List Tn}{a m:Addr}{r:Nat}{E:WX}{D:WEnds}{T:WS}{t:Tr}{S:Sto}{y0 y1 y2 y3 y4 y5 y6 y7 y8 y9:Option W}{c:Int}
þ zxX (L:Lft B) (ha:S a=some (.lst (B.map zba))) (h:Sh ws B t) (hw:t.weight≤400) (hd:t.depth≤40) (hr:80≤r) (k:∀S' m,Sub S S'→S' m=some (.lst ((opl B t).map zcc))→T E D [some (.ref a),y1,y2,y3,y4,some (enc t),y6,some (.ref m),y8,y9] S') :
  zbj r T E D [some (.ref a),y1,y2,y3,y4,some (enc t),y6,y7,y8,y9] S:=by
 rw[zbj];¶;obtain⟨r,rfl⟩:∃r',r=r'+1:=⟨r - 1,¥⟩
 ¤zdz L ha ¥ ¥ ¥ h.hdT λq hq=>?_;show zcY (put S q (.lst ((t.op B []).map encX))) q _;rw[zai zag];have hol:=zkS B t [];¤zax (λσ=>∃y,σ=[y]) encX (λx=>zcc x.1) zag (t.op B []) [] _ ⟨none,rfl⟩ (by simp;omega) (λx hx σ R hI hR=>?_) ?_
 ·ø⟨y,rfl⟩:=hI;rw[zeq];unfold encX;¶;§hR _ _ ⟨_,rfl⟩ .refl
 ·intro m hm;¤k _ m ((Sub.put .refl hq).trans (.put .refl hm)) ?_;rw[zag,List.nil_append];unfold opl;rw[List.map_map];rfl
þ zAk{ps:List (List Int)}(hm:S m=some (.lst (ps.map zcc))) (hp:0<ps.length) (k:∀p1 p2 b,p1∈ps→p2∈ps→S b=none→T E D [y0,y1,y2,y3,y4,y5,some (.int c),some (.ref m),some (.ref b),y9] (put S b (.lst [zcc p1,zcc p2]))) :
  zbh r T E D [y0,y1,y2,y3,y4,y5,some (.int c),some (.ref m),y8,y9] S:=by
 rw[zbh];¶;rw[zai hm];have hne:ps.map zcc≠ []:=by
  intro z;rw[List.map_eq_nil_iff]at z;rw[z]at hp;§absurd hp £
 ø⟨j1,x1,e1,f1⟩:=zpX c hne;ø⟨j2,x2,e2,f2⟩:=zpX (c / 64) hne;ø⟨p1,m1,rfl⟩:=List.mem_map.mp (List.mem_of_getElem? e1);ø⟨p2,m2,rfl⟩:=List.mem_map.mp (List.mem_of_getElem? e2);have hl:(0:Int)<((ps.map zcc).length:Int):=by rw[List.length_map];omega
 ¤⟨hl,?_⟩;rw[zai hm,f1];¤⟨⟨£,£⟩,?_⟩
 rw[zai hm];¤⟨hl,?_⟩;rw[zai hm,f2];§⟨£,λb hb=>k p1 p2 b m1 m2 hb⟩
þ zzB{p1 p2:List Int}{b:Addr}(K:Bk2 ws B) (L:Lft B) (hP:PB B) (ha:S a=some (.lst (B.map zba))) (hb:S b=some (.lst [zcc p1,zcc p2])) (h:Sh ws B t) (hw:t.weight≤400) (hd:t.depth≤40) (m1:p1∈opl B t) (m2:p2∈opl B t) (hr:120≤r)
  (k:∀u S',Wy ws B u→src B u=t→Sub S S'→T E D [some (.ref a),y1,y2,y3,y4,some (enc t),some (.int c),y7,some (.ref b),some (enc u)] S') :
  zbc r T E D [some (.ref a),y1,y2,y3,y4,some (enc t),some (.int c),y7,some (.ref b),y9] S:=by
 rw[zbc];¶;¤⟨⟨£,£⟩,£,?_⟩
 rw[zai hb];have b0:=Int.emod_nonneg (c / 4096) (show(2:Int)≠0 by decide)
 have b1:=Int.emod_lt_of_pos (c / 4096) (show(0:Int)<2 by decide)
 have ex:∃wn:List (List Int),zeu [zcc p1,zcc p2] none (some (1+c / 4096 % 2))=wn.map zcc∧(∀q∈wn,q∈opl B t)∧wn.length≤2:=by
  rcases(show c / 4096 % 2=0∨c / 4096 % 2=1 by omega) with z |z
  ·rw[z];§⟨[p1],rfl,λq hq=>by rw[List.mem_singleton.mp hq];§m1,¢⟩
  ·rw[z];¤⟨[p1,p2],rfl,λq hq=>?_,¢⟩
   rcases List.mem_cons.mp hq with e |e
   ·rw[e];§m1
   ·rw[List.mem_singleton.mp e];§m2
 ø⟨wn,ew,hi,hl⟩:=ex;rw[ew];intro q hq;ø⟨u,wi,e,y,_⟩:=ztP K t.depth t [] (Nat.le_refl _) h (h.wn hi);obtain⟨r,rfl⟩:∃r',r=r'+1:=⟨r - 1,¥⟩
 §zuj (ks:=opl B t) L hP wi ¥ ¥ (keep ha hq) zag h.hdT ¥ ¥ ¥ rfl hi (k u _ y e (.put .refl hq))
end
section
variable {w0 w1 w2 w3 w4 w5:Str}{tt:List Str}{B:List Tn}{t:Tr}{a lw m:Addr}{r:Nat}{lim:Int}
þ zji{S0:Sto}{G:Sto→Prop}{E:WX}{D:WEnds}(c:CxB w0 w1 w2 w3 w4 w5 tt B) (ha:S0 a=some (.lst (B.map zba))) (h0:S0 lw=none) (hG:∀S,Sub S0 S→G S) (ht:Sh ω B t) (hs:t.small=true) (hr:120≤r):∀(cs:List Int) {xs:List Tr}{S:Sto}{y1 y2 y6 y7 y8 y9:Option W},Sub S0 S→S lw=some (.lst (xs.map enc))→Roa ω B t xs→(∀x∈xs,(gol B x).small=true)→xs.length+cs.length≤3→
  (∀S' zs y5 y6 y7 y8 y9,Sub S0 S'→S' lw=some (.lst (zs.map enc))→Roa ω B t zs→(∀x∈zs,(gol B x).small=true)→zs.length≤3→D.nx [some (.ref a),y1,y2,some (.int lim),some (.ref lw),y5,y6,y7,y8,y9] S')→
  forL (wGN 6) (zbI r zaJ) E D G (cs.map W.int) [some (.ref a),y1,y2,some (.int lim),some (.ref lw),some (enc (zeM B t xs)),y6,y7,y8,y9] S
 | [],xs,S,y1,y2,y6,y7,y8,y9,sb,hw,hx,h1,hl,h=>h S xs _ _ _ _ _ sb hw hx h1 (by simp at hl;omega)
 |k::cs,xs,S,y1,y2,y6,y7,y8,y9,sb,hw,hx,h1,hl,h=>by
  rw[List.length_cons]at hl;have he:=Roa.end_wy c.K xs hx ht.wy ht.q;have sh:Sh ω B (zeM B t xs):=⟨he.1,he.2⟩;have se:=zeN xs hs h1;ø⟨w1,w2⟩:=zey se;rw[List.map_cons];¤zbt λF hF=>?_;rw[ziq,zbI];¤zxX c.L (sb _ _ ha) sh w1 w2 ¥ λS1 m s1 hm=>?_;have sb1:=sb.trans s1;have hw1:=s1 _ _ hw;have skip:∀S2 y6 y7 y8 y9,Sub S1 S2→F [some (.ref a),y1,y2,some (.int lim),some (.ref lw),some (enc (zeM B t xs)),y6,y7,y8,y9] S2:=λS2 y6 y7 y8 y9 s2=>hF _ _ _ .refl (hG _ (sb1.trans s2)) (zji c ha h0 hG ht hs hr cs (sb1.trans s2) (s2 _ _ hw1) hx h1 ¥ h);rw[zbH];¶;rw[zai hm];split
  ·rename_i hp;rw[List.length_map]at hp;rw[zai hw1];split
   ·¤zAk hm ¥ λp1 p2 b m1 m2 hb=>?_;have s2:Sub S1 (put S1 b (Ob.lst [zcc p1,zcc p2])):= .put .refl hb;¤zzB c.K c.L c.P (s2 _ _ (sb1 _ _ ha)) zag sh w1 w2 m1 m2 hr λu S3 hu eu s3=>?_;have s13:=s2.trans s3;have f3:=s13 _ _ (sb1 _ _ ha);have su:(src B u).small=true:=by rw[eu];§se
    ø⟨d1,d2,d3,_⟩:=c.K.fitw hu su;obtain⟨r',er⟩:∃r',r=r'+1:=⟨r - 1,¥⟩
    have eg:zaq r=zaq (r'+1):=by rw[er]
    have em:zbP r=zbP (r'+1):=by rw[er]
    rw[zbJ];¶;rw[eg];¤c.K.ok_gr43 hu su f3 ¥ ?_;cases e:(gol B u).small with
    |false=>
     try ¶
     §skip _ _ _ _ _ s13
    |true=>
     try ¶
     rw[zbF];¶;have fw3:=s13 _ _ hw1;rw[zai fw3,zai fw3];¤⟨trivial,zbC (by rw[List.length_map];omega),?_⟩;have na:a≠lw:=zpJ ha h0;rw[zbG];¶;rw[em];¤zoF c.bk.nd (by rw[zaF na];§f3) (.inr rfl) c.g2 40 d1 ¥ d3 ¥ ?_;rw[show u.mk B (zam 2)=zeM B t (xs++[u]) by rw[zuo,zhj]]
     have s4:Sub S0 (put S3 lw (Ob.lst (xs.map enc++[enc u]))):= .put (sb1.trans s13) h0;¤hF _ _ _ .refl (hG _ s4) (zji c ha h0 hG ht hs hr cs s4 (by rw[zag,List.map_append];rfl) (Roa.snoc xs hx hu eu) (λv hv=>?_) (by rw[List.length_append];simp;omega) h);rcases List.mem_append.mp hv with z |z
     ·§h1 v z
     ·rw[List.mem_singleton.mp z];§e
   ·§skip _ _ _ _ _ .refl
  ·§skip _ _ _ _ _ .refl
þ zqF{S:Sto}{Q:WK}{E:Str→Sto→Prop}(c:CxB w0 w1 w2 w3 w4 w5 tt B) (ha:S a=some (.lst (B.map zba))) {ac:Addr}{cs:List Int}(hc:S ac=some (.lst (cs.map W.int))) (hcl:cs.length≤3) (ht:Sh ω B t) (hs:t.small=true) (hr:122≤r)
  (h:∀S' q zs,Sub S S'→S' q=some (.lst (zs.map enc))→Roa ω B t zs→(∀x∈zs,(gol B x).small=true)→zs.length≤3→Q (.tup [enc t, .ref q]) S'):zbV (r+1) [.ref a,enc t, .ref ac, .int lim] S Q E:=by
 rw[zbV,zgg];¤⟨rfl,?_⟩;rw[zca];¶;¤⟨Nat.zero_le _,λlw hlw=>?_⟩;rw[zbZ];¶;rw[zbW];¶;rw[zai (keep hc hlw)];have s0:Sub S (put S lw (Ob.lst [])):= .put .refl hlw;¤zji (S0:=S) (t:=t) (xs:=[]) c ha hlw (λS' sb=>sb _ _ hc) ht hs ¥ cs s0 zag trivial (λ_ hx=>nomatch hx) (by simpa using hcl) λS' zs y5 y6 y7 y8 y9 sb hz hR hg hn=>?_;rw[zbY];¶;§⟨zak £,_, .refl,h S' lw zs sb hz hR hg hn⟩
end
section
variable {w0 w1 w2 w3 w4 w5:Str}{tt:List Str}{B:List Tn}{S:Sto}{aw at' ab:Addr}
þ zBq{E:WX}{D:WEnds}{T:WS}{ns:List Int}{a4 a5 a6 a7 a8 a9 a10:Option W}(P:Pre S aw at' ab w0 w1 w2 w3 w4 w5 tt B) (h:∀S' ab B,Pre S' aw at' ab w0 w1 w2 w3 w4 w5 tt B→T E D [some (.scr ns),some (.ref aw),some (.ref at'),some (.ref ab),a4,a5,a6,a7,a8,a9,a10] S'):zdB 199 T E D [some (.scr ns),some (.ref aw),some (.ref at'),some (.ref ab),a4,a5,a6,a7,a8,a9,a10] S:=by
 rw[zdB];¶;¤zeV £ λc=>?_
 try ¶
 ¤⟨⟨£,£⟩,£,?_⟩
 split
 ·rw[zai P.fb];have hl:=P.b.len;¤zax (λσ=>∃x y z,σ=[x,y,z,some (.ref aw)]) zba (λt=>zba (onB w2 t)) P.fb B [] _ ⟨none,none,none,rfl⟩ (by simp;omega) (λt ht σ R hI hR=>?_) ?_
  ·ø⟨x,y,z,rfl⟩:=hI;rw[show zba t= .tup [.str t.1,enc t.2.1,enc t.2.2] from rfl];ŝ[zgL];¶;¤⟨Nat.zero_le _,λq hq=>?_⟩;rw[zai (keep P.fw hq),six2];dsimp only;have hri:=P.b.ri t ht;¤zrq (r:=198) (sn:=[]) t.2.2 (by have:=hri.dp;omega) zag (by have:=hri.wt;simp;omega) ⟨zak £,hR _ _ ⟨_,_,_,rfl⟩ ?_⟩;rw[zaX];§.put .refl hq
  ·intro ab' hb';¤h _ ab' (B.map (onB w2)) ⟨P.G,P.T,P.b.onc,keep P.fw hb',keep P.ft hb',?_,P.sl.onc⟩;rw[zag,List.nil_append,List.map_map];rfl
 ·§h _ _ _ P
end
section
variable {S:Sto}{aw at' ab l1:Addr}{w0 w1 w2 w3 w4 w5:Str}{tt:List Str}{B:List Tn}{t:Tr}{xs:List Tr}{E:WX}{D:WEnds}{T:WS}{ns:List Int}{a1 a2 a3 a4 a5 a6 a7 a8 a9 a10:Option W}
þ zBN (P:Pre S aw at' ab w0 w1 w2 w3 w4 w5 tt B) (h:∀t S',Pre S' aw at' ab w0 w1 w2 w3 w4 w5 tt B→Sh ω B t→Bd t 4→T E D [some (.scr ns),some (.ref aw),some (.ref at'),some (.ref ab),some (enc t),a5,a6,a7,a8,a9,a10] S'):zdE 199 T E D [some (.scr ns),some (.ref aw),some (.ref at'),some (.ref ab),a4,a5,a6,a7,a8,a9,a10] S:=by
 rw[zdE];¶;intro ac hc;§(P.sub (.put .refl hc)).ok_shape rfl zag λt S' sb sh bd=>h t S' (P.sub ((Sub.put .refl hc).trans sb)) sh bd
þ zBO (c:CxB w0 w1 w2 w3 w4 w5 tt B) (ha:S ab=some (.lst (B.map zba))) (ht:Sh ω B t) (hs:t.small=true) (h:∀S' q zs,Sub S S'→S' q=some (.lst (zs.map enc))→Roa ω B t zs→(∀x∈zs,(gol B x).small=true)→zs.length≤3→T E D [some (.scr ns),a1,a2,some (.ref ab),some (enc t),some (.tup [enc t, .ref q]),a6,a7,a8,a9,a10] S'):zdD 199 T E D [some (.scr ns),a1,a2,some (.ref ab),some (enc t),a5,a6,a7,a8,a9,a10] S:=by
 rw[zdD];¶;intro ac hc;¤zeV £ λc12=>?_
 try ¶
 ¤⟨⟨£,£⟩,£,?_⟩
 §zqF (r:=198) c (keep ha hc) zag (zCn ns 10) ht hs ¥ λS' q zs s f R g n=>h S' q zs ((Sub.put .refl hc).trans s) f R g n
þ zyX (c:CxB w0 w1 w2 w3 w4 w5 tt B) (ha:S ab=some (.lst (B.map zba))) (ht:Sh ω B t) (hs:t.small=true) (f1:S l1=some (.lst (xs.map enc))) (hx:Roa ω B t xs) (nx:xs.length≤3) {l k:Nat}{q:Addr}{v:W}(ho:Out ω B t l k false) (kl:k≤10) (fq:S q=some (.lst ((wys ω B t k).map enc))) (gg:GGood B xs (wys ω B t k)) (qd:(zar B xs (wys ω B t k)).all Tr.quiet=true) (g:∀S' x10,Sub S S'→D.nx [some (.scr ns),a1,a2,some (.ref ab),some (enc t),some (.tup [enc t, .ref l1]),a6,some (.tup [.tup [enc t, .ref q],v]),some (.bl true),a9,x10] S') :
  zbl 199 E D [some (.scr ns),a1,a2,some (.ref ab),some (enc t),some (.tup [enc t, .ref l1]),a6,some (.tup [.tup [enc t, .ref q],v]),some (.bl true),a9,a10] S:=by
 have ro:=zdS c k ht;have lk:=zlT (ws:=ω) (B:=B) (t:=t) k;rw[zbl];¶;rw[zdK];¶;¤ziz (r:=198) c.K ha f1 fq hx ro hs ¥ ¥ ¥ (λz=>absurd rfl z) (λ_ ng=>absurd gg ng) λ_ _ S1 q2 s1 _ f2=>?_;rw[zdO];¶;have e1:=zpC c hx ro qd;have rj:Roa ω B t (xs++zdH B xs (wys ω B t k)):=Roa.app xs hx (zsB c.K hx ro);have gj:∀x∈xs++zdH B xs (wys ω B t k),(gol B x).small=true:=λx hm=>by
  rcases List.mem_append.mp hm with z |z
  ·§gg.gx x z
  ·§ziU c.K xs _ hx ro gg.ok gg.go x z
 ¤zsp (r:=198) c.K (s1 _ _ ha) f2 (zhu _ rj hs gj) gj ¥ ?_;¤zsp (r:=198) c.K (s1 _ _ ha) (s1 _ _ fq) (zhu _ ro hs gg.go) gg.go ¥ ?_;have es:=zeN _ hs gg.go;have:=(zey es).2;rw[e1,zui 60 _ _ ¥,zhT]
 try ¶
 §g _ _ s1
þ zzu (c:CxB w0 w1 w2 w3 w4 w5 tt B) (ha:S ab=some (.lst (B.map zba))) (ht:Sh ω B t) (hs:t.small=true) {l:Nat}(l4:l≤4)
  (h1:∀k,Out ω B t l k false→ ∀S' q,Sub S S'→S' q=some (.lst ((wys ω B t k).map enc))→T E D [some (.scr ns),a1,a2,some (.ref ab),some (enc t),a5,some (.int l),some (.tup [.tup [enc t, .ref q], .bl ((hh ω B t k).op B []).isEmpty]),a8,a9,a10] S')
  (h2:∀S',Sub S S'→T E D [some (.scr ns),a1,a2,some (.ref ab),some (enc t),a5,some (.int l),some .non,a8,a9,a10] S'):zdj 199 T E D [some (.scr ns),a1,a2,some (.ref ab),some (enc t),a5,some (.int l),a7,a8,a9,a10] S:=by
 rw[zdj];¶;¤zoY (r:=198) (l:=l) c ha ht hs ¥ ¥ (λk ho S1 q s1 fq=>?_) λk ho S1 s1=>h2 _ s1;rw[zaB]at fq;§h1 k ho S1 q s1 fq
þ zxo (g:D.nx [some (.scr ns),a1,a2,a3,a4,a5,a6,some .non,a8,a9,a10] S):zbU 199 E D [some (.scr ns),a1,a2,a3,a4,a5,a6,some .non,a8,a9,a10] S:=by
 rw[zbU];¶;§g
þ zvQ{v w:W}(g:zbL 199 (zbN 199 (zbm 199 (zbl 199))) E D [some (.scr ns),a1,a2,a3,a4,a5,a6,some (.tup [v,w]),a8,a9,a10] S):zbU 199 E D [some (.scr ns),a1,a2,a3,a4,a5,a6,some (.tup [v,w]),a8,a9,a10] S:=by
 rw[zbU];generalize zbL 199 (zbN 199 (zbm 199 (zbl 199)))=U at g⊢;¶;§g
þ zAh (c:CxB w0 w1 w2 w3 w4 w5 tt B) (ha:S ab=some (.lst (B.map zba))) (hs:t.small=true) (f1:S l1=some (.lst (xs.map enc))) (hx:Roa ω B t xs) (gx:∀x∈xs,(gol B x).small=true) {q:Addr}{os:List Tr}{v:W}(fq:S q=some (.lst (os.map enc))) (ro:Roa ω B t os) (go:∀x∈os,(gol B x).small=true) (no:os.length≤10)
  (h1:GOk B xs os→ ∀S',Sub S S'→T E D [some (.scr ns),a1,a2,some (.ref ab),some (enc t),some (.tup [enc t, .ref l1]),a6,some (.tup [.tup [enc t, .ref q],v]),some (.bl true),a9,a10] S')
  (h2:¬GOk B xs os→ ∀S',Sub S S'→T E D [some (.scr ns),a1,a2,some (.ref ab),some (enc t),some (.tup [enc t, .ref l1]),a6,some (.tup [.tup [enc t, .ref q],v]),some (.bl false),a9,a10] S'):zbL 199 T E D [some (.scr ns),a1,a2,some (.ref ab),some (enc t),some (.tup [enc t, .ref l1]),a6,some (.tup [.tup [enc t, .ref q],v]),a8,a9,a10] S:=by
 rw[zbL];¶;rw[show atI [enc t,W.ref l1] 1=some (W.ref l1) from rfl];dsimp only
 try ¶
 rw[show atI [enc t,W.ref q] 1=some (W.ref q) from rfl];dsimp only
 try ¶
 §zsO (r:=198) c.K ha f1 fq hx ro hs gx go ¥ ¥ (λgk S2 s2=>h1 gk S2 s2) λng S2 s2=>h2 ng S2 s2
þ zuM (c:CxB w0 w1 w2 w3 w4 w5 tt B) (ha:S ab=some (.lst (B.map zba))) (hs:t.small=true) (f1:S l1=some (.lst (xs.map enc))) (hx:Roa ω B t xs) (nx:xs.length≤3) {q:Addr}{os:List Tr}{v:W}(fq:S q=some (.lst (os.map enc))) (ro:Roa ω B t os) (no:os.length≤10)
  (h1:GGood B xs os→ ∀S',Sub S S'→T E D [some (.scr ns),a1,a2,some (.ref ab),some (enc t),some (.tup [enc t, .ref l1]),a6,some (.tup [.tup [enc t, .ref q],v]),a8,some (.bl ((zar B xs os).all Tr.quiet)),a10] S')
  (h2:¬GGood B xs os→ ∀S',Sub S S'→T E D [some (.scr ns),a1,a2,some (.ref ab),some (enc t),some (.tup [enc t, .ref l1]),a6,some (.tup [.tup [enc t, .ref q],v]),a8,some .non,a10] S'):zbN 199 T E D [some (.scr ns),a1,a2,some (.ref ab),some (enc t),some (.tup [enc t, .ref l1]),a6,some (.tup [.tup [enc t, .ref q],v]),a8,a9,a10] S:=by
 rw[zbN];¶;§zpI (r:=198) c.K ha f1 fq hx ro hs ¥ ¥ ¥ (λgg S3 s3=>h1 gg S3 s3) λng S3 s3=>h2 ng S3 s3
þ zvK (g:T E D [some (.scr ns),a1,a2,a3,a4,a5,a6,a7,some (.bl true),some (.bl true),a10] S):zbm 199 T E D [some (.scr ns),a1,a2,a3,a4,a5,a6,a7,some (.bl true),some (.bl true),a10] S:=by
 rw[zbm];¶;§g
þ zvA (g:T E D [some (.scr ns),a1,a2,a3,a4,a5,a6,a7,some (.bl false),some .non,a10] S):zbm 199 T E D [some (.scr ns),a1,a2,a3,a4,a5,a6,a7,some (.bl false),some .non,a10] S:=by
 rw[zbm];¶;§g
þ zvr (g:D.nx [some (.scr ns),a1,a2,a3,a4,a5,a6,a7,some (.bl false),a9,a10] S):zbl 199 E D [some (.scr ns),a1,a2,a3,a4,a5,a6,a7,some (.bl false),a9,a10] S:=by
 rw[zbl];¶;§g
þ zoJ (c:CxB w0 w1 w2 w3 w4 w5 tt B) (ha:S ab=some (.lst (B.map zba))) (ht:Sh ω B t) (hs:t.small=true) (f1:S l1=some (.lst (xs.map enc))) (hx:Roa ω B t xs) (gx:∀x∈xs,(gol B x).small=true) (nx:xs.length≤3) {l:Nat}(hl:xs.length≤l) (l4:l≤4) (g:∀S' x7 x8 x9 x10,Sub S S'→D.nx [some (.scr ns),a1,a2,some (.ref ab),some (enc t),some (.tup [enc t, .ref l1]),some (.int l),x7,x8,x9,x10] S') :
  zdU 199 zaJ E D [some (.scr ns),a1,a2,some (.ref ab),some (enc t),some (.tup [enc t, .ref l1]),some (.int l),a7,a8,a9,a10] S:=by
 rw[zdU];¤zzu c ha ht hs l4 (λk ho S1 q s1 fq=>?_) λS1 s1=>zxo (g _ _ _ _ _ s1);have ro:=zdS c k ht;have lk:=zlT (ws:=ω) (B:=B) (t:=t) k;have kl:k≤10:=by
  rcases Nat.lt_or_ge l k with z |z
  ·§absurd (ho.1 l z).1 ¥
  ·omega
 have go:∀x∈wys ω B t k,(gol B x).small=true:=λx hm=>(zvO c ht hs ho.1 x hm).2.2.2;have qd:=zpt c ht hx ho hl;have fa:=s1 _ _ ha;have fx:=s1 _ _ f1;¤zvQ (zAh c fa hs fx hx gx fq ro go ¥ (λgk S2 s2=>?_) λng S2 s2=>?_)
 ·have gg:GGood B xs (wys ω B t k):=⟨gx,go,gk⟩;¤zuM c (s2 _ _ fa) hs (s2 _ _ fx) hx nx (s2 _ _ fq) ro ¥ (λ_ S3 s3=>?_) λng=>absurd gg ng;rw[qd];have s13:=s2.trans s3;§zvK (zyX c (s13 _ _ fa) ht hs (s13 _ _ fx) hx nx ho kl (s13 _ _ fq) gg qd λS4 x10 s4=>g _ _ _ _ _ ((s1.trans s13).trans s4))
 ·¤zuM c (s2 _ _ fa) hs (s2 _ _ fx) hx nx (s2 _ _ fq) ro ¥ (λgg=>absurd gg.ok ng) λ_ S3 s3=>?_;§zvA (zvr (g _ _ _ _ _ ((s1.trans s2).trans s3)))
þ zAB (c:CxB w0 w1 w2 w3 w4 w5 tt B) (ha:S ab=some (.lst (B.map zba))) (ht:Sh ω B t) (hs:t.small=true) (f1:S l1=some (.lst (xs.map enc))) (hx:Roa ω B t xs) (gx:∀x∈xs,(gol B x).small=true) (nx:xs.length≤3) (g:∀S' σ,T E D σ S') :
  zdw 199 T E D [some (.scr ns),a1,a2,some (.ref ab),some (enc t),some (.tup [enc t, .ref l1]),a6,a7,a8,a9,a10] S:=by
 rw[zdw];¶;rw[show atI [enc t,W.ref l1] 1=some (W.ref l1) from rfl];dsimp only;¶;rw[zai f1,zai f1,List.length_map];¤⟨zak £,zbt λN hN=>?_⟩;rw[ziq];¤zoJ (l:=xs.length) c ha ht hs f1 hx gx nx (Nat.le_refl _) ¥ λS1 x7 x8 x9 x10 s1=>hN _ _ _ .refl trivial (zbt λN2 hN2=>?_);rw[ziq,show((xs.length:Int)+1)=((xs.length+1:Nat):Int) by omega]
 ¤zoJ (l:=xs.length+1) c (s1 _ _ ha) ht hs (s1 _ _ f1) hx gx nx ¥ ¥ λS2 z7 z8 z9 z10 s2=>hN2 _ _ _ .refl trivial ?_;ŝ[forL];§g _ _
end
þ zzP (ns:List Int) (hl:ns.length≤63):zep 200 [.scr ns] (λ_=>none) (λw _=>w= .bl true) (λ_ _=>False):=by
 rw[show(200:Nat)=199+1 from rfl,zep,zgg];¤⟨rfl,?_⟩;unfold zez zeH zeA;¤zwq λS aw at' ab w0 w1 w2 w3 w4 w5 tt B P=>zBq P λS1 ab B P=>zBN P λt S2 P sh bd=>?_;have c:CxB w0 w1 w2 w3 w4 w5 tt B:=⟨P.b,P.T,P.G,P.sl⟩;have hs:t.small=true:=zni bd.small.1 bd.small.2;¤zBO c P.fb sh hs λS3 q zs s3 f5 hR hg hn=>zAB c (s3 _ _ P.fb) sh hs f5 hR hg hn λS4 σ=>?_;rw[zet];¶
 first |§⟨_, .refl,rfl⟩ |§⟨_, .refl⟩
end L2
end
end
section
namespace K44
open PySem L2 PyProof.Rows
ñ def top (i:Nat):Stmt:=PySem.Challenge.pw_turnweave_k44_whole_roads_within_rounds.main.body.getD i (.Pass ⟨0,0,0,0⟩)
structure Cal (P:Program) (w:World) (K:Ƒ) (mg:Str→Option Value) (base:Heap) (nm:Str) (ps:List Str) (c:Nat→WSp) where
  zf:Addr
  zd:FuncData
  zg:∀r,FnOk P w K mg base (CX1 P w) r zf zd ps (zdn K (c r))
  zb:Binds K zd ps []
  zk:PySem.W.keepIn K (.ref zf)=true
  zm:mg nm=some (.ref zf)
ñ def mkC {P:Program}{w:World}{K:Ƒ}{h:Heap}{mg:Str→Option Value}{base:Heap}{nm:Str}{st:Stmt}{ps:List Str}{c:Nat→WSp}{f:Addr}{d:FuncData}(X:K.In h) (G:h.Ns mainGlobals mg) (F:Fun K nm nm st f d) (a:PySem.W.nsIn K mainGlobals nm=some (some (.ref f))) (g:∀r,FnOk P w K mg base (CX1 P w) r f d ps (zdn K (c r))) (b:Binds K d ps []):Cal P w K mg base nm ps c:=⟨f,d,g,b,F.kp,PySem.W.mg_of X G a⟩
ñ def Dfn (K:Ƒ) (nm:Str) (st:Stmt):Prop:=∃f d,PySem.W.nsIn K mainGlobals nm=some (some (.ref f))∧Fun K nm nm st f d
þ dfn{K:Ƒ}{x:Str}{st:Stmt}{f:Addr}{oc:Value}{od an:Option Addr}{osl:Array (Option Value)}{kV doc pm cdv ct:Value}(a:PySem.W.nsIn K mainGlobals x=some (some (.ref f))) (l:K.lookup f=some ⟨oc,od, .func (PySem.W.fnOf x x (zio st) (zgI st) (zaj st) .none kV doc pm an cdv ct),osl⟩) (c:PySem.W.codeIn K cdv x=true) (k:PySem.W.keepIn K (.ref f)=true):Dfn K x st:=⟨f,_,a,zzr l c k⟩
þ nC{p:List Value→Prop}{k:Nat}(h:∀a us,us.length=k→p (a::us)):∀us,us.length=k+1→p us:=λus e=>by
 cases us with
 |nil=>cases e
 |cons a us=>§h a us (Nat.succ.inj e)
þ n0{p:List Value→Prop}(h:p []):∀us,us.length=0→p us:=λus e=>by
 cases us with
 |nil=>§h
 |cons a us=>cases e
þ n1{p:List Value→Prop}(h:∀a,p [a]):∀us,us.length=1→p us:=nC λa=>n0 (p:=λus=>p (a::us)) (h a)
þ n2{p:List Value→Prop}(h:∀a b,p [a,b]):∀us,us.length=2→p us:=nC λa=>n1 (p:=λus=>p (a::us)) (h a)
þ n3{p:List Value→Prop}(h:∀a b c,p [a,b,c]):∀us,us.length=3→p us:=nC λa=>n2 (p:=λus=>p (a::us)) (h a)
þ n4{p:List Value→Prop}(h:∀a b c d,p [a,b,c,d]):∀us,us.length=4→p us:=nC λa=>n3 (p:=λus=>p (a::us)) (h a)
þ n5{p:List Value→Prop}(h:∀a b c d e,p [a,b,c,d,e]):∀us,us.length=5→p us:=nC λa=>n4 (p:=λus=>p (a::us)) (h a)
þ n6{p:List Value→Prop}(h:∀a b c d e f,p [a,b,c,d,e,f]):∀us,us.length=6→p us:=nC λa=>n5 (p:=λus=>p (a::us)) (h a)
local macro_rules | `(tactic| walk_at "sc") => `(tactic| (refine ⟨rfl, rfl, rfl, ?_, rfl, ?_, ?_⟩ <;> decide +kernel))
ñ abbrev Ok (P:Program) (w:World) (K:Ƒ) (mg:Str→Option Value) (base:Heap) (f:Addr) (d:FuncData) (ps:List Str) (c:Nat→WSp):Prop:=∀r,FnOk P w K mg base (CX1 P w) r f d ps (zdn K (c r))
þ zcr{P:Program}{w:World}{K:Ƒ}{mg:Str→Option Value}{base:Heap}{f:Addr}{d:FuncData}{ps:List Str}{c:Nat→WSp}(h0:c 0=zaJ) (h:∀r,FnOk P w K mg base (CX1 P w) r f d ps (zdn K (c r))→FnOk P w K mg base (CX1 P w) (r+1) f d ps (zdn K (c (r+1)))):Ok P w K mg base f d ps c:=λr=>by
 induction r with
 |zero=>rw[h0];§zzO
 |succ r ih=>§h r ih
structure Ncl (mg:Str→Option Value) (x:Str) where
  xC:Addr
  xm:mg x=some (.ref xC)
þ zqu:bootBuiltins "ValueError" =some (.type "ValueError"):=by first |rfl |decide +kernel | (unfold bootBuiltins;decide +kernel)
ñ abbrev s0:Stmt:=top 9
þ sc0:FnScope ["t"] ["t"] (zaj s0):=by walk_at "sc"
ñ abbrev s1:Stmt:=top 10
þ sc1:FnScope ["things", "found", "thing"] ["things"] (zaj s1):=by walk_at "sc"
ñ abbrev s2:Stmt:=top 11
þ sc2:FnScope ["t", "heavy", "deep", "level"] ["t"] (zaj s2):=by walk_at "sc"
ñ abbrev s3:Stmt:=top 13
þ sc3:FnScope ["t", "place", "found", "number", "inner"] ["t", "place", "found"] (zaj s3):=by walk_at "sc"
ñ abbrev s4:Stmt:=top 12
þ sc4:FnScope ["t", "found"] ["t"] (zaj s4):=by walk_at "sc"
ñ abbrev s5:Stmt:=top 15
þ sc5:FnScope ["t", "number", "parts"] ["t", "number"] (zaj s5):=by walk_at "sc"
ñ abbrev s6:Stmt:=top 14
þ sc6:FnScope ["t", "place", "thing", "number"] ["t", "place"] (zaj s6):=by walk_at "sc"
ñ abbrev s7:Stmt:=top 17
þ sc7:FnScope ["side"] ["side"] (zaj s7):=by walk_at "sc"
ñ abbrev s8:Stmt:=top 18
þ sc8:FnScope ["side", "things"] ["side", "things"] (zaj s8):=by walk_at "sc"
ñ abbrev s9:Stmt:=top 21
þ sc9:FnScope ["one", "other"] ["one", "other"] (zaj s9):=by walk_at "sc"
ñ abbrev s10:Stmt:=top 20
þ sc10:FnScope ["left", "t", "things", "inner", "thing"] ["left", "t", "things"] (zaj s10):=by walk_at "sc"
ñ abbrev s11:Stmt:=top 19
þ sc11:FnScope ["left", "t", "things"] ["left", "t"] (zaj s11):=by walk_at "sc"
ñ abbrev s12:Stmt:=top 25
þ zCx:FnScope ["text"] ["text"] (zaj s12):=by walk_at "sc"
ñ abbrev s13:Stmt:=top 24
þ zDp:FnScope ["text"] ["text"] (zaj s13):=by walk_at "sc"
ñ abbrev s14:Stmt:=top 29
þ sc14:FnScope ["book", "title", "turning"] ["book", "title"] (zaj s14):=by walk_at "sc"
ñ abbrev s15:Stmt:=top 31
þ zDa:FnScope ["way"] ["way"] (zaj s15):=by walk_at "sc"
ñ abbrev s16:Stmt:=top 34
þ zCO:FnScope ["shape"] ["shape"] (zaj s16):=by walk_at "sc"
ñ abbrev s17:Stmt:=top 35
þ sc17:FnScope ["book", "way", "side", "parts", "turning"] ["book", "way", "side"] (zaj s17):=by walk_at "sc"
ñ abbrev s18:Stmt:=top 32
þ zCZ:FnScope ["book", "way"] ["book", "way"] (zaj s18):=by walk_at "sc"
ñ abbrev s19:Stmt:=top 33
þ zCg:FnScope ["book", "way"] ["book", "way"] (zaj s19):=by walk_at "sc"
ñ abbrev s20:Stmt:=top 36
þ sc20:FnScope ["book", "way", "turning"] ["book", "way"] (zaj s20):=by walk_at "sc"
ñ abbrev s21:Stmt:=top 40
þ sc21:FnScope ["book", "shape", "turning"] ["book", "shape"] (zaj s21):=by walk_at "sc"
ñ abbrev s22:Stmt:=top 39
þ sc22:FnScope ["book", "shape", "place", "found", "turning", "number", "inner"] ["book", "shape", "place", "found"] (zaj s22):=by walk_at "sc"
ñ abbrev s23:Stmt:=top 38
þ sc23:FnScope ["book", "shape", "found"] ["book", "shape"] (zaj s23):=by walk_at "sc"
ñ abbrev s24:Stmt:=top 41
þ zDe:FnScope ["pairs"] ["pairs"] (zaj s24):=by walk_at "sc"
ñ abbrev s25:Stmt:=top 46
þ sc25:FnScope ["book", "shape", "turning"] ["book", "shape"] (zaj s25):=by walk_at "sc"
ñ abbrev s26:Stmt:=top 45
þ sc26:FnScope ["book", "shape", "place", "wanted", "top", "parts", "spot", "inner"] ["book", "shape", "place", "wanted"] (zaj s26):=by walk_at "sc"
ñ abbrev s27:Stmt:=top 44
þ zCC:FnScope ["book", "shape", "places"] ["book", "shape", "places"] (zaj s27):=by walk_at "sc"
ñ abbrev s28:Stmt:=top 42
þ sc28:FnScope ["book", "shape", "places", "known", "place"] ["book", "shape", "places"] (zaj s28):=by walk_at "sc"
ñ abbrev s29:Stmt:=top 43
þ zDm:FnScope ["book", "shape"] ["book", "shape"] (zaj s29):=by walk_at "sc"
ñ abbrev s30:Stmt:=top 48
þ sc30:FnScope ["book", "shape", "limit", "ways", "here", "way"] ["book", "shape", "limit"] (zaj s30):=by walk_at "sc"
ñ abbrev s31:Stmt:=top 51
þ sc31:FnScope ["book", "way", "other", "shape"] ["book", "way", "other"] (zaj s31):=by walk_at "sc"
ñ abbrev s32:Stmt:=top 52
þ sc32:FnScope ["book", "way", "other", "first", "second", "mine", "yours", "parts"] ["book", "way", "other"] (zaj s32):=by walk_at "sc"
ñ abbrev s33:Stmt:=top 50
þ zCY:FnScope ["book", "way", "other"] ["book", "way", "other"] (zaj s33):=by walk_at "sc"
ñ abbrev s34:Stmt:=top 54
þ zCB:FnScope ["book", "road"] ["book", "road"] (zaj s34):=by walk_at "sc"
ñ abbrev s35:Stmt:=top 57
þ sc35:FnScope ["book", "ways", "way"] ["book", "ways"] (zaj s35):=by walk_at "sc"
ñ abbrev s36:Stmt:=top 56
þ sc36:FnScope ["book", "way", "ways", "line", "over", "way_on"] ["book", "way", "ways"] (zaj s36):=by walk_at "sc"
ñ abbrev s37:Stmt:=top 55
þ sc37:FnScope ["book", "road", "other", "downs", "row", "overs", "way", "line"] ["book", "road", "other"] (zaj s37):=by walk_at "sc"
ñ abbrev s38:Stmt:=top 58
þ sc38:FnScope ["book", "road", "other", "overs"] ["book", "road", "other"] (zaj s38):=by walk_at "sc"
ñ abbrev s39:Stmt:=top 61
þ zDn:FnScope ["ways"] ["ways"] (zaj s39):=by walk_at "sc"
ñ abbrev s40:Stmt:=top 60
þ zDd:FnScope ["downs_and_overs"] ["downs_and_overs"] (zaj s40):=by walk_at "sc"
ñ abbrev s41:Stmt:=top 59
þ zDo:FnScope ["book", "road", "other"] ["book", "road", "other"] (zaj s41):=by walk_at "sc"
ñ abbrev s42:Stmt:=top 63
þ zDb:FnScope ["script", "k"] ["script", "k"] (zaj s42):=by walk_at "sc"
ñ abbrev s43:Stmt:=top 64
þ sc43:FnScope ["one", "two", "great", "signs", "rest", "base", "k", "at", "words", "word"] ["one", "two", "great"] (zaj s43):=by walk_at "sc"
ñ abbrev s44:Stmt:=top 65
þ zDi:FnScope ["side"] ["side"] (zaj s44):=by walk_at "sc"
ñ abbrev s45:Stmt:=top 66
þ zDh:FnScope ["side", "things"] ["side", "things"] (zaj s45):=by walk_at "sc"
ñ abbrev s46:Stmt:=top 67
þ zCv:FnScope ["draw", "many", "w"] ["draw", "many", "w"] (zaj s46):=by walk_at "sc"
ñ abbrev s47:Stmt:=top 68
þ sc47:FnScope ["draw", "many", "w", "one", "other", "way"] ["draw", "many", "w"] (zaj s47):=by walk_at "sc"
ñ abbrev s48:Stmt:=top 69
þ zCz:FnScope ["way", "head", "c", "d"] ["way", "head", "c", "d"] (zaj s48):=by walk_at "sc"
ñ abbrev s49:Stmt:=top 70
þ sc49:FnScope ["script", "k", "w", "titles", "book", "j", "lefts", "n", "left", "right"] ["script", "k", "w", "titles"] (zaj s49):=by walk_at "sc"
ñ abbrev s50:Stmt:=top 71
þ sc50:FnScope ["cells", "book", "w", "room", "stack", "spent", "cell", "way", "need", "node", "k", "at"] ["cells", "book", "w", "room"] (zaj s50):=by walk_at "sc"
ñ abbrev s51:Stmt:=top 72
þ sc51:FnScope ["plan", "book", "by", "k", "bits", "head", "parts", "ways"] ["plan", "book", "by"] (zaj s51):=by walk_at "sc"
ñ abbrev s52:Stmt:=top 73
þ sc52:FnScope ["book", "way", "which", "parts", "turning"] ["book", "way", "which"] (zaj s52):=by walk_at "sc"
ñ abbrev s53:Stmt:=top 75
þ sc53:FnScope ["side", "sizes", "inner"] ["side", "sizes"] (zaj s53):=by walk_at "sc"
ñ abbrev s54:Stmt:=top 74
þ sc54:FnScope ["book", "way", "sizes", "turning"] ["book", "way"] (zaj s54):=by walk_at "sc"
ñ abbrev s55:Stmt:=top 76
þ sc55:FnScope ["book", "way", "size"] ["book", "way"] (zaj s55):=by walk_at "sc"
ñ abbrev s56:Stmt:=top 77
þ zCP:FnScope ["side", "seen", "c"] ["side", "seen", "c"] (zaj s56):=by walk_at "sc"
ñ abbrev s57:Stmt:=top 78
þ sc57:FnScope ["book", "shape", "cells", "limit", "ways", "here", "cell", "some", "both", "way"] ["book", "shape", "cells", "limit"] (zaj s57):=by walk_at "sc"
ñ abbrev s58:Stmt:=top 79
þ sc58:FnScope ["book", "one", "other", "overs", "way", "turned", "over"] ["book", "one", "other"] (zaj s58):=by walk_at "sc"
ñ abbrev s59:Stmt:=top 80
þ sc59:FnScope ["book", "shape", "limit", "found"] ["book", "shape", "limit"] (zaj s59):=by walk_at "sc"
ñ abbrev s60:Stmt:=top 81
þ sc60:FnScope ["book", "road", "other", "found"] ["book", "road", "other"] (zaj s60):=by walk_at "sc"
ñ abbrev s61:Stmt:=top 82
þ sc61:FnScope ["script", "w", "titles", "book", "shape", "road", "many", "found", "fits", "told", "every"] ["script"] (zaj s61):=by walk_at "sc"
section
variable (P:Program) (w:World) (K:Ƒ) (mg:Str→Option Value) (base:Heap)
ñ abbrev C0:=Cal P w K mg base "parts_of" ["t"] zcR
ñ abbrev C1:=Cal P w K mg base "parts_of_all" ["things"] zbn
ñ abbrev C2:=Cal P w K mg base "is_small" ["t"] zcN
ñ abbrev C3:=Cal P w K mg base "gather_places" ["t", "place", "found"] zaR
ñ abbrev C4:=Cal P w K mg base "places" ["t"] zga
ñ abbrev C5:=Cal P w K mg base "numbered_part" ["t", "number"] zbM
ñ abbrev C6:=Cal P w K mg base "part" ["t", "place"] zkE
ñ abbrev C7:=Cal P w K mg base "blank_places" ["side"] zcf
ñ abbrev C8:=Cal P w K mg base "filled" ["side", "things"] zdp
ñ abbrev C9:=Cal P w K mg base "have_one_top" ["one", "other"] zch
ñ abbrev C10:=Cal P w K mg base "gather_matched" ["left", "t", "things"] zaC
ñ abbrev C11:=Cal P w K mg base "matched" ["left", "t"] zci
ñ abbrev C12:=Cal P w K mg base "are_small_letters" ["text"] zbb
ñ abbrev C13:=Cal P w K mg base "is_sign" ["text"] zfb
ñ abbrev C14:=Cal P w K mg base "turning_of" ["book", "title"] zaY
ñ abbrev C15:=Cal P w K mg base "is_quiet" ["way"] zdq
ñ abbrev C16:=Cal P w K mg base "only_small" ["shape"] zbe
ñ abbrev C17:=Cal P w K mg base "with_sides" ["book", "way", "side"] zbT
ñ abbrev C18:=Cal P w K mg base "source" ["book", "way"] zff
ñ abbrev C19:=Cal P w K mg base "goal" ["book", "way"] zfv
ñ abbrev C20:=Cal P w K mg base "part_places" ["book", "way"] zbX
ñ abbrev C21:=Cal P w K mg base "open_turning" ["book", "shape"] zbB
ñ abbrev C22:=Cal P w K mg base "gather_open" ["book", "shape", "place", "found"] zbx
ñ abbrev C23:=Cal P w K mg base "open_uses" ["book", "shape"] zbo
ñ abbrev C24:=Cal P w K mg base "places_of" ["pairs"] zcZ
ñ abbrev C25:=Cal P w K mg base "turned_top" ["book", "shape"] zdg
ñ abbrev C26:=Cal P w K mg base "way_within" ["book", "shape", "place", "wanted"] zaZ
ñ abbrev C27:=Cal P w K mg base "way_with" ["book", "shape", "places"] zdr
ñ abbrev C28:=Cal P w K mg base "way_of" ["book", "shape", "places"] zgi
ñ abbrev C29:=Cal P w K mg base "full_way" ["book", "shape"] zel
ñ abbrev C30:=Cal P w K mg base "rounds" ["book", "shape", "limit"] zgd
ñ abbrev C31:=Cal P w K mg base "one_source" ["book", "way", "other"] zcv
ñ abbrev C32:=Cal P w K mg base "moved" ["book", "way", "other"] zcO
ñ abbrev C33:=Cal P w K mg base "behind" ["book", "way", "other"] zdo
ñ abbrev C34:=Cal P w K mg base "end" ["book", "road"] zpp
ñ abbrev C35:=Cal P w K mg base "check_goals" ["book", "ways"] zaW
ñ abbrev C36:=Cal P w K mg base "moved_along" ["book", "way", "ways"] zbv
ñ abbrev C37:=Cal P w K mg base "grid" ["book", "road", "other"] ziY
ñ abbrev C38:=Cal P w K mg base "road_joined" ["book", "road", "other"] zcG
ñ abbrev C39:=Cal P w K mg base "are_quiet" ["ways"] zdC
ñ abbrev C40:=Cal P w K mg base "last_downs" ["downs_and_overs"] zdi
ñ abbrev C41:=Cal P w K mg base "within" ["book", "road", "other"] zge
ñ abbrev C42:=Cal P w K mg base "_law_cell" ["script", "k"] zaA
ñ abbrev C43:=Cal P w K mg base "_law_words" ["one", "two", "great"] zbs
ñ abbrev C44:=Cal P w K mg base "_law_count" ["side"] zaD
ñ abbrev C45:=Cal P w K mg base "_law_filled" ["side", "things"] zbg
ñ abbrev C46:=Cal P w K mg base "_law_item" ["draw", "many", "w"] zcU
ñ abbrev C47:=Cal P w K mg base "_law_right" ["draw", "many", "w"] zdh
ñ abbrev C48:=Cal P w K mg base "_law_lefts" ["way", "head", "c", "d"] zdd
ñ abbrev C49:=Cal P w K mg base "_law_book" ["script", "k", "w", "titles"] zcT
ñ abbrev C50:=Cal P w K mg base "_law_plan" ["cells", "book", "w", "room"] zda
ñ abbrev C51:=Cal P w K mg base "_law_way" ["plan", "book", "by"] zcQ
ñ abbrev C52:=Cal P w K mg base "_law_made" ["book", "way", "which"] zbP
ñ abbrev C53:=Cal P w K mg base "_law_side_size" ["side", "sizes"] zaT
ñ abbrev C54:=Cal P w K mg base "_law_size" ["book", "way"] zbq
ñ abbrev C55:=Cal P w K mg base "_law_great" ["book", "way"] zaq
ñ abbrev C56:=Cal P w K mg base "_law_once" ["side", "seen", "c"] zbS
ñ abbrev C57:=Cal P w K mg base "_law_road" ["book", "shape", "cells", "limit"] zbV
ñ abbrev C58:=Cal P w K mg base "_law_fit" ["book", "one", "other"] zej
ñ abbrev C59:=Cal P w K mg base "_law_rounds" ["book", "shape", "limit"] zcI
ñ abbrev C60:=Cal P w K mg base "_law_within" ["book", "road", "other"] zcH
end
section
variable {P:Program}{w:World}{K:Ƒ}{mg:Str→Option Value}{base:Heap}
þ o0{f:Addr}{d:FuncData}(F:Fun K "parts_of" "parts_of" s0 f d) (n_i:mg "isinstance" =none) (n_n:mg "int" =none):Ok P w K mg base f d ["t"] zcR:=zcr rfl λr ih=>zaG F sc0 rfl rfl λ_ _ _ _ _ _ hr=>(zad (zaM (zbE (zgV rfl n_i rfl n_n PyProof.Rows.boot_int (jv 0) £ £ (zuz _ ¢))) (zah (zal (zav zac))) zaw)
  (zah (zal (zdk (jv 0) (zaH zae) zaI))))
þ o1{f:Addr}{d:FuncData}(F:Fun K "parts_of_all" "parts_of_all" s1 f d) (x0:C0 P w K mg base):Ok P w K mg base f d ["things"] zbn:=zcr rfl λr ih=>zaG F sc1 rfl rfl λ_ _ _ _ _ _ hr=>(zad (zao (i:=1) sc1.nd rfl (Or.inl rfl) (zaL (zaK zac)))
  (zad (zbR (zaN (jv 0)) (zap (i:=2) sc1.nd rfl (Or.inl rfl)) (zah (zaQ (zrC (jv 1) (zaa (zaf (x0.zg r) hr rfl x0.zm x0.zk x0.zb (zaa (jv 2) zac)) zac)))))
  (zah (zal (jv 1)))))
þ o2{f:Addr}{d:FuncData}(F:Fun K "is_small" "is_small" s2 f d) (x1:C1 P w K mg base) (n_l:mg "len" =none) {t_MOST_HEAVY:Tok}(g_MOST_HEAVY:mg "MOST_HEAVY" =some (.int 400 t_MOST_HEAVY)) {t_MOST_DEEP:Tok}(g_MOST_DEEP:mg "MOST_DEEP" =some (.int 40 t_MOST_DEEP)):Ok P w K mg base f d ["t"] zcN:=zcr rfl λr ih=>zaG F sc2 rfl rfl λ_ _ _ _ _ _ hr=>(zad (zao (i:=1) sc2.nd rfl (Or.inl rfl) zae)
  (zad (zao (i:=2) sc2.nd rfl (Or.inl rfl) zae)
  (zad (zao (i:=3) sc2.nd rfl (Or.inl rfl) (zaL (zaK (zaa (jv 0) zac))))
  (zad (zjp (zbE (jv 3)) (zad (zuX (i:=1) sc2.nd rfl (Or.inl rfl) (zcg rfl n_l (zaa (jv 3) zac)))
  (zad (zuX (i:=2) sc2.nd rfl (Or.inl rfl) zae)
  (zad (zaM (JW.jt (zqc (zlM (jv 1) (zdF rfl g_MOST_HEAVY)) (zly (zlM (jv 2) (zdF rfl g_MOST_DEEP))))) (zah (zal zfq)) zaw)
  (zah (zao (i:=3) sc2.nd rfl (Or.inl rfl) (zaf (x1.zg r) hr rfl x1.zm x1.zk x1.zb (zaa (jv 3) zac))))))))
  (zah (zal zfq))))))
þ o3{f:Addr}{d:FuncData}(F:Fun K "gather_places" "gather_places" s3 f d) (x0:C0 P w K mg base) (b:Binds K d ["t", "place", "found"] []) (m:mg "gather_places" =some (.ref f)) (n_e:mg "enumerate" =none):Ok P w K mg base f d ["t", "place", "found"] zaR:=zcr rfl λr ih=>zaG F sc3 rfl rfl λ_ _ _ _ _ _ hr=>(zad (zaQ (zbf (jv 2) (zaa (jv 1) zac)))
  (zah (zbR (zmv rfl n_e (zaf (x0.zg r) hr rfl x0.zm x0.zk x0.zb (zaa (jv 0) zac))) (zfR (zaP (zap (i:=3) sc3.nd rfl (Or.inl rfl)) (zaP (zap (i:=4) sc3.nd rfl (Or.inl rfl)) zew)) (glS (glS gl0))) (zah (zaQ (zaf ih hr rfl m F.kp b (zaa (jv 4) (zaa (zbk (jv 1) (zav (zaa (jv 3) zac))) (zaa (jv 2) zac)))))))))
þ o4{f:Addr}{d:FuncData}(F:Fun K "places" "places" s4 f d) (x3:C3 P w K mg base):Ok P w K mg base f d ["t"] zga:=zcr rfl λr ih=>zaG F sc4 rfl rfl λ_ _ _ _ _ _ hr=>(zad (zao (i:=1) sc4.nd rfl (Or.inl rfl) (zaL (zaK zac)))
  (zad (zaQ (zaf (x3.zg r) hr rfl x3.zm x3.zk x3.zb (zaa (jv 0) (zaa (zav zac) (zaa (jv 1) zac)))))
  (zah (zal (jv 1)))))
þ o5{f:Addr}{d:FuncData}(F:Fun K "numbered_part" "numbered_part" s5 f d) (x0:C0 P w K mg base) (n_l:mg "len" =none) (y_NoPlace:Ncl mg "NoPlace") (v_NoPlace:XcIn K "NoPlace" y_NoPlace.xC):Ok P w K mg base f d ["t", "number"] zbM:=zcr rfl λr ih=>zaG F sc5 rfl rfl λ_ _ _ _ _ _ hr=>(zad (zao (i:=2) sc5.nd rfl (Or.inl rfl) (zaf (x0.zg r) hr rfl x0.zm x0.zk x0.zb (zaa (jv 0) zac)))
  (zad (zaM (JW.jt (zqc (zpe (jv 1) zae) (zly (zAD (jv 1) (zcg rfl n_l (zaa (jv 2) zac)))))) (zah (zgk v_NoPlace rfl y_NoPlace.xm (zaa zfA zac))) zaw)
  (zah (zal (zas (jv 2) (jv 1))))))
þ o6{f:Addr}{d:FuncData}(F:Fun K "part" "part" s6 f d) (x5:C5 P w K mg base):Ok P w K mg base f d ["t", "place"] zkE:=zcr rfl λr ih=>zaG F sc6 rfl rfl λ_ _ _ _ _ _ hr=>(zad (zao (i:=2) sc6.nd rfl (Or.inl rfl) (jv 0))
  (zad (zbR (zaN (jv 1)) (zap (i:=3) sc6.nd rfl (Or.inl rfl)) (zah (zao (i:=2) sc6.nd rfl (Or.inl rfl) (zaf (x5.zg r) hr rfl x5.zm x5.zk x5.zb (zaa (jv 2) (zaa (jv 3) zac))))))
  (zah (zal (jv 2)))))
þ o7{f:Addr}{d:FuncData}(F:Fun K "blank_places" "blank_places" s7 f d) (x4:C4 P w K mg base) (x6:C6 P w K mg base) (n_i:mg "isinstance" =none) (n_n:mg "int" =none):Ok P w K mg base f d ["side"] zcf:=zcr rfl λr ih=>zaG F sc7 rfl rfl λ_ _ _ _ _ _ hr=>(zah (zal (zaL (zbQ (N:=["place", "side"]) (k:=1) (fr:=[0]) ⟨rfl,by decide +kernel,rfl,rfl,rfl,rfl,rfl,rfl,rfl⟩ (zaN (zaf (x4.zg r) hr rfl x4.zm x4.zk x4.zb (zaa (jv 0) zac))) (λ_ _ _ _=>(zap (i:=0) (show List.Nodup [("place" :Str),("side" :Str)] from by decide +kernel) rfl (Or.inl rfl))) (λ_ _ _ _=>(zxn (zbE (zgV rfl n_i rfl n_n PyProof.Rows.boot_int (zaf (x6.zg r) hr rfl x6.zm x6.zk x6.zb (zaa (jv 1) (zaa (jv 0) zac))) £ £ (zuz _ ¢))))) (λ_ _ _ _=>(jv 0))))))
þ o8{f:Addr}{d:FuncData}(F:Fun K "filled" "filled" s8 f d) (b:Binds K d ["side", "things"] []) (m:mg "filled" =some (.ref f)) (n_i:mg "isinstance" =none) (n_n:mg "int" =none) (n_t:mg "tuple" =none):Ok P w K mg base f d ["side", "things"] zdp:=zcr rfl λr ih=>zaG F sc8 rfl rfl λ_ _ _ _ _ _ hr=>(zad (zaM (zbE (zgV rfl n_i rfl n_n PyProof.Rows.boot_int (jv 0) £ £ (zuz _ ¢))) (zah (zal (zas (jv 1) (jv 0)))) zaw)
  (zah (zal (zbk (zav (zaa (zas (jv 0) zae) zac)) (zhV rfl n_t (zbQ (N:=["inner", "things"]) (k:=1) (fr:=[1]) ⟨rfl,by decide +kernel,rfl,rfl,rfl,rfl,rfl,rfl,rfl⟩ (zaN (zdk (jv 0) (zaH zae) zaI)) (λ_ _ _ _=>(zap (i:=0) (show List.Nodup [("inner" :Str),("things" :Str)] from by decide +kernel) rfl (Or.inl rfl))) (λ_ _ _ _=>zaV) (λ_ _ _ _=>(zaf ih hr rfl m F.kp b (zaa (jv 0) (zaa (jv 1) zac))))))))))
þ o9{f:Addr}{d:FuncData}(F:Fun K "have_one_top" "have_one_top" s9 f d) (n_l:mg "len" =none):Ok P w K mg base f d ["one", "other"] zch:=zcr rfl λr ih=>zaG F sc9 rfl rfl λ_ _ _ _ _ _ hr=>(zah (zal (zrk (zvy hr (zas (jv 0) zae) (zas (jv 1) zae)) (zoi (zvy hr (zcg rfl n_l (zaa (jv 0) zac)) (zcg rfl n_l (zaa (jv 1) zac)))))))
þ o10{f:Addr}{d:FuncData}(F:Fun K "gather_matched" "gather_matched" s10 f d) (x9:C9 P w K mg base) (b:Binds K d ["left", "t", "things"] []) (m:mg "gather_matched" =some (.ref f)) (n_i:mg "isinstance" =none) (n_n:mg "int" =none) (n_z:mg "zip" =none):Ok P w K mg base f d ["left", "t", "things"] zaC:=zcr rfl λr ih=>zaG F sc10 rfl rfl λ_ _ _ _ _ _ hr=>(zad (zaM (zbE (zgV rfl n_i rfl n_n PyProof.Rows.boot_int (jv 0) £ £ (zuz _ ¢))) (zad (zaQ (zbf (jv 2) (zaa (jv 1) zac)))
  (zah (zal zfq))) zaw)
  (zad (zaM (zhB (zbE (zaf (x9.zg r) hr rfl x9.zm x9.zk x9.zb (zaa (jv 0) (zaa (jv 1) zac))))) (zah (zal zfq)) zaw)
  (zad (zbR (zoq rfl n_z (zdk (jv 0) (zaH zae) zaI) (zdk (jv 1) (zaH zae) zaI)) (zfR (zaP (zap (i:=3) sc10.nd rfl (Or.inl rfl)) (zaP (zap (i:=4) sc10.nd rfl (Or.inl rfl)) zew)) (glS (glS gl0))) (zah (zaM (zhB (zbE (zaf ih hr rfl m F.kp b (zaa (jv 3) (zaa (jv 4) (zaa (jv 2) zac)))))) (zah (zal zfq)) zaw)))
  (zah (zal zfq)))))
þ o11{f:Addr}{d:FuncData}(F:Fun K "matched" "matched" s11 f d) (x10:C10 P w K mg base):Ok P w K mg base f d ["left", "t"] zci:=zcr rfl λr ih=>zaG F sc11 rfl rfl λ_ _ _ _ _ _ hr=>(zad (zao (i:=2) sc11.nd rfl (Or.inl rfl) (zaL (zaK zac)))
  (zad (zaM (zbE (zaf (x10.zg r) hr rfl x10.zm x10.zk x10.zb (zaa (jv 0) (zaa (jv 1) (zaa (jv 2) zac))))) (zah (zal (jv 2))) zaw)
  (zah (zal zcM))))
þ o12{f:Addr}{d:FuncData}(F:Fun K "are_small_letters" "are_small_letters" s12 f d) (n_a:mg "all" =none):Ok P w K mg base f d ["text"] zbb:=zcr rfl λr ih=>zaG F zCx rfl rfl λ_ _ _ _ _ _ hr=>(zah (zal (zlX rfl n_a (zbQ (N:=["letter"]) (k:=1) (fr:=[]) ⟨rfl,by decide +kernel,rfl,rfl,rfl,rfl,rfl,rfl,rfl⟩ (zaN (jv 0)) (λ_ _ _ _=>(zap (i:=0) (show List.Nodup [("letter" :Str)] from by decide +kernel) rfl (Or.inl rfl))) (λ_ _ _ _=>zaV) (λ_ _ _ _=>(zrr zfA (jv 0) zfA))))))
þ o13{f:Addr}{d:FuncData}(F:Fun K "is_sign" "is_sign" s13 f d) (x12:C12 P w K mg base) (n_l:mg "len" =none) {t_MOST_LETTERS:Tok}(g_MOST_LETTERS:mg "MOST_LETTERS" =some (.int 8 t_MOST_LETTERS)):Ok P w K mg base f d ["text"] zfb:=zcr rfl λr ih=>zaG F zDp rfl rfl λ_ _ _ _ _ _ hr=>(zah (zal (zrk (zrr zae (zcg rfl n_l (zaa (jv 0) zac)) (zdF rfl g_MOST_LETTERS)) (zoi (zaf (x12.zg r) hr rfl x12.zm x12.zk x12.zb (zaa (jv 0) zac))))))
þ o14{f:Addr}{d:FuncData}(F:Fun K "turning_of" "turning_of" s14 f d):Ok P w K mg base f d ["book", "title"] zaY:=zcr rfl λr ih=>zaG F sc14 rfl rfl λ_ _ _ _ _ _ hr=>(zad (zbR (zaN (jv 0)) (zap (i:=2) sc14.nd rfl (Or.inl rfl)) (zah (zaM (zeL hr (zas (jv 2) zae) (jv 1)) (zah (zal (jv 2))) zaw)))
  (zah (zal zcM)))
þ o15{f:Addr}{d:FuncData}(F:Fun K "is_quiet" "is_quiet" s15 f d) (x13:C13 P w K mg base) (b:Binds K d ["way"] []) (m:mg "is_quiet" =some (.ref f)) (n_a:mg "all" =none):Ok P w K mg base f d ["way"] zdq:=zcr rfl λr ih=>zaG F zDa rfl rfl λ_ _ _ _ _ _ hr=>(zah (zal (zrk (zaf (x13.zg r) hr rfl x13.zm x13.zk x13.zb (zaa (zas (jv 0) zae) zac)) (zoi (zlX rfl n_a (zbQ (N:=["inner"]) (k:=1) (fr:=[]) ⟨rfl,by decide +kernel,rfl,rfl,rfl,rfl,rfl,rfl,rfl⟩ (zaN (zdk (jv 0) (zaH zae) zaI)) (λ_ _ _ _=>(zap (i:=0) (show List.Nodup [("inner" :Str)] from by decide +kernel) rfl (Or.inl rfl))) (λ_ _ _ _=>zaV) (λ_ _ _ _=>(zaf ih hr rfl m F.kp b (zaa (jv 0) zac)))))))))
þ o16{f:Addr}{d:FuncData}(F:Fun K "only_small" "only_small" s16 f d) (x2:C2 P w K mg base) (y_TooGreat:Ncl mg "TooGreat") (v_TooGreat:XcIn K "TooGreat" y_TooGreat.xC):Ok P w K mg base f d ["shape"] zbe:=zcr rfl λr ih=>zaG F zCO rfl rfl λ_ _ _ _ _ _ hr=>(zad (zaM (zhB (zbE (zaf (x2.zg r) hr rfl x2.zm x2.zk x2.zb (zaa (jv 0) zac)))) (zah (zgk v_TooGreat rfl y_TooGreat.xm (zaa zfA zac))) zaw)
  (zah (zal (jv 0))))
þ o17{f:Addr}{d:FuncData}(F:Fun K "with_sides" "with_sides" s17 f d) (x14:C14 P w K mg base) (x8:C8 P w K mg base) (b:Binds K d ["book", "way", "side"] []) (m:mg "with_sides" =some (.ref f)) (n_t:mg "tuple" =none):Ok P w K mg base f d ["book", "way", "side"] zbT:=zcr rfl λr ih=>zaG F sc17 rfl rfl λ_ _ _ _ _ _ hr=>(zad (zeJ (i:=3) (N:=["inner", "book", "side"]) (k:=1) (fr:=[0,2]) sc17.nd rfl (Or.inl rfl) ⟨rfl,by decide +kernel,rfl,rfl,rfl,rfl,rfl,rfl,rfl⟩ (zaN (zdk (jv 1) (zaH zae) zaI)) (λ_ _ _ _=>(zap (i:=0) (show List.Nodup [("inner" :Str),("book" :Str),("side" :Str)] from by decide +kernel) rfl (Or.inl rfl))) (λ_ _ _ _=>zaV) (λ_ _ _ _=>(zaf ih hr rfl m F.kp b (zaa (jv 1) (zaa (jv 0) (zaa (jv 2) zac))))))
  (zad (zao (i:=4) sc17.nd rfl (Or.inl rfl) (zaf (x14.zg r) hr rfl x14.zm x14.zk x14.zb (zaa (jv 0) (zaa (zas (jv 1) zae) zac))))
  (zad (zaM (zqr (jv 4) zcM) (zah (zal (zbk (zav (zaa (zas (jv 1) zae) zac)) (zeI rfl n_t (zaa (jv 3) zac))))) zaw)
  (zah (zal (zaf (x8.zg r) hr rfl x8.zm x8.zk x8.zb (zaa (zas (jv 4) (jv 2)) (zaa (jv 3) zac))))))))
þ o18{f:Addr}{d:FuncData}(F:Fun K "source" "source" s18 f d) (x16:C16 P w K mg base) (x17:C17 P w K mg base) {t_LEFT:Tok}(g_LEFT:mg "LEFT" =some (.int 1 t_LEFT)):Ok P w K mg base f d ["book", "way"] zff:=zcr rfl λr ih=>zaG F zCZ rfl rfl λ_ _ _ _ _ _ hr=>(zah (zal (zaf (x16.zg r) hr rfl x16.zm x16.zk x16.zb (zaa (zaf (x17.zg r) hr rfl x17.zm x17.zk x17.zb (zaa (jv 0) (zaa (jv 1) (zaa (zdF rfl g_LEFT) zac)))) zac))))
þ o19{f:Addr}{d:FuncData}(F:Fun K "goal" "goal" s19 f d) (x16:C16 P w K mg base) (x17:C17 P w K mg base) {t_RIGHT:Tok}(g_RIGHT:mg "RIGHT" =some (.int 2 t_RIGHT)):Ok P w K mg base f d ["book", "way"] zfv:=zcr rfl λr ih=>zaG F zCg rfl rfl λ_ _ _ _ _ _ hr=>(zah (zal (zaf (x16.zg r) hr rfl x16.zm x16.zk x16.zb (zaa (zaf (x17.zg r) hr rfl x17.zm x17.zk x17.zb (zaa (jv 0) (zaa (jv 1) (zaa (zdF rfl g_RIGHT) zac)))) zac))))
þ o20{f:Addr}{d:FuncData}(F:Fun K "part_places" "part_places" s20 f d) (x14:C14 P w K mg base) (x7:C7 P w K mg base) (n_r:mg "range" =none) (n_l:mg "len" =none) {t_LEFT:Tok}(g_LEFT:mg "LEFT" =some (.int 1 t_LEFT)):Ok P w K mg base f d ["book", "way"] zbX:=zcr rfl λr ih=>zaG F sc20 rfl rfl λ_ _ _ _ _ _ hr=>(zad (zao (i:=2) sc20.nd rfl (Or.inl rfl) (zaf (x14.zg r) hr rfl x14.zm x14.zk x14.zb (zaa (jv 0) (zaa (zas (jv 1) zae) zac))))
  (zad (zaM (zqr (jv 2) zcM) (zah (zal (zaL (zbQ (N:=["number"]) (k:=1) (fr:=[]) ⟨rfl,by decide +kernel,rfl,rfl,rfl,rfl,rfl,rfl,rfl⟩ (zgo rfl n_r (zaa (znz (zcg rfl n_l (zaa (jv 1) zac)) zae) zac)) (λ_ _ _ _=>(zap (i:=0) (show List.Nodup [("number" :Str)] from by decide +kernel) rfl (Or.inl rfl))) (λ_ _ _ _=>zaV) (λ_ _ _ _=>(zav (zaa (jv 0) zac))))))) zaw)
  (zah (zal (zaf (x7.zg r) hr rfl x7.zm x7.zk x7.zb (zaa (zas (jv 2) (zdF rfl g_LEFT)) zac))))))
þ o21{f:Addr}{d:FuncData}(F:Fun K "open_turning" "open_turning" s21 f d) (x11:C11 P w K mg base) {t_LEFT:Tok}(g_LEFT:mg "LEFT" =some (.int 1 t_LEFT)):Ok P w K mg base f d ["book", "shape"] zbB:=zcr rfl λr ih=>zaG F sc21 rfl rfl λ_ _ _ _ _ _ hr=>(zad (zbR (zaN (jv 0)) (zap (i:=2) sc21.nd rfl (Or.inl rfl)) (zah (zaM (zer (zaf (x11.zg r) hr rfl x11.zm x11.zk x11.zb (zaa (zas (jv 2) (zdF rfl g_LEFT)) (zaa (jv 1) zac))) zcM) (zah (zal (jv 2))) zaw)))
  (zah (zal zcM)))
þ o22{f:Addr}{d:FuncData}(F:Fun K "gather_open" "gather_open" s22 f d) (x21:C21 P w K mg base) (b:Binds K d ["book", "shape", "place", "found"] []) (m:mg "gather_open" =some (.ref f)) (n_e:mg "enumerate" =none):Ok P w K mg base f d ["book", "shape", "place", "found"] zbx:=zcr rfl λr ih=>zaG F sc22 rfl rfl λ_ _ _ _ _ _ hr=>(zad (zao (i:=4) sc22.nd rfl (Or.inl rfl) (zaf (x21.zg r) hr rfl x21.zm x21.zk x21.zb (zaa (jv 0) (zaa (jv 1) zac))))
  (zad (zaM (zer (jv 4) zcM) (zah (zaQ (zbf (jv 3) (zaa (zav (zaa (jv 2) (zaa (zas (jv 4) zae) zac))) zac)))) zaw)
  (zah (zbR (zmv rfl n_e (zdk (jv 1) (zaH zae) zaI)) (zfR (zaP (zap (i:=5) sc22.nd rfl (Or.inl rfl)) (zaP (zap (i:=6) sc22.nd rfl (Or.inl rfl)) zew)) (glS (glS gl0))) (zah (zaQ (zaf ih hr rfl m F.kp b (zaa (jv 0) (zaa (jv 6) (zaa (zbk (jv 2) (zav (zaa (jv 5) zac))) (zaa (jv 3) zac)))))))))))
þ o23{f:Addr}{d:FuncData}(F:Fun K "open_uses" "open_uses" s23 f d) (x22:C22 P w K mg base):Ok P w K mg base f d ["book", "shape"] zbo:=zcr rfl λr ih=>zaG F sc23 rfl rfl λ_ _ _ _ _ _ hr=>(zad (zao (i:=2) sc23.nd rfl (Or.inl rfl) (zaL (zaK zac)))
  (zad (zaQ (zaf (x22.zg r) hr rfl x22.zm x22.zk x22.zb (zaa (jv 0) (zaa (jv 1) (zaa (zav zac) (zaa (jv 2) zac))))))
  (zah (zal (jv 2)))))
þ o24{f:Addr}{d:FuncData}(F:Fun K "places_of" "places_of" s24 f d):Ok P w K mg base f d ["pairs"] zcZ:=zcr rfl λr ih=>zaG F zDe rfl rfl λ_ _ _ _ _ _ hr=>(zah (zal (zaL (zbQ (N:=["pair"]) (k:=1) (fr:=[]) ⟨rfl,by decide +kernel,rfl,rfl,rfl,rfl,rfl,rfl,rfl⟩ (zaN (jv 0)) (λ_ _ _ _=>(zap (i:=0) (show List.Nodup [("pair" :Str)] from by decide +kernel) rfl (Or.inl rfl))) (λ_ _ _ _=>zaV) (λ_ _ _ _=>(zas (jv 0) zae))))))
þ o25{f:Addr}{d:FuncData}(F:Fun K "turned_top" "turned_top" s25 f d) (x21:C21 P w K mg base) (x11:C11 P w K mg base) (n_t:mg "tuple" =none) {t_LEFT:Tok}(g_LEFT:mg "LEFT" =some (.int 1 t_LEFT)):Ok P w K mg base f d ["book", "shape"] zdg:=zcr rfl λr ih=>zaG F sc25 rfl rfl λ_ _ _ _ _ _ hr=>(zad (zao (i:=2) sc25.nd rfl (Or.inl rfl) (zaf (x21.zg r) hr rfl x21.zm x21.zk x21.zb (zaa (jv 0) (zaa (jv 1) zac))))
  (zah (zal (zbk (zav (zaa (zas (jv 2) zae) zac)) (zeI rfl n_t (zaa (zaf (x11.zg r) hr rfl x11.zm x11.zk x11.zb (zaa (zas (jv 2) (zdF rfl g_LEFT)) (zaa (jv 1) zac))) zac))))))
þ o26{f:Addr}{d:FuncData}(F:Fun K "way_within" "way_within" s26 f d) (x25:C25 P w K mg base) (x20:C20 P w K mg base) (b:Binds K d ["book", "shape", "place", "wanted"] []) (m:mg "way_within" =some (.ref f)) (n_z:mg "zip" =none) (n_t:mg "tuple" =none):Ok P w K mg base f d ["book", "shape", "place", "wanted"] zaZ:=zcr rfl λr ih=>zaG F sc26 rfl rfl λ_ _ _ _ _ _ hr=>(zad (zao (i:=4) sc26.nd rfl (Or.inl rfl) (zBk (zyH hr (jv 2) (jv 3)) (zaf (x25.zg r) hr rfl x25.zm x25.zk x25.zb (zaa (jv 0) (zaa (jv 1) zac))) (jv 1)))
  (zad (zao (i:=5) sc26.nd rfl (Or.inl rfl) (zaL (zaK zac)))
  (zad (zbR (zoq rfl n_z (zaf (x20.zg r) hr rfl x20.zm x20.zk x20.zb (zaa (jv 0) (zaa (jv 4) zac))) (zdk (jv 4) (zaH zae) zaI)) (zfR (zaP (zap (i:=6) sc26.nd rfl (Or.inl rfl)) (zaP (zap (i:=7) sc26.nd rfl (Or.inl rfl)) zew)) (glS (glS gl0))) (zah (zaQ (zbf (jv 5) (zaa (zaf ih hr rfl m F.kp b (zaa (jv 0) (zaa (jv 7) (zaa (zbk (jv 2) (jv 6)) (zaa (jv 3) zac))))) zac)))))
  (zah (zal (zbk (zav (zaa (zas (jv 4) zae) zac)) (zeI rfl n_t (zaa (jv 5) zac))))))))
þ o27{f:Addr}{d:FuncData}(F:Fun K "way_with" "way_with" s27 f d) (x26:C26 P w K mg base) (n_d:mg "dict" =none):Ok P w K mg base f d ["book", "shape", "places"] zdr:=zcr rfl λr ih=>zaG F zCC rfl rfl λ_ _ _ _ _ _ hr=>(zah (zal (zaf (x26.zg r) hr rfl x26.zm x26.zk x26.zb (zaa (jv 0) (zaa (jv 1) (zaa (zav zac) (zaa (ztO hr rfl n_d (zbQ (N:=["place"]) (k:=1) (fr:=[]) ⟨rfl,by decide +kernel,rfl,rfl,rfl,rfl,rfl,rfl,rfl⟩ (zaN (jv 2)) (λ_ _ _ _=>(zap (i:=0) (show List.Nodup [("place" :Str)] from by decide +kernel) rfl (Or.inl rfl))) (λ_ _ _ _=>zaV) (λ_ _ _ _=>(zav (zaa (jv 0) (zaa zfq zac)))))) zac)))))))
þ o28{f:Addr}{d:FuncData}(F:Fun K "way_of" "way_of" s28 f d) (x24:C24 P w K mg base) (x27:C27 P w K mg base) (x23:C23 P w K mg base) (y_NoUse:Ncl mg "NoUse") (v_NoUse:XcIn K "NoUse" y_NoUse.xC):Ok P w K mg base f d ["book", "shape", "places"] zgi:=zcr rfl λr ih=>zaG F sc28 rfl rfl λ_ _ _ _ _ _ hr=>(zad (zao (i:=3) sc28.nd rfl (Or.inl rfl) (zaf (x24.zg r) hr rfl x24.zm x24.zk x24.zb (zaa (zaf (x23.zg r) hr rfl x23.zm x23.zk x23.zb (zaa (jv 0) (zaa (jv 1) zac))) zac)))
  (zad (zbR (zaN (jv 2)) (zap (i:=4) sc28.nd rfl (Or.inl rfl)) (zah (zaM (ztz hr (jv 4) (jv 3)) (zah (zgk v_NoUse rfl y_NoUse.xm (zaa zfA zac))) zaw)))
  (zah (zal (zaf (x27.zg r) hr rfl x27.zm x27.zk x27.zb (zaa (jv 0) (zaa (jv 1) (zaa (jv 2) zac))))))))
þ o29{f:Addr}{d:FuncData}(F:Fun K "full_way" "full_way" s29 f d) (x27:C27 P w K mg base) (x24:C24 P w K mg base) (x23:C23 P w K mg base):Ok P w K mg base f d ["book", "shape"] zel:=zcr rfl λr ih=>zaG F zDm rfl rfl λ_ _ _ _ _ _ hr=>(zah (zal (zaf (x27.zg r) hr rfl x27.zm x27.zk x27.zb (zaa (jv 0) (zaa (jv 1) (zaa (zaf (x24.zg r) hr rfl x24.zm x24.zk x24.zb (zaa (zaf (x23.zg r) hr rfl x23.zm x23.zk x23.zb (zaa (jv 0) (zaa (jv 1) zac))) zac)) zac))))))
þ o30{f:Addr}{d:FuncData}(F:Fun K "rounds" "rounds" s30 f d) (x23:C23 P w K mg base) (x29:C29 P w K mg base) (x19:C19 P w K mg base) (n_l:mg "len" =none):Ok P w K mg base f d ["book", "shape", "limit"] zgd:=zcr rfl λr ih=>zaG F sc30 rfl rfl λ_ _ _ _ _ _ hr=>(zad (zao (i:=3) sc30.nd rfl (Or.inl rfl) (zaL (zaK zac)))
  (zad (zao (i:=4) sc30.nd rfl (Or.inl rfl) (jv 1))
  (zad (zjp (JW.jt (zgl (zpe (zcg rfl n_l (zaa (jv 3) zac)) (jv 2)) (zeB (zbE (zaf (x23.zg r) hr rfl x23.zm x23.zk x23.zb (zaa (jv 0) (zaa (jv 4) zac))))))) (zad (zao (i:=5) sc30.nd rfl (Or.inl rfl) (zaf (x29.zg r) hr rfl x29.zm x29.zk x29.zb (zaa (jv 0) (zaa (jv 4) zac))))
  (zad (zao (i:=4) sc30.nd rfl (Or.inl rfl) (zaf (x19.zg r) hr rfl x19.zm x19.zk x19.zb (zaa (jv 0) (zaa (jv 5) zac))))
  (zah (zaQ (zbf (jv 3) (zaa (jv 5) zac)))))))
  (zah (zal (zav (zaa (zav (zaa (jv 1) (zaa (jv 3) zac))) (zaa (zwW (zaf (x23.zg r) hr rfl x23.zm x23.zk x23.zb (zaa (jv 0) (zaa (jv 4) zac)))) zac))))))))
þ o31{f:Addr}{d:FuncData}(F:Fun K "one_source" "one_source" s31 f d) (x18:C18 P w K mg base) (y_Apart:Ncl mg "Apart") (v_Apart:XcIn K "Apart" y_Apart.xC):Ok P w K mg base f d ["book", "way", "other"] zcv:=zcr rfl λr ih=>zaG F sc31 rfl rfl λ_ _ _ _ _ _ hr=>(zad (zao (i:=3) sc31.nd rfl (Or.inl rfl) (zaf (x18.zg r) hr rfl x18.zm x18.zk x18.zb (zaa (jv 0) (zaa (jv 1) zac))))
  (zad (zaM (zxr hr (zaf (x18.zg r) hr rfl x18.zm x18.zk x18.zb (zaa (jv 0) (zaa (jv 2) zac))) (jv 3)) (zah (zgk v_Apart rfl y_Apart.xm (zaa zfA zac))) zaw)
  (zah (zal (jv 3)))))
þ o32{f:Addr}{d:FuncData}(F:Fun K "moved" "moved" s32 f d) (x14:C14 P w K mg base) (x8:C8 P w K mg base) (x11:C11 P w K mg base) (b:Binds K d ["book", "way", "other"] []) (m:mg "moved" =some (.ref f)) (n_z:mg "zip" =none) (n_t:mg "tuple" =none) {t_RIGHT:Tok}(g_RIGHT:mg "RIGHT" =some (.int 2 t_RIGHT)) {t_LEFT:Tok}(g_LEFT:mg "LEFT" =some (.int 1 t_LEFT)):Ok P w K mg base f d ["book", "way", "other"] zcO:=zcr rfl λr ih=>zaG F sc32 rfl rfl λ_ _ _ _ _ _ hr=>(zad (zao (i:=3) sc32.nd rfl (Or.inl rfl) (zaf (x14.zg r) hr rfl x14.zm x14.zk x14.zb (zaa (jv 0) (zaa (zas (jv 1) zae) zac))))
  (zad (zao (i:=4) sc32.nd rfl (Or.inl rfl) (zaf (x14.zg r) hr rfl x14.zm x14.zk x14.zb (zaa (jv 0) (zaa (zas (jv 2) zae) zac))))
  (zad (zao (i:=5) sc32.nd rfl (Or.inl rfl) (zdk (jv 1) (zaH zae) zaI))
  (zad (zao (i:=6) sc32.nd rfl (Or.inl rfl) (zdk (jv 2) (zaH zae) zaI))
  (zad (zaM (JW.jt (zgl (zqr (jv 3) zcM) (zeB (zer (jv 4) zcM)))) (zah (zao (i:=5) sc32.nd rfl (Or.inl rfl) (zaf (x11.zg r) hr rfl x11.zm x11.zk x11.zb (zaa (zas (jv 4) (zdF rfl g_LEFT)) (zaa (jv 1) zac))))) zaw)
  (zad (zaM (JW.jt (zgl (zer (jv 3) zcM) (zeB (zqr (jv 4) zcM)))) (zah (zao (i:=6) sc32.nd rfl (Or.inl rfl) (zaf (x11.zg r) hr rfl x11.zm x11.zk x11.zb (zaa (zas (jv 3) (zdF rfl g_LEFT)) (zaa (jv 2) zac))))) zaw)
  (zad (zeJ (i:=7) (N:=["inner", "outer", "book"]) (k:=2) (fr:=[0]) sc32.nd rfl (Or.inl rfl) ⟨rfl,by decide +kernel,rfl,rfl,rfl,rfl,rfl,rfl,rfl⟩ (zoq rfl n_z (jv 5) (jv 6)) (λ_ _ _ _=>(zfR (zaP (zap (i:=0) (show List.Nodup [("inner" :Str),("outer" :Str),("book" :Str)] from by decide +kernel) rfl (Or.inl rfl)) (zaP (zap (i:=1) (show List.Nodup [("inner" :Str),("outer" :Str),("book" :Str)] from by decide +kernel) rfl (Or.inl rfl)) zew)) (glS (glS gl0)))) (λ_ _ _ _=>zaV) (λ_ _ _ _=>(zaf ih hr rfl m F.kp b (zaa (jv 2) (zaa (jv 0) (zaa (jv 1) zac))))))
  (zad (zaM (zqr (jv 4) zcM) (zah (zal (zbk (zav (zaa (zas (jv 1) zae) zac)) (zeI rfl n_t (zaa (jv 7) zac))))) zaw)
  (zah (zal (zaf (x8.zg r) hr rfl x8.zm x8.zk x8.zb (zaa (zas (jv 4) (zdF rfl g_RIGHT)) (zaa (jv 7) zac)))))))))))))
þ o33{f:Addr}{d:FuncData}(F:Fun K "behind" "behind" s33 f d) (x31:C31 P w K mg base) (x19:C19 P w K mg base) (x32:C32 P w K mg base):Ok P w K mg base f d ["book", "way", "other"] zdo:=zcr rfl λr ih=>zaG F zCY rfl rfl λ_ _ _ _ _ _ hr=>(zad (zaQ (zaf (x31.zg r) hr rfl x31.zm x31.zk x31.zb (zaa (jv 0) (zaa (jv 1) (zaa (jv 2) zac)))))
  (zad (zaQ (zaf (x19.zg r) hr rfl x19.zm x19.zk x19.zb (zaa (jv 0) (zaa (jv 2) zac))))
  (zah (zal (zaf (x32.zg r) hr rfl x32.zm x32.zk x32.zb (zaa (jv 0) (zaa (jv 1) (zaa (jv 2) zac))))))))
þ o34{f:Addr}{d:FuncData}(F:Fun K "end" "end" s34 f d) (x19:C19 P w K mg base):Ok P w K mg base f d ["book", "road"] zpp:=zcr rfl λr ih=>by
  ¤zaG F zCB rfl rfl λ_ _ _ _ _ _ hr=>?_;delta zmk zmQ;§(zad (zaM (zhB (zbE (zas (jv 1) zae))) (zah (zal (zas (jv 1) zae))) zaw)
  (zah (zal (zaf (x19.zg r) hr rfl x19.zm x19.zk x19.zb (zaa (jv 0) (zaa (zas (zas (jv 1) zae) (zeU zae)) zac))))))
þ o35{f:Addr}{d:FuncData}(F:Fun K "check_goals" "check_goals" s35 f d) (x19:C19 P w K mg base):Ok P w K mg base f d ["book", "ways"] zaW:=zcr rfl λr ih=>zaG F sc35 rfl rfl λ_ _ _ _ _ _ hr=>(zah (zbR (zaN (jv 1)) (zap (i:=2) sc35.nd rfl (Or.inl rfl)) (zah (zaQ (zaf (x19.zg r) hr rfl x19.zm x19.zk x19.zb (zaa (jv 0) (zaa (jv 2) zac)))))))
þ o36{f:Addr}{d:FuncData}(F:Fun K "moved_along" "moved_along" s36 f d) (x32:C32 P w K mg base) (x35:C35 P w K mg base):Ok P w K mg base f d ["book", "way", "ways"] zbv:=zcr rfl λr ih=>by
  ¤zaG F sc36 rfl rfl λ_ _ _ _ _ _ hr=>?_;delta zcF zcl zcj zck zcK zcE;delta zcy;delta zcF zcl zcj zck zcK zcE;§(zad (zao (i:=3) sc36.nd rfl (Or.inl rfl) (zaL (zaK (zaa (jv 1) zac))))
  (zad (zbR (zaN (jv 2)) (zap (i:=4) sc36.nd rfl (Or.inl rfl)) (zad (zao (i:=5) sc36.nd rfl (Or.inl rfl) (zaf (x32.zg r) hr rfl x32.zm x32.zk x32.zb (zaa (jv 0) (zaa (zas (jv 3) (zeU zae)) (zaa (jv 4) zac)))))
  (zad (zaQ (zaf (x35.zg r) hr rfl x35.zm x35.zk x35.zb (zaa (jv 0) (zaa (zaL (zaK (zaa (jv 5) zac))) zac))))
  (zah (zaQ (zbf (jv 3) (zaa (jv 5) zac)))))))
  (zah (zal (jv 3)))))
þ o37{f:Addr}{d:FuncData}(F:Fun K "grid" "grid" s37 f d) (x16:C16 P w K mg base) (x35:C35 P w K mg base) (x36:C36 P w K mg base) (x32:C32 P w K mg base) (n_s:mg "list" =none) (n_z:mg "zip" =none) (y_Apart:Ncl mg "Apart") (v_Apart:XcIn K "Apart" y_Apart.xC):Ok P w K mg base f d ["book", "road", "other"] ziY:=zcr rfl λr ih=>by
  ¤zaG F sc37 rfl rfl λ_ _ _ _ _ _ hr=>?_;delta zhq zeZ zeW zeO zgm zhs zgs zfS zfO zhk zhh zfJ zhi;delta zhm;delta zhq zeZ zeW zeO zgm zhs zgs zfS zfO zhk zhh zfJ zhi;§(zad (zaM (zxr hr (zas (jv 1) zae) (zas (jv 2) zae)) (zah (zgk v_Apart rfl y_Apart.xm (zaa zfA zac))) zaw)
  (zad (zaQ (zaf (x16.zg r) hr rfl x16.zm x16.zk x16.zb (zaa (zas (jv 1) zae) zac)))
  (zad (zaQ (zaf (x35.zg r) hr rfl x35.zm x35.zk x35.zb (zaa (jv 0) (zaa (zas (jv 1) zae) zac))))
  (zad (zaQ (zaf (x35.zg r) hr rfl x35.zm x35.zk x35.zb (zaa (jv 0) (zaa (zas (jv 2) zae) zac))))
  (zad (zao (i:=3) sc37.nd rfl (Or.inl rfl) (zaL (zaK zac)))
  (zad (zao (i:=4) sc37.nd rfl (Or.inl rfl) (zaL (zqO rfl n_s (zas (jv 2) zae))))
  (zad (zao (i:=5) sc37.nd rfl (Or.inl rfl) (zaL (zaK (zaa (jv 4) zac))))
  (zad (zbR (zaN (zas (jv 1) zae)) (zap (i:=6) sc37.nd rfl (Or.inl rfl)) (zad (zao (i:=7) sc37.nd rfl (Or.inl rfl) (zaf (x36.zg r) hr rfl x36.zm x36.zk x36.zb (zaa (jv 0) (zaa (jv 6) (zaa (jv 4) zac)))))
  (zad (zeJ (i:=4) (N:=["over", "down", "book"]) (k:=2) (fr:=[0]) sc37.nd rfl (Or.inl rfl) ⟨rfl,by decide +kernel,rfl,rfl,rfl,rfl,rfl,rfl,rfl⟩ (zoq rfl n_z (jv 4) (jv 7)) (λ_ _ _ _=>(zfR (zaP (zap (i:=0) (show List.Nodup [("over" :Str),("down" :Str),("book" :Str)] from by decide +kernel) rfl (Or.inl rfl)) (zaP (zap (i:=1) (show List.Nodup [("over" :Str),("down" :Str),("book" :Str)] from by decide +kernel) rfl (Or.inl rfl)) zew)) (glS (glS gl0)))) (λ_ _ _ _=>zaV) (λ_ _ _ _=>(zaf (x32.zg r) hr rfl x32.zm x32.zk x32.zb (zaa (jv 2) (zaa (jv 0) (zaa (jv 1) zac))))))
  (zad (zaQ (zbf (jv 3) (zaa (jv 7) zac)))
  (zah (zaQ (zbf (jv 5) (zaa (jv 4) zac))))))))
  (zah (zal (zav (zaa (jv 3) (zaa (jv 5) zac)))))))))))))
þ o38{f:Addr}{d:FuncData}(F:Fun K "road_joined" "road_joined" s38 f d) (x37:C37 P w K mg base):Ok P w K mg base f d ["book", "road", "other"] zcG:=zcr rfl λr ih=>by
  ¤zaG F sc38 rfl rfl λ_ _ _ _ _ _ hr=>?_;delta zdI zdA;§(zad (zao (i:=3) sc38.nd rfl (Or.inl rfl) (zas (zaf (x37.zg r) hr rfl x37.zm x37.zk x37.zb (zaa (jv 0) (zaa (jv 1) (zaa (jv 2) zac)))) zae))
  (zah (zal (zav (zaa (zas (jv 1) zae) (zaa (zbk (zas (jv 1) zae) (zas (jv 3) (zeU zae))) zac))))))
þ o39{f:Addr}{d:FuncData}(F:Fun K "are_quiet" "are_quiet" s39 f d) (x15:C15 P w K mg base) (n_a:mg "all" =none):Ok P w K mg base f d ["ways"] zdC:=zcr rfl λr ih=>zaG F zDn rfl rfl λ_ _ _ _ _ _ hr=>(zah (zal (zlX rfl n_a (zbQ (N:=["way"]) (k:=1) (fr:=[]) ⟨rfl,by decide +kernel,rfl,rfl,rfl,rfl,rfl,rfl,rfl⟩ (zaN (jv 0)) (λ_ _ _ _=>(zap (i:=0) (show List.Nodup [("way" :Str)] from by decide +kernel) rfl (Or.inl rfl))) (λ_ _ _ _=>zaV) (λ_ _ _ _=>(zaf (x15.zg r) hr rfl x15.zm x15.zk x15.zb (zaa (jv 0) zac)))))))
þ o40{f:Addr}{d:FuncData}(F:Fun K "last_downs" "last_downs" s40 f d):Ok P w K mg base f d ["downs_and_overs"] zdi:=zcr rfl λr ih=>zaG F zDd rfl rfl λ_ _ _ _ _ _ hr=>(zah (zal (zaL (zbQ (N:=["line"]) (k:=1) (fr:=[]) ⟨rfl,by decide +kernel,rfl,rfl,rfl,rfl,rfl,rfl,rfl⟩ (zaN (zas (jv 0) zae)) (λ_ _ _ _=>(zap (i:=0) (show List.Nodup [("line" :Str)] from by decide +kernel) rfl (Or.inl rfl))) (λ_ _ _ _=>zaV) (λ_ _ _ _=>(zas (jv 0) (zeU zae)))))))
þ o41{f:Addr}{d:FuncData}(F:Fun K "within" "within" s41 f d) (x39:C39 P w K mg base) (x40:C40 P w K mg base) (x37:C37 P w K mg base):Ok P w K mg base f d ["book", "road", "other"] zge:=zcr rfl λr ih=>zaG F zDo rfl rfl λ_ _ _ _ _ _ hr=>(zah (zal (zaf (x39.zg r) hr rfl x39.zm x39.zk x39.zb (zaa (zaf (x40.zg r) hr rfl x40.zm x40.zk x40.zb (zaa (zaf (x37.zg r) hr rfl x37.zm x37.zk x37.zb (zaa (jv 0) (zaa (jv 1) (zaa (jv 2) zac)))) zac)) zac))))
þ o42{f:Addr}{d:FuncData}(F:Fun K "_law_cell" "_law_cell" s42 f d) (n_l:mg "len" =none):Ok P w K mg base f d ["script", "k"] zaA:=zcr rfl λr ih=>zaG F zDb rfl rfl λ_ _ _ _ _ _ hr=>(zad (zaM (zpe (jv 1) (zcg rfl n_l (zaa (jv 0) zac))) (zah (zal (zas (jv 0) (jv 1)))) zaw)
  (zah (zal zae)))
þ o43{f:Addr}{d:FuncData}(F:Fun K "_law_words" "_law_words" s43 f d) (n_r:mg "range" =none) (n_l:mg "len" =none) (n_n:mg "int" =none):Ok P w K mg base f d ["one", "two", "great"] zbs:=zcr rfl λr ih=>zaG F sc43 rfl rfl λ_ _ _ _ _ _ hr=>(zad (zao (i:=3) sc43.nd rfl (Or.inr rfl) zfA)
  (zad (zao (i:=4) sc43.nd rfl (Or.inl rfl) (zcs (jv 1) (zyW zae zae)))
  (zad (zao (i:=5) sc43.nd rfl (Or.inr rfl) (zaL (zaK zac)))
  (zad (zbR (zgo rfl n_r (zaa (zbk zae (zcs (jv 0) zae)) zac)) (zap (i:=6) sc43.nd rfl (Or.inr rfl)) (zad (zaQ (zbf (jv 5) (zaa (zcs (jv 4) zae) zac)))
  (zah (zao (i:=4) sc43.nd rfl (Or.inl rfl) (zcA (jv 4) zae)))))
  (zad (zao (i:=7) sc43.nd rfl (Or.inr rfl) (zcs (zcA (jv 0) zae) (zcg rfl n_l (zaa (jv 5) zac))))
  (zad (zao (i:=8) sc43.nd rfl (Or.inl rfl) (zaL (zaK zac)))
  (zad (zbR (zgo rfl n_r (zaa zae zac)) (zap (i:=6) sc43.nd rfl (Or.inr rfl)) (zad (zao (i:=9) sc43.nd rfl (Or.inl rfl) (ztG zfA (zbQ (N:=["j", "signs", "base", "k", "at"]) (k:=1) (fr:=[3,5,6,7]) ⟨rfl,by decide +kernel,rfl,rfl,rfl,rfl,rfl,rfl,rfl⟩ (zgo rfl n_r (zaa (zcg rfl n_l (zaa (jv 5) zac)) zac)) (λ_ _ _ _=>(zap (i:=0) (show List.Nodup [("j" :Str),("signs" :Str),("base" :Str),("k" :Str),("at" :Str)] from by decide +kernel) rfl (Or.inl rfl))) (λ_ _ _ _=>zaV) (λ_ _ _ _=>(zas (jv 1) (zcs (zbk (zas (jv 2) (jv 0)) (zuZ (jv 3) (zqC rfl n_n (zaa (zvy hr (jv 0) (jv 4)) zac)))) zae))))))
  (zad (zaM (zbE (jv 2)) (zah (zao (i:=9) sc43.nd rfl (Or.inl rfl) (zbk (ztN (zas (jv 9) zae)) (zdk (jv 9) (zaH zae) zaI)))) zaw)
  (zah (zaQ (zbf (jv 8) (zaa (jv 9) zac)))))))
  (zad (zaM (JW.jt (zgl (zeL hr (zcs (zcA (jv 0) zae) zae) zae) (zeB (zhB (zbE (jv 2)))))) (zah (zao (i:=8) sc43.nd rfl (Or.inl rfl) (zaL (zmy (zxt (jv 8) zaI (zaH zae)) (zaK (zaa (zas (jv 8) zae) (zaa (zas (jv 8) zae) (zaa (zas (jv 8) zae) zac)))))))) zaw)
  (zah (zal (jv 8)))))))))))
þ o44{f:Addr}{d:FuncData}(F:Fun K "_law_count" "_law_count" s44 f d) (b:Binds K d ["side"] []) (m:mg "_law_count" =some (.ref f)) (n_i:mg "isinstance" =none) (n_n:mg "int" =none) (n_u:mg "sum" =none):Ok P w K mg base f d ["side"] zaD:=zcr rfl λr ih=>zaG F zDi rfl rfl λ_ _ _ _ _ _ hr=>(zad (zaM (zbE (zgV rfl n_i rfl n_n PyProof.Rows.boot_int (jv 0) £ £ (zuz _ ¢))) (zah (zal zae)) zaw)
  (zah (zal (zmK rfl n_u (zbQ (N:=["one"]) (k:=1) (fr:=[]) ⟨rfl,by decide +kernel,rfl,rfl,rfl,rfl,rfl,rfl,rfl⟩ (zaN (zdk (jv 0) (zaH zae) zaI)) (λ_ _ _ _=>(zap (i:=0) (show List.Nodup [("one" :Str)] from by decide +kernel) rfl (Or.inl rfl))) (λ_ _ _ _=>zaV) (λ_ _ _ _=>(zaf ih hr rfl m F.kp b (zaa (jv 0) zac))))))))
þ o45{f:Addr}{d:FuncData}(F:Fun K "_law_filled" "_law_filled" s45 f d) (b:Binds K d ["side", "things"] []) (m:mg "_law_filled" =some (.ref f)) (n_i:mg "isinstance" =none) (n_n:mg "int" =none) (n_t:mg "tuple" =none):Ok P w K mg base f d ["side", "things"] zbg:=zcr rfl λr ih=>zaG F zDh rfl rfl λ_ _ _ _ _ _ hr=>(zad (zaM (zbE (zgV rfl n_i rfl n_n PyProof.Rows.boot_int (jv 0) £ £ (zuz _ ¢))) (zah (zal (zas (jv 1) (jv 0)))) zaw)
  (zah (zal (zbk (zdk (jv 0) zaI (zaH zae)) (zhV rfl n_t (zbQ (N:=["one", "things"]) (k:=1) (fr:=[1]) ⟨rfl,by decide +kernel,rfl,rfl,rfl,rfl,rfl,rfl,rfl⟩ (zaN (zdk (jv 0) (zaH zae) zaI)) (λ_ _ _ _=>(zap (i:=0) (show List.Nodup [("one" :Str),("things" :Str)] from by decide +kernel) rfl (Or.inl rfl))) (λ_ _ _ _=>zaV) (λ_ _ _ _=>(zaf ih hr rfl m F.kp b (zaa (jv 0) (zaa (jv 1) zac))))))))))
þ o46{f:Addr}{d:FuncData}(F:Fun K "_law_item" "_law_item" s46 f d):Ok P w K mg base f d ["draw", "many", "w"] zcU:=zcr rfl λr ih=>zaG F zCv rfl rfl λ_ _ _ _ _ _ hr=>(zad (zaM (JW.jt (zgl (zlM (jv 1) zae) (zeB (zlM (zcs (jv 0) zae) zae)))) (zah (zal (zcs (zcA (jv 0) zae) (jv 1)))) zaw)
  (zah (zal (zav (zaa (zas (jv 2) (zlE (zaK (zaa zae (zaa zae zac))) (zcs (zcA (jv 0) zae) zae))) zac)))))
þ o47{f:Addr}{d:FuncData}(F:Fun K "_law_right" "_law_right" s47 f d) (x46:C46 P w K mg base):Ok P w K mg base f d ["draw", "many", "w"] zdh:=zcr rfl λr ih=>zaG F sc47 rfl rfl λ_ _ _ _ _ _ hr=>(zad (zao (i:=3) sc47.nd rfl (Or.inl rfl) (zaf (x46.zg r) hr rfl x46.zm x46.zk x46.zb (zaa (zcA (jv 0) zae) (zaa (jv 1) (zaa (jv 2) zac)))))
  (zad (zao (i:=4) sc47.nd rfl (Or.inl rfl) (zaf (x46.zg r) hr rfl x46.zm x46.zk x46.zb (zaa (zcA (jv 0) zae) (zaa (jv 1) (zaa (jv 2) zac)))))
  (zad (zao (i:=5) sc47.nd rfl (Or.inl rfl) (zcs (jv 0) zae))
  (zad (zaM (zeL hr (jv 5) zae) (zah (zal (jv 3))) zaw)
  (zad (zaM (JW.jt (zqc (zeL hr (jv 5) zae) (zly (zeL hr (jv 1) zae)))) (zah (zal (zav (zaa (zas (jv 2) zae) (zaa (jv 3) zac))))) zaw)
  (zad (zaM (zeL hr (jv 5) zae) (zah (zal (zav (zaa (zas (jv 2) zae) (zaa (jv 3) (zaa (jv 4) zac)))))) zaw)
  (zad (zaM (zeL hr (jv 5) zae) (zah (zal (zav (zaa (zas (jv 2) zae) (zaa (jv 3) (zaa (jv 3) zac)))))) zaw)
  (zad (zaM (zeL hr (jv 5) zae) (zah (zal (zav (zaa (zas (jv 2) zae) (zaa (zav (zaa (zas (jv 2) zae) (zaa (jv 3) zac))) (zaa (jv 4) zac)))))) zaw)
  (zad (zaM (zeL hr (jv 5) zae) (zah (zal (zav (zaa (zas (jv 2) zae) (zaa (jv 3) zac))))) zaw)
  (zah (zal (zav (zaa (zas (jv 2) zae) (zaa (jv 3) (zaa (jv 4) zac)))))))))))))))
þ o48{f:Addr}{d:FuncData}(F:Fun K "_law_lefts" "_law_lefts" s48 f d):Ok P w K mg base f d ["way", "head", "c", "d"] zdd:=zcr rfl λr ih=>zaG F zCz rfl rfl λ_ _ _ _ _ _ hr=>(zad (zaM (zeL hr (jv 0) zae) (zah (zal (zaL (zaK (zaa (zav (zaa (jv 1) (zaa zae zac))) zac))))) zaw)
  (zad (zaM (zeL hr (jv 0) zae) (zah (zal (zaL (zaK (zaa (zav (zaa (jv 1) (zaa zae (zaa zae zac)))) zac))))) zaw)
  (zad (zaM (zeL hr (jv 0) zae) (zah (zal (zaL (zaK (zaa (zav (zaa (jv 1) (zaa (zav (zaa (jv 2) zac)) zac))) (zaa (zav (zaa (jv 1) (zaa (zav (zaa (jv 3) (zaa zae zac))) zac))) zac)))))) zaw)
  (zad (zaM (zeL hr (jv 0) zae) (zah (zal (zaL (zaK (zaa (zav (zaa (jv 1) (zaa (zav (zaa (jv 2) zac)) (zaa zae zac)))) (zaa (zav (zaa (jv 1) (zaa (zav (zaa (jv 3) (zaa zae zac))) (zaa zae zac)))) zac)))))) zaw)
  (zad (zaM (zeL hr (jv 0) zae) (zah (zal (zaL (zaK (zaa (zav (zaa (jv 1) (zaa (zav (zaa (jv 3) (zaa (zav (zaa (jv 3) (zaa zae zac))) zac))) (zaa zae (zaa zae zac))))) (zaa (zav (zaa (jv 1) (zaa (zav (zaa (jv 3) (zaa (zav (zaa (jv 2) zac)) zac))) (zaa zae (zaa zae zac))))) zac)))))) zaw)
  (zah (zal (zaL (zaK (zaa (zav (zaa (jv 1) zac)) zac))))))))))
þ o49{f:Addr}{d:FuncData}(F:Fun K "_law_book" "_law_book" s49 f d) (x48:C48 P w K mg base) (x47:C47 P w K mg base) (x42:C42 P w K mg base) (x44:C44 P w K mg base) (n_r:mg "range" =none) (n_e:mg "enumerate" =none) (n_l:mg "len" =none):Ok P w K mg base f d ["script", "k", "w", "titles"] zcT:=zcr rfl λr ih=>zaG F sc49 rfl rfl λ_ _ _ _ _ _ hr=>(zad (zao (i:=4) sc49.nd rfl (Or.inl rfl) (zaL (zaK zac)))
  (zad (zbR (zgo rfl n_r (zaa zae zac)) (zap (i:=5) sc49.nd rfl (Or.inl rfl)) (zad (zao (i:=6) sc49.nd rfl (Or.inl rfl) (zaf (x48.zg r) hr rfl x48.zm x48.zk x48.zb (zaa (zcs (zaf (x42.zg r) hr rfl x42.zm x42.zk x42.zb (zaa (jv 0) (zaa (zbk (jv 1) (jv 5)) zac))) zae) (zaa (zas (jv 2) (jv 5)) (zaa (zas (jv 2) zae) (zaa (zas (jv 2) zae) zac))))))
  (zah (zbR (zmv rfl n_e (jv 6)) (zfR (zaP (zap (i:=7) sc49.nd rfl (Or.inl rfl)) (zaP (zap (i:=8) sc49.nd rfl (Or.inl rfl)) zew)) (glS (glS gl0))) (zad (zao (i:=9) sc49.nd rfl (Or.inl rfl) (zaf (x47.zg r) hr rfl x47.zm x47.zk x47.zb (zaa (zaf (x42.zg r) hr rfl x42.zm x42.zk x42.zb (zaa (jv 0) (zaa (zbk (zbk (zbk (jv 1) zae) (zuZ zae (jv 5))) (jv 7)) zac))) (zaa (zaf (x44.zg r) hr rfl x44.zm x44.zk x44.zb (zaa (jv 8) zac)) (zaa (jv 2) zac)))))
  (zah (zaQ (zbf (jv 4) (zaa (zav (zaa (zas (jv 3) (zcg rfl n_l (zaa (jv 4) zac))) (zaa (jv 8) (zaa (jv 9) zac)))) zac)))))))))
  (zah (zal (jv 4)))))
þ o50{f:Addr}{d:FuncData}(F:Fun K "_law_plan" "_law_plan" s50 f d) (x44:C44 P w K mg base) (n_l:mg "len" =none) (n_m:mg "min" =none):Ok P w K mg base f d ["cells", "book", "w", "room"] zda:=zcr rfl λr ih=>zaG F sc50 rfl rfl λ_ _ _ _ _ _ hr=>(zad (zao (i:=4) sc50.nd rfl (Or.inl rfl) (zaL (zaK zac)))
  (zad (zao (i:=5) sc50.nd rfl (Or.inl rfl) zae)
  (zad (zbR (zaN (jv 0)) (zap (i:=6) sc50.nd rfl (Or.inl rfl)) (zad (zao (i:=7) sc50.nd rfl (Or.inl rfl) (zcs (jv 6) zae))
  (zad (zao (i:=8) sc50.nd rfl (Or.inl rfl) (zlE (zaK (zaa zae (zaa zae (zaa zae (zaa zae zac))))) (zqw rfl n_m (zaa (jv 7) (zaa zae zac)))))
  (zad (zao (i:=9) sc50.nd rfl (Or.inl rfl) (zav (zaa (zeU zae) (zaa zae (zaa (zas (jv 2) (zlE (zaK (zaa zae (zaa zae (zaa zae (zaa zae zac))))) (zqw rfl n_m (zaa (jv 7) (zaa zae zac))))) zac)))))
  (zad (zaM (zlM (jv 7) zae) (zad (zao (i:=10) sc50.nd rfl (Or.inl rfl) (zcs (zcA (jv 6) zae) (zcg rfl n_l (zaa (jv 1) zac))))
  (zad (zao (i:=8) sc50.nd rfl (Or.inl rfl) (zaf (x44.zg r) hr rfl x44.zm x44.zk x44.zb (zaa (zas (zas (jv 1) (jv 10)) zae) zac)))
  (zad (zao (i:=9) sc50.nd rfl (Or.inl rfl) (zav (zaa (jv 10) (zaa (zcs (zcA (jv 6) zae) zae) (zaa zfA zac)))))
  (zah (zao (i:=5) sc50.nd rfl (Or.inl rfl) (zbk (jv 5) zae)))))) zaw)
  (zah (zaM (JW.jt (zgl (zlM (jv 3) zae) (zeB (zpe (jv 5) zae)))) (zad (zao (i:=3) sc50.nd rfl (Or.inl rfl) (znz (jv 3) zae))
  (zad (zao (i:=4) sc50.nd rfl (Or.inl rfl) (zaL (zwB (zAd (zaK (zaa (zav (zaa (zeU zae) (zaa zae (zaa (zas (jv 2) zae) (zaa (zaL (zaK zac)) zac))))) zac)) (znz (jv 8) (zcg rfl n_l (zaa (jv 4) zac)))) (jv 4))))
  (zad (zao (i:=11) sc50.nd rfl (Or.inl rfl) (znz (zcg rfl n_l (zaa (jv 4) zac)) (jv 8)))
  (zah (zao (i:=4) sc50.nd rfl (Or.inl rfl) (zaL (zmy (zxt (jv 4) zaI (zaH (jv 11))) (zaK (zaa (zbk (jv 9) (zav (zaa (zdk (jv 4) (zaH (jv 11)) zaI) zac))) zac))))))))) zaw)))))))
  (zad (zjp (zlM (zcg rfl n_l (zaa (jv 4) zac)) zae) (zah (zao (i:=4) sc50.nd rfl (Or.inl rfl) (zaL (zmy (zxt (jv 4) zaI (zaH (zeU zae))) (zaK (zaa (zav (zaa (zeU zae) (zaa zae (zaa (zas (jv 2) zae) (zaa (zdk (jv 4) (zaH (zeU zae)) zaI) zac))))) zac)))))))
  (zah (zal (zlE (zvt (jv 4) (zaK (zaa (zav (zaa (zeU zae) (zaa zae (zaa (zas (jv 2) zae) (zaa (zaL (zaK zac)) zac))))) zac))) zae)))))))
þ o51{f:Addr}{d:FuncData}(F:Fun K "_law_way" "_law_way" s51 f d) (x45:C45 P w K mg base) (b:Binds K d ["plan", "book", "by"] []) (m:mg "_law_way" =some (.ref f)) (n_t:mg "tuple" =none):Ok P w K mg base f d ["plan", "book", "by"] zcQ:=zcr rfl λr ih=>zaG F sc51 rfl rfl λ_ _ _ _ _ _ hr=>(zad (zxG (jv 0) (zfR (zaP (zap (i:=3) sc51.nd rfl (Or.inl rfl)) (zaP (zap (i:=4) sc51.nd rfl (Or.inl rfl)) (zaP (zap (i:=5) sc51.nd rfl (Or.inl rfl)) (zaP (zap (i:=6) sc51.nd rfl (Or.inl rfl)) zew)))) (glS (glS (glS (glS gl0))))))
  (zad (zeJ (i:=7) (N:=["one", "book", "by"]) (k:=1) (fr:=[1,2]) sc51.nd rfl (Or.inl rfl) ⟨rfl,by decide +kernel,rfl,rfl,rfl,rfl,rfl,rfl,rfl⟩ (zaN (jv 6)) (λ_ _ _ _=>(zap (i:=0) (show List.Nodup [("one" :Str),("book" :Str),("by" :Str)] from by decide +kernel) rfl (Or.inl rfl))) (λ_ _ _ _=>zaV) (λ_ _ _ _=>(zaf ih hr rfl m F.kp b (zaa (jv 0) (zaa (jv 1) (zaa (jv 2) zac))))))
  (zad (zaM (zpe (jv 3) zae) (zah (zal (zbk (zav (zaa (jv 5) zac)) (zeI rfl n_t (zaa (jv 7) zac))))) zaw)
  (zad (zaM (zeL hr (zcs (zcA (jv 4) (jv 2)) zae) zae) (zah (zal (zbk (zav (zaa (zas (zas (jv 1) (jv 3)) zae) zac)) (zeI rfl n_t (zaa (jv 7) zac))))) zaw)
  (zah (zal (zaf (x45.zg r) hr rfl x45.zm x45.zk x45.zb (zaa (zas (zas (jv 1) (jv 3)) zae) (zaa (jv 7) zac)))))))))
þ o52{f:Addr}{d:FuncData}(F:Fun K "_law_made" "_law_made" s52 f d) (b:Binds K d ["book", "way", "which"] []) (m:mg "_law_made" =some (.ref f)) (x45:C45 P w K mg base) (n_t:mg "tuple" =none):Ok P w K mg base f d ["book", "way", "which"] zbP:=zcr rfl λr ih=>zaG F sc52 rfl rfl λ_ _ _ _ _ _ hr=>(zad (zeJ (i:=3) (N:=["one", "book", "which"]) (k:=1) (fr:=[0,2]) sc52.nd rfl (Or.inl rfl) ⟨rfl,by decide +kernel,rfl,rfl,rfl,rfl,rfl,rfl,rfl⟩ (zaN (zdk (jv 1) (zaH zae) zaI)) (λ_ _ _ _=>(zap (i:=0) (show List.Nodup [("one" :Str),("book" :Str),("which" :Str)] from by decide +kernel) rfl (Or.inl rfl))) (λ_ _ _ _=>zaV) (λ_ _ _ _=>(zaf ih hr rfl m F.kp b (zaa (jv 1) (zaa (jv 0) (zaa (jv 2) zac))))))
  (zad (zbR (zaN (jv 0)) (zap (i:=4) sc52.nd rfl (Or.inl rfl)) (zah (zaM (zeL hr (zas (jv 4) zae) (zas (jv 1) zae)) (zah (zal (zaf (x45.zg r) hr rfl x45.zm x45.zk x45.zb (zaa (zas (jv 4) (jv 2)) (zaa (jv 3) zac))))) zaw)))
  (zah (zal (zbk (zdk (jv 1) zaI (zaH zae)) (zeI rfl n_t (zaa (jv 3) zac)))))))
þ o53{f:Addr}{d:FuncData}(F:Fun K "_law_side_size" "_law_side_size" s53 f d) (b:Binds K d ["side", "sizes"] []) (m:mg "_law_side_size" =some (.ref f)) (n_i:mg "isinstance" =none) (n_n:mg "int" =none) (n_u:mg "sum" =none) (n_x:mg "max" =none):Ok P w K mg base f d ["side", "sizes"] zaT:=zcr rfl λr ih=>zaG F sc53 rfl rfl λ_ _ _ _ _ _ hr=>(zad (zaM (zbE (zgV rfl n_i rfl n_n PyProof.Rows.boot_int (jv 0) £ £ (zuz _ ¢))) (zah (zal (zas (jv 1) (jv 0)))) zaw)
  (zad (zeJ (i:=2) (N:=["one", "sizes"]) (k:=1) (fr:=[1]) sc53.nd rfl (Or.inl rfl) ⟨rfl,by decide +kernel,rfl,rfl,rfl,rfl,rfl,rfl,rfl⟩ (zaN (zdk (jv 0) (zaH zae) zaI)) (λ_ _ _ _=>(zap (i:=0) (show List.Nodup [("one" :Str),("sizes" :Str)] from by decide +kernel) rfl (Or.inl rfl))) (λ_ _ _ _=>zaV) (λ_ _ _ _=>(zaf ih hr rfl m F.kp b (zaa (jv 0) (zaa (jv 1) zac)))))
  (zah (zal (zav (zaa (zbk zae (zmK rfl n_u (zbQ (N:=["one"]) (k:=1) (fr:=[]) ⟨rfl,by decide +kernel,rfl,rfl,rfl,rfl,rfl,rfl,rfl⟩ (zaN (jv 2)) (λ_ _ _ _=>(zap (i:=0) (show List.Nodup [("one" :Str)] from by decide +kernel) rfl (Or.inl rfl))) (λ_ _ _ _=>zaV) (λ_ _ _ _=>(zas (jv 0) zae))))) (zaa (zbk zae (zmV rfl n_x (zbQ (N:=["one"]) (k:=1) (fr:=[]) ⟨rfl,by decide +kernel,rfl,rfl,rfl,rfl,rfl,rfl,rfl⟩ (zaN (jv 2)) (λ_ _ _ _=>(zap (i:=0) (show List.Nodup [("one" :Str)] from by decide +kernel) rfl (Or.inl rfl))) (λ_ _ _ _=>zaV) (λ_ _ _ _=>(zas (jv 0) zae))))) zac)))))))
þ o54{f:Addr}{d:FuncData}(F:Fun K "_law_size" "_law_size" s54 f d) (b:Binds K d ["book", "way"] []) (m:mg "_law_size" =some (.ref f)) (x53:C53 P w K mg base) (n_u:mg "sum" =none) (n_x:mg "max" =none):Ok P w K mg base f d ["book", "way"] zbq:=zcr rfl λr ih=>zaG F sc54 rfl rfl λ_ _ _ _ _ _ hr=>(zad (zeJ (i:=2) (N:=["one", "book"]) (k:=1) (fr:=[0]) sc54.nd rfl (Or.inl rfl) ⟨rfl,by decide +kernel,rfl,rfl,rfl,rfl,rfl,rfl,rfl⟩ (zaN (zdk (jv 1) (zaH zae) zaI)) (λ_ _ _ _=>(zap (i:=0) (show List.Nodup [("one" :Str),("book" :Str)] from by decide +kernel) rfl (Or.inl rfl))) (λ_ _ _ _=>zaV) (λ_ _ _ _=>(zaf ih hr rfl m F.kp b (zaa (jv 1) (zaa (jv 0) zac)))))
  (zad (zbR (zaN (jv 0)) (zap (i:=3) sc54.nd rfl (Or.inl rfl)) (zah (zaM (zeL hr (zas (jv 3) zae) (zas (jv 1) zae)) (zah (zal (zaf (x53.zg r) hr rfl x53.zm x53.zk x53.zb (zaa (zas (jv 3) zae) (zaa (jv 2) zac))))) zaw)))
  (zah (zal (zav (zaa (zbk zae (zmK rfl n_u (zbQ (N:=["one"]) (k:=1) (fr:=[]) ⟨rfl,by decide +kernel,rfl,rfl,rfl,rfl,rfl,rfl,rfl⟩ (zaN (jv 2)) (λ_ _ _ _=>(zap (i:=0) (show List.Nodup [("one" :Str)] from by decide +kernel) rfl (Or.inl rfl))) (λ_ _ _ _=>zaV) (λ_ _ _ _=>(zas (jv 0) zae))))) (zaa (zbk zae (zmV rfl n_x (zbQ (N:=["one"]) (k:=1) (fr:=[]) ⟨rfl,by decide +kernel,rfl,rfl,rfl,rfl,rfl,rfl,rfl⟩ (zaN (jv 2)) (λ_ _ _ _=>(zap (i:=0) (show List.Nodup [("one" :Str)] from by decide +kernel) rfl (Or.inl rfl))) (λ_ _ _ _=>zaV) (λ_ _ _ _=>(zas (jv 0) zae))))) zac)))))))
þ o55{f:Addr}{d:FuncData}(F:Fun K "_law_great" "_law_great" s55 f d) (x54:C54 P w K mg base):Ok P w K mg base f d ["book", "way"] zaq:=zcr rfl λr ih=>zaG F sc55 rfl rfl λ_ _ _ _ _ _ hr=>(zad (zao (i:=2) sc55.nd rfl (Or.inl rfl) (zaf (x54.zg r) hr rfl x54.zm x54.zk x54.zb (zaa (jv 0) (zaa (jv 1) zac))))
  (zah (zal (zBV (zyM (zas (jv 2) zae) zae) (zoi (zyM (zas (jv 2) zae) zae))))))
þ o56{f:Addr}{d:FuncData}(F:Fun K "_law_once" "_law_once" s56 f d) (b:Binds K d ["side", "seen", "c"] []) (m:mg "_law_once" =some (.ref f)) (n_i:mg "isinstance" =none) (n_n:mg "int" =none) (n_t:mg "tuple" =none):Ok P w K mg base f d ["side", "seen", "c"] zbS:=zcr rfl λr ih=>zaG F zCP rfl rfl λ_ _ _ _ _ _ hr=>(zad (zaM (zbE (zgV rfl n_i rfl n_n PyProof.Rows.boot_int (jv 0) £ £ (zuz _ ¢))) (zad (zaQ (zbf (jv 1) (zaa (jv 0) zac)))
  (zah (zal (zlE (zaK (zaa (jv 0) (zaa (zav (zaa (jv 2) zac)) zac))) (zqC rfl n_n (zaa (zBo hr (jv 0) (zdk (jv 1) zaI (zaH (zeU zae)))) zac)))))) zaw)
  (zah (zal (zbk (zdk (jv 0) zaI (zaH zae)) (zhV rfl n_t (zbQ (N:=["one", "seen", "c"]) (k:=1) (fr:=[1,2]) ⟨rfl,by decide +kernel,rfl,rfl,rfl,rfl,rfl,rfl,rfl⟩ (zaN (zdk (jv 0) (zaH zae) zaI)) (λ_ _ _ _=>(zap (i:=0) (show List.Nodup [("one" :Str),("seen" :Str),("c" :Str)] from by decide +kernel) rfl (Or.inl rfl))) (λ_ _ _ _=>zaV) (λ_ _ _ _=>(zaf ih hr rfl m F.kp b (zaa (jv 0) (zaa (jv 1) (zaa (jv 2) zac)))))))))))
þ o57{f:Addr}{d:FuncData}(F:Fun K "_law_road" "_law_road" s57 f d) (x28:C28 P w K mg base) (x23:C23 P w K mg base) (x55:C55 P w K mg base) (x52:C52 P w K mg base) (n_l:mg "len" =none):Ok P w K mg base f d ["book", "shape", "cells", "limit"] zbV:=zcr rfl λr ih=>by
  ¤zaG F sc57 rfl rfl λ_ _ _ _ _ _ hr=>?_;delta zbY zbG zbF zbJ zbc zbh zbH zbj zbW zbZ zca;delta zbI;delta zbY zbG zbF zbJ zbc zbh zbH zbj zbW zbZ zca;§(zad (zao (i:=4) sc57.nd rfl (Or.inl rfl) (zaL (zaK zac)))
  (zad (zao (i:=5) sc57.nd rfl (Or.inl rfl) (jv 1))
  (zad (zbR (zaN (jv 2)) (zap (i:=6) sc57.nd rfl (Or.inl rfl)) (zad (zeJ (i:=7) (N:=["one"]) (k:=1) (fr:=[]) sc57.nd rfl (Or.inl rfl) ⟨rfl,by decide +kernel,rfl,rfl,rfl,rfl,rfl,rfl,rfl⟩ (zaN (zaf (x23.zg r) hr rfl x23.zm x23.zk x23.zb (zaa (jv 0) (zaa (jv 5) zac)))) (λ_ _ _ _=>(zap (i:=0) (show List.Nodup [("one" :Str)] from by decide +kernel) rfl (Or.inl rfl))) (λ_ _ _ _=>zaV) (λ_ _ _ _=>(zas (jv 0) zae)))
  (zah (zaM (JW.jt (zgl (zlM (zcg rfl n_l (zaa (jv 7) zac)) zae) (zeB (zpe (zcg rfl n_l (zaa (jv 4) zac)) (jv 3))))) (zad (zao (i:=8) sc57.nd rfl (Or.inl rfl) (zaL (zaK (zaa (zas (jv 7) (zcs (jv 6) (zcg rfl n_l (zaa (jv 7) zac)))) (zaa (zas (jv 7) (zcs (zcA (jv 6) zae) (zcg rfl n_l (zaa (jv 7) zac)))) zac)))))
  (zad (zao (i:=9) sc57.nd rfl (Or.inl rfl) (zaf (x28.zg r) hr rfl x28.zm x28.zk x28.zb (zaa (jv 0) (zaa (jv 5) (zaa (zdk (jv 8) zaI (zaH (zbk zae (zcs (zcA (jv 6) zae) zae)))) zac)))))
  (zah (zaM (zhB (zbE (zaf (x55.zg r) hr rfl x55.zm x55.zk x55.zb (zaa (jv 0) (zaa (jv 9) zac))))) (zad (zaQ (zbf (jv 4) (zaa (jv 9) zac)))
  (zah (zao (i:=5) sc57.nd rfl (Or.inl rfl) (zaf (x52.zg r) hr rfl x52.zm x52.zk x52.zb (zaa (jv 0) (zaa (jv 9) (zaa zae zac))))))) zaw)))) zaw))))
  (zah (zal (zav (zaa (jv 1) (zaa (jv 4) zac))))))))
þ o58{f:Addr}{d:FuncData}(F:Fun K "_law_fit" "_law_fit" s58 f d) (x55:C55 P w K mg base) (x33:C33 P w K mg base) (n_s:mg "list" =none):Ok P w K mg base f d ["book", "one", "other"] zej:=zcr rfl λr ih=>zaG F sc58 rfl rfl λ_ _ _ _ _ _ hr=>(zad (zao (i:=3) sc58.nd rfl (Or.inl rfl) (zaL (zqO rfl n_s (jv 2))))
  (zad (zbR (zaN (jv 1)) (zap (i:=4) sc58.nd rfl (Or.inl rfl)) (zad (zao (i:=5) sc58.nd rfl (Or.inl rfl) (zaL (zaK zac)))
  (zad (zbR (zaN (jv 3)) (zap (i:=6) sc58.nd rfl (Or.inl rfl)) (zad (zaM (JW.jt (zqc (zbE (zaf (x55.zg r) hr rfl x55.zm x55.zk x55.zb (zaa (jv 0) (zaa (jv 4) zac)))) (zly (zbE (zaf (x55.zg r) hr rfl x55.zm x55.zk x55.zb (zaa (jv 0) (zaa (jv 6) zac))))))) (zah (zal zfq)) zaw)
  (zad (zaQ (zbf (jv 5) (zaa (zaf (x33.zg r) hr rfl x33.zm x33.zk x33.zb (zaa (jv 0) (zaa (jv 6) (zaa (jv 4) zac)))) zac)))
  (zah (zao (i:=4) sc58.nd rfl (Or.inl rfl) (zaf (x33.zg r) hr rfl x33.zm x33.zk x33.zb (zaa (jv 0) (zaa (jv 4) (zaa (jv 6) zac)))))))))
  (zad (zaM (zbE (zaf (x55.zg r) hr rfl x55.zm x55.zk x55.zb (zaa (jv 0) (zaa (jv 4) zac)))) (zah (zal zfq)) zaw)
  (zah (zao (i:=3) sc58.nd rfl (Or.inl rfl) (jv 5)))))))
  (zah (zal zfq))))
þ o59{f:Addr}{d:FuncData}(F:Fun K "_law_rounds" "_law_rounds" s59 f d) (x30:C30 P w K mg base) (y_TooGreat:Ncl mg "TooGreat") (e_TooGreat_TooGreat:PySem.W.exmOne K (.ref y_TooGreat.xC) (.ref y_TooGreat.xC)=some true) (v_TooGreat:XcIn K "TooGreat" y_TooGreat.xC):Ok P w K mg base f d ["book", "shape", "limit"] zcI:=zcr rfl λr ih=>zaG F sc59 rfl rfl λ_ _ _ _ _ _ hr=>(zad (zao (i:=3) sc59.nd rfl (Or.inl rfl) zcM)
  (zad (zuQ (λ_ _=>(zuL (zvl (i:=3) sc59.nd rfl (Or.inl rfl) (zrH (x30.zg r) hr rfl x30.zm x30.zk x30.zb (zaa (jv 0) (zaa (jv 1) (zaa (jv 2) zac))))))) (alc ⟨y_TooGreat.xC,v_TooGreat,e_TooGreat_TooGreat⟩ aln) (λ_ _=>(zah (zao (i:=3) sc59.nd rfl (Or.inl rfl) zcM))) rfl y_TooGreat.xm)
  (zah (zal (jv 3)))))
þ o60{f:Addr}{d:FuncData}(F:Fun K "_law_within" "_law_within" s60 f d) (x41:C41 P w K mg base) (y_TooGreat:Ncl mg "TooGreat") (e_TooGreat_TooGreat:PySem.W.exmOne K (.ref y_TooGreat.xC) (.ref y_TooGreat.xC)=some true) (v_TooGreat:XcIn K "TooGreat" y_TooGreat.xC):Ok P w K mg base f d ["book", "road", "other"] zcH:=zcr rfl λr ih=>zaG F sc60 rfl rfl λ_ _ _ _ _ _ hr=>(zad (zao (i:=3) sc60.nd rfl (Or.inl rfl) zcM)
  (zad (zuQ (λ_ _=>(zuL (zvl (i:=3) sc60.nd rfl (Or.inl rfl) (zrH (x41.zg r) hr rfl x41.zm x41.zk x41.zb (zaa (jv 0) (zaa (jv 1) (zaa (jv 2) zac))))))) (alc ⟨y_TooGreat.xC,v_TooGreat,e_TooGreat_TooGreat⟩ aln) (λ_ _=>(zah (zao (i:=3) sc60.nd rfl (Or.inl rfl) zcM))) rfl y_TooGreat.xm)
  (zah (zal (jv 3)))))
þ o61{f:Addr}{d:FuncData}(F:Fun K "law" "law" s61 f d) (x43:C43 P w K mg base) (x49:C49 P w K mg base) (x51:C51 P w K mg base) (x57:C57 P w K mg base) (x42:C42 P w K mg base) (x50:C50 P w K mg base) (x59:C59 P w K mg base) (x58:C58 P w K mg base) (x60:C60 P w K mg base) (x56:C56 P w K mg base) (x38:C38 P w K mg base) (x34:C34 P w K mg base) (n_l:mg "len" =none):Ok P w K mg base f d ["script"] zep:=zcr rfl λr ih=>by
  ¤zaG F sc61 rfl rfl λ_ _ _ _ _ _ hr=>?_;delta zet zdO zdK zbl zbm zbN zbL zbU zdj zdw zdD zdE zdB zeA zeH zez;delta zdU;delta zet zdO zdK zbl zbm zbN zbL zbU zdj zdw zdD zdE zdB zeA zeH zez;§(zad (zao (i:=1) sc61.nd rfl (Or.inr rfl) (zaf (x43.zg r) hr rfl x43.zm x43.zk x43.zb (zaa (zaf (x42.zg r) hr rfl x42.zm x42.zk x42.zb (zaa (jv 0) (zaa zae zac))) (zaa (zaf (x42.zg r) hr rfl x42.zm x42.zk x42.zb (zaa (jv 0) (zaa zae zac))) (zaa zfq zac)))))
  (zad (zao (i:=2) sc61.nd rfl (Or.inl rfl) (zaf (x43.zg r) hr rfl x43.zm x43.zk x43.zb (zaa (zaf (x42.zg r) hr rfl x42.zm x42.zk x42.zb (zaa (jv 0) (zaa zae zac))) (zaa (zaf (x42.zg r) hr rfl x42.zm x42.zk x42.zb (zaa (jv 0) (zaa zae zac))) (zaa zfq zac)))))
  (zad (zao (i:=3) sc61.nd rfl (Or.inl rfl) (zaf (x49.zg r) hr rfl x49.zm x49.zk x49.zb (zaa (jv 0) (zaa zae (zaa (jv 1) (zaa (jv 2) zac))))))
  (zad (zaM (zeL hr (zcs (zcA (zaf (x42.zg r) hr rfl x42.zm x42.zk x42.zb (zaa (jv 0) (zaa zae zac))) zae) zae) zae) (zah (zeJ (i:=3) (N:=["title", "left", "right", "w"]) (k:=3) (fr:=[1]) sc61.nd rfl (Or.inl rfl) ⟨rfl,by decide +kernel,rfl,rfl,rfl,rfl,rfl,rfl,rfl⟩ (zaN (jv 3)) (λ_ _ _ _=>(zfR (zaP (zap (i:=0) (show List.Nodup [("title" :Str),("left" :Str),("right" :Str),("w" :Str)] from by decide +kernel) rfl (Or.inl rfl)) (zaP (zap (i:=1) (show List.Nodup [("title" :Str),("left" :Str),("right" :Str),("w" :Str)] from by decide +kernel) rfl (Or.inl rfl)) (zaP (zap (i:=2) (show List.Nodup [("title" :Str),("left" :Str),("right" :Str),("w" :Str)] from by decide +kernel) rfl (Or.inl rfl)) zew))) (glS (glS (glS gl0))))) (λ_ _ _ _=>zaV) (λ_ _ _ _=>(zav (zaa (jv 0) (zaa (jv 1) (zaa (zaf (x56.zg r) hr rfl x56.zm x56.zk x56.zb (zaa (jv 2) (zaa (zaL (zaK zac)) (zaa (zas (jv 3) zae) zac)))) zac))))))) zaw)
  (zad (zao (i:=4) sc61.nd rfl (Or.inl rfl) (zaf (x51.zg r) hr rfl x51.zm x51.zk x51.zb (zaa (zaf (x50.zg r) hr rfl x50.zm x50.zk x50.zb (zaa (zdk (jv 0) (zaH zae) zaI) (zaa (jv 3) (zaa (jv 1) (zaa zae zac))))) (zaa (jv 3) (zaa zae zac)))))
  (zad (zao (i:=5) sc61.nd rfl (Or.inl rfl) (zaf (x57.zg r) hr rfl x57.zm x57.zk x57.zb (zaa (jv 3) (zaa (jv 4) (zaa (zdk (jv 0) (zaH zae) (zaH zae)) (zaa (zcs (zcA (zaf (x42.zg r) hr rfl x42.zm x42.zk x42.zb (zaa (jv 0) (zaa zae zac))) zae) zae) zac))))))
  (zad (zbR (zxL (zaK (zaa (zcg rfl n_l (zaa (zas (jv 5) zae) zac)) (zaa (zbk (zcg rfl n_l (zaa (zas (jv 5) zae) zac)) zae) zac)))) (zap (i:=6) sc61.nd rfl (Or.inl rfl)) (zad (zao (i:=7) sc61.nd rfl (Or.inl rfl) (zaf (x59.zg r) hr rfl x59.zm x59.zk x59.zb (zaa (jv 3) (zaa (jv 4) (zaa (jv 6) zac)))))
  (zah (zaM (zer (jv 7) zcM) (zad (zao (i:=8) sc61.nd rfl (Or.inl rfl) (zaf (x58.zg r) hr rfl x58.zm x58.zk x58.zb (zaa (jv 3) (zaa (zas (jv 5) zae) (zaa (zas (zas (jv 7) zae) zae) zac)))))
  (zad (zao (i:=9) sc61.nd rfl (Or.inl rfl) (zaf (x60.zg r) hr rfl x60.zm x60.zk x60.zb (zaa (jv 3) (zaa (jv 5) (zaa (zas (jv 7) zae) zac)))))
  (zad (zaM (JW.jt (zqc (JW.jt (zgl (zbE (jv 8)) (zeB (zer (jv 9) zfq)))) (zly (JW.jt (zgl (zhB (zbE (jv 8))) (zeB (zer (jv 9) zcM))))))) (zah (zal zfq)) zaw)
  (zah (zaM (zbE (jv 8)) (zad (zao (i:=10) sc61.nd rfl (Or.inl rfl) (zaf (x38.zg r) hr rfl x38.zm x38.zk x38.zb (zaa (jv 3) (zaa (jv 5) (zaa (zas (jv 7) zae) zac)))))
  (zah (zaM (zxr hr (zaf (x34.zg r) hr rfl x34.zm x34.zk x34.zb (zaa (jv 3) (zaa (jv 10) zac))) (zaf (x34.zg r) hr rfl x34.zm x34.zk x34.zb (zaa (jv 3) (zaa (zas (jv 7) zae) zac)))) (zah (zal zfq)) zaw))) zaw))))) zaw))))
  (zah (zal zfq)))))))))
end
þ all_mk{l:PySem.W.OpenLaw}{w:World}{K:Ƒ}{h:Heap}{mg:Str→Option Value}{fa:Addr}(X:K.In h) (G:h.Ns mainGlobals mg) (hfa:mg "law" =some (.ref fa))
  (D0:Dfn K "parts_of" s0)
  (D1:Dfn K "parts_of_all" s1)
  (D2:Dfn K "is_small" s2)
  (D4:Dfn K "places" s4)
  (D3:Dfn K "gather_places" s3)
  (D6:Dfn K "part" s6)
  (D5:Dfn K "numbered_part" s5)
  (D7:Dfn K "blank_places" s7)
  (D8:Dfn K "filled" s8)
  (D11:Dfn K "matched" s11)
  (D10:Dfn K "gather_matched" s10)
  (D9:Dfn K "have_one_top" s9)
  (D13:Dfn K "is_sign" s13)
  (D12:Dfn K "are_small_letters" s12)
  (D14:Dfn K "turning_of" s14)
  (D15:Dfn K "is_quiet" s15)
  (D18:Dfn K "source" s18)
  (D19:Dfn K "goal" s19)
  (D16:Dfn K "only_small" s16)
  (D17:Dfn K "with_sides" s17)
  (D20:Dfn K "part_places" s20)
  (D23:Dfn K "open_uses" s23)
  (D22:Dfn K "gather_open" s22)
  (D21:Dfn K "open_turning" s21)
  (D24:Dfn K "places_of" s24)
  (D28:Dfn K "way_of" s28)
  (D29:Dfn K "full_way" s29)
  (D27:Dfn K "way_with" s27)
  (D26:Dfn K "way_within" s26)
  (D25:Dfn K "turned_top" s25)
  (D30:Dfn K "rounds" s30)
  (D33:Dfn K "behind" s33)
  (D31:Dfn K "one_source" s31)
  (D32:Dfn K "moved" s32)
  (D34:Dfn K "end" s34)
  (D37:Dfn K "grid" s37)
  (D36:Dfn K "moved_along" s36)
  (D35:Dfn K "check_goals" s35)
  (D38:Dfn K "road_joined" s38)
  (D41:Dfn K "within" s41)
  (D40:Dfn K "last_downs" s40)
  (D39:Dfn K "are_quiet" s39)
  (D42:Dfn K "_law_cell" s42)
  (D43:Dfn K "_law_words" s43)
  (D44:Dfn K "_law_count" s44)
  (D45:Dfn K "_law_filled" s45)
  (D46:Dfn K "_law_item" s46)
  (D47:Dfn K "_law_right" s47)
  (D48:Dfn K "_law_lefts" s48)
  (D49:Dfn K "_law_book" s49)
  (D50:Dfn K "_law_plan" s50)
  (D51:Dfn K "_law_way" s51)
  (D52:Dfn K "_law_made" s52)
  (D54:Dfn K "_law_size" s54)
  (D53:Dfn K "_law_side_size" s53)
  (D55:Dfn K "_law_great" s55)
  (D56:Dfn K "_law_once" s56)
  (D57:Dfn K "_law_road" s57)
  (D58:Dfn K "_law_fit" s58)
  (D59:Dfn K "_law_rounds" s59)
  (D60:Dfn K "_law_within" s60)
  (D61:Dfn K "law" s61)
  (z_ValueError:PySem.W.nsIn K mainGlobals "ValueError" =some none)
  (z_a:PySem.W.nsIn K mainGlobals "all" =some none)
  (z_d:PySem.W.nsIn K mainGlobals "dict" =some none)
  (z_e:PySem.W.nsIn K mainGlobals "enumerate" =some none)
  (z_n:PySem.W.nsIn K mainGlobals "int" =some none)
  (z_i:PySem.W.nsIn K mainGlobals "isinstance" =some none)
  (z_l:PySem.W.nsIn K mainGlobals "len" =some none)
  (z_s:PySem.W.nsIn K mainGlobals "list" =some none)
  (z_x:PySem.W.nsIn K mainGlobals "max" =some none)
  (z_m:PySem.W.nsIn K mainGlobals "min" =some none)
  (z_r:PySem.W.nsIn K mainGlobals "range" =some none)
  (z_u:PySem.W.nsIn K mainGlobals "sum" =some none)
  (z_t:PySem.W.nsIn K mainGlobals "tuple" =some none)
  (z_z:PySem.W.nsIn K mainGlobals "zip" =some none)
  {t_MOST_HEAVY:Tok}(z_MOST_HEAVY:PySem.W.nsIn K mainGlobals "MOST_HEAVY" =some (some (.int 400 t_MOST_HEAVY)))
  {t_MOST_DEEP:Tok}(z_MOST_DEEP:PySem.W.nsIn K mainGlobals "MOST_DEEP" =some (some (.int 40 t_MOST_DEEP)))
  {t_MOST_LETTERS:Tok}(z_MOST_LETTERS:PySem.W.nsIn K mainGlobals "MOST_LETTERS" =some (some (.int 8 t_MOST_LETTERS)))
  {t_LEFT:Tok}(z_LEFT:PySem.W.nsIn K mainGlobals "LEFT" =some (some (.int 1 t_LEFT)))
  {t_RIGHT:Tok}(z_RIGHT:PySem.W.nsIn K mainGlobals "RIGHT" =some (some (.int 2 t_RIGHT)))
  {C_Apart:Addr}(z_Apart:PySem.W.nsIn K mainGlobals "Apart" =some (some (.ref C_Apart)))
  {C_NoPlace:Addr}(z_NoPlace:PySem.W.nsIn K mainGlobals "NoPlace" =some (some (.ref C_NoPlace)))
  {C_NoUse:Addr}(z_NoUse:PySem.W.nsIn K mainGlobals "NoUse" =some (some (.ref C_NoUse)))
  {C_TooGreat:Addr}(z_TooGreat:PySem.W.nsIn K mainGlobals "TooGreat" =some (some (.ref C_TooGreat)))
  (ze_TooGreat_TooGreat:PySem.W.exmOne K (.ref C_TooGreat) (.ref C_TooGreat)=some true)
  (za_Apart:PySem.W.excIn K C_Apart bmV "ValueError.__new__" =true) (zb_Apart:PySem.W.findIn K (.ref C_Apart) "__getattribute__" =some (some (.builtin "BaseException.__getattribute__"))) (zc_Apart:PySem.W.findIn K (.ref C_Apart) "__getattr__" =some none) (zd_Apart:PySem.W.findIn K (.ref C_Apart) "__class__" =some (some (.builtin "object.__class__"))) (ze_Apart:PySem.W.mroIn K C_Apart (.type "object")=some true) (zf_Apart:PySem.W.mroIn K C_Apart (.type "BaseException")=some true)
  (za_NoPlace:PySem.W.excIn K C_NoPlace bmV "ValueError.__new__" =true) (zb_NoPlace:PySem.W.findIn K (.ref C_NoPlace) "__getattribute__" =some (some (.builtin "BaseException.__getattribute__"))) (zc_NoPlace:PySem.W.findIn K (.ref C_NoPlace) "__getattr__" =some none) (zd_NoPlace:PySem.W.findIn K (.ref C_NoPlace) "__class__" =some (some (.builtin "object.__class__"))) (ze_NoPlace:PySem.W.mroIn K C_NoPlace (.type "object")=some true) (zf_NoPlace:PySem.W.mroIn K C_NoPlace (.type "BaseException")=some true)
  (za_NoUse:PySem.W.excIn K C_NoUse bmV "ValueError.__new__" =true) (zb_NoUse:PySem.W.findIn K (.ref C_NoUse) "__getattribute__" =some (some (.builtin "BaseException.__getattribute__"))) (zc_NoUse:PySem.W.findIn K (.ref C_NoUse) "__getattr__" =some none) (zd_NoUse:PySem.W.findIn K (.ref C_NoUse) "__class__" =some (some (.builtin "object.__class__"))) (ze_NoUse:PySem.W.mroIn K C_NoUse (.type "object")=some true) (zf_NoUse:PySem.W.mroIn K C_NoUse (.type "BaseException")=some true)
  (za_TooGreat:PySem.W.excIn K C_TooGreat bmV "ValueError.__new__" =true) (zb_TooGreat:PySem.W.findIn K (.ref C_TooGreat) "__getattribute__" =some (some (.builtin "BaseException.__getattribute__"))) (zc_TooGreat:PySem.W.findIn K (.ref C_TooGreat) "__getattr__" =some none) (zd_TooGreat:PySem.W.findIn K (.ref C_TooGreat) "__class__" =some (some (.builtin "object.__class__"))) (ze_TooGreat:PySem.W.mroIn K C_TooGreat (.type "object")=some true) (zf_TooGreat:PySem.W.mroIn K C_TooGreat (.type "BaseException")=some true)
  :∃fd:FuncData,(∀(s:Shared) (v:Value),BindsTo s fd ⟨[v],[]⟩ [("script",v)])∧ ∀base:Heap,K.In base→base.Ns mainGlobals mg→FnOk l.prog w K mg base (CX1 l.prog w) 200 fa fd ["script"] (zdn K (zep 200)):=by
 ø⟨f61,d61,a61,F61⟩:=D61;have e:=hfa.symm.trans (PySem.W.mg_of X G a61);cases e;have n_ValueError:=PySem.W.mg_none_of X G z_ValueError;have n_a:=PySem.W.mg_none_of X G z_a;have n_d:=PySem.W.mg_none_of X G z_d;have n_e:=PySem.W.mg_none_of X G z_e;have n_n:=PySem.W.mg_none_of X G z_n;have n_i:=PySem.W.mg_none_of X G z_i;have n_l:=PySem.W.mg_none_of X G z_l;have n_s:=PySem.W.mg_none_of X G z_s;have n_x:=PySem.W.mg_none_of X G z_x;have n_m:=PySem.W.mg_none_of X G z_m;have n_r:=PySem.W.mg_none_of X G z_r;have n_u:=PySem.W.mg_none_of X G z_u;have n_t:=PySem.W.mg_none_of X G z_t;have n_z:=PySem.W.mg_none_of X G z_z;have g_MOST_HEAVY:=PySem.W.mg_of X G z_MOST_HEAVY;have g_MOST_DEEP:=PySem.W.mg_of X G z_MOST_DEEP;have g_MOST_LETTERS:=PySem.W.mg_of X G z_MOST_LETTERS;have g_LEFT:=PySem.W.mg_of X G z_LEFT;have g_RIGHT:=PySem.W.mg_of X G z_RIGHT;¤⟨d61,λs v=>?_,λbase _ _=>?_⟩
 ·ø⟨oc,od,kV,doc,pm,an,cdv,ct,osl,rfl,lk,hcd⟩:=F61.ex;§.of_eq rfl
 ø⟨f,d,a,F⟩:=D0;have x0:=mkC (base:=base) X G F a (o0 (P:=l.prog) (w:=w) F n_i n_n) (F.binds λ_ _ _ _ _ _=>n1 λ_=>rfl);ø⟨f,d,a,F⟩:=D1;have x1:=mkC (base:=base) X G F a (o1 (P:=l.prog) (w:=w) F x0) (F.binds λ_ _ _ _ _ _=>n1 λ_=>rfl);ø⟨f,d,a,F⟩:=D2;have x2:=mkC (base:=base) X G F a (o2 (P:=l.prog) (w:=w) F x1 n_l g_MOST_HEAVY g_MOST_DEEP) (F.binds λ_ _ _ _ _ _=>n1 λ_=>rfl);ø⟨f,d,a,F⟩:=D3;have x3:=mkC (base:=base) X G F a (o3 (P:=l.prog) (w:=w) F x0 (F.binds λ_ _ _ _ _ _=>n3 λ_ _ _=>rfl) (PySem.W.mg_of X G a) n_e) (F.binds λ_ _ _ _ _ _=>n3 λ_ _ _=>rfl);ø⟨f,d,a,F⟩:=D4;have x4:=mkC (base:=base) X G F a (o4 (P:=l.prog) (w:=w) F x3) (F.binds λ_ _ _ _ _ _=>n1 λ_=>rfl);ø⟨f,d,a,F⟩:=D5;have x5:=mkC (base:=base) X G F a (o5 (P:=l.prog) (w:=w) F x0 n_l ⟨C_NoPlace,PySem.W.mg_of X G z_NoPlace⟩ ⟨z_NoPlace,za_NoPlace,⟨zb_NoPlace,zc_NoPlace,zd_NoPlace,ze_NoPlace,zf_NoPlace⟩⟩) (F.binds λ_ _ _ _ _ _=>n2 λ_ _=>rfl);ø⟨f,d,a,F⟩:=D6;have x6:=mkC (base:=base) X G F a (o6 (P:=l.prog) (w:=w) F x5) (F.binds λ_ _ _ _ _ _=>n2 λ_ _=>rfl);ø⟨f,d,a,F⟩:=D7;have x7:=mkC (base:=base) X G F a (o7 (P:=l.prog) (w:=w) F x4 x6 n_i n_n) (F.binds λ_ _ _ _ _ _=>n1 λ_=>rfl);ø⟨f,d,a,F⟩:=D8;have x8:=mkC (base:=base) X G F a (o8 (P:=l.prog) (w:=w) F (F.binds λ_ _ _ _ _ _=>n2 λ_ _=>rfl) (PySem.W.mg_of X G a) n_i n_n n_t) (F.binds λ_ _ _ _ _ _=>n2 λ_ _=>rfl);ø⟨f,d,a,F⟩:=D9;have x9:=mkC (base:=base) X G F a (o9 (P:=l.prog) (w:=w) F n_l) (F.binds λ_ _ _ _ _ _=>n2 λ_ _=>rfl);ø⟨f,d,a,F⟩:=D10;have x10:=mkC (base:=base) X G F a (o10 (P:=l.prog) (w:=w) F x9 (F.binds λ_ _ _ _ _ _=>n3 λ_ _ _=>rfl) (PySem.W.mg_of X G a) n_i n_n n_z) (F.binds λ_ _ _ _ _ _=>n3 λ_ _ _=>rfl);ø⟨f,d,a,F⟩:=D11;have x11:=mkC (base:=base) X G F a (o11 (P:=l.prog) (w:=w) F x10) (F.binds λ_ _ _ _ _ _=>n2 λ_ _=>rfl);ø⟨f,d,a,F⟩:=D12;have x12:=mkC (base:=base) X G F a (o12 (P:=l.prog) (w:=w) F n_a) (F.binds λ_ _ _ _ _ _=>n1 λ_=>rfl);ø⟨f,d,a,F⟩:=D13;have x13:=mkC (base:=base) X G F a (o13 (P:=l.prog) (w:=w) F x12 n_l g_MOST_LETTERS) (F.binds λ_ _ _ _ _ _=>n1 λ_=>rfl);ø⟨f,d,a,F⟩:=D14;have x14:=mkC (base:=base) X G F a (o14 (P:=l.prog) (w:=w) F) (F.binds λ_ _ _ _ _ _=>n2 λ_ _=>rfl);ø⟨f,d,a,F⟩:=D15;have x15:=mkC (base:=base) X G F a (o15 (P:=l.prog) (w:=w) F x13 (F.binds λ_ _ _ _ _ _=>n1 λ_=>rfl) (PySem.W.mg_of X G a) n_a) (F.binds λ_ _ _ _ _ _=>n1 λ_=>rfl);ø⟨f,d,a,F⟩:=D16;have x16:=mkC (base:=base) X G F a (o16 (P:=l.prog) (w:=w) F x2 ⟨C_TooGreat,PySem.W.mg_of X G z_TooGreat⟩ ⟨z_TooGreat,za_TooGreat,⟨zb_TooGreat,zc_TooGreat,zd_TooGreat,ze_TooGreat,zf_TooGreat⟩⟩) (F.binds λ_ _ _ _ _ _=>n1 λ_=>rfl);ø⟨f,d,a,F⟩:=D17;have x17:=mkC (base:=base) X G F a (o17 (P:=l.prog) (w:=w) F x14 x8 (F.binds λ_ _ _ _ _ _=>n3 λ_ _ _=>rfl) (PySem.W.mg_of X G a) n_t) (F.binds λ_ _ _ _ _ _=>n3 λ_ _ _=>rfl);ø⟨f,d,a,F⟩:=D18;have x18:=mkC (base:=base) X G F a (o18 (P:=l.prog) (w:=w) F x16 x17 g_LEFT) (F.binds λ_ _ _ _ _ _=>n2 λ_ _=>rfl);ø⟨f,d,a,F⟩:=D19;have x19:=mkC (base:=base) X G F a (o19 (P:=l.prog) (w:=w) F x16 x17 g_RIGHT) (F.binds λ_ _ _ _ _ _=>n2 λ_ _=>rfl);ø⟨f,d,a,F⟩:=D20;have x20:=mkC (base:=base) X G F a (o20 (P:=l.prog) (w:=w) F x14 x7 n_r n_l g_LEFT) (F.binds λ_ _ _ _ _ _=>n2 λ_ _=>rfl);ø⟨f,d,a,F⟩:=D21;have x21:=mkC (base:=base) X G F a (o21 (P:=l.prog) (w:=w) F x11 g_LEFT) (F.binds λ_ _ _ _ _ _=>n2 λ_ _=>rfl);ø⟨f,d,a,F⟩:=D22;have x22:=mkC (base:=base) X G F a (o22 (P:=l.prog) (w:=w) F x21 (F.binds λ_ _ _ _ _ _=>n4 λ_ _ _ _=>rfl) (PySem.W.mg_of X G a) n_e) (F.binds λ_ _ _ _ _ _=>n4 λ_ _ _ _=>rfl);ø⟨f,d,a,F⟩:=D23;have x23:=mkC (base:=base) X G F a (o23 (P:=l.prog) (w:=w) F x22) (F.binds λ_ _ _ _ _ _=>n2 λ_ _=>rfl);ø⟨f,d,a,F⟩:=D24;have x24:=mkC (base:=base) X G F a (o24 (P:=l.prog) (w:=w) F) (F.binds λ_ _ _ _ _ _=>n1 λ_=>rfl);ø⟨f,d,a,F⟩:=D25;have x25:=mkC (base:=base) X G F a (o25 (P:=l.prog) (w:=w) F x21 x11 n_t g_LEFT) (F.binds λ_ _ _ _ _ _=>n2 λ_ _=>rfl);ø⟨f,d,a,F⟩:=D26;have x26:=mkC (base:=base) X G F a (o26 (P:=l.prog) (w:=w) F x25 x20 (F.binds λ_ _ _ _ _ _=>n4 λ_ _ _ _=>rfl) (PySem.W.mg_of X G a) n_z n_t) (F.binds λ_ _ _ _ _ _=>n4 λ_ _ _ _=>rfl);ø⟨f,d,a,F⟩:=D27;have x27:=mkC (base:=base) X G F a (o27 (P:=l.prog) (w:=w) F x26 n_d) (F.binds λ_ _ _ _ _ _=>n3 λ_ _ _=>rfl);ø⟨f,d,a,F⟩:=D28;have x28:=mkC (base:=base) X G F a (o28 (P:=l.prog) (w:=w) F x24 x27 x23 ⟨C_NoUse,PySem.W.mg_of X G z_NoUse⟩ ⟨z_NoUse,za_NoUse,⟨zb_NoUse,zc_NoUse,zd_NoUse,ze_NoUse,zf_NoUse⟩⟩) (F.binds λ_ _ _ _ _ _=>n3 λ_ _ _=>rfl);ø⟨f,d,a,F⟩:=D29;have x29:=mkC (base:=base) X G F a (o29 (P:=l.prog) (w:=w) F x27 x24 x23) (F.binds λ_ _ _ _ _ _=>n2 λ_ _=>rfl);ø⟨f,d,a,F⟩:=D30;have x30:=mkC (base:=base) X G F a (o30 (P:=l.prog) (w:=w) F x23 x29 x19 n_l) (F.binds λ_ _ _ _ _ _=>n3 λ_ _ _=>rfl);ø⟨f,d,a,F⟩:=D31;have x31:=mkC (base:=base) X G F a (o31 (P:=l.prog) (w:=w) F x18 ⟨C_Apart,PySem.W.mg_of X G z_Apart⟩ ⟨z_Apart,za_Apart,⟨zb_Apart,zc_Apart,zd_Apart,ze_Apart,zf_Apart⟩⟩) (F.binds λ_ _ _ _ _ _=>n3 λ_ _ _=>rfl);ø⟨f,d,a,F⟩:=D32;have x32:=mkC (base:=base) X G F a (o32 (P:=l.prog) (w:=w) F x14 x8 x11 (F.binds λ_ _ _ _ _ _=>n3 λ_ _ _=>rfl) (PySem.W.mg_of X G a) n_z n_t g_RIGHT g_LEFT) (F.binds λ_ _ _ _ _ _=>n3 λ_ _ _=>rfl);ø⟨f,d,a,F⟩:=D33;have x33:=mkC (base:=base) X G F a (o33 (P:=l.prog) (w:=w) F x31 x19 x32) (F.binds λ_ _ _ _ _ _=>n3 λ_ _ _=>rfl);ø⟨f,d,a,F⟩:=D34;have x34:=mkC (base:=base) X G F a (o34 (P:=l.prog) (w:=w) F x19) (F.binds λ_ _ _ _ _ _=>n2 λ_ _=>rfl);ø⟨f,d,a,F⟩:=D35;have x35:=mkC (base:=base) X G F a (o35 (P:=l.prog) (w:=w) F x19) (F.binds λ_ _ _ _ _ _=>n2 λ_ _=>rfl);ø⟨f,d,a,F⟩:=D36;have x36:=mkC (base:=base) X G F a (o36 (P:=l.prog) (w:=w) F x32 x35) (F.binds λ_ _ _ _ _ _=>n3 λ_ _ _=>rfl);ø⟨f,d,a,F⟩:=D37;have x37:=mkC (base:=base) X G F a (o37 (P:=l.prog) (w:=w) F x16 x35 x36 x32 n_s n_z ⟨C_Apart,PySem.W.mg_of X G z_Apart⟩ ⟨z_Apart,za_Apart,⟨zb_Apart,zc_Apart,zd_Apart,ze_Apart,zf_Apart⟩⟩) (F.binds λ_ _ _ _ _ _=>n3 λ_ _ _=>rfl);ø⟨f,d,a,F⟩:=D38;have x38:=mkC (base:=base) X G F a (o38 (P:=l.prog) (w:=w) F x37) (F.binds λ_ _ _ _ _ _=>n3 λ_ _ _=>rfl);ø⟨f,d,a,F⟩:=D39;have x39:=mkC (base:=base) X G F a (o39 (P:=l.prog) (w:=w) F x15 n_a) (F.binds λ_ _ _ _ _ _=>n1 λ_=>rfl);ø⟨f,d,a,F⟩:=D40;have x40:=mkC (base:=base) X G F a (o40 (P:=l.prog) (w:=w) F) (F.binds λ_ _ _ _ _ _=>n1 λ_=>rfl);ø⟨f,d,a,F⟩:=D41;have x41:=mkC (base:=base) X G F a (o41 (P:=l.prog) (w:=w) F x39 x40 x37) (F.binds λ_ _ _ _ _ _=>n3 λ_ _ _=>rfl);ø⟨f,d,a,F⟩:=D42;have x42:=mkC (base:=base) X G F a (o42 (P:=l.prog) (w:=w) F n_l) (F.binds λ_ _ _ _ _ _=>n2 λ_ _=>rfl);ø⟨f,d,a,F⟩:=D43;have x43:=mkC (base:=base) X G F a (o43 (P:=l.prog) (w:=w) F n_r n_l n_n) (F.binds λ_ _ _ _ _ _=>n3 λ_ _ _=>rfl);ø⟨f,d,a,F⟩:=D44;have x44:=mkC (base:=base) X G F a (o44 (P:=l.prog) (w:=w) F (F.binds λ_ _ _ _ _ _=>n1 λ_=>rfl) (PySem.W.mg_of X G a) n_i n_n n_u) (F.binds λ_ _ _ _ _ _=>n1 λ_=>rfl);ø⟨f,d,a,F⟩:=D45;have x45:=mkC (base:=base) X G F a (o45 (P:=l.prog) (w:=w) F (F.binds λ_ _ _ _ _ _=>n2 λ_ _=>rfl) (PySem.W.mg_of X G a) n_i n_n n_t) (F.binds λ_ _ _ _ _ _=>n2 λ_ _=>rfl);ø⟨f,d,a,F⟩:=D46;have x46:=mkC (base:=base) X G F a (o46 (P:=l.prog) (w:=w) F) (F.binds λ_ _ _ _ _ _=>n3 λ_ _ _=>rfl);ø⟨f,d,a,F⟩:=D47;have x47:=mkC (base:=base) X G F a (o47 (P:=l.prog) (w:=w) F x46) (F.binds λ_ _ _ _ _ _=>n3 λ_ _ _=>rfl);ø⟨f,d,a,F⟩:=D48;have x48:=mkC (base:=base) X G F a (o48 (P:=l.prog) (w:=w) F) (F.binds λ_ _ _ _ _ _=>n4 λ_ _ _ _=>rfl);ø⟨f,d,a,F⟩:=D49;have x49:=mkC (base:=base) X G F a (o49 (P:=l.prog) (w:=w) F x48 x47 x42 x44 n_r n_e n_l) (F.binds λ_ _ _ _ _ _=>n4 λ_ _ _ _=>rfl);ø⟨f,d,a,F⟩:=D50;have x50:=mkC (base:=base) X G F a (o50 (P:=l.prog) (w:=w) F x44 n_l n_m) (F.binds λ_ _ _ _ _ _=>n4 λ_ _ _ _=>rfl);ø⟨f,d,a,F⟩:=D51;have x51:=mkC (base:=base) X G F a (o51 (P:=l.prog) (w:=w) F x45 (F.binds λ_ _ _ _ _ _=>n3 λ_ _ _=>rfl) (PySem.W.mg_of X G a) n_t) (F.binds λ_ _ _ _ _ _=>n3 λ_ _ _=>rfl);ø⟨f,d,a,F⟩:=D52;have x52:=mkC (base:=base) X G F a (o52 (P:=l.prog) (w:=w) F (F.binds λ_ _ _ _ _ _=>n3 λ_ _ _=>rfl) (PySem.W.mg_of X G a) x45 n_t) (F.binds λ_ _ _ _ _ _=>n3 λ_ _ _=>rfl);ø⟨f,d,a,F⟩:=D53;have x53:=mkC (base:=base) X G F a (o53 (P:=l.prog) (w:=w) F (F.binds λ_ _ _ _ _ _=>n2 λ_ _=>rfl) (PySem.W.mg_of X G a) n_i n_n n_u n_x) (F.binds λ_ _ _ _ _ _=>n2 λ_ _=>rfl);ø⟨f,d,a,F⟩:=D54;have x54:=mkC (base:=base) X G F a (o54 (P:=l.prog) (w:=w) F (F.binds λ_ _ _ _ _ _=>n2 λ_ _=>rfl) (PySem.W.mg_of X G a) x53 n_u n_x) (F.binds λ_ _ _ _ _ _=>n2 λ_ _=>rfl);ø⟨f,d,a,F⟩:=D55;have x55:=mkC (base:=base) X G F a (o55 (P:=l.prog) (w:=w) F x54) (F.binds λ_ _ _ _ _ _=>n2 λ_ _=>rfl);ø⟨f,d,a,F⟩:=D56;have x56:=mkC (base:=base) X G F a (o56 (P:=l.prog) (w:=w) F (F.binds λ_ _ _ _ _ _=>n3 λ_ _ _=>rfl) (PySem.W.mg_of X G a) n_i n_n n_t) (F.binds λ_ _ _ _ _ _=>n3 λ_ _ _=>rfl);ø⟨f,d,a,F⟩:=D57;have x57:=mkC (base:=base) X G F a (o57 (P:=l.prog) (w:=w) F x28 x23 x55 x52 n_l) (F.binds λ_ _ _ _ _ _=>n4 λ_ _ _ _=>rfl);ø⟨f,d,a,F⟩:=D58;have x58:=mkC (base:=base) X G F a (o58 (P:=l.prog) (w:=w) F x55 x33 n_s) (F.binds λ_ _ _ _ _ _=>n3 λ_ _ _=>rfl);ø⟨f,d,a,F⟩:=D59;have x59:=mkC (base:=base) X G F a (o59 (P:=l.prog) (w:=w) F x30 ⟨C_TooGreat,PySem.W.mg_of X G z_TooGreat⟩ ze_TooGreat_TooGreat ⟨z_TooGreat,za_TooGreat,⟨zb_TooGreat,zc_TooGreat,zd_TooGreat,ze_TooGreat,zf_TooGreat⟩⟩) (F.binds λ_ _ _ _ _ _=>n3 λ_ _ _=>rfl);ø⟨f,d,a,F⟩:=D60;have x60:=mkC (base:=base) X G F a (o60 (P:=l.prog) (w:=w) F x41 ⟨C_TooGreat,PySem.W.mg_of X G z_TooGreat⟩ ze_TooGreat_TooGreat ⟨z_TooGreat,za_TooGreat,⟨zb_TooGreat,zc_TooGreat,zd_TooGreat,ze_TooGreat,zf_TooGreat⟩⟩) (F.binds λ_ _ _ _ _ _=>n3 λ_ _ _=>rfl);§o61 F61 x43 x49 x51 x57 x42 x50 x59 x58 x60 x56 x38 x34 n_l 200
þ walk{l:PySem.W.OpenLaw}{q:Program}{loose:List Str}{XP:(Str→Option Value)→Heap→Prop}{YP:World→Heap→Prop}{d:DefRec}{K:Params→Ƒ}(hn:l.most=some 63) (hdf:d.params.defaults=[])
  (hY:∀(w:World) (h:Heap),YP w h→(K w.params).In h)
  (F:∀(w:World) (mg:Str→Option Value) (fa:Addr) (h:Heap),(K w.params).In h→h.Ns mainGlobals mg→mg d.name=some (.ref fa)→
   ∃fd:FuncData,(∀(s:Shared) (u:Value),BindsTo s fd ⟨[u],[]⟩ [("script",u)])∧ ∀base:Heap,(K w.params).In base→base.Ns mainGlobals mg→FnOk l.prog w (K w.params) mg base (CX1 l.prog w) 200 fa fd ["script"] (zdn (K w.params) (zep 200))) :
  PySem.W.WalkO q loose XP YP l.row.toRowW d [] (λf vs=>PySem.call f vs):=
 L2.zxi (n:=63) (k:=200) (x:= "script") (CX:=λw=>CX1 l.prog w) (sp:=λw=>zdn (K w.params) (zep 200)) hn £ hdf ⟨rfl,£,£⟩ hY F (λw H a ns hl hO hS=>ztb hO hS (zzP ns hl)) λ_ _ _ _ _ ⟨_,_,_,_,_,_,_,_,_,z⟩=>z
end K44
open PySem PySem.W PyProof.Rows
set_option maxRecDepth 100000 in
set_option maxHeartbeats 0 in
ŧ 10060655027720922484 10204849697469667545 10205520793989008916 10442432279624246442 10555525059188464201 10586463142804019029 10740433745848182634 10910497117112525907 11115946427618453003 11280793676091472338 11298655953570002984 11313392027329145802 11367514484913519384 1139421754048134842 11424265625394873992 11528206750915704905 11707696797545104722 1176339328117446311 11932983611227423020 11983357568079874853 12341295398226632294 12640790670806071605 12654467084737817275 12899375588131289041 13039666702870821816 13089018938319608221 13239031674167237152 13289559520562280127 13365264997520300715 13484114890559609314 13515864946725887564 13535824736418820312 13575844698447082225 1373150876183863359 13791948331713972694 13797502759859081337 13800859637846639072 13824680402307054579 13877252132924115442 13899454652842714920 1409063863712786715 14107385967777332403 14203733973655442764 14315695466576540986 14405445081889127842 14602241314069143944 14638369365811997372 14722653304371607422 14779866422484275887 1484936147637303664 14873164668774715595 14966215319479997949 15046320372057457632 15269126160482253635 15408337597463989917 15473914731346330036 15475577751763762093 15599917535205862460 15987645886860451564 16120099742028164056 16205056891056204734 1626140479431363020 16383287174403146527 16445630737689703857 16494740733687489428 16507250453117197752 16952329438120610527 16965043772373025974 16990363371000752893 1708143736588058758 17128940901428001830 17130044173372535373 17285584127397622171 17338004794412685085 17380263181792923055 17407232638481300549 17658680328661063222 176653036431623979 17691031922793973248 1774700433812685243 17767468366836729320 17852326100066062257 18145683796534736403 18153410385617560560 18247438791593428043 18431194580543460880 2088634482943604185 2135561857668757375 2289881128866453880 2295095712818494648 23244394139634046 2641248868270629892 2829234992878623547 2908026400843441854 2996617647982118201 3020811781256232780 3122695268490534165 3280636137782043041 3311995071739915520 3782001597322338565 380551093830259592 388934726348109130 3937800351934587404 4043497801976797389 4160709661923195828 422781968133652222 44002791568999103 4444907066133370625 4654033036984705446 4723688936593255088 4779179083932621814 4789799102059177890 4862691738017658013 5012534126640474895 506086024679478199 5115617449774139332 5138461038535478584 5201882877456172058 5554788091798000489 5639021248841575585 5712291933837973292 5769966011531898903 5849542879823489218 5869282342226107238 5925298048990931847 5999996438237286040 6020909039524643451 6025831057052480327 6104972973752497921 624695637798364980 6311872821625927217 6406628256860752998 6420263508227553106 6522163889573002605 6727123357363617294 6778982549368428848 7005429331691495761 7200807206142103085 7253171955975010365 7380881585844422749 7399506993084271010 7504557787825821936 755188814013307681 7644157324683577802 7803585113993560849 7821054300379453320 7827701850453659453 7830604765095875718 785894025335065600 7930769740421244986 802464982735715128 808437465962260822 8145949444939591354 8167639072669814435 8243270809372659899 8277434233272193291 8415673441921371096 8474176143429691147 865800461611132363 8768595245832080105 8782407024413407692 896242990939157966 9089668379016452353 9167068718934536367 9169057436846900848 9764631761396946475 9943152128245709427
theorem PySem.Challenge.cw_turnweave_k44_whole_roads_within_rounds_holds : PySem.Challenge.rw_turnweave_k44_whole_roads_within_rounds.Holds := by
 w_on;o_law;k_head;(case hw=>w_witness2)
 k_fill
 ¤K44.walk (l:=PySem.Challenge.rw_turnweave_k44_whole_roads_within_rounds) rfl rfl (λw h Y=>PySem.W.kIn_of Y) ?F
 case F=>
  intro w mg fa h KX G hmg
  refine' K44.all_mk KX G hmg (K44.dfn ?_ ?_ ?_ ?_) (K44.dfn ?_ ?_ ?_ ?_) (K44.dfn ?_ ?_ ?_ ?_) (K44.dfn ?_ ?_ ?_ ?_) (K44.dfn ?_ ?_ ?_ ?_) (K44.dfn ?_ ?_ ?_ ?_) (K44.dfn ?_ ?_ ?_ ?_) (K44.dfn ?_ ?_ ?_ ?_) (K44.dfn ?_ ?_ ?_ ?_) (K44.dfn ?_ ?_ ?_ ?_) (K44.dfn ?_ ?_ ?_ ?_) (K44.dfn ?_ ?_ ?_ ?_) (K44.dfn ?_ ?_ ?_ ?_) (K44.dfn ?_ ?_ ?_ ?_) (K44.dfn ?_ ?_ ?_ ?_) (K44.dfn ?_ ?_ ?_ ?_) (K44.dfn ?_ ?_ ?_ ?_) (K44.dfn ?_ ?_ ?_ ?_) (K44.dfn ?_ ?_ ?_ ?_) (K44.dfn ?_ ?_ ?_ ?_) (K44.dfn ?_ ?_ ?_ ?_) (K44.dfn ?_ ?_ ?_ ?_) (K44.dfn ?_ ?_ ?_ ?_) (K44.dfn ?_ ?_ ?_ ?_) (K44.dfn ?_ ?_ ?_ ?_) (K44.dfn ?_ ?_ ?_ ?_) (K44.dfn ?_ ?_ ?_ ?_) (K44.dfn ?_ ?_ ?_ ?_) (K44.dfn ?_ ?_ ?_ ?_) (K44.dfn ?_ ?_ ?_ ?_) (K44.dfn ?_ ?_ ?_ ?_) (K44.dfn ?_ ?_ ?_ ?_) (K44.dfn ?_ ?_ ?_ ?_) (K44.dfn ?_ ?_ ?_ ?_) (K44.dfn ?_ ?_ ?_ ?_) (K44.dfn ?_ ?_ ?_ ?_) (K44.dfn ?_ ?_ ?_ ?_) (K44.dfn ?_ ?_ ?_ ?_) (K44.dfn ?_ ?_ ?_ ?_) (K44.dfn ?_ ?_ ?_ ?_) (K44.dfn ?_ ?_ ?_ ?_) (K44.dfn ?_ ?_ ?_ ?_) (K44.dfn ?_ ?_ ?_ ?_) (K44.dfn ?_ ?_ ?_ ?_) (K44.dfn ?_ ?_ ?_ ?_) (K44.dfn ?_ ?_ ?_ ?_) (K44.dfn ?_ ?_ ?_ ?_) (K44.dfn ?_ ?_ ?_ ?_) (K44.dfn ?_ ?_ ?_ ?_) (K44.dfn ?_ ?_ ?_ ?_) (K44.dfn ?_ ?_ ?_ ?_) (K44.dfn ?_ ?_ ?_ ?_) (K44.dfn ?_ ?_ ?_ ?_) (K44.dfn ?_ ?_ ?_ ?_) (K44.dfn ?_ ?_ ?_ ?_) (K44.dfn ?_ ?_ ?_ ?_) (K44.dfn ?_ ?_ ?_ ?_) (K44.dfn ?_ ?_ ?_ ?_) (K44.dfn ?_ ?_ ?_ ?_) (K44.dfn ?_ ?_ ?_ ?_) (K44.dfn ?_ ?_ ?_ ?_) (K44.dfn ?_ ?_ ?_ ?_) ?_ ?_ ?_ ?_ ?_ ?_ ?_ ?_ ?_ ?_ ?_ ?_ ?_ ?_ ?_ ?_ ?_ ?_ ?_ ?_ ?_ ?_ ?_ ?_ ?_ ?_ ?_ ?_ ?_ ?_ ?_ ?_ ?_ ?_ ?_ ?_ ?_ ?_ ?_ ?_ ?_ ?_ ?_ ?_ ?_ ?_ ?_ ?_<;>first |k_is |kit_is | (dsimp only[List.map];kit_is) |kts_exm | (delta L2.bmV;k_exc) |skip
end
