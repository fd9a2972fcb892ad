import PyProof.Rows.All
import Wide.All
import OpenK.AllK
import Wide.FinOn
import Lean
import PyProof.EqAt
import PyProof.EqKinds
import PyProof.TupleCall
import PyProof.NeKinds
import PyProof.ListMulRoad
import PyProof.AttrMissHeap
import KE.KDictOf
import KE.KRevIter
import PyProof.ListRange
import PySem.Challenge.RW_turnweave_k17_uses_of_a_way
section
-- CHANGE: your row's module here, as the last of these rows
set_option Elab.async false
set_option linter.all false
set_option maxRecDepth 100000
namespace L2
open PySem PySem.Spec PyProof.Rows

abbrev Key := Sum Int Str
def keyIs : Key → Value → Bool
  | .inl k, v => Value.isInt k v
  | .inr x, v => Value.isStrOf x v
def keyH (w : World) : Key → Int
  | .inl k => hashInt k
  | .inr x => hashStr w x
theorem zaT : ∀ {k : Key} {v : Value}, keyIs k v = true → (∃ i t, k = Sum.inl i ∧ v = Value.int i t) ∨ (∃ x t, k = Sum.inr x ∧ v = Value.str x t)
  | .inl i, v, h => by
    obtain ⟨t, e⟩ := Value.isInt_shape (k := i) (v := v) h
    exact .inl ⟨i, t, rfl, e⟩
  | .inr x, v, h => by
    obtain ⟨t, e⟩ := Value.isStrOf_shape (x := x) (v := v) h
    exact .inr ⟨x, t, rfl, e⟩
theorem zjL (i : Int) (t : Tok) : keyIs (.inl i) (.int i t) = true := by simp [keyIs, Value.isInt]
theorem zkF (x : Str) (t : Tok) : keyIs (.inr x) (.str x t) = true := by simp [keyIs, Value.isStrOf]
theorem zqc (a b : Int) : decide ((Sum.inl a : Key) = Sum.inl b) = (a == b) := by
  by_cases e : a = b
  · subst e; simp
  · have h : ¬ (Sum.inl a : Key) = Sum.inl b := fun q => e (Sum.inl.inj q)
    rw [decide_eq_false h]
    exact (beq_eq_false_iff_ne.mpr e).symm
theorem zqp (a b : Str) : decide ((Sum.inr a : Key) = Sum.inr b) = decide (a = b) := by
  by_cases e : a = b
  · subst e; simp
  · have h : ¬ (Sum.inr a : Key) = Sum.inr b := fun q => e (Sum.inr.inj q)
    rw [decide_eq_false h, decide_eq_false e]
theorem zrj (a : Int) (b : Str) : decide ((Sum.inl a : Key) = Sum.inr b) = false := decide_eq_false (fun q => nomatch q)
theorem zqu (a : Str) (b : Int) : decide ((Sum.inr a : Key) = Sum.inl b) = false := decide_eq_false (fun q => nomatch q)

def mixKind (prog : Program) (w : World) : PySem.KeyKind prog w Key where
  is := keyIs
  hash := keyH w
  inj := fun v a b ha hb => by
    rcases zaT ha with ⟨i, t, rfl, rfl⟩ | ⟨x, t, rfl, rfl⟩
    · rcases zaT hb with ⟨j, u, rfl, e⟩ | ⟨y, u, rfl, e⟩
      · injection e with e1 _; rw [e1]
      · exact nomatch e
    · rcases zaT hb with ⟨j, u, rfl, e⟩ | ⟨y, u, rfl, e⟩
      · exact nomatch e
      · injection e with e1 _; rw [e1]
  byValue := fun k v h => by
    rcases zaT h with ⟨i, t, rfl, rfl⟩ | ⟨x, t, rfl, rfl⟩ <;> rfl
  pyHash := fun hv h => by
    rcases zaT hv with ⟨i, t, rfl, rfl⟩ | ⟨x, t, rfl, rfl⟩
    · exact wpAny_pyHash_int h
    · exact wpAny_pyHash_str h
  eqBool := fun hu hv h => by
    rcases zaT hu with ⟨i, t, rfl, rfl⟩ | ⟨x, t, rfl, rfl⟩
    · rcases zaT hv with ⟨j, u, rfl, rfl⟩ | ⟨y, u, rfl, rfl⟩
      · rw [zqc] at h; exact wpAny_eqBool_int h
      · rw [zrj] at h; exact SeqAt.EqAt.int_str i t y u _ _ _ _ h
    · rcases zaT hv with ⟨j, u, rfl, rfl⟩ | ⟨y, u, rfl, rfl⟩
      · rw [zqu] at h; exact SeqAt.EqAt.str_int x t j u _ _ _ _ h
      · rw [zqp] at h; exact wpAny_eqBool_str h
  «strs» := fun k x t v h => by
    rcases zaT h with ⟨i, u, rfl, e⟩ | ⟨y, u, rfl, e⟩
    · exact nomatch e
    · injection e with e1 _
      subst e1
      cases v <;> rfl

theorem zgX (prog : Program) (w : World) (i : Int) (t : Tok) : (mixKind prog w).is (.inl i) (.int i t) = true := zjL i t
theorem zhr (prog : Program) (w : World) (x : Str) (t : Tok) : (mixKind prog w).is (.inr x) (.str x t) = true := zkF x t
end L2

namespace L2
open PySem PySem.Spec PyProof.Rows

inductive V where
  | non | bl (b : Bool) | int (i : Int) | str (x : Str) | byt (b : Array UInt8) | flt (b : UInt64) | ref (a : Addr) | ty (n : String)
  deriving DecidableEq

def RelV : V → Value → Prop
  | .non, u => u = Value.none
  | .bl b, u => u = Value.bool b
  | .int i, u => ∃ t, u = Value.int i t
  | .str x, u => ∃ t, u = Value.str x t
  | .byt b, u => ∃ t, u = Value.bytes b t
  | .flt b, u => ∃ t, u = Value.float b t
  | .ref a, u => u = Value.ref a
  | .ty n, u => u = Value.type n

abbrev Vals : List V → List Value → Prop := Paired RelV
theorem Vals.length {xs : List V} {us : List Value} (r : Vals xs us) : xs.length = us.length := Paired.length r
theorem Vals.get : ∀ {xs : List V} {us : List Value} {i : Nat} {x : V}, Vals xs us → xs[i]? = some x → ∃ u, us[i]? = some u ∧ RelV x u
  | _, _, _, _, .nil, e => by simp at e
  | _, _, 0, _, .cons r _, e => by simp at e; subst e; exact ⟨_, rfl, r⟩
  | _, _, i + 1, x, .cons _ t, e => by
    obtain ⟨u, h1, h2⟩ := Vals.get (i := i) (x := x) t (by simpa using e)
    exact ⟨u, by simpa using h1, h2⟩
theorem Vals.append : ∀ {xs ys : List V} {us ws : List Value}, Vals xs us → Vals ys ws → Vals (xs ++ ys) (us ++ ws)
  | _, _, _, _, .nil, s => s
  | _, _, _, _, .cons r t, s => .cons r (Vals.append t s)
theorem Vals.take : ∀ {xs : List V} {us : List Value} (n : Nat), Vals xs us → Vals (xs.take n) (us.take n)
  | _, _, 0, _ => .nil
  | _, _, _ + 1, .nil => .nil
  | _, _, n + 1, .cons r t => .cons r (Vals.take n t)
theorem Vals.drop : ∀ {xs : List V} {us : List Value} (n : Nat), Vals xs us → Vals (xs.drop n) (us.drop n)
  | _, _, 0, r => r
  | _, _, _ + 1, .nil => .nil
  | _, _, n + 1, .cons _ t => Vals.drop n t
def RelO : Option V → Option Value → Prop
  | some v, some u => RelV v u
  | none, none => True
  | _, _ => False
def KV {κ : Type} : List (κ × V) → List (κ × Value) → Prop := Paired fun (p : κ × V) (q : κ × Value) => p.1 = q.1 ∧ RelV p.2 q.2

def kV : Key → V
  | .inl i => .int i
  | .inr x => .str x

inductive HO where
  /-- a list -/
  | lst (xs : List V)
  /-- a tuple (never changes) -/
  | tup (xs : List V)
  /-- a dict whose keys are ints and texts; one whose keys are tuples of ints and texts (the empty one is both) -/
  | dK (kvs : List (Key × V)) | dT (kvs : List (List Key × V))
  /-- a set of ints: its members, its size -/
  | set (S : Int → Bool) (n : Nat)
  /-- an instance of the class at C, its dict at dx, its attributes -/
  | ins (C dx : Addr) (fs : List (Str × V))
  /-- the dict of the instance at x -/
  | own (x : Addr)
  /-- the dict of an exception -/
  | xd (fs : List (Str × V))
  /-- a bound method, f of x -/
  | met (f x : Addr)
  /-- a range object lo, lo + 1, .. below hi -/
  | rng (lo hi : Int)
  /-- a thing that is known to the object (the script; a dict while a loop walks it): read, never written while it is so -/
  | frz (o : Obj) (u : HO)
  /-- a code object's table -/
  | tbl (ps : Array Value)
  /-- any other thing, by what is true of its one object (a def of one's own: SetO a S n := HO.ext fun h => ..) -/
  | ext (φ : Heap → Prop)

abbrev Hp := Addr → Option HO
def upd (H : Hp) (a : Addr) (o : HO) : Hp := fun b => if b = a then some o else H b
theorem zau {H : Hp} {a : Addr} {o : HO} : upd H a o a = some o := by unfold upd; rw [if_pos rfl]
theorem zaq {H : Hp} {a b : Addr} {o : HO} (h : b ≠ a) : upd H a o b = H b := by unfold upd; rw [if_neg h]
theorem zlA {H : Hp} {a b : Addr} {o u : HO} (h : H a = some o) (h' : H b = some u) (d : o ≠ u) : a ≠ b := by
  intro e; subst e; rw [h] at h'; exact d (Option.some.inj h')
theorem zal {H : Hp} {a b : Addr} {o : HO} (h : H a = some o) (h' : H b = none) : a ≠ b := by
  intro e; subst e; rw [h] at h'; cases h'

section
variable (P : Program) (w : World)
def ObjOk (H : Hp) (h : Heap) (a : Addr) : HO → Prop
  | .lst xs => xs.length ≤ sizeLine ∧ ∃ (its : List Value) (n : Nat), Vals xs its ∧ h.get? a = some { cls := .type "list", data := .seq its.toArray n }
  | .tup xs => xs.length ≤ sizeLine ∧ ∃ its : List Value, Vals xs its ∧ IsTup h a its.toArray
  | .dK kvs => kvs.length ≤ sizeLine ∧ (a == sysModules) = false ∧ ∃ vs, KV kvs vs ∧ h.DictOf (mixKind P w) a vs
  | .dT kvs => kvs.length ≤ sizeLine ∧ (a == sysModules) = false ∧ ∃ xs : List (List Key × Addr × Value),
      Paired (fun (p : List Key × V) (q : List Key × Addr × Value) => p.1 = q.1 ∧ H q.2.1 = some (.tup (p.1.map kV)) ∧ RelV p.2 q.2.2) kvs xs ∧
      ∃ o es ep, h.get? a = some o ∧ o.ExactDict ∧ o.data = .dict es ep ∧ es.toList = xs.map (entryOfKey (tupleKind (mixKind P w))) ∧ (xs.map (·.1)).Nodup
  | .set S n => h.SetOf (intKind P w) a S n
  | .ins C dx fs => H dx = some (.own a) ∧ fs.length ≤ 1000 ∧ dx ≠ a ∧ h.get? a = some (PySem.W.instObj C dx) ∧
      ∃ mA, h.Ns1 dx mA ∧ (∀ f, RelO (fs.lookup f) (mA f)) ∧ PySem.Within mA (fs.map (·.1))
  | .own _ => ∃ o, h.get? a = some o
  | .xd fs => ∃ mA, h.Ns1 a mA ∧ ∀ f, RelO (fs.lookup f) (mA f)
  | .rng lo hi => ∃ t u v, h.get? a = some { cls := .type "range", data := .fields #[.int lo t, .int hi u, .int 1 v] }
  | .frz o u => h.get? a = some o ∧ ObjOk H h a u
  | .tbl ps => h.get? a = some { cls := .none, data := .fields ps }
  | .met f x => h.get? a = some (PySem.W.methodObj (.ref f) (.ref x))
  | .ext φ => φ h ∧ (∃ o, h.get? a = some o) ∧ ∀ h1 h2 : Heap, φ h1 → (∀ o, h1.get? a = some o → h2.get? a = some o) → φ h2
def HOk (H : Hp) (h : Heap) : Prop := ∀ a o, H a = some o → ObjOk P w H h a o
end

section
variable {P : Program} {w : World} {H H' : Hp} {h h' : Heap} {a : Addr} {o : HO}
theorem ObjOk.lt (x : ObjOk P w H h a o) : a < h.objs.size := by
  cases o with
  | lst xs => obtain ⟨_, _, _, _, e⟩ := x; exact Heap.lt_size e
  | tup xs => obtain ⟨_, _, _, p⟩ := x; exact p.lt
  | dK kvs => obtain ⟨_, _, _, _, o, _, _, e, _⟩ := x; exact Heap.lt_size e
  | dT kvs => obtain ⟨_, _, _, _, o, _, _, e, _⟩ := x; exact Heap.lt_size e
  | set S n => obtain ⟨o, _, _, _, e, _⟩ := x; exact Heap.lt_size e
  | ins C dx fs => obtain ⟨_, _, _, e, _⟩ := x; exact Heap.lt_size e
  | own y => obtain ⟨_, e⟩ := x; exact Heap.lt_size e
  | xd fs => obtain ⟨_, ⟨_, _, _, e, _⟩, _⟩ := x; exact Heap.lt_size e
  | rng lo hi => obtain ⟨_, _, _, e⟩ := x; exact Heap.lt_size e
  | frz ob u => obtain ⟨e, _⟩ := x; exact Heap.lt_size e
  | tbl ps => exact Heap.lt_size (show h.get? a = some _ from x)
  | met f y => exact Heap.lt_size (show h.get? a = some _ from x)
  | ext φ => obtain ⟨_, ⟨_, e⟩, _⟩ := x; exact Heap.lt_size e
theorem Paired.mapP {α β : Type} {F G : α → β → Prop} : ∀ {l₁ : List α} {l₂ : List β}, Paired F l₁ l₂ → (∀ a b, F a b → G a b) → Paired G l₁ l₂
  | _, _, .nil, _ => .nil
  | _, _, .cons r t, f => .cons (f _ _ r) (Paired.mapP t f)
theorem ObjOk.stay (x : ObjOk P w H h a o) (k : ∀ b u, (b = a ∨ H b = some (.own a)) → h.get? b = some u → h'.get? b = some u)
    (ho : ∀ b, H b = some (.own a) → H' b = some (.own a)) (ht : ∀ b xs, H b = some (.tup xs) → H' b = some (.tup xs)) : ObjOk P w H' h' a o := by
  induction o with
  | lst xs => obtain ⟨z, its, n, r, e⟩ := x; exact ⟨z, its, n, r, k _ _ (.inl rfl) e⟩
  | tup xs => obtain ⟨z, its, r, ob, e, c⟩ := x; exact ⟨z, its, r, ob, k _ _ (.inl rfl) e, c⟩
  | dK kvs => obtain ⟨z, y, vs, r, ob, es, ep, e, c⟩ := x; exact ⟨z, y, vs, r, ob, es, ep, k _ _ (.inl rfl) e, c⟩
  | dT kvs =>
    obtain ⟨z, y, xs, r, ob, es, ep, e, c⟩ := x
    exact ⟨z, y, xs, Paired.mapP r fun p q z => ⟨z.1, ht _ _ z.2.1, z.2.2⟩, ob, es, ep, k _ _ (.inl rfl) e, c⟩
  | set S n => obtain ⟨ob, es, ep, t, e, c⟩ := x; exact ⟨ob, es, ep, t, k _ _ (.inl rfl) e, c⟩
  | ins C dx fs =>
    obtain ⟨d, z, ne, e, mA, ⟨od, es, ep, e2, c⟩, r⟩ := x
    exact ⟨ho _ d, z, ne, k _ _ (.inl rfl) e, mA, ⟨od, es, ep, k _ _ (.inr d) e2, c⟩, r⟩
  | own y => obtain ⟨ob, e⟩ := x; exact ⟨ob, k _ _ (.inl rfl) e⟩
  | xd fs => obtain ⟨mA, ⟨od, es, ep, e, c⟩, r⟩ := x; exact ⟨mA, ⟨od, es, ep, k _ _ (.inl rfl) e, c⟩, r⟩
  | rng lo hi => obtain ⟨t, u, v, e⟩ := x; exact ⟨t, u, v, k _ _ (.inl rfl) e⟩
  | frz ob u ih => obtain ⟨e, q⟩ := x; exact ⟨k _ _ (.inl rfl) e, ih q⟩
  | tbl ps =>
    have e : h.get? a = some { cls := .none, data := .fields ps } := x
    show h'.get? a = some { cls := .none, data := .fields ps }
    exact k a _ (.inl rfl) e
  | met f y =>
    have e : h.get? a = some (PySem.W.methodObj (.ref f) (.ref y)) := x
    show h'.get? a = some (PySem.W.methodObj (.ref f) (.ref y))
    exact k a _ (.inl rfl) e
  | ext φ => obtain ⟨p, ⟨o, e⟩, st⟩ := x; exact ⟨st _ _ p fun o q => k _ _ (.inl rfl) q, ⟨o, k _ _ (.inl rfl) e⟩, st⟩
theorem HOk.lt (x : HOk P w H h) (e : H a = some o) : a < h.objs.size := (x a o e).lt
theorem HOk.fresh (x : HOk P w H h) (e : h.objs.size ≤ a) : H a = none := by
  cases q : H a with
  | none => rfl
  | some u => exact absurd (Nat.lt_of_lt_of_le (x.lt q) e) (Nat.lt_irrefl _)
theorem HOk.kept (x : HOk P w H h) (k : ∀ b u, h.get? b = some u → h'.get? b = some u) : HOk P w H h' := fun a o e =>
  (x a o e).stay (fun b u _ q => k b u q) (fun _ q => q) fun _ _ q => q
theorem HOk.laid (x : HOk P w H h) (k : ∀ b u, h.get? b = some u → h'.get? b = some u) (hp : h.objs.size ≤ a) (new : ObjOk P w (upd H a o) h' a o) : HOk P w (upd H a o) h' := fun b u e => by
  have hn := x.fresh hp
  by_cases hb : b = a
  · subst hb; rw [zau] at e; cases e; exact new
  · rw [zaq hb] at e
    exact (x b u e).stay (fun c v _ q => k c v q) (fun c q => by rw [zaq (zal q hn)]; exact q) fun c xs q => by rw [zaq (zal q hn)]; exact q
end

def Rd (H : Hp) (a : Addr) (u : HO) : Prop := H a = some u ∨ ∃ o, H a = some (.frz o u)
theorem Rd.ok {P : Program} {w : World} {H : Hp} {h : Heap} {a : Addr} {u : HO} (r : Rd H a u) (x : HOk P w H h) : ObjOk P w H h a u := by
  rcases r with r | ⟨o, r⟩
  · exact x a u r
  · obtain ⟨_, q⟩ := x a _ r
    exact q
def Mut : Option HO → Prop
  | some (.lst _) => True
  | some (.dK _) => True
  | some (.dT _) => True
  | some (.set _ _) => True
  | some (.ins _ _ _) => True
  | some (.ext _) => True
  | _ => False
section
variable {P : Program} {w : World} {H : Hp} {h h' : Heap} {x e : Addr} {o' : HO}
theorem HOk.write (ok : HOk P w H h) (mu : Mut (H x)) (he : e = x ∨ H e = some (.own x)) (k : ∀ b u, b ≠ e → h.get? b = some u → h'.get? b = some u) (heo : ∃ u, h'.get? e = some u)
    (new : ObjOk P w (upd H x o') h' x o') : HOk P w (upd H x o') h' := fun b u q => by
  have nown : ∀ c y, H c = some (.own y) → c ≠ x := fun c y r z => by subst z; rw [r] at mu; exact mu
  have ntup : ∀ c xs, H c = some (.tup xs) → c ≠ x := fun c xs r z => by subst z; rw [r] at mu; exact mu
  by_cases hb : b = x
  · subst hb; rw [zau] at q; cases q; exact new
  · rw [zaq hb] at q
    by_cases hbe : b = e
    · have q' : H b = some (.own x) := by
        rcases he with z | z
        · exact absurd (hbe.trans z) hb
        · rw [hbe]; exact z
      rw [q] at q'; cases q'
      obtain ⟨v, hv⟩ := heo
      exact ⟨v, by rw [hbe]; exact hv⟩
    · refine (ok b u q).stay (fun c v hc r => k c v ?_ r) (fun c r => by rw [zaq (nown c b r)]; exact r) fun c xs r => by rw [zaq (ntup c xs r)]; exact r
      rcases hc with rfl | hc
      · exact hbe
      · rintro rfl
        rcases he with z | z
        · exact nown c b hc z
        · rw [hc] at z; cases z; exact hb rfl
end

structure Un (fs ex : List Addr) (H H' : Hp) (h h' : Heap) : Prop where
  keep : ∀ b o, h.get? b = some o → H b = none → b ∉ fs → b ∉ ex → h'.get? b = some o
  slot : ∀ b o, h.get? b = some o → H b = none → b ∈ fs → b ∉ ex → ∃ sl, h'.get? b = some { o with slots := sl }
  free : ∀ b o, h.get? b = some o → H b = none → b ∉ ex → H' b = none
  there : ∀ b o, h.get? b = some o → b ∉ ex → ∃ o', h'.get? b = some o'
  tups : ∀ b xs, H b = some (.tup xs) → H' b = some (.tup xs)
  frzs : ∀ b o u, H b = some (.frz o u) → H' b = some (.frz o u)
  tbls : ∀ b ps, H b = some (.tbl ps) → ∃ more, H' b = some (.tbl (ps ++ more))
section
variable {fs fs' ex ex' : List Addr} {H H1 H2 : Hp} {h h1 h2 h' : Heap} {a x e : Addr} {o : HO}
theorem Un.any (u : Un fs ex H H1 h h1) {b : Addr} {ob : Obj} (q : h.get? b = some ob) (n : H b = none) (hx : b ∉ ex) : ∃ sl, h1.get? b = some { ob with slots := sl } := by
  by_cases hb : b ∈ fs
  · exact u.slot b ob q n hb hx
  · exact ⟨ob.slots, u.keep b ob q n hb hx⟩
theorem Un.trans (a : Un fs ex H H1 h h1) (b : Un fs ex H1 H2 h1 h2) : Un fs ex H H2 h h2 where
  keep := fun c ob q n hc hx => b.keep c ob (a.keep c ob q n hc hx) (a.free c ob q n hx) hc hx
  slot := fun c ob q n hc hx => by
    obtain ⟨sl, e1⟩ := a.slot c ob q n hc hx
    obtain ⟨sl', e2⟩ := b.slot c _ e1 (a.free c ob q n hx) hc hx
    exact ⟨sl', e2⟩
  free := fun c ob q n hx => by
    obtain ⟨o', e1⟩ := a.there c ob q hx
    exact b.free c o' e1 (a.free c ob q n hx) hx
  there := fun c ob q hx => by
    obtain ⟨o', e1⟩ := a.there c ob q hx
    exact b.there c o' e1 hx
  tups := fun c xs q => b.tups c xs (a.tups c xs q)
  frzs := fun c ob xs q => b.frzs c ob xs (a.frzs c ob xs q)
  tbls := fun c ps q => by
    obtain ⟨m1, e1⟩ := a.tbls c ps q
    obtain ⟨m2, e2⟩ := b.tbls c _ e1
    exact ⟨m1 ++ m2, by rw [e2, Array.append_assoc]⟩
theorem Un.kept (k : ∀ b u, h.get? b = some u → h'.get? b = some u) : Un fs ex H H h h' :=
  ⟨fun b ob q _ _ _ => k b ob q, fun b ob q _ _ _ => ⟨ob.slots, k b ob q⟩, fun _ _ _ n _ => n, fun b ob q _ => ⟨ob, k b ob q⟩, fun _ _ q => q, fun _ _ _ q => q, fun _ ps q => ⟨#[], by rw [q]; simp⟩⟩
theorem Un.refl : Un fs ex H H h h := Un.kept fun _ _ q => q
theorem Un.laid (k : ∀ b u, h.get? b = some u → h'.get? b = some u) (hp : h.objs.size ≤ a) (hn : H a = none) : Un fs ex H (upd H a o) h h' where
  keep := fun b u q _ _ _ => k b u q
  slot := fun b u q _ _ _ => ⟨u.slots, k b u q⟩
  free := fun b u q n _ => by rw [zaq (Nat.ne_of_lt (Nat.lt_of_lt_of_le (Heap.lt_size q) hp))]; exact n
  there := fun b u q _ => ⟨u, k b u q⟩
  tups := fun b xs q => by rw [zaq (zal q hn)]; exact q
  frzs := fun b u xs q => by rw [zaq (zal q hn)]; exact q
  tbls := fun b ps q => ⟨#[], by rw [zaq (zal q hn), q]; simp⟩
theorem Un.write (mu : Mut (H x)) (he : e = x ∨ H e = some (.own x)) (k : ∀ b u, b ≠ e → h.get? b = some u → h'.get? b = some u) (heo : ∃ u, h'.get? e = some u) : Un fs ex H (upd H x o) h h' := by
  have hx : ∀ b, H b = none → b ≠ x := fun b n z => by subst z; rw [n] at mu; exact mu
  have hb : ∀ b, H b = none → b ≠ e := fun b n z => by
    subst z
    rcases he with r | r
    · exact hx b n r
    · rw [n] at r; cases r
  have hm : ∀ b u, H b = some u → ¬ Mut (some u) → b ≠ x := fun b u q nm z => by subst z; rw [q] at mu; exact nm mu
  refine ⟨fun b u q n _ _ => k b u (hb b n) q, fun b u q n _ _ => ⟨u.slots, k b u (hb b n) q⟩, fun b u q n _ => by rw [zaq (hx b n)]; exact n, fun b u q _ => ?_,
    fun b xs q => by rw [zaq (hm b _ q fun z => z)]; exact q, fun b u xs q => by rw [zaq (hm b _ q fun z => z)]; exact q, fun b ps q => ⟨#[], by rw [zaq (hm b _ q fun z => z), q]; simp⟩⟩
  by_cases hbe : b = e
  · subst hbe; exact heo
  · exact ⟨u, k b u hbe q⟩
end

def trk (h : Heap) (H : Hp) : List Addr := (List.range h.objs.size).filter fun a => (H a).isSome
def hidT (h : Heap) (H : Hp) : Heap := PySem.W.hideAll h (trk h H)
theorem zjX (h : Heap) (H : Hp) : (hidT h H).objs.size = h.objs.size := PySem.W.hideAll_size _ _
theorem zmn {h : Heap} {H : Hp} {b : Addr} {o : Obj} (e : h.get? b = some o) (n : H b = none) : (hidT h H).get? b = some o :=
  PySem.W.hideAll_get _ e fun hm => by
    have q : (H b).isSome = true := (List.mem_filter.mp hm).2
    rw [n] at q; simp at q
theorem znL {h : Heap} {H : Hp} {b : Addr} {o : Obj} (e : (hidT h H).get? b = some o) : h.get? b = some o ∧ H b = none := by
  have e' : h.get? b = some o := PySem.W.of_hideAll (trk h H) e
  refine ⟨e', ?_⟩
  cases q : H b with
  | none => rfl
  | some x =>
    have hm : b ∈ trk h H := List.mem_filter.mpr ⟨List.mem_range.mpr (Heap.lt_size e'), by simp [q]⟩
    have z : (hidT h H).get? b = none := PySem.W.hideAll_none (trk h H) hm
    rw [z] at e; cases e

def allNews (g h : Heap) (L : Addr) : List (Addr × Obj) := (List.range h.objs.size).filterMap fun a => if a = L ∨ (g.get? a).isSome = true then none else (h.get? a).map fun o => (a, o)
def rest (g h : Heap) (L d : Addr) : List (Addr × Obj) := (allNews g h L).filter fun p => decide (p.1 ≠ d)
end L2

namespace L2
open PySem PySem.Spec PyProof.Rows

structure Mod (K : PySem.W.Frag) (mg : Str → Option Value) (base : Heap) : Prop where
  kin : K.In base
  glob : base.Ns mainGlobals mg
  blt : ∃ mb, base.Ns builtinsNs mb ∧ ∀ x : Str, x ≠ "__name__" → mb x = bootBuiltins x
  nolimit : base.NoLimit

structure Cx where
  prog : Program
  w : World
  K : PySem.W.Frag
  mg : Str → Option Value
  base : Heap
  A : Around
  N : List Str
  s₀ : Shared
  H₀ : Hp
  env : Env
  outer : List Env
  stack : List Env
  ex : List Addr
  fn : Str → Bool
  calm : Bool
  pn : List (Addr × Obj)
  xe : Value → Shared → Prop
def frs (l : List Env) : List Addr := l.filterMap (·.frame)
abbrev Cx.fs (X : Cx) : List Addr := frs X.outer

def Vis (sc : Scope) (x : Str) : Prop := sc.names.lookup x = some .local ∨ sc.names.lookup x = some .cell ∨ sc.names.lookup x = some .free
def Loc (sc : Scope) (x : Str) : Prop := sc.names.lookup x = some .local ∨ sc.names.lookup x = some .cell
def Look (env : Env) (h : Heap) (m : Str → Option Value) (x : Str) (u : Value) : Prop :=
  (env.kindOf x = some .local ∧ m x = some u) ∨ ((env.kindOf x = some .cell ∨ env.kindOf x = some .free) ∧ ∃ c, env.cells.lookup x = some c ∧ h.IsCell c (some u))

structure Cx.Ok (X : Cx) : Prop where
  mod : Mod X.K X.mg X.base
  kind : X.env.scope.kind = .function
  glob : X.env.globals = mainGlobals
  blt : X.env.builtins = builtinsNs
  above : X.s₀.heap.objs.size ≤ X.env.locals
  inj : ∀ x y c, X.env.cells.lookup x = some c → X.env.cells.lookup y = some c → x = y
  has : ∀ x, (X.env.kindOf x = some .cell ∨ X.env.kindOf x = some .free) → ∃ c, X.env.cells.lookup x = some c
  cab : ∀ x c, X.fn x = true → X.env.cells.lookup x = some c → X.s₀.heap.objs.size ≤ c
  hd : X.calm = true → X.A.handled = none
  frames : X.A.frames = some X.stack
  stk : X.stack = X.outer ∨ (X.stack = X.env :: X.outer ∧ X.env.frame = some X.env.locals)
  exf : ∀ b ∈ X.ex, b ≠ X.env.locals ∧ ∀ x c, X.env.cells.lookup x = some c → c ≠ b
  bs : ∀ b o, X.base.get? b = some o → X.s₀.heap.get? b = some o ∧ X.H₀ b = none
  bsz : X.base.objs.size ≤ X.s₀.heap.objs.size
  noex : ∀ b o, X.base.get? b = some o → b ∉ X.ex
  exfs : ∀ b ∈ X.ex, b ∉ X.fs
  funs : X.s₀.heap.FunFrames X.base X.outer
  frf : ∀ b ∈ X.fs, X.H₀ b = none

structure Inv (X : Cx) (pins : List (Addr × Obj)) (σ : List (Option V)) (H : Hp) (s : Shared) : Prop where
  ok : X.Ok
  os : s.os = X.s₀.os
  bare : AllBare s.gens
  base : Un X.fs X.ex X.H₀ H X.s₀.heap s.heap
  loc : ∃ m, s.heap.Ns X.env.locals m ∧ ∀ (i : Nat) (x : Str) (v : V), X.N[i]? = some x → σ[i]? = some (some v) → Vis X.env.scope x → ∃ u, RelV v u ∧ Look X.env s.heap m x u
  cell : ∀ x c, X.env.cells.lookup x = some c → ∃ v, s.heap.IsCell c v
  free : H X.env.locals = none
  freeC : ∀ x c, X.env.cells.lookup x = some c → H c = none
  pin : ∀ p ∈ X.pn ++ pins, s.heap.get? p.1 = some p.2 ∧ H p.1 = none ∧ p.1 ≠ X.env.locals ∧ p.1 ∉ X.fs ∧ ∀ v, p.2.data ≠ .cell v
  hok : HOk X.prog X.w H s.heap
  len : σ.length = X.N.length

section
variable {X : Cx} {pins : List (Addr × Obj)} {σ : List (Option V)} {H H' : Hp} {s : Shared} {h' : Heap}

theorem Cx.Ok.nofr (ok : X.Ok) {b : Addr} {o : Obj} (e : X.base.get? b = some o) : b ∉ X.fs := fun hb => by
  have := (ok.funs.mem hb).1
  rw [e] at this; cases this
theorem Inv.bs (I : Inv X pins σ H s) : ∀ b o, X.base.get? b = some o → s.heap.get? b = some o ∧ H b = none := fun b o e =>
  ⟨I.base.keep b o (I.ok.bs b o e).1 (I.ok.bs b o e).2 (I.ok.nofr e) (I.ok.noex b o e), I.base.free b o (I.ok.bs b o e).1 (I.ok.bs b o e).2 (I.ok.noex b o e)⟩
theorem Inv.bk (I : Inv X pins σ H s) : ∀ b o, X.base.get? b = some o → s.heap.get? b = some o := fun b o e => (I.bs b o e).1
theorem Inv.mod (I : Inv X pins σ H s) : Mod X.K X.mg X.base := I.ok.mod
theorem Inv.kIn (I : Inv X pins σ H s) : X.K.In s.heap := I.ok.mod.kin.keeps I.bk
theorem Inv.lt (I : Inv X pins σ H s) : X.env.locals < s.heap.objs.size := let ⟨_, hn, _⟩ := I.loc; hn.lt
theorem Inv.sz (I : Inv X pins σ H s) : X.s₀.heap.objs.size ≤ s.heap.objs.size := Nat.le_trans I.ok.above (Nat.le_of_lt I.lt)
theorem Inv.nofs (I : Inv X pins σ H s) {a : Addr} (h : s.heap.objs.size ≤ a) : a ∉ X.fs := fun hb => by
  obtain ⟨_, o, ho, _⟩ := I.ok.funs.mem hb
  exact absurd (Nat.lt_of_lt_of_le (Heap.lt_size ho) (Nat.le_trans I.sz h)) (Nat.lt_irrefl _)
theorem Inv.cne (I : Inv X pins σ H s) : ∀ x c, X.env.cells.lookup x = some c → c ≠ X.env.locals := fun x c e z => by
  obtain ⟨v, o, ho, hd⟩ := I.cell x c e
  obtain ⟨m, ⟨o', es, ep, ho', hd', _⟩, _⟩ := I.loc
  rw [z, ho'] at ho; cases ho; rw [hd'] at hd; cases hd
theorem Inv.funs (I : Inv X pins σ H s) : s.heap.FunFrames X.base X.outer := by
  have all : ∀ (l : List Env), (∀ b ∈ frs l, b ∈ X.fs) → X.s₀.heap.FunFrames X.base l → s.heap.FunFrames X.base l := by
    intro l
    induction l with
    | nil => intro _ _; trivial
    | cons env r ih =>
      intro hs hl
      obtain ⟨hk, ⟨L, o, hf, hn, ho, hd⟩, hr⟩ := hl
      have hL : L ∈ X.fs := hs L (by unfold frs; rw [List.filterMap_cons, hf]; exact List.mem_cons_self)
      obtain ⟨sl, e⟩ := I.base.slot L o ho (I.ok.frf L hL) hL fun z => I.ok.exfs L z hL
      exact ⟨hk, ⟨L, _, hf, hn, e, hd⟩, ih (fun b hb => hs b (by unfold frs; rw [List.filterMap_cons, hf]; exact List.mem_cons_of_mem _ hb)) hr⟩
  exact all X.outer (fun _ hb => hb) I.ok.funs

theorem Inv.stack (I : Inv X pins σ H s) : s.heap.FunFrames X.base X.stack := by
  rcases I.ok.stk with e | ⟨e, hf⟩
  · rw [e]; exact I.funs
  · rw [e]
    obtain ⟨m, hn, _⟩ := I.loc
    refine .cons (by rw [I.ok.kind]; decide) hf hn ?_ I.funs
    exact Heap.get?_none_of_le (Nat.le_trans I.ok.bsz I.ok.above)
theorem Inv.stkSub (I : Inv X pins σ H s) : ∀ b ∈ frs X.stack, b ∈ X.env.locals :: X.fs := fun b hb => by
  rcases I.ok.stk with e | ⟨e, hf⟩
  · rw [e] at hb; exact List.mem_cons_of_mem _ hb
  · rw [e] at hb
    unfold frs at hb
    rw [List.filterMap_cons, hf] at hb
    exact hb
theorem Inv.stkFree (I : Inv X pins σ H s) : ∀ b ∈ frs X.stack, H b = none := fun b hb => by
  rcases List.mem_cons.mp (I.stkSub b hb) with e | hb
  · rw [e]; exact I.free
  · obtain ⟨_, o, ho, _⟩ := I.ok.funs.mem hb
    exact I.base.free b o ho (I.ok.frf b hb) fun z => I.ok.exfs b z hb

theorem Inv.step {g' : Array GenState} {t' : Nat} {d' : Drawn} {ch : List Addr} (I : Inv X pins σ H s)
    (hch : ∀ b ∈ ch, (b ∈ X.ex ∨ X.s₀.heap.objs.size ≤ b) ∧ b ≠ X.env.locals ∧ (∀ x c, X.env.cells.lookup x = some c → c ≠ b) ∧ ∀ p ∈ X.pn ++ pins, p.1 ≠ b)
    (keep : ∀ b o, b ≠ X.env.locals → b ∉ X.fs → b ∉ ch → s.heap.get? b = some o → H b = none → h'.get? b = some o)
    (slot : ∀ b o, b ≠ X.env.locals → b ∈ X.fs → b ∉ ch → s.heap.get? b = some o → H b = none → ∃ sl, h'.get? b = some { o with slots := sl }) (free : ∀ b o, b ∉ ch → s.heap.get? b = some o → H b = none → H' b = none)
    (there : ∀ b o, b ∉ ch → s.heap.get? b = some o → ∃ o', h'.get? b = some o')
    (tups : ∀ b xs, H b = some (.tup xs) → H' b = some (.tup xs)) (frzs : ∀ b o u, H b = some (.frz o u) → H' b = some (.frz o u)) (tbls : ∀ b ps, H b = some (.tbl ps) → ∃ more, H' b = some (.tbl (ps ++ more)))
    (ns : ∀ m, s.heap.Ns X.env.locals m → h'.Ns X.env.locals m) (hok : HOk X.prog X.w H' h') (hg : AllBare g') :
    Inv X pins σ H' { s with heap := h', gens := g', drawn := d', toks := t' } := by
  have neL : ∀ b o, X.s₀.heap.get? b = some o → b ≠ X.env.locals := fun b o e => Nat.ne_of_lt (Nat.lt_of_lt_of_le (Heap.lt_size e) I.ok.above)
  have neC : ∀ b o, X.s₀.heap.get? b = some o → b ∉ X.ex → b ∉ ch := fun b o e hx hb => by
    rcases (hch b hb).1 with z | z
    · exact hx z
    · exact absurd (Nat.lt_of_lt_of_le (Heap.lt_size e) z) (Nat.lt_irrefl _)
  have cellK : ∀ x c, X.env.cells.lookup x = some c → ∀ v, s.heap.IsCell c v → h'.IsCell c v := fun x c e v ⟨o, ho, hd⟩ => by
    have nch : c ∉ ch := fun z => (hch c z).2.2.1 x c e rfl
    by_cases hc : c ∈ X.fs
    · obtain ⟨sl, q⟩ := slot c o (I.cne x c e) hc nch ho (I.freeC x c e)
      exact ⟨_, q, hd⟩
    · exact ⟨o, keep c o (I.cne x c e) hc nch ho (I.freeC x c e), hd⟩
  refine ⟨I.ok, I.os, hg, ⟨fun b o e n hb hx => ?_, fun b o e n hb hx => ?_, fun b o e n hx => ?_, fun b o e hx => ?_, fun b xs e => tups b xs (I.base.tups b xs e), fun b o xs e => frzs b o xs (I.base.frzs b o xs e), fun b ps e => ?_⟩, ?_, fun x c e => ?_, ?_, fun x c e => ?_, fun p hp => ?_, hok, I.len⟩
  · exact keep b o (neL b o e) hb (neC b o e hx) (I.base.keep b o e n hb hx) (I.base.free b o e n hx)
  · obtain ⟨sl, e1⟩ := I.base.slot b o e n hb hx
    obtain ⟨sl', e2⟩ := slot b _ (neL b o e) hb (neC b o e hx) e1 (I.base.free b o e n hx)
    exact ⟨sl', e2⟩
  · obtain ⟨o', e1⟩ := I.base.there b o e hx
    exact free b o' (neC b o e hx) e1 (I.base.free b o e n hx)
  · obtain ⟨o', e1⟩ := I.base.there b o e hx
    exact there b o' (neC b o e hx) e1
  · obtain ⟨m1, e1⟩ := I.base.tbls b ps e
    obtain ⟨m2, e2⟩ := tbls b _ e1
    exact ⟨m1 ++ m2, by rw [e2, Array.append_assoc]⟩
  · obtain ⟨m, hn, hl⟩ := I.loc
    refine ⟨m, ns m hn, fun i x v e1 e2 e3 => ?_⟩
    obtain ⟨u, r, l⟩ := hl i x v e1 e2 e3
    refine ⟨u, r, ?_⟩
    rcases l with l | ⟨k, c, e, z⟩
    · exact .inl l
    · exact .inr ⟨k, c, e, cellK x c e _ z⟩
  · obtain ⟨v, z⟩ := I.cell x c e
    exact ⟨v, cellK x c e v z⟩
  · obtain ⟨m, ⟨o, _, _, ho, _⟩, _⟩ := I.loc
    exact free _ o (fun z => (hch _ z).2.1 rfl) ho I.free
  · obtain ⟨v, o, ho, hd⟩ := I.cell x c e
    exact free c o (fun z => (hch c z).2.2.1 x c e rfl) ho (I.freeC x c e)
  · obtain ⟨e, n, ne, nf, d⟩ := I.pin p hp
    have nch : p.1 ∉ ch := fun z => (hch p.1 z).2.2.2 p hp rfl
    exact ⟨keep p.1 p.2 ne nf nch e n, free p.1 p.2 nch e n, ne, nf, d⟩
theorem Inv.un {t' : Nat} (I : Inv X pins σ H s) (u : Un X.fs [] H H' s.heap h') (hok : HOk X.prog X.w H' h') : Inv X pins σ H' { s with heap := h', toks := t' } := by
  obtain ⟨m, ⟨o, es, ep, ho, r⟩, _⟩ := id I.loc
  obtain ⟨sl, hL⟩ := u.any ho I.free (by simp)
  exact I.step (g' := s.gens) (d' := s.drawn) (ch := []) (fun _ z => nomatch z) (fun b o _ hb _ e n => u.keep b o e n hb (by simp)) (fun b o _ hb _ e n => u.slot b o e n hb (by simp)) (fun b o _ e n => u.free b o e n (by simp)) (fun b o _ e => u.there b o e (by simp)) u.tups u.frzs u.tbls (fun m' hm => by
    obtain ⟨o', es', ep', ho', r'⟩ := hm
    rw [ho] at ho'; cases ho'
    exact ⟨_, es', ep', hL, r'⟩) hok I.bare
theorem Inv.call {g' : Array GenState} {t' : Nat} {d' : Drawn} {ch : List Addr} (I : Inv X pins σ H s) (u : Un (frs X.stack) ch H H' s.heap h') (hok : HOk X.prog X.w H' h') (hg : AllBare g')
    (hch : ∀ b ∈ ch, (b ∈ X.ex ∨ X.s₀.heap.objs.size ≤ b) ∧ b ≠ X.env.locals ∧ (∀ x c, X.env.cells.lookup x = some c → c ≠ b) ∧ ∀ p ∈ X.pn ++ pins, p.1 ≠ b) :
    Inv X pins σ H' { s with heap := h', gens := g', drawn := d', toks := t' } := by
  obtain ⟨m, ⟨o, es, ep, ho, r⟩, _⟩ := id I.loc
  obtain ⟨sl, hL⟩ := u.any ho I.free fun z => (hch _ z).2.1 rfl
  exact I.step (ch := ch) hch (fun b o hL hb hc e n => u.keep b o e n (fun z => (List.mem_cons.mp (I.stkSub b z)).elim hL hb) hc) (fun b o _ _ hc e n => u.any e n hc) (fun b o hc e n => u.free b o e n hc) (fun b o hc e => u.there b o e hc) u.tups u.frzs u.tbls (fun m' hm => by
    obtain ⟨o', es', ep', ho', r'⟩ := hm
    rw [ho] at ho'; cases ho'
    exact ⟨_, es', ep', hL, r'⟩) hok hg
theorem Inv.turned {t' : Nat} {it : Addr} (I : Inv X pins σ H s) (k : ∀ b o, b ≠ it → s.heap.get? b = some o → h'.get? b = some o) (hn : H it = none) (hL : it ≠ X.env.locals)
    (h1 : it ∈ X.ex ∨ X.s₀.heap.objs.size ≤ it) (h2 : ∀ x c, X.env.cells.lookup x = some c → c ≠ it) (h3 : ∀ p ∈ X.pn ++ pins, p.1 ≠ it) : Inv X pins σ H { s with heap := h', toks := t' } := by
  have nit : ∀ b u, H b = some u → b ≠ it := fun b u e z => by rw [z, hn] at e; cases e
  refine I.step (g' := s.gens) (d' := s.drawn) (ch := [it]) (fun b hb => ?_) (fun b o _ _ hc e _ => k b o (fun z => hc (by simp [z])) e) (fun b o _ _ hc e _ => ⟨o.slots, k b o (fun z => hc (by simp [z])) e⟩) (fun _ _ _ _ n => n)
    (fun b o hc e => ⟨o, k b o (fun z => hc (by simp [z])) e⟩) (fun _ _ e => e) (fun _ _ _ e => e) (fun b ps e => ⟨#[], by rw [e]; simp⟩) (fun m hm => ?_) (fun b u e => ?_) I.bare
  · have e : b = it := by simpa using hb
    subst e
    exact ⟨h1, hL, h2, h3⟩
  · obtain ⟨o, es, ep, ho, r⟩ := hm
    exact ⟨o, es, ep, k _ o (Ne.symm hL) ho, r⟩
  · refine (I.hok b u e).stay (fun c v hc q => k c v ?_ q) (fun _ q => q) fun _ _ q => q
    rcases hc with z | z
    · rw [z]; exact nit b u e
    · exact nit c _ z
theorem Inv.tok (I : Inv X pins σ H s) (t : Nat) : Inv X pins σ H { s with toks := t } := I.un (h' := s.heap) (t' := t) Un.refl I.hok
theorem Inv.kept {t' : Nat} (I : Inv X pins σ H s) (k : ∀ b u, s.heap.get? b = some u → h'.get? b = some u) : Inv X pins σ H { s with heap := h', toks := t' } := I.un (Un.kept k) (I.hok.kept k)
theorem Inv.laid {a : Addr} {o : HO} {t' : Nat} (I : Inv X pins σ H s) (k : ∀ b u, s.heap.get? b = some u → h'.get? b = some u) (hp : s.heap.objs.size ≤ a) (new : ObjOk X.prog X.w (upd H a o) h' a o) :
    Inv X pins σ (upd H a o) { s with heap := h', toks := t' } := I.un (Un.laid k hp (I.hok.fresh hp)) (I.hok.laid k hp new)
theorem Inv.write {x e : Addr} {o : HO} {t' : Nat} (I : Inv X pins σ H s) (mu : Mut (H x)) (he : e = x ∨ H e = some (.own x)) (k : ∀ b u, b ≠ e → s.heap.get? b = some u → h'.get? b = some u) (heo : ∃ u, h'.get? e = some u)
    (new : ObjOk X.prog X.w (upd H x o) h' x o) : Inv X pins σ (upd H x o) { s with heap := h', toks := t' } := I.un (Un.write mu he k heo) (I.hok.write mu he k heo new)
theorem Inv.pins_of {pins' : List (Addr × Obj)} (I : Inv X pins σ H s) (h : ∀ p ∈ pins', s.heap.get? p.1 = some p.2 ∧ H p.1 = none ∧ p.1 ≠ X.env.locals ∧ p.1 ∉ X.fs ∧ ∀ v, p.2.data ≠ .cell v) : Inv X pins' σ H s :=
  ⟨I.ok, I.os, I.bare, I.base, I.loc, I.cell, I.free, I.freeC, fun p hp => (List.mem_append.mp hp).elim (fun z => I.pin p (List.mem_append_left _ z)) (h p), I.hok, I.len⟩

theorem ziw {N : List Str} (hN : N.Nodup) {i j : Nat} {x : Str} (a : N[i]? = some x) (b : N[j]? = some x) : i = j := by
  obtain ⟨h1, e1⟩ := List.getElem?_eq_some_iff.mp a
  obtain ⟨h2, e2⟩ := List.getElem?_eq_some_iff.mp b
  exact (List.getElem_inj hN).mp (e1.trans e2.symm)

theorem zfM {M : Model} {A : Around} {E : Value → Shared → Prop} {i : Nat} {x : Str} {v : V} {u : Value} {Q : Unit → Shared → Prop} (I : Inv X pins σ H s) (hN : X.N.Nodup) (hi : X.N[i]? = some x) (hx : Loc X.env.scope x) (r : RelV v u)
    (h : ∀ s', Inv X pins (σ.set i (some v)) H s' → (∃ a, Heap.SameBut a s.heap s'.heap ∧ (a = X.env.locals ∨ X.env.cells.lookup x = some a)) → Q () s') (hf : X.fn x = true ∨ X.env.scope.names.lookup x = some .local := by first | exact .inl rfl | exact .inr rfl | assumption) : wpAny M A (storeName X.env x u) Q E s := by
  obtain ⟨m, hn, hl⟩ := id I.loc
  have hcls : (X.env.scope.kind == .class || (X.env.scope.kind == .module && X.env.locals != X.env.globals)) = false := by rw [I.ok.kind]; rfl
  have hiσ : i < σ.length := by rw [I.len]; exact (List.getElem?_eq_some_iff.mp hi).1
  have cne := I.cne
  have tracked : ∀ {a : Addr} {h' : Heap}, (∃ o, s.heap.get? a = some o ∧ H a = none) → Heap.SameBut a s.heap h' → HOk X.prog X.w H h' := fun {a h'} ha hs b ob e => by
    obtain ⟨_, _, hfree⟩ := ha
    refine (I.hok b ob e).stay (fun c w' hc q => (hs.2 c ?_).trans q) (fun _ q => q) fun _ _ q => q
    rintro rfl
    rcases hc with rfl | hc
    · rw [hfree] at e; cases e
    · rw [hfree] at hc; cases hc
  rcases hx with hk | hk
  · refine wpAny_storeName_local hk hn (fun h' hn' hs => ?_) hcls
    obtain ⟨oL, _, _, hoL, _⟩ := id hn
    refine h _ ⟨I.ok, I.os, I.bare, ⟨fun b o e n hb hx => ?_, fun b o e n hb hx => ?_, I.base.free, fun b o e hx => ?_, I.base.tups, I.base.frzs, I.base.tbls⟩, ⟨_, hn', fun j y v' e1 e2 e3 => ?_⟩, fun y c e => ?_, I.free, I.freeC, fun p hp => ?_, tracked ⟨oL, hoL, I.free⟩ hs, by simpa using I.len⟩ ⟨_, hs, .inl rfl⟩
    · exact (hs.2 b (Nat.ne_of_lt (Nat.lt_of_lt_of_le (Heap.lt_size e) I.ok.above))).trans (I.base.keep b o e n hb hx)
    · obtain ⟨sl, e1⟩ := I.base.slot b o e n hb hx
      exact ⟨sl, (hs.2 b (Nat.ne_of_lt (Nat.lt_of_lt_of_le (Heap.lt_size e) I.ok.above))).trans e1⟩
    · obtain ⟨o', e1⟩ := I.base.there b o e hx
      exact ⟨o', (hs.2 b (Nat.ne_of_lt (Nat.lt_of_lt_of_le (Heap.lt_size e) I.ok.above))).trans e1⟩
    · by_cases hj : j = i
      · subst hj
        rw [hi] at e1; cases e1
        rw [List.getElem?_set_self hiσ] at e2
        cases e2
        exact ⟨u, r, .inl ⟨hk, by simp⟩⟩
      · rw [List.getElem?_set_ne (Ne.symm hj)] at e2
        obtain ⟨u', r', q⟩ := hl j y v' e1 e2 e3
        refine ⟨u', r', ?_⟩
        rcases q with ⟨k, e⟩ | ⟨k, c, e, z⟩
        · refine .inl ⟨k, ?_⟩
          have : y ≠ x := fun e => hj (ziw hN e1 (e ▸ hi))
          simp [this, e]
        · exact .inr ⟨k, c, e, z.sameBut hs (cne y c e)⟩
    · obtain ⟨w', z⟩ := I.cell y c e
      exact ⟨w', z.sameBut hs (cne y c e)⟩
    · obtain ⟨e, n, ne, nf, d⟩ := I.pin p hp
      exact ⟨(hs.2 p.1 ne).trans e, n, ne, nf, d⟩
  · have hfn : X.fn x = true := by
      rcases hf with z | z
      · exact z
      · rw [z] at hk; cases hk
    obtain ⟨c, hc⟩ := I.ok.has x (.inl hk)
    obtain ⟨w', z⟩ := I.cell x c hc
    refine wpAny_storeName_cell I.ok.kind hk hc z (fun h' hc' hs => ?_)
    obtain ⟨oc, hoc, hocd⟩ := id z
    refine h { s with heap := h' } ⟨I.ok, I.os, I.bare, ⟨fun b o e n hb hx => ?_, fun b o e n hb hx => ?_, I.base.free, fun b o e hx => ?_, I.base.tups, I.base.frzs, I.base.tbls⟩, ⟨m, hn.sameBut hs (Ne.symm (cne x c hc)), fun j y v' e1 e2 e3 => ?_⟩, fun y c' e => ?_, I.free, I.freeC, fun p hp => ?_, tracked ⟨oc, hoc, I.freeC x c hc⟩ hs, by simpa using I.len⟩ ⟨c, hs, .inr hc⟩
    · exact (hs.2 b (Nat.ne_of_lt (Nat.lt_of_lt_of_le (Heap.lt_size e) (I.ok.cab x c hfn hc)))).trans (I.base.keep b o e n hb hx)
    · obtain ⟨sl, e1⟩ := I.base.slot b o e n hb hx
      exact ⟨sl, (hs.2 b (Nat.ne_of_lt (Nat.lt_of_lt_of_le (Heap.lt_size e) (I.ok.cab x c hfn hc)))).trans e1⟩
    · obtain ⟨o', e1⟩ := I.base.there b o e hx
      exact ⟨o', (hs.2 b (Nat.ne_of_lt (Nat.lt_of_lt_of_le (Heap.lt_size e) (I.ok.cab x c hfn hc)))).trans e1⟩
    · by_cases hj : j = i
      · subst hj
        rw [hi] at e1; cases e1
        rw [List.getElem?_set_self hiσ] at e2
        cases e2
        exact ⟨u, r, .inr ⟨.inl hk, c, hc, hc'⟩⟩
      · rw [List.getElem?_set_ne (Ne.symm hj)] at e2
        obtain ⟨u', r', q⟩ := hl j y v' e1 e2 e3
        refine ⟨u', r', ?_⟩
        rcases q with q | ⟨k, c', e, z'⟩
        · exact .inl q
        · refine .inr ⟨k, c', e, z'.sameBut hs ?_⟩
          rintro rfl
          exact hj (ziw hN e1 (I.ok.inj _ _ _ e hc ▸ hi))
    · by_cases hcc : c' = c
      · subst hcc; exact ⟨_, hc'⟩
      · obtain ⟨w2, z2⟩ := I.cell y c' e
        exact ⟨w2, z2.sameBut hs hcc⟩
    · obtain ⟨e, n, ne, nf, d⟩ := I.pin p hp
      refine ⟨(hs.2 p.1 ?_).trans e, n, ne, nf, d⟩
      intro q
      rw [q, hoc] at e
      have q' : oc = p.2 := Option.some.inj e
      exact d w' (by rw [← q']; exact hocd)
theorem zhC {M : Model} {A : Around} {E : Value → Shared → Prop} {i : Nat} {x : Str} {v : V} {u : Value} {Q : Unit → Shared → Prop} (I : Inv X pins σ H s) (hN : X.N.Nodup) (hi : X.N[i]? = some x) (hx : Loc X.env.scope x) (r : RelV v u)
    (h : ∀ s', Inv X pins (σ.set i (some v)) H s' → Q () s') (hf : X.fn x = true ∨ X.env.scope.names.lookup x = some .local := by first | exact .inl rfl | exact .inr rfl | assumption) : wpAny M A (storeName X.env x u) Q E s :=
  zfM I hN hi hx r (fun s' I' _ => h s' I') hf
theorem Inv.call' {s' : Shared} {ch : List Addr} (I : Inv X pins σ H s) (ho : s'.os = s.os) (u : Un (frs X.stack) ch H H' s.heap s'.heap) (hok : HOk X.prog X.w H' s'.heap) (hg : AllBare s'.gens)
    (hch : ∀ b ∈ ch, (b ∈ X.ex ∨ X.s₀.heap.objs.size ≤ b) ∧ b ≠ X.env.locals ∧ (∀ x c, X.env.cells.lookup x = some c → c ≠ b) ∧ ∀ p ∈ X.pn ++ pins, p.1 ≠ b) : Inv X pins σ H' s' := by
  obtain ⟨h', g', d', t', o'⟩ := s'
  have e : o' = s.os := ho
  subst e
  exact I.call (g' := g') (t' := t') (d' := d') u hok hg hch
end

abbrev XK := Value → Option Addr → Hp → Prop
abbrev St := List (Option V)
abbrev VK := V → Hp → Prop
abbrev TE := St → Hp → VK → Prop
abbrev TT := St → Hp → (Bool → Hp → Prop) → Prop
abbrev TA := St → Hp → (List V → Hp → Prop) → Prop
structure Ends where
  nx : St → Hp → Prop
  rt : VK
  bk : St → Hp → Prop := fun _ _ => False
  ct : St → Hp → Prop := fun _ _ => False
abbrev TS := Ends → St → Hp → Prop

def EP (X : Cx) (pins : List (Addr × Obj)) (σ : St) (Q : VK) (u : Value) (s' : Shared) : Prop := ∃ v H', Inv X pins σ H' s' ∧ RelV v u ∧ Q v H'
def TP (X : Cx) (pins : List (Addr × Obj)) (σ : St) (Q : Bool → Hp → Prop) (b : Bool) (s' : Shared) : Prop := ∃ H', Inv X pins σ H' s' ∧ Q b H'
def AP (X : Cx) (pins : List (Addr × Obj)) (σ : St) (Q : List V → Hp → Prop) (us : List Value) (s' : Shared) : Prop := ∃ vs H', Inv X pins σ H' s' ∧ Vals vs us ∧ Q vs H'
def SP (X : Cx) (pins : List (Addr × Obj)) (D : Ends) (f : Flow) (s' : Shared) : Prop :=
  match f with
  | .next => ∃ σ' H', Inv X pins σ' H' s' ∧ D.nx σ' H'
  | .brk => ∃ σ' H', Inv X pins σ' H' s' ∧ D.bk σ' H'
  | .cont => ∃ σ' H', Inv X pins σ' H' s' ∧ D.ct σ' H'
  | .ret u => ∃ v σ' H', Inv X pins σ' H' s' ∧ RelV v u ∧ D.rt v H'

def PE (X : Cx) (e : Expr) (t : TE) : Prop :=
  ∀ (pins : List (Addr × Obj)) (s : Shared) (σ : St) (H : Hp) (Q : VK), Inv X pins σ H s → t σ H Q → wpAny (model X.prog X.w) X.A (eval e X.env) (EP X pins σ Q) X.xe s
def PT (X : Cx) (e : Expr) (t : TT) : Prop :=
  ∀ (pins : List (Addr × Obj)) (s : Shared) (σ : St) (H : Hp) (Q : Bool → Hp → Prop), Inv X pins σ H s → t σ H Q → wpAny (model X.prog X.w) X.A (isTrue e X.env (eval e X.env)) (TP X pins σ Q) X.xe s
def PW (X : Cx) (e : Expr) (t : TT) : Prop :=
  ∀ (whole : Sem Value) (pins : List (Addr × Obj)) (s : Shared) (σ : St) (H : Hp) (Q : Bool → Hp → Prop), Inv X pins σ H s → t σ H Q → wpAny (model X.prog X.w) X.A (isTrue e X.env whole) (TP X pins σ Q) X.xe s
theorem PW.pt {X : Cx} {e : Expr} {t : TT} (h : PW X e t) : PT X e t := h _
def PA (X : Cx) (es : List Expr) (t : TA) : Prop :=
  ∀ (pos : Pos) (pins : List (Addr × Obj)) (s : Shared) (σ : St) (H : Hp) (Q : List V → Hp → Prop), Inv X pins σ H s → t σ H Q → wpAny (model X.prog X.w) X.A (spliced (backTo pos (starEach es X.env))) (AP X pins σ Q) X.xe s
def PS (X : Cx) (st : Stmt) (t : TS) : Prop :=
  ∀ (pins : List (Addr × Obj)) (s : Shared) (σ : St) (H : Hp) (D : Ends), Inv X pins σ H s → t D σ H → wpAny (model X.prog X.w) X.A (exec st X.env) (SP X pins D) X.xe s
def PSs (X : Cx) (st : List Stmt) (t : TS) : Prop :=
  ∀ (pins : List (Addr × Obj)) (s : Shared) (σ : St) (H : Hp) (D : Ends), Inv X pins σ H s → t D σ H → wpAny (model X.prog X.w) X.A (execs st X.env) (SP X pins D) X.xe s
theorem thn {α : Type} {t : Sem α} {Q Q' : α → Shared → Prop} {M : Model} {A : Around} {E : Value → Shared → Prop} {s : Shared} (h : wpAny M A t Q E s) (hQ : ∀ a s, Q a s → Q' a s) : wpAny M A t Q' E s := wpAny_mono h hQ fun _ _ x => x
end L2

namespace L2
open PySem PySem.Spec PyProof.Rows
section
variable {X : Cx}

def tVar (i : Nat) : TE := fun σ H Q => ∃ v, σ[i]? = some (some v) ∧ Q v H
def tC (v : V) : TE := fun _ H Q => Q v H
theorem znm {i : Nat} {x : Str} {pos : Pos} (hN : X.N[i]? = some x) (hv : Vis X.env.scope x) (hd : (x == ("__debug__" : Str)) = false := by decide) (hcd : (x == ("__classdict__" : Str)) = false := by decide) : PE X (.Name x pos) (tVar i) := by
  intro pins s σ H Q I h
  obtain ⟨v, e, h⟩ := h
  obtain ⟨m, hn, hl⟩ := I.loc
  obtain ⟨u, r, l⟩ := hl i x v hN e hv
  have fin : EP X pins σ Q u s := ⟨v, H, I, r, h⟩
  rcases l with ⟨hk, hm⟩ | ⟨hk, c, hc, hcell⟩
  · exact wpAny_Name (wpAny_loadName_local I.ok.kind hk hn hm fin) hd
  · rcases hk with hk | hk
    · exact wpAny_Name (wpAny_loadName_cell I.ok.kind hk hc hcell fin) hd
    · exact wpAny_Name (wpAny_loadName_free I.ok.kind hk hc hcell fin hcd) hd
theorem zrA {i j pos} : PE X (.Constant (.int i) j pos) (tC (.int i)) := fun _ _ _ H _ I h => wpAny_Constant_int ⟨.int i, H, I.tok _, ⟨_, rfl⟩, h⟩
theorem zrK {b j pos} : PE X (.Constant (.bool b) j pos) (tC (.bl b)) := fun _ _ _ H _ I h => Constant_bool ⟨.bl b, H, I, rfl, h⟩
theorem zrz {j pos} : PE X (.Constant .none j pos) (tC .non) := fun _ _ _ H _ I h => Constant_none ⟨.non, H, I, rfl, h⟩
theorem zqM {x j pos} : PE X (.Constant (.str x) j pos) (tC (.str x)) := fun _ _ _ H _ I h => Calls.Constant_str ⟨.str x, H, I.tok _, ⟨_, rfl⟩, h⟩

def Gl (X : Cx) (x : Str) : Prop := X.env.kindOf x = some .globalImplicit
theorem zkf {E : Value → Shared → Prop} {pins : List (Addr × Obj)} {s : Shared} {σ : St} {H : Hp} {x : Str} {u : Value} {pos : Pos} {Q : Value → Shared → Prop} (I : Inv X pins σ H s) (hg : Gl X x) (hm : X.mg x = some u) (h : Q u s)
    (hd : (x == ("__debug__" : Str)) = false := by decide) : wpAny (model X.prog X.w) X.A (eval (.Name x pos) X.env) Q E s :=
  Calls.Name_function_global I.ok.kind hg (Calls.loadGlobal_global (by rw [I.ok.glob]; exact I.mod.glob.keeps I.bk) hm h) hd
theorem zet {E : Value → Shared → Prop} {pins : List (Addr × Obj)} {s : Shared} {σ : St} {H : Hp} {x : Str} {u : Value} {pos : Pos} {Q : Value → Shared → Prop} (I : Inv X pins σ H s) (hg : Gl X x) (hm : X.mg x = none) (hv : bootBuiltins x = some u) (h : Q u s)
    (hn : x ≠ "__name__" := by decide) (hd : (x == ("__debug__" : Str)) = false := by decide) : wpAny (model X.prog X.w) X.A (eval (.Name x pos) X.env) Q E s := by
  obtain ⟨mb, h1, h2⟩ := I.mod.blt
  exact Calls.Name_function_global I.ok.kind hg (Calls.loadGlobal_builtin (by rw [I.ok.glob]; exact I.mod.glob.keeps I.bk) hm (by rw [I.ok.blt]; exact h1.keeps I.bk) ((h2 x hn).trans hv) h) hd
theorem zoC {x : Str} {v : V} {u : Value} {pos : Pos} (hg : Gl X x) (hm : X.mg x = some u) (r : RelV v u) (hd : (x == ("__debug__" : Str)) = false := by decide) : PE X (.Name x pos) (tC v) :=
  fun _ _ _ H _ I h => zkf I hg hm ⟨v, H, I, r, h⟩ hd
theorem zoR {x : Str} {v : V} {u : Value} {pos : Pos} (hg : Gl X x) (hm : X.mg x = none) (hv : bootBuiltins x = some u) (r : RelV v u) (hn : x ≠ "__name__" := by decide) (hd : (x == ("__debug__" : Str)) = false := by decide) : PE X (.Name x pos) (tC v) :=
  fun _ _ _ H _ I h => zet I hg hm hv ⟨v, H, I, r, h⟩ hn hd

variable {a b : Expr} {ta tb : TE} {pos : Pos}
variable {tA tB' : TT} {rest : List Expr}
def tAnd (t u : TT) : TT := fun σ H Q => t σ H fun c H1 => if c = true then u σ H1 Q else Q false H1
def tOr (t u : TT) : TT := fun σ H Q => t σ H fun c H1 => if c = true then Q true H1 else u σ H1 Q
def tNot (t : TT) : TT := fun σ H Q => t σ H fun c H1 => Q (!c) H1
theorem znG (ha : PT X a tA) : PW X (.BoolOp .And [a] pos) tA := by
  intro wh pins s σ H Q I h
  refine isTrue_and (thn (ha pins s σ H Q I h) fun c s1 e => ?_)
  cases c with
  | true => exact isTrue_and_nil e
  | false => exact e
theorem zqQ (ha : PT X a tA) : PW X (.BoolOp .Or [a] pos) tA := by
  intro wh pins s σ H Q I h
  refine isTrue_or (thn (ha pins s σ H Q I h) fun c s1 e => ?_)
  cases c with
  | false => exact isTrue_or_nil e
  | true => exact e
theorem zrD (ha : PT X a tA) (hb : PW X (.BoolOp .And (b :: rest) pos) tB') : PW X (.BoolOp .And (a :: b :: rest) pos) (tAnd tA tB') := by
  intro wh pins s σ H Q I h
  refine isTrue_and (thn (ha pins s σ H _ I h) fun c s1 ⟨H1, I1, q1⟩ => ?_)
  cases c with
  | true => exact hb wh pins s1 σ H1 Q I1 q1
  | false => exact ⟨H1, I1, q1⟩
theorem zsf (ha : PT X a tA) (hb : PW X (.BoolOp .Or (b :: rest) pos) tB') : PW X (.BoolOp .Or (a :: b :: rest) pos) (tOr tA tB') := by
  intro wh pins s σ H Q I h
  refine isTrue_or (thn (ha pins s σ H _ I h) fun c s1 ⟨H1, I1, q1⟩ => ?_)
  cases c with
  | true => exact ⟨H1, I1, q1⟩
  | false => exact hb wh pins s1 σ H1 Q I1 q1
theorem zpR (ha : PT X a tA) : PT X (.UnaryOp .Not a pos) (tNot tA) := by
  intro pins s σ H Q I h
  exact isTrue_not (ha pins s σ H (fun c H1 => Q (!c) H1) I h)
def tAndV (ta tb : TE) : TE := fun σ H Q => ta σ H fun x H1 => ∃ c, x = .bl c ∧ if c = true then tb σ H1 Q else Q (.bl false) H1
theorem zrm {op} {t : TE} (h : PE X a t) : PE X (.BoolOp op [a] pos) t := fun pins s σ H Q I hw => BoolOp_one (h pins s σ H Q I hw)
theorem zqE (ha : PE X a ta) (hb : PE X (.BoolOp .And (b :: rest) pos) tb) : PE X (.BoolOp .And (a :: b :: rest) pos) (tAndV ta tb) := by
  intro pins s σ H Q I h
  refine BoolOp_and (thn (ha pins s σ H _ I h) fun v s1 ⟨x, H1, I1, r1, q1⟩ => ?_)
  obtain ⟨c, rfl, q1⟩ := q1
  cases r1
  refine wpAny_truthy_bool ?_
  cases c with
  | true => exact hb pins s1 σ H1 Q I1 q1
  | false => exact ⟨.bl false, H1, I1, rfl, q1⟩
def tIf (t : TT) (ta tb : TE) : TE := fun σ H Q => t σ H fun c H1 => if c = true then ta σ H1 Q else tb σ H1 Q
theorem zmj {c : Expr} (hc : PT X c tA) (ha : PE X a ta) (hb : PE X b tb) : PE X (.IfExp c a b pos) (tIf tA ta tb) := by
  intro pins s σ H Q I h
  refine wpAny_IfExp (thn (hc pins s σ H _ I h) fun d s1 ⟨H1, I1, q1⟩ => ?_)
  cases d with
  | true => exact ha pins s1 σ H1 Q I1 q1
  | false => exact hb pins s1 σ H1 Q I1 q1
end
end L2

namespace L2
open PySem PySem.Spec PyProof.Rows

def SqL (K : PySem.W.Frag) (H : Hp) (a : Addr) (xs : List V) : Prop :=
  Rd H a (.lst xs) ∨
    ∃ (o : Obj) (its : Array Value) (n : Nat), K.lookup a = some o ∧ o.cls = .type "list" ∧ o.dict = none ∧ o.data = .seq its n ∧ its.size ≤ sizeLine ∧ Vals xs its.toList
def SqT (K : PySem.W.Frag) (H : Hp) (a : Addr) (xs : List V) : Prop :=
  Rd H a (.tup xs) ∨
    ∃ (o : Obj) (its : Array Value) (n : Nat), K.lookup a = some o ∧ o.cls = .type "tuple" ∧ o.data = .seq its n ∧ its.size ≤ sizeLine ∧ Vals xs its.toList
def absV : Value → Option V
  | .none => some .non
  | .bool b => some (.bl b)
  | .int i _ => some (.int i)
  | .str x _ => some (.str x)
  | .bytes b _ => some (.byt b)
  | .float b _ => some (.flt b)
  | .ref a => some (.ref a)
  | .type n => some (.ty n)
  | _ => none
theorem RelV.abs {x : V} {u : Value} (r : RelV x u) : absV u = some x := by
  cases x with
  | non => cases r; rfl
  | bl _ => cases r; rfl
  | int _ => obtain ⟨t, rfl⟩ := r; rfl
  | str _ => obtain ⟨t, rfl⟩ := r; rfl
  | byt _ => obtain ⟨t, rfl⟩ := r; rfl
  | flt _ => obtain ⟨t, rfl⟩ := r; rfl
  | ref _ => cases r; rfl
  | ty _ => cases r; rfl
theorem RelV.inj {x y : V} {u : Value} (r : RelV x u) (q : RelV y u) : x = y := Option.some.inj (r.abs.symm.trans q.abs)
theorem Vals.inj : ∀ {xs ys : List V} {us : List Value}, Vals xs us → Vals ys us → xs = ys
  | _, _, _, .nil, .nil => rfl
  | _, _, _, .cons r t, .cons r' t' => by rw [r.inj r', Vals.inj t t']
section
variable {X : Cx} {pins : List (Addr × Obj)} {σ : St} {H : Hp} {s : Shared} {a : Addr} {xs ys : List V}
theorem SqL.of {K : PySem.W.Frag} (h : H a = some (.lst xs)) : SqL K H a xs := .inl (.inl h)
theorem SqT.of {K : PySem.W.Frag} (h : H a = some (.tup xs)) : SqT K H a xs := .inl (.inl h)
theorem Inv.list (I : Inv X pins σ H s) (h : SqL X.K H a xs) : ∃ its : List Value, Vals xs its ∧ PlainL s.heap a its.toArray ∧ xs.length ≤ sizeLine := by
  rcases h with h | ⟨o, its, n, hk, hc, hd, hs, hz, r⟩
  · obtain ⟨z, its, n, r, e⟩ := h.ok I.hok
    exact ⟨its, r, ⟨_, n, e, rfl, rfl, rfl⟩, z⟩
  · refine ⟨its.toList, r, ⟨o, n, I.kIn a o hk, hc, hd, by simpa using hs⟩, ?_⟩
    have e := r.length
    simp only [Array.length_toList] at e
    omega
theorem Inv.tuple (I : Inv X pins σ H s) (h : SqT X.K H a xs) : ∃ its : List Value, Vals xs its ∧ IsTup s.heap a its.toArray ∧ xs.length ≤ sizeLine := by
  rcases h with h | ⟨o, its, n, hk, hc, hs, hz, r⟩
  · obtain ⟨z, its, r, p⟩ := h.ok I.hok
    exact ⟨its, r, p, z⟩
  · refine ⟨its.toList, r, ⟨o, I.kIn a o hk, hc, n, by simpa using hs⟩, ?_⟩
    have e := r.length
    simp only [Array.length_toList] at e
    omega
theorem Inv.list_inj (I : Inv X pins σ H s) (h : SqL X.K H a xs) (h' : SqL X.K H a ys) : xs = ys := by
  obtain ⟨its, r, ⟨o, n, e, _, _, d⟩, _⟩ := I.list h
  obtain ⟨its', r', ⟨o', n', e', _, _, d'⟩, _⟩ := I.list h'
  rw [e] at e'; cases e'
  rw [d] at d'
  injection d' with d1 _
  have : its = its' := by simpa using congrArg Array.toList d1
  subst this
  exact r.inj r'
theorem Inv.tuple_inj (I : Inv X pins σ H s) (h : SqT X.K H a xs) (h' : SqT X.K H a ys) : xs = ys := by
  obtain ⟨its, r, ⟨o, e, _, n, d⟩, _⟩ := I.tuple h
  obtain ⟨its', r', ⟨o', e', _, n', d'⟩, _⟩ := I.tuple h'
  rw [e] at e'; cases e'
  rw [d] at d'
  injection d' with d1 _
  have : its = its' := by simpa using congrArg Array.toList d1
  subst this
  exact r.inj r'
end

abbrev Cx.wish (X : Cx) (E : Value → Shared → Prop) : Cx := { X with xe := E }
abbrev Cx.nox (X : Cx) : Cx := X.wish fun _ _ => False
theorem Cx.Ok.wish {X : Cx} (ok : X.Ok) (E : Value → Shared → Prop) : (X.wish E).Ok :=
  ⟨ok.mod, ok.kind, ok.glob, ok.blt, ok.above, ok.inj, ok.has, ok.cab, ok.hd, ok.frames, ok.stk, ok.exf, ok.bs, ok.bsz, ok.noex, ok.exfs, ok.funs, ok.frf⟩
theorem Cx.Ok.unwish {X : Cx} {E : Value → Shared → Prop} (ok : (X.wish E).Ok) : X.Ok :=
  ⟨ok.mod, ok.kind, ok.glob, ok.blt, ok.above, ok.inj, ok.has, ok.cab, ok.hd, ok.frames, ok.stk, ok.exf, ok.bs, ok.bsz, ok.noex, ok.exfs, ok.funs, ok.frf⟩
section
variable {X : Cx} {pins : List (Addr × Obj)} {σ : St} {H : Hp} {s : Shared} {E : Value → Shared → Prop}
theorem Inv.wish (I : Inv X pins σ H s) (E : Value → Shared → Prop) : Inv (X.wish E) pins σ H s := ⟨I.ok.wish E, I.os, I.bare, I.base, I.loc, I.cell, I.free, I.freeC, I.pin, I.hok, I.len⟩
theorem Inv.unwish (I : Inv (X.wish E) pins σ H s) : Inv X pins σ H s := ⟨I.ok.unwish, I.os, I.bare, I.base, I.loc, I.cell, I.free, I.freeC, I.pin, I.hok, I.len⟩
theorem SP.unwish {D : Ends} {f : Flow} {s' : Shared} (h : SP (X.wish E) pins D f s') : SP X pins D f s' := by
  cases f with
  | next => obtain ⟨σ', H', I, q⟩ := h; exact ⟨σ', H', I.unwish, q⟩
  | brk => obtain ⟨σ', H', I, q⟩ := h; exact ⟨σ', H', I.unwish, q⟩
  | cont => obtain ⟨σ', H', I, q⟩ := h; exact ⟨σ', H', I.unwish, q⟩
  | ret u => obtain ⟨v, σ', H', I, r, q⟩ := h; exact ⟨v, σ', H', I.unwish, r, q⟩
theorem PSs.nox {st : List Stmt} {t : TS} (h : PSs X.nox st t) : PSs X st t := fun pins s σ H D I hw =>
  wpAny_mono (h pins s σ H D (I.wish _) hw) (fun _ _ q => q.unwish) fun _ _ z => False.elim z
end

section
variable {X : Cx} {st : Stmt} {rest : List Stmt} {t u : TS} {e : Expr} {te : TE} {pos : Pos}
def tNext : TS := fun D σ H => D.nx σ H
def tSeq (t u : TS) : TS := fun D σ H => t { D with nx := u D } σ H
theorem zpn : PSs X [] tNext := fun _ _ σ H _ I h => wpAny_execs_nil ⟨σ, H, I, h⟩
theorem zlW (h1 : PS X st t) (h2 : PSs X rest u) : PSs X (st :: rest) (tSeq t u) := by
  intro pins s σ H D I h
  refine wpAny_execs_cons (thn (h1 pins s σ H { D with nx := u D } I h) fun f s1 q => ?_)
  cases f with
  | next =>
    obtain ⟨σ', H', I', q⟩ := q
    exact h2 pins s1 σ' H' D I' q
  | ret v => exact q
  | brk => exact q
  | cont => exact q
theorem zoO (h1 : PS X st t) : PSs X [st] t := by
  intro pins s σ H D I h
  refine wpAny_execs_cons (thn (h1 pins s σ H D I h) fun f s1 q => ?_)
  cases f with
  | next => exact wpAny_execs_nil q
  | ret v => exact q
  | brk => exact q
  | cont => exact q
theorem Inv.quiet {pins : List (Addr × Obj)} {σ : St} {H : Hp} {s : Shared} (I : Inv X pins σ H s) : interactive X.env = false := by simp [interactive, I.ok.kind]
def tDrop (te : TE) : TS := fun D σ H => te σ H fun _ H1 => D.nx σ H1
theorem zon (he : PE X e te) (hs : swapsWith e none pos.line X.env = pure false := by rfl) : PS X (.Expr e pos) (tDrop te) := by
  intro pins s σ H D I h
  exact wpAny_Expr_any (thn (he pins s σ H _ I h) fun v s1 ⟨x, H1, I1, r1, q1⟩ => ⟨σ, H1, I1, q1⟩) I.quiet hs
def tRet (te : TE) : TS := fun D σ H => te σ H D.rt
theorem zrv (he : PE X e te) : PS X (.Return (some e) pos) (tRet te) := by
  intro pins s σ H D I h
  exact wpAny_Return_some (thn (he pins s σ H _ I h) fun v s1 ⟨x, H1, I1, r1, q1⟩ => ⟨x, σ, H1, I1, r1, q1⟩)
def tIfS (c : TT) (t u : TS) : TS := fun D σ H => c σ H fun b H1 => if b = true then t D σ H1 else u D σ H1
theorem zst {c : Expr} {a b : List Stmt} {tc : TT} (hc : PT X c tc) (ha : PSs X a t) (hb : PSs X b u) : PS X (.If c a b pos) (tIfS tc t u) := by
  intro pins s σ H D I h
  refine wpAny_If (thn (hc pins s σ H _ I h) fun d s1 ⟨H1, I1, q1⟩ => ?_)
  cases d with
  | true => exact ha pins s1 σ H1 D I1 q1
  | false => exact hb pins s1 σ H1 D I1 q1
def tNever : TS := fun _ _ _ => False
theorem zlV : PS X st tNever := fun _ _ _ _ _ _ h => h.elim
end

abbrev TG := V → St → Hp → (St → Hp → Prop) → Prop
abbrev TGs := List V → St → Hp → (St → Hp → Prop) → Prop
def PG (X : Cx) (target : Expr) (t : TG) : Prop :=
  ∀ (pins : List (Addr × Obj)) (s : Shared) (σ : St) (H : Hp) (v : V) (u : Value) (Q : St → Hp → Prop), Inv X pins σ H s → RelV v u → t v σ H Q →
    wpAny (model X.prog X.w) X.A (assign target X.env u) (fun _ s' => ∃ σ' H', Inv X pins σ' H' s' ∧ Q σ' H') X.xe s
def PGs (X : Cx) (ts : List Expr) (t : TGs) : Prop :=
  ∀ (pins : List (Addr × Obj)) (s : Shared) (σ : St) (H : Hp) (vs : List V) (us : List Value) (Q : St → Hp → Prop), Inv X pins σ H s → Vals vs us → t vs σ H Q →
    wpAny (model X.prog X.w) X.A (assignInOrder ((assignEach ts X.env).map (·.2)) us) (fun _ s' => ∃ σ' H', Inv X pins σ' H' s' ∧ Q σ' H') X.xe s
section
variable {X : Cx} {pos : Pos}
def gName (i : Nat) : TG := fun v σ H Q => Q (σ.set i (some v)) H
theorem zoB {i : Nat} {x : Str} (hN : X.N.Nodup) (hi : X.N[i]? = some x) (hx : Loc X.env.scope x) (hf : X.fn x = true ∨ X.env.scope.names.lookup x = some .local := by first | exact .inl rfl | exact .inr rfl | assumption) : PG X (.Name x pos) (gName i) := by
  intro pins s σ H v u Q I r h
  exact wpAny_assign_Name (zhC I hN hi hx r (fun s' I' => ⟨_, H, I', h⟩) hf)
def gNil : TGs := fun vs σ H Q => vs = [] ∧ Q σ H
def gCons (t : TG) (u : TGs) : TGs := fun vs σ H Q => ∃ v r, vs = v :: r ∧ t v σ H fun σ' H' => u r σ' H' Q
theorem zoU : PGs X [] gNil := by
  intro pins s σ H vs us Q I r h
  obtain ⟨e, h⟩ := h
  subst e
  cases r
  exact assignInOrder_nil ⟨σ, H, I, h⟩
theorem zmP {e : Expr} {es : List Expr} {t : TG} {u : TGs} (h1 : PG X e t) (h2 : PGs X es u)
    (hs : (assignEach (e :: es) X.env).map (·.2) = assign e X.env :: (assignEach es X.env).map (·.2) := by rfl) : PGs X (e :: es) (gCons t u) := by
  intro pins s σ H vs us Q I r h
  obtain ⟨v, vr, e1, h⟩ := h
  subst e1
  cases r with
  | cons r rr =>
    rw [hs]
    refine assignInOrder_cons (thn (h1 pins s σ H _ _ _ I r h) fun _ s1 ⟨σ1, H1, I1, q1⟩ => ?_)
    exact h2 pins s1 σ1 H1 _ _ Q I1 rr q1
def gTup (K : PySem.W.Frag) (n : Nat) (t : TGs) : TG := fun v σ H Q => ∃ a xs, v = .ref a ∧ SqT K H a xs ∧ xs.length = n ∧ t xs σ H Q
theorem zrG {es : List Expr} {k : Nat} {t : TGs} {n : Nat} (hc : X.calm = true) (h : PGs X es t)
    (hn : (assignEach es X.env).length = n := by rfl) (hst : (assignEach es X.env).findIdx? (·.1) = none := by rfl) : PG X (.Tuple es k pos) (gTup X.K n t) := by
  intro pins s σ H v u Q I r hw
  obtain ⟨a, xs, e1, hq, hl, hw⟩ := hw
  subst e1
  cases r
  obtain ⟨its, rv, ht, hz⟩ := I.tuple hq
  refine assign_Tuple_tuple (I.ok.hd hc) ht (by simp [hn, ← hl, rv.length]) hst fun h' hx => ?_
  have I1 : Inv X pins σ H { s with heap := h' } := I.kept (t' := s.toks) fun b o e => hx b o (Nat.ne_of_lt (Heap.lt_size e)) e
  exact h pins _ σ H xs _ Q I1 (by simpa using rv) hw
def tAsg (te : TE) (g : TG) : TS := fun D σ H => te σ H fun x H1 => g x σ H1 D.nx
theorem zpC {tg e : Expr} {te : TE} {g : TG} (he : PE X e te) (hg : PG X tg g) (hs : swapsWithSole [tg] e pos.line X.env = pure false := by rfl) (hw : swappedStores [tg] e X.env = pure none := by rfl)
    (h1 : (assignEach [tg] X.env).map (·.2) = [assign tg X.env] := by rfl) : PS X (.Assign [tg] e pos) (tAsg te g) := by
  intro pins s σ H D I h
  refine wpAny_Assign_stores (thn (he pins s σ H _ I h) fun v s1 ⟨x, H1, I1, r1, q1⟩ => ?_) hs hw
  rw [h1]
  exact thn (hg pins s1 σ H1 x v _ I1 r1 q1) fun _ s2 q => q
theorem zqO {i : Nat} {x : Str} {e : Expr} {te : TE} {pos' : Pos} (hN : X.N.Nodup) (hi : X.N[i]? = some x) (hx : Loc X.env.scope x) (he : PE X e te) (hs : swapsWith e (some (.Name x pos')) pos.line X.env = pure false := by rfl) (hf : X.fn x = true ∨ X.env.scope.names.lookup x = some .local := by first | exact .inl rfl | exact .inr rfl | assumption) :
    PS X (.Assign [.Name x pos'] e pos) (tAsg te (gName i)) := by
  intro pins s σ H D I h
  refine wpAny_Assign_Name (thn (he pins s σ H _ I h) fun v s1 ⟨y, H1, I1, r1, q1⟩ => ?_) hs
  exact zhC I1 hN hi hx r1 (fun s2 I2 => ⟨_, H1, I2, q1⟩) hf
end

section
variable {X : Cx} {pos : Pos}
def tWhile (c : TT) (tb : TS) : TS := fun D σ H => ∃ W : Nat → St → Hp → Prop, (∃ m, W m σ H) ∧ ∀ m σ H, W m σ H →
  c σ H fun b H1 => if b = true then ∃ N : St → Hp → Prop, (∀ σ' H', N σ' H' → ∃ m', m' < m ∧ W m' σ' H') ∧ tb { D with nx := N, ct := N, bk := D.nx } σ H1 else D.nx σ H1
theorem zmx {c : Expr} {body : List Stmt} {tc : TT} {tb : TS} (hp : PassesOwn (model X.prog X.w) X.A X.env X.xe) (hc : PT X c tc) (hb : PSs X body tb) : PS X (.While c body [] pos) (tWhile tc tb) := by
  intro pins s σ H D I h
  obtain ⟨W, ⟨m0, w0⟩, turn⟩ := h
  refine wpAny_While (codeAny_whileLoop (fun n s' => ∃ σ' H', Inv X pins σ' H' s' ∧ W n σ' H') ?_ m0 ⟨σ, H, I, w0⟩)
  rintro n s1 ⟨σ1, H1, I1, w1⟩
  refine wpAny_passesOwn hp (thn (hc pins s1 σ1 H1 _ I1 (turn n σ1 H1 w1)) fun b s2 ⟨H2, I2, q2⟩ => ?_)
  cases b with
  | true =>
    obtain ⟨N, hN, q2⟩ := q2
    rw [if_pos rfl]
    refine wpAny_passesOwn hp (thn (hb pins s2 σ1 H2 _ I2 q2) fun f s3 q3 => ?_)
    cases f with
    | next =>
      obtain ⟨σ3, H3, I3, n3⟩ := q3
      obtain ⟨m', hm, w3⟩ := hN σ3 H3 n3
      exact ⟨m', hm, σ3, H3, I3, w3⟩
    | cont =>
      obtain ⟨σ3, H3, I3, n3⟩ := q3
      obtain ⟨m', hm, w3⟩ := hN σ3 H3 n3
      exact ⟨m', hm, σ3, H3, I3, w3⟩
    | brk => exact q3
    | ret v => exact q3
  | false =>
    rw [if_neg Bool.false_ne_true]
    exact wpAny_execs_nil ⟨σ1, H2, I2, q2⟩
end

structure It where
  go : Nat → Hp → Prop
  yld : Nat → Hp → V → Hp → Prop
  stop : Nat → Hp → Prop
def FpOk (X : Cx) (pins : List (Addr × Obj)) (H : Hp) (b : Addr) : Prop :=
  H b = none ∧ b ≠ X.env.locals ∧ b ∉ X.fs ∧ (b ∈ X.ex ∨ X.s₀.heap.objs.size ≤ b) ∧ (∀ x c, X.env.cells.lookup x = some c → c ≠ b) ∧ ∀ p ∈ X.pn ++ pins, p.1 ≠ b
theorem Inv.fpOk {X : Cx} {pins : List (Addr × Obj)} {σ : St} {H H' : Hp} {s : Shared} {b : Addr} (I : Inv X pins σ H s) (hb : s.heap.objs.size ≤ b) (hn : H' b = none) : FpOk X pins H' b := by
  refine ⟨hn, Nat.ne_of_gt (Nat.lt_of_lt_of_le I.lt hb), I.nofs hb, .inr (Nat.le_trans I.sz hb), fun x c e z => ?_, fun p hp z => ?_⟩
  · obtain ⟨v, q⟩ := I.cell x c e
    exact absurd (Nat.lt_of_lt_of_le q.lt (by rw [z]; exact hb)) (Nat.lt_irrefl _)
  · exact absurd (Nat.lt_of_lt_of_le (Heap.lt_size (I.pin p hp).1) (by rw [z]; exact hb)) (Nat.lt_irrefl _)
structure Turn (P : Program) (w : World) (K : PySem.W.Frag) (tg : Expr) (J : It) (fp : List Addr) (it : Addr) (tn : Nat → Heap → Prop) : Prop where
  mem : it ∈ fp
  obj : ∀ i h, tn i h → ∀ b ∈ fp, ∃ o, h.get? b = some o ∧ ∀ v, o.data ≠ .cell v
  keep : ∀ i h h', tn i h → (∀ b ∈ fp, ∀ o, h.get? b = some o → h'.get? b = some o) → tn i h'
  item : ∀ (X : Cx), X.prog = P → X.w = w → X.K = K → X.calm = true → ∀ (i : Nat) (pins : List (Addr × Obj)) (s : Shared) (σ : St) (H : Hp) (E : Value → Shared → Prop), Inv X pins σ H s → (∀ b ∈ fp, FpOk X pins H b) → tn i s.heap → J.go i H →
    wpAny (model P w) X.A (pyNext (.ref it)) (fun r s1 => ∃ u, r = some u ∧
      wpAny (model P w) X.A (letOwnedTupleGo tg (.ref it) u) (fun _ s2 => ∃ x H', Inv X pins σ H' s2 ∧ RelV x u ∧ J.yld i H x H' ∧ tn (i + 1) s2.heap ∧ ∀ b ∈ fp, H' b = none) E s1) E s
  done : ∀ (X : Cx), X.prog = P → X.w = w → X.K = K → X.calm = true → ∀ (i : Nat) (pins : List (Addr × Obj)) (s : Shared) (σ : St) (H : Hp) (E : Value → Shared → Prop), Inv X pins σ H s → (∀ b ∈ fp, FpOk X pins H b) → tn i s.heap → J.stop i H →
    wpAny (model P w) X.A (pyNext (.ref it)) (fun r s1 => r = none ∧ Inv X pins σ H s1) E s
  self : ∀ (A : Around) (i : Nat) (s : Shared) (Q : Value → Shared → Prop) (E : Value → Shared → Prop), tn i s.heap → Q (.ref it) s → wpAny (model P w) A (pyIter (.ref it)) Q E s
abbrev TI := St → Hp → (It → Hp → Prop) → Prop
def PIE (X : Cx) (pins : List (Addr × Obj)) (σ : St) (tg : Expr) (R : It → Hp → Prop) (itv : Value) (s2 : Shared) : Prop :=
  ∃ (it : Addr) (fp : List Addr) (tn : Nat → Heap → Prop) (J : It) (H' : Hp), itv = .ref it ∧ Inv X pins σ H' s2 ∧ Turn X.prog X.w X.K tg J fp it tn ∧ tn 0 s2.heap ∧ (∀ b ∈ fp, FpOk X pins H' b) ∧ R J H'
def PI (X : Cx) (tg iter : Expr) (wi : TI) : Prop :=
  ∀ (pins : List (Addr × Obj)) (s : Shared) (σ : St) (H : Hp) (R : It → Hp → Prop), Inv X pins σ H s → wi σ H R →
    wpAny (model X.prog X.w) X.A (eval iter X.env) (fun v s1 => wpAny (model X.prog X.w) X.A (pyIter v) (PIE X pins σ tg R) X.xe s1) X.xe s

theorem zme {M : Model} {A : Around} {E : Value → Shared → Prop} {s : Shared} {tg : Expr} {it : Addr} {u : Value} {o : Obj} {n : String} {vs : Array Value} {Q : Unit → Shared → Prop} (ho : s.heap.get? it = some o) (hc : o.cls = .type n) (hd : o.data = .fields vs)
    (hn : ["enumerate", "zip", "dict_itemiterator", "dict_reverseitemiterator", "odict_iterator", "itertools.zip_longest", "itertools.pairwise"].contains n = false) (hQ : Q () s) : wpAny M A (letOwnedTupleGo tg (.ref it) u) Q E s := by
  unfold letOwnedTupleGo
  cases tg <;> first
    | exact wpAny_pure hQ
    | (cases u <;> first
        | exact wpAny_pure hQ
        | (refine wpAny_bind (wpAny_load ho ?_)
           rw [hc, hd]
           show wpAny M A (if (["enumerate", "zip", "dict_itemiterator", "dict_reverseitemiterator", "odict_iterator", "itertools.zip_longest", "itertools.pairwise"].contains n && vs[0]? == some (rawInt _)) = true then _ else _) Q E s
           rw [if_neg (by intro h; rw [hn, Bool.false_and] at h; cases h)]
           exact wpAny_pure hQ))

def Itl (K : PySem.W.Frag) (a : Addr) : It :=
  ⟨fun i H => ∃ xs x, SqL K H a xs ∧ xs[i]? = some x, fun i H x H' => H' = H ∧ ∀ xs, SqL K H a xs → xs[i]? = some x, fun i H => ∃ xs, SqL K H a xs ∧ xs.length ≤ i⟩
def Itt (K : PySem.W.Frag) (a : Addr) : It :=
  ⟨fun i H => ∃ xs x, SqT K H a xs ∧ xs[i]? = some x, fun i H x H' => H' = H ∧ ∀ xs, SqT K H a xs → xs[i]? = some x, fun i H => ∃ xs, SqT K H a xs ∧ xs.length ≤ i⟩
def Itr (lo : Int) (n : Nat) : It := ⟨fun i _ => i < n, fun i H x H' => H' = H ∧ x = .int (lo + i), fun i _ => n ≤ i⟩
theorem zls {P : Program} {w : World} {K : PySem.W.Frag} {tg : Expr} (a it : Addr) : Turn P w K tg (Itl K a) [it] it (fun i h => h.IsListIter it a i) where
  mem := by simp
  obj := fun i h st b hb => by
    have e : b = it := by simpa using hb
    subst e
    obtain ⟨o, e, c, d⟩ := st
    exact ⟨o, e, fun v z => by rw [d] at z; cases z⟩
  keep := fun i h h' st k => st.at fun o e => k it (by simp) o e
  item := by
    intro X hP hw hK hc i pins s σ H E I hf st hg
    subst hP hw hK
    obtain ⟨xs, x, hq, hx⟩ := hg
    obtain ⟨its, rv, p, hz⟩ := I.list hq
    obtain ⟨u, hu, ru⟩ := rv.get hx
    obtain ⟨f0, f1, f2, f3, f4, f5⟩ := hf it (by simp)
    refine wpAny_pyNext_list_item st p.isList (x := u) (by simpa using hu) fun h' st' sb => ?_
    have I1 : Inv X pins σ H { s with heap := h' } := I.turned (t' := s.toks) (fun b o hb e => (sb.2 b hb).trans e) f0 f1 f3 f4 f5
    obtain ⟨o, e, c, d⟩ := id st'
    exact ⟨u, rfl, zme (s := { s with heap := h' }) e c d (by decide) ⟨x, H, I1, ru, ⟨rfl, fun ys hy => by rw [I.list_inj hy hq]; exact hx⟩, st', fun b hb => (hf b hb).1⟩⟩
  done := by
    intro X hP hw hK hc i pins s σ H E I hf st hg
    subst hP hw hK
    obtain ⟨xs, hq, hx⟩ := hg
    obtain ⟨its, rv, p, hz⟩ := I.list hq
    obtain ⟨f0, f1, f2, f3, f4, f5⟩ := hf it (by simp)
    have hl := rv.length
    exact wpAny_pyNext_list_end (I.ok.hd hc) st p.isList (by simp; omega) fun h' eb => ⟨rfl, I.turned (t' := s.toks) (fun b o hb e => eb b o hb e) f0 f1 f3 f4 f5⟩
  self := fun _ _ _ _ _ st h => wpAny_pyIter_listiter st h
theorem ziR {P : Program} {w : World} {K : PySem.W.Frag} {tg : Expr} (a it : Addr) : Turn P w K tg (Itt K a) [it] it (fun i h => h.IsTupleIter it a i) where
  mem := by simp
  obj := fun i h st b hb => by
    have e : b = it := by simpa using hb
    subst e
    obtain ⟨o, e, c, d⟩ := st
    exact ⟨o, e, fun v z => by rw [d] at z; cases z⟩
  keep := fun i h h' st k => st.at fun o e => k it (by simp) o e
  item := by
    intro X hP hw hK hc i pins s σ H E I hf st hg
    subst hP hw hK
    obtain ⟨xs, x, hq, hx⟩ := hg
    obtain ⟨its, rv, p, hz⟩ := I.tuple hq
    obtain ⟨u, hu, ru⟩ := rv.get hx
    obtain ⟨f0, f1, f2, f3, f4, f5⟩ := hf it (by simp)
    refine wpAny_pyNext_tuple_item st (show s.heap.IsTuple a its.toArray from p) (x := u) (by simpa using hu) fun h' st' sb => ?_
    have I1 : Inv X pins σ H { s with heap := h' } := I.turned (t' := s.toks) (fun b o hb e => (sb.2 b hb).trans e) f0 f1 f3 f4 f5
    obtain ⟨o, e, c, d⟩ := id st'
    exact ⟨u, rfl, zme (s := { s with heap := h' }) e c d (by decide) ⟨x, H, I1, ru, ⟨rfl, fun ys hy => by rw [I.tuple_inj hy hq]; exact hx⟩, st', fun b hb => (hf b hb).1⟩⟩
  done := by
    intro X hP hw hK hc i pins s σ H E I hf st hg
    subst hP hw hK
    obtain ⟨xs, hq, hx⟩ := hg
    obtain ⟨its, rv, p, hz⟩ := I.tuple hq
    obtain ⟨f0, f1, f2, f3, f4, f5⟩ := hf it (by simp)
    have hl := rv.length
    exact wpAny_pyNext_tuple_end (I.ok.hd hc) st (show s.heap.IsTuple a its.toArray from p) (by simp; omega) fun h' eb => ⟨rfl, I.turned (t' := s.toks) (fun b o hb e => eb b o hb e) f0 f1 f3 f4 f5⟩
  self := fun _ _ _ _ _ st h => wpAny_pyIter_tupleiter st h
theorem zjd {P : Program} {w : World} {K : PySem.W.Frag} {tg : Expr} (it : Addr) (lo : Int) (n : Nat) : Turn P w K tg (Itr lo n) [it] it (fun i h => IsRangeIter h it (lo + (i : Nat) * 1) ((n : Int) - (i : Nat)) 1) where
  mem := by simp
  obj := fun i h st b hb => by
    have e : b = it := by simpa using hb
    subst e
    exact ⟨_, st, fun v z => by
      have z' : Data.fields _ = Data.cell v := z
      cases z'⟩
  keep := fun i h h' st k => k it (by simp) _ st
  item := by
    intro X hP hw hK hc i pins s σ H E I hf st hg
    subst hP hw hK
    obtain ⟨f0, f1, f2, f3, f4, f5⟩ := hf it (by simp)
    have W := Walks.range (prog := X.prog) (w := X.w) (I.ok.hd hc) it lo 1 n
    refine W.item i s _ _ hg st fun v h' tk hv st' kk => ?_
    obtain ⟨t, rfl⟩ := hv
    have I1 : Inv X pins σ H { s with heap := h', toks := tk } := I.turned (fun b o hb e => kk b o (by simpa using hb) e) f0 f1 f3 f4 f5
    refine ⟨_, rfl, zme (s := { s with heap := h', toks := tk }) (n := "range_iterator") st' rfl rfl (by decide) ⟨.int (lo + i), H, I1, ⟨t, ?_⟩, ⟨rfl, rfl⟩, st', fun b hb => (hf b hb).1⟩⟩
    rw [Int.mul_one]
  done := by
    intro X hP hw hK hc i pins s σ H E I hf st hg
    subst hP hw hK
    obtain ⟨f0, f1, f2, f3, f4, f5⟩ := hf it (by simp)
    exact wpAny_pyNext_range_end (I.ok.hd hc) st (by have : n ≤ i := hg; omega) fun h' eb => ⟨rfl, I.turned (t' := s.toks) (fun b o hb e => eb b o hb e) f0 f1 f3 f4 f5⟩
  self := fun _ _ _ _ _ st h => wpAny_pyIter_rangeiter st h
end L2

namespace L2
open PySem PySem.Spec PyProof.Rows
section
variable {X : Cx} {tg : Expr}
theorem zlK {pins : List (Addr × Obj)} {σ : St} {H : Hp} {s : Shared} {R : It → Hp → Prop} {E : Value → Shared → Prop} {lo hi : Int} {t u v : Tok} {tk : Nat} (I : Inv X pins σ H s) (h1 : -(2 ^ 62) ≤ lo) (h2 : lo < 2 ^ 62) (h3 : -(2 ^ 62) ≤ hi) (h4 : hi < 2 ^ 62)
    (q : R (Itr lo (hi - lo).toNat) H) : wpAny (model X.prog X.w) X.A (pyIter (.ref s.heap.objs.size)) (PIE X pins σ tg R) E { s with heap := s.heap.push { cls := .type "range", data := .fields #[.int lo t, .int hi u, .int 1 v] }, toks := tk } := by
  refine wpAny_pyIter_range (IsRange.new ..) (small_one h1 h2 h3 h4) ?_
  have I1 : Inv X pins σ H { s with heap := s.heap.push { cls := .type "range", data := .fields #[.int lo t, .int hi u, .int 1 v] }, toks := tk } := I.kept fun b o e => Heap.get?_push_of_some _ e
  refine ⟨(s.heap.push { cls := .type "range", data := .fields #[.int lo t, .int hi u, .int 1 v] }).objs.size, [(s.heap.push { cls := .type "range", data := .fields #[.int lo t, .int hi u, .int 1 v] }).objs.size], _, _, H, rfl,
    I1.kept (t' := tk) fun b o e => Heap.get?_push_of_some _ e, zjd _ lo (hi - lo).toNat, ?_, fun b hb => ?_, q⟩
  · have e1 : lo + ((0 : Nat) : Int) * 1 = lo := by simp
    have e2 : (((hi - lo).toNat : Nat) : Int) - ((0 : Nat) : Int) = Builtin.Range.rangeSize lo hi 1 := by rw [rangeSize_one]; split <;> omega
    show IsRangeIter _ _ (lo + ((0 : Nat) : Int) * 1) ((((hi - lo).toNat : Nat) : Int) - ((0 : Nat) : Int)) 1
    rw [e1, e2]
    exact Heap.get?_push_size _ rfl
  · have e : b = (s.heap.push { cls := .type "range", data := .fields #[.int lo t, .int hi u, .int 1 v] }).objs.size := by simpa using hb
    subst e
    exact I1.fpOk (Nat.le_refl _) (I1.hok.fresh (Nat.le_refl _))
def iRng1 (ta : TA) : TI := fun σ H R => ta σ H fun vs H1 => ∃ j : Int, vs = [.int j] ∧ -(2 ^ 62) ≤ j ∧ j < 2 ^ 62 ∧ R (Itr 0 j.toNat) H1
theorem zkL {a : Expr} {ta : TA} {p pos : Pos} (hg : Gl X "range") (hm : X.mg "range" = none) (ha : PA X [a] ta) (hs : starEach [a] X.env = [(false, eval a X.env)] := by rfl) : PI X tg (.Call (.Name "range" p) [a] [] pos) (iRng1 ta) := by
  intro pins s σ H R I h
  refine Call_ (zet I hg hm boot_range (PyProof.Rows.callWith_type1 (thn (ha pos pins s σ H _ I h) fun us s1 ⟨vs, H1, I1, r1, q1⟩ => ?_) hs rfl))
  obtain ⟨j, e, q1, q2, q⟩ := q1
  subst e
  cases r1 with
  | cons r rr =>
    cases rr
    obtain ⟨t, rfl⟩ := r
    exact call_range_1 (zlK I1 (by omega) (by omega) q1 q2 (by simpa using q))
def tFor (wi : TI) (g : TG) (tb : TS) : TS := fun D σ H => wi σ H fun J H1 => ∃ W : Nat → Nat → St → Hp → Prop, (∃ m, W 0 m σ H1) ∧ ∀ i m σ H, W i m σ H →
  (J.stop i H ∧ D.nx σ H) ∨ (J.go i H ∧ ∃ N : St → Hp → Prop, (∀ σ' H', N σ' H' → ∃ m', m' < m ∧ W (i + 1) m' σ' H') ∧ ∀ x H', J.yld i H x H' → g x σ H' fun σ2 H2 => tb { D with nx := N, ct := N, bk := D.nx } σ2 H2)
def pinsAt (fp : List Addr) (h : Heap) : List (Addr × Obj) := fp.filterMap fun b => (h.get? b).map fun o => (b, o)
theorem zcA {fp : List Addr} {h : Heap} {b : Addr} {o : Obj} (hb : b ∈ fp) (e : h.get? b = some o) : (b, o) ∈ pinsAt fp h := List.mem_filterMap.mpr ⟨b, hb, by rw [e]; rfl⟩
theorem zjZ {fp : List Addr} {h : Heap} {p : Addr × Obj} (hp : p ∈ pinsAt fp h) : p.1 ∈ fp ∧ h.get? p.1 = some p.2 := by
  obtain ⟨b, hb, e⟩ := List.mem_filterMap.mp hp
  cases q : h.get? b with
  | none => rw [q] at e; cases e
  | some o =>
    rw [q] at e
    have e' : (b, o) = p := Option.some.inj e
    subst e'
    exact ⟨hb, q⟩
theorem Inv.pinned {pins : List (Addr × Obj)} {σ : St} {H : Hp} {s : Shared} {fp : List Addr} (I : Inv X pins σ H s) (hf : ∀ b ∈ fp, FpOk X pins H b) (ho : ∀ b ∈ fp, ∃ o, s.heap.get? b = some o ∧ ∀ v, o.data ≠ .cell v) : Inv X (pins ++ pinsAt fp s.heap) σ H s :=
  I.pins_of fun p hp => (List.mem_append.mp hp).elim (fun z => I.pin p (List.mem_append_right _ z)) fun z => by
    obtain ⟨hb, e⟩ := zjZ z
    obtain ⟨f0, f1, f2, _⟩ := hf p.1 hb
    obtain ⟨o, e', d⟩ := ho p.1 hb
    rw [e] at e'; cases e'
    exact ⟨e, f0, f1, f2, d⟩
theorem Inv.unpinned {pins pl : List (Addr × Obj)} {σ : St} {H : Hp} {s : Shared} (I : Inv X (pins ++ pl) σ H s) : Inv X pins σ H s := I.pins_of fun p hp => I.pin p (List.mem_append_right _ (List.mem_append_left _ hp))
theorem zqw {iter : Expr} {body : List Stmt} {wi : TI} {g : TG} {tb : TS} {pos : Pos} (hp : PassesOwn (model X.prog X.w) X.A X.env X.xe) (hc : X.calm = true) (hi : PI X tg iter wi) (hg : PG X tg g) (hb : PSs X body tb)
    (hs : ∀ x, foldedSetIterable iter X.env x = pure x := by intro _; rfl) : PS X (.For tg iter body [] pos) (tFor wi g tb) := by
  intro pins s σ H D I h
  refine wpAny_For (thn (hi pins s σ H _ I h) fun v s1 h1 => thn h1 fun itv s2 h2 => ?_) hs
  obtain ⟨it, fp, tn, J, H2, e, I2, T, st2, f2, W, ⟨m0, w0⟩, turn⟩ := h2
  subst e
  -- what stays true of the iterator's objects through the loop
  have stat : ∀ {H' : Hp}, (∀ b ∈ fp, H' b = none) → ∀ b ∈ fp, FpOk X pins H' b := fun hn b hb => ⟨hn b hb, (f2 b hb).2⟩
  refine codeAny_forLoop_any (fun n s' => ∃ i σ' H', Inv X pins σ' H' s' ∧ tn i s'.heap ∧ (∀ b ∈ fp, H' b = none) ∧ W i n σ' H') ?_ m0 ⟨0, σ, H2, I2, st2, fun b hb => (f2 b hb).1, w0⟩
  rintro n s3 ⟨i, σ3, H3, I3, st3, fr3, w3⟩
  rcases turn i n σ3 H3 w3 with ⟨stop, qn⟩ | ⟨go, N, hN, step⟩
  · refine wpAny_passesOwn hp (thn (T.done X rfl rfl rfl hc i pins s3 σ3 H3 X.xe I3 (stat fr3) st3 stop) fun r s4 ⟨hr, I4⟩ => ?_)
    subst hr
    exact wpAny_execs_nil ⟨σ3, H3, I4, qn⟩
  · refine wpAny_passesOwn hp (thn (T.item X rfl rfl rfl hc i pins s3 σ3 H3 X.xe I3 (stat fr3) st3 go) fun r s4 ⟨u, hr, h4⟩ => ?_)
    subst hr
    refine wpAny_passesOwn hp (thn h4 fun _ s5 ⟨x, H5, I5, r5, y5, st5, fr5⟩ => ?_)
    have I5' := I5.pinned (stat fr5) (T.obj _ _ st5)
    refine wpAny_passesOwn hp (thn (hg _ s5 σ3 H5 x u _ I5' r5 (step x H5 y5)) fun _ s6 ⟨σ6, H6, I6, q6⟩ => ?_)
    refine wpAny_passesOwn hp (thn (hb _ s6 σ6 H6 _ I6 q6) fun f s7 q7 => ?_)
    have again : ∀ {σ7 : St} {H7 : Hp}, Inv X (pins ++ pinsAt fp s5.heap) σ7 H7 s7 → N σ7 H7 → ∃ m, m < n ∧ ∃ i σ' H', Inv X pins σ' H' s7 ∧ tn i s7.heap ∧ (∀ b ∈ fp, H' b = none) ∧ W i m σ' H' := fun {σ7 H7} I7 n7 => by
      obtain ⟨m', hm, w7⟩ := hN σ7 H7 n7
      refine ⟨m', hm, i + 1, σ7, H7, I7.unpinned, T.keep _ _ _ st5 fun b hb o e => (I7.pin (b, o) (List.mem_append_right _ (List.mem_append_right _ (zcA hb e)))).1, fun b hb => ?_, w7⟩
      obtain ⟨o, e, d⟩ := T.obj _ _ st5 b hb
      exact (I7.pin (b, o) (List.mem_append_right _ (List.mem_append_right _ (zcA hb e)))).2.1
    cases f with
    | next => obtain ⟨σ7, H7, I7, n7⟩ := q7; exact again I7 n7
    | cont => obtain ⟨σ7, H7, I7, n7⟩ := q7; exact again I7 n7
    | brk => obtain ⟨σ7, H7, I7, q7⟩ := q7; exact ⟨σ7, H7, I7.unpinned, q7⟩
    | ret v => obtain ⟨x7, σ7, H7, I7, r7, q7⟩ := q7; exact ⟨x7, σ7, H7, I7.unpinned, r7, q7⟩
end

end L2

namespace L2
open PySem PySem.Spec PyProof.Rows

abbrev R2 := V → V → Hp → VK → Prop
def OpR (X : Cx) (f : Value → Value → Sem Value) (r : R2) : Prop :=
  ∀ (pins : List (Addr × Obj)) (s : Shared) (σ : St) (H : Hp) (x y : V) (v u : Value) (Q : VK), Inv X pins σ H s → RelV x v → RelV y u → r x y H Q →
    wpAny (model X.prog X.w) X.A (f v u) (EP X pins σ Q) X.xe s
def UnR (X : Cx) (f : Value → Sem Value) (r : V → Hp → VK → Prop) : Prop :=
  ∀ (pins : List (Addr × Obj)) (s : Shared) (σ : St) (H : Hp) (x : V) (v : Value) (Q : VK), Inv X pins σ H s → RelV x v → r x H Q →
    wpAny (model X.prog X.w) X.A (f v) (EP X pins σ Q) X.xe s
def CallR (X : Cx) (f : Value) (r : List V → Hp → VK → Prop) : Prop :=
  ∀ (pins : List (Addr × Obj)) (s : Shared) (σ : St) (H : Hp) (xs : List V) (us : List Value) (Q : VK), Inv X pins σ H s → Vals xs us → r xs H Q →
    wpAny (model X.prog X.w) X.A (call f us) (EP X pins σ Q) X.xe s
def TruR (X : Cx) (r : V → Hp → (Bool → Hp → Prop) → Prop) : Prop :=
  ∀ (pins : List (Addr × Obj)) (s : Shared) (σ : St) (H : Hp) (x : V) (v : Value) (Q : Bool → Hp → Prop), Inv X pins σ H s → RelV x v → r x H Q →
    wpAny (model X.prog X.w) X.A (truthy v) (TP X pins σ Q) X.xe s

def tOp (r : R2) (ta tb : TE) : TE := fun σ H Q => ta σ H fun x H1 => tb σ H1 fun y H2 => r x y H2 Q
def tUn (r : V → Hp → VK → Prop) (ta : TE) : TE := fun σ H Q => ta σ H fun x H1 => r x H1 Q
def rI (C : Int → Int → Prop) (g : Int → Int → V) : R2 := fun x y H Q => ∃ i j, x = .int i ∧ y = .int j ∧ C i j ∧ Q (g i j) H
def rI0 (g : Int → Int → V) : R2 := fun x y H Q => ∃ i j, x = .int i ∧ y = .int j ∧ Q (g i j) H
def rU (g : Int → V) : V → Hp → VK → Prop := fun x H Q => ∃ i, x = .int i ∧ Q (g i) H

section
variable {X : Cx} {a b c : Expr} {ta tb tc : TE} {pos : Pos}

theorem binT (ha : PE X a ta) (hb : PE X b tb) {pins : List (Addr × Obj)} {s : Shared} {σ : St} {H : Hp} {R : V → V → Hp → Prop} (I : Inv X pins σ H s)
    (h : ta σ H fun x H1 => tb σ H1 fun y H2 => R x y H2) {Q : Value → Shared → Prop} {f : Value → Value → Sem Value}
    (hf : ∀ v u s2 x y H2, Inv X pins σ H2 s2 → RelV x v → RelV y u → R x y H2 → wpAny (model X.prog X.w) X.A (f v u) Q X.xe s2) :
    wpAny (model X.prog X.w) X.A (eval a X.env) (fun v s₁ => wpAny (model X.prog X.w) X.A (eval b X.env) (fun u s₂ => wpAny (model X.prog X.w) X.A (f v u) Q X.xe s₂) X.xe s₁) X.xe s := by
  refine thn (ha pins s σ H _ I h) fun v s1 ⟨x, H1, I1, r1, q1⟩ => ?_
  refine thn (hb pins s1 σ H1 _ I1 q1) fun u s2 ⟨y, H2, I2, r2, q2⟩ => ?_
  exact hf v u s2 x y H2 I2 r1 r2 q2

theorem zjx {op : Operator} {r : R2} (ho : OpR X (binaryOp op) r) (ha : PE X a ta) (hb : PE X b tb) : PE X (.BinOp a op b pos) (tOp r ta tb) := by
  intro pins s σ H Q I h
  exact wpAny_BinOp (binT ha hb I h fun v u s2 x y H2 I2 rx ry q => ho pins s2 σ H2 x y v u Q I2 rx ry q)
theorem zsu {op : UnaryOp} {r : V → Hp → VK → Prop} (ho : UnR X (unaryOp op) r) (ha : PE X a ta) : PE X (.UnaryOp op a pos) (tUn r ta) := by
  intro pins s σ H Q I h
  exact UnaryOp_ (thn (ha pins s σ H _ I h) fun v s1 ⟨x, H1, I1, r1, q1⟩ => ho pins s1 σ H1 x v Q I1 r1 q1)
theorem opI {f : Value → Value → Sem Value} {C : Int → Int → Prop} {g : Int → Int → Int}
    (rule : ∀ (i j : Int) (t u : Tok) (s : Shared) (Q : Value → Shared → Prop) (E : Value → Shared → Prop), C i j → Q (.int (g i j) s.toks) { s with toks := s.toks + 1 } → wpAny (model X.prog X.w) X.A (f (.int i t) (.int j u)) Q E s) :
    OpR X f (rI C fun i j => .int (g i j)) := by
  intro pins s σ H x y v u Q I rx ry h
  obtain ⟨i, j, rfl, rfl, hc, q⟩ := h
  obtain ⟨t, rfl⟩ := rx
  obtain ⟨t', rfl⟩ := ry
  exact rule i j t t' s _ _ hc ⟨.int (g i j), H, I.tok _, ⟨_, rfl⟩, q⟩
theorem opI0 {f : Value → Value → Sem Value} {g : Int → Int → Int}
    (rule : ∀ (i j : Int) (t u : Tok) (s : Shared) (Q : Value → Shared → Prop) (E : Value → Shared → Prop), Q (.int (g i j) s.toks) { s with toks := s.toks + 1 } → wpAny (model X.prog X.w) X.A (f (.int i t) (.int j u)) Q E s) :
    OpR X f (rI0 fun i j => .int (g i j)) := by
  intro pins s σ H x y v u Q I rx ry h
  obtain ⟨i, j, rfl, rfl, q⟩ := h
  obtain ⟨t, rfl⟩ := rx
  obtain ⟨t', rfl⟩ := ry
  exact rule i j t t' s _ _ ⟨.int (g i j), H, I.tok _, ⟨_, rfl⟩, q⟩
theorem opB0 {f : Value → Value → Sem Value} {g : Int → Int → Bool}
    (rule : ∀ (i j : Int) (t u : Tok) (s : Shared) (Q : Value → Shared → Prop) (E : Value → Shared → Prop), Q (.bool (g i j)) s → wpAny (model X.prog X.w) X.A (f (.int i t) (.int j u)) Q E s) :
    OpR X f (rI0 fun i j => .bl (g i j)) := by
  intro pins s σ H x y v u Q I rx ry h
  obtain ⟨i, j, rfl, rfl, q⟩ := h
  obtain ⟨t, rfl⟩ := rx
  obtain ⟨t', rfl⟩ := ry
  exact rule i j t t' s _ _ ⟨.bl (g i j), H, I, rfl, q⟩

def CDiv (i j : Int) : Prop := 0 < j ∧ j < 1073741824
def CPow (i j : Int) : Prop := 0 ≤ j ∧ j ≤ 1000000 ∧ i.natAbs < 2 ^ 64
def CMul (i j : Int) : Prop := (-(2 ^ 64) < i ∧ i < 2 ^ 64) ∨ (-(2 ^ 64) < j ∧ j < 2 ^ 64)
theorem CMul.ok {i j : Int} (h : CMul i j) : IntMulOk i j := by
  rcases h with ⟨h1, h2⟩ | ⟨h1, h2⟩
  · exact .of_left (intBits_le_64 h1 h2)
  · exact .of_right (intBits_le_64 h1 h2)
theorem zpN : OpR X (binaryOp .Add) (rI0 fun i j => .int (i + j)) := opI0 fun _ _ _ _ _ _ _ q => add_int q
theorem zqg : OpR X (binaryOp .Sub) (rI0 fun i j => .int (i - j)) := opI0 fun _ _ _ _ _ _ _ q => sub_int q
theorem zqU : OpR X (binaryOp .Mult) (rI CMul fun i j => .int (i * j)) := opI fun _ _ _ _ _ _ _ hc q => mul_int q hc.ok
theorem zoM : OpR X (binaryOp .FloorDiv) (rI CDiv fun i j => .int (i / j)) := opI fun i j _ _ _ _ _ hc q => by
  have h1 : (0 : Int) < j := hc.1
  have h2 : j < 1073741824 := hc.2
  exact floordiv_int (by omega) (by rw [Int.fdiv_eq_ediv_of_nonneg i (by omega)]; exact q) (.inl (PyProof.noPylong_small (by omega)))
theorem zrl : OpR X (binaryOp .Mod) (rI (fun _ j => 0 < j) fun i j => .int (i % j)) := opI fun i j _ _ _ _ _ hc q => by
  have h1 : (0 : Int) < j := hc
  exact mod_int' (by omega) (by rw [Int.fmod_eq_emod_of_nonneg i (by omega)]; exact q)
theorem zpD : OpR X (binaryOp .Pow) (rI CPow fun i j => .int (i ^ j.toNat)) := opI fun _ _ _ _ _ _ _ hc q => pow_int_small hc.1 hc.2.1 hc.2.2 q
theorem unI {f : Value → Sem Value} {g : Int → Int}
    (rule : ∀ (i : Int) (t : Tok) (s : Shared) (Q : Value → Shared → Prop) (E : Value → Shared → Prop), Q (.int (g i) s.toks) { s with toks := s.toks + 1 } → wpAny (model X.prog X.w) X.A (f (.int i t)) Q E s) :
    UnR X f (rU fun i => .int (g i)) := by
  intro pins s σ H x v Q I rx h
  obtain ⟨i, rfl, q⟩ := h
  obtain ⟨t, rfl⟩ := rx
  exact rule i t s _ _ ⟨.int (g i), H, I.tok _, ⟨_, rfl⟩, q⟩
theorem zro : UnR X (unaryOp .USub) (rU fun i => .int (-i)) := unI fun _ _ _ _ _ q => neg_int q
end

section
variable {X : Cx} {a b c : Expr} {ta tb tc : TE} {pos : Pos}
theorem ziE {pins : List (Addr × Obj)} {σ : St} {H : Hp} {s : Shared} {Q : VK} {k k' : Bool} (I : Inv X pins σ H s) (q : Q (.bl k) H) (e : k = k') : EP X pins σ Q (.bool k') s := by
  subst e
  exact ⟨.bl k, H, I, rfl, q⟩
theorem zsr : OpR X (compareOp .Lt) (rI0 fun i j => .bl (decide (i < j))) := opB0 fun _ _ _ _ _ _ _ q => lt_int q
theorem zrT : OpR X (compareOp .Gt) (rI0 fun i j => .bl (decide (j < i))) := opB0 fun _ _ _ _ _ _ _ q => gt_int q
theorem zrr : OpR X (compareOp .GtE) (rI0 fun i j => .bl (decide (j ≤ i))) := opB0 fun _ _ _ _ _ _ _ q => ge_int q
theorem zjV : OpR X (compareOp .In) (fun x y H Q => ∃ i j, x = .str i ∧ y = .str j ∧ Q (.bl (!(Builtin.Str.occurrences j i 0 j.length 1).isEmpty)) H) := by
  intro pins s σ H x y v u Q I rx ry h
  obtain ⟨i, j, rfl, rfl, q⟩ := h
  obtain ⟨t, rfl⟩ := rx
  obtain ⟨t', rfl⟩ := ry
  exact in_str (ziE I q rfl)

theorem zqr : OpR X (compareOp .Is) (fun x y H Q => y = .non ∧ Q (.bl (decide (x = .non))) H) := by
  intro pins s σ H x y v u Q I rx ry h
  obtain ⟨rfl, q⟩ := h
  cases ry
  refine is_none_gen (ziE I q ?_)
  cases x <;> first
    | (cases rx; rfl)
    | (obtain ⟨t, rfl⟩ := rx; rfl)
theorem znY : OpR X (compareOp .IsNot) (fun x y H Q => y = .non ∧ Q (.bl (!decide (x = .non))) H) := by
  intro pins s σ H x y v u Q I rx ry h
  obtain ⟨rfl, q⟩ := h
  cases ry
  refine isnot_none_gen (ziE I q ?_)
  cases x <;> first
    | (cases rx; rfl)
    | (obtain ⟨t, rfl⟩ := rx; rfl)

theorem zfL : OpR X (compareOp .NotIn) (fun x y H Q => ∃ i j, x = .str i ∧ y = .str j ∧ Q (.bl (!(!(Builtin.Str.occurrences j i 0 j.length 1).isEmpty))) H) := by
  intro pins s σ H x y v u Q I rx ry h
  obtain ⟨i, j, rfl, rfl, q⟩ := h
  obtain ⟨t, rfl⟩ := rx
  obtain ⟨t', rfl⟩ := ry
  exact notIn_str (ziE I q rfl)
theorem OpR.or {f : Value → Value → Sem Value} {r r' : R2} (h : OpR X f r) (h' : OpR X f r') : OpR X f (fun x y H Q => r x y H Q ∨ r' x y H Q) := by
  intro pins s σ H x y v u Q I rx ry q
  rcases q with q | q
  · exact h pins s σ H x y v u Q I rx ry q
  · exact h' pins s σ H x y v u Q I rx ry q

theorem nomark (b : Expr) {op : CmpOp} (h : op ≠ .In := by decide) (h2 : op ≠ .NotIn := by decide) : behindInMarks op b = false := by
  have e1 : (op == CmpOp.In) = false := by cases op <;> first | rfl | exact absurd rfl h
  have e2 : (op == CmpOp.NotIn) = false := by cases op <;> first | rfl | exact absurd rfl h2
  cases b <;> simp [behindInMarks, e1, e2]
theorem znS {op : CmpOp} {r : R2} (ho : OpR X (compareOp op) r) (ha : PE X a ta) (hb : PE X b tb) (hm : behindInMarks op b = false) : PE X (.Compare a [op] [b] pos) (tOp r ta tb) := by
  intro pins s σ H Q I h
  exact wpAny_Compare1 (binT ha hb I h fun v u s2 x y H2 I2 rx ry q => ho pins s2 σ H2 x y v u Q I2 rx ry q) hm
def tTest (t : TE) : TT := fun σ H Q => t σ H fun x H' => ∃ k, x = .bl k ∧ Q k H'
theorem zoA {op : CmpOp} {r : R2} (ho : OpR X (compareOp op) r) (ha : PE X a ta) (hb : PE X b tb) (hm : behindInMarks op b = false) : PT X (.Compare a [op] [b] pos) (tTest (tOp r ta tb)) := by
  intro pins s σ H Q I h
  refine wpAny_isTrue_Compare1 (thn (ha pins s σ H _ I h) fun v s1 ⟨x, H1, I1, r1, q1⟩ => thn (hb pins s1 σ H1 _ I1 q1) fun u s2 ⟨y, H2, I2, r2, q2⟩ =>
    thn (ho pins s2 σ H2 x y v u _ I2 r1 r2 q2) fun c s3 ⟨z, H3, I3, r3, k, e, q3⟩ => ?_) hm
  subst e
  cases r3
  exact wpAny_truthy_bool ⟨H3, I3, q3⟩
def TruV (K : PySem.W.Frag) (x : V) (H : Hp) (k : Bool) : Prop :=
  match x with
  | .non => k = false
  | .bl b => k = b
  | .int i => k = (i != 0)
  | .str y => y.length ≤ sizeLine ∧ k = ((y.length : Int) != 0)
  | .byt y => y.size ≤ sizeLine ∧ k = ((y.size : Int) != 0)
  | .ref p => (∃ xs, SqL K H p xs ∧ k = !xs.isEmpty) ∨ (∃ xs, SqT K H p xs ∧ k = !xs.isEmpty) ∨ ∃ kvs, H p = some (.dK kvs) ∧ k = !kvs.isEmpty
  | _ => False
theorem zjc {κ : Type} {kvs : List (κ × V)} {vs : List (κ × Value)} (r : KV kvs vs) : (!vs.isEmpty) = !kvs.isEmpty := by
  cases r <;> rfl
theorem zeC {xs : List V} {its : List Value} (r : Vals xs its) : (!its.toArray.isEmpty) = !xs.isEmpty := by
  cases r <;> simp
theorem line63 : (sizeLine : Nat) < 2 ^ 63 := by rw [sizeLine_eq]; decide
theorem zpA : TruR X (fun x H Q => ∃ k, TruV X.K x H k ∧ Q k H) := by
  intro pins s σ H x v Q I rx h
  obtain ⟨k, e, q⟩ := h
  have hl := line63
  have hs : sizeLine = 16777216 := sizeLine_eq
  cases x with
  | non =>
    cases rx
    have e' : k = false := e
    subst e'
    exact truthy_none ⟨H, I, q⟩
  | bl b =>
    cases rx
    have e' : k = b := e
    subst e'
    exact wpAny_truthy_bool ⟨H, I, q⟩
  | int i =>
    obtain ⟨t, rfl⟩ := rx
    have e' : k = (i != 0) := e
    subst e'
    exact PySem.P.truthy_int ⟨H, I, q⟩
  | str y =>
    obtain ⟨t, rfl⟩ := rx
    obtain ⟨hy, e'⟩ : y.length ≤ sizeLine ∧ k = ((y.length : Int) != 0) := e
    subst e'
    exact PySem.P.truthy_str (by omega) ⟨H, I.tok _, q⟩
  | byt y =>
    obtain ⟨t, rfl⟩ := rx
    obtain ⟨hy, e'⟩ : y.size ≤ sizeLine ∧ k = ((y.size : Int) != 0) := e
    subst e'
    exact PySem.W.truthy_bytes (by omega) ⟨H, I.tok _, q⟩
  | ref p =>
    cases rx
    have e' : (∃ xs, SqL X.K H p xs ∧ k = !xs.isEmpty) ∨ (∃ xs, SqT X.K H p xs ∧ k = !xs.isEmpty) ∨ ∃ kvs, H p = some (.dK kvs) ∧ k = !kvs.isEmpty := e
    rcases e' with ⟨xs, hx, e'⟩ | ⟨xs, hx, e'⟩ | ⟨kvs, hx, e'⟩
    · subst e'
      obtain ⟨its, r, pl, hz⟩ := I.list hx
      have hlen := r.length
      exact wpAny_truthy_list pl.isList (by simp only [List.size_toArray]; omega) ⟨H, I.tok _, by rw [zeC r]; exact q⟩
    · subst e'
      obtain ⟨its, r, pl, hz⟩ := I.tuple hx
      have hlen := r.length
      exact truthy_tuple pl (by simp only [List.size_toArray]; omega) ⟨H, I.tok _, by rw [zeC r]; exact q⟩
    · subst e'
      obtain ⟨hz, hS, vs, r, m⟩ : kvs.length ≤ sizeLine ∧ (p == sysModules) = false ∧ ∃ vs, KV kvs vs ∧ s.heap.DictOf (mixKind X.prog X.w) p vs := I.hok p _ hx
      have hlen : kvs.length = vs.length := Paired.length r
      exact wpAny_truthy_dict hS m (by omega) ⟨H, I.tok _, by rw [zjc r]; exact q⟩
  | _ => exact (show False from e).elim
theorem zml (ha : PE X a ta) (he : ∀ whole, isTrue a X.env whole = (do let v ← whole; standAt a.pos; holding [v] (truthy v))) :
    PT X a (fun σ H Q => ta σ H fun x H' => ∃ k, TruV X.K x H' k ∧ Q k H') := by
  intro pins s σ H Q I h
  exact isTrue_plain (thn (ha pins s σ H _ I h) fun v s1 ⟨x, H1, I1, r1, q1⟩ => zpA pins s1 σ H1 x v Q I1 r1 q1) (he _)

theorem ziV : OpR X (binaryOp .Add) (fun x y H Q => ∃ i j, x = .str i ∧ y = .str j ∧ i.length + j.length ≤ sizeLine ∧ Q (.str (i ++ j)) H) := by
  intro pins s σ H x y v u Q I rx ry h
  obtain ⟨i, j, rfl, rfl, hz, q⟩ := h
  obtain ⟨t, rfl⟩ := rx
  obtain ⟨t', rfl⟩ := ry
  exact add_str (fun t' tk => ⟨.str (i ++ j), H, I.tok _, ⟨_, rfl⟩, q⟩) hz
theorem vals1 {x : V} {us : List Value} (r : Vals [x] us) : ∃ u, us = [u] ∧ RelV x u := by
  cases r with
  | cons r1 r2 => cases r2; exact ⟨_, rfl, r1⟩
theorem vals2 {x y : V} {us : List Value} (r : Vals [x, y] us) : ∃ u w', us = [u, w'] ∧ RelV x u ∧ RelV y w' := by
  cases r with
  | cons r1 r2 =>
    cases r2 with
    | cons r3 r4 => cases r4; exact ⟨_, _, rfl, r1, r3⟩
theorem zlr (hc : X.calm = true) : CallR X (.builtin "min") (fun xs H Q => ∃ i j, xs = [.int i, .int j] ∧ Q (.int (if j < i then j else i)) H) := by
  intro pins s σ H xs us Q I r h
  obtain ⟨i, j, rfl, q⟩ := h
  obtain ⟨u, w', rfl, ⟨t, rfl⟩, ⟨t', rfl⟩⟩ := vals2 r
  refine min_two_ints (I.ok.hd hc) fun h' tk k => ⟨_, H, I.kept k, ?_, q⟩
  by_cases hj : j < i
  · rw [if_pos hj, if_pos hj]; exact ⟨_, rfl⟩
  · rw [if_neg hj, if_neg hj]; exact ⟨_, rfl⟩
theorem zlv : CallR X (.type "int") (fun xs H Q => (∃ i, xs = [.int i] ∧ Q (.int i) H) ∨ ∃ k, xs = [.bl k] ∧ Q (.int (if k then 1 else 0)) H) := by
  intro pins s σ H xs us Q I r h
  rcases h with ⟨i, rfl, q⟩ | ⟨k, rfl, q⟩
  · obtain ⟨u, rfl, t, rfl⟩ := vals1 r
    exact call_int_int ⟨.int i, H, I, ⟨_, rfl⟩, q⟩
  · obtain ⟨u, rfl, r1⟩ := vals1 r
    cases r1
    exact call_int_bool ⟨.int (if k then 1 else 0), H, I.tok _, ⟨_, rfl⟩, q⟩
end
end L2

namespace L2
open PySem PySem.Spec PyProof.Rows

structure ObjM (h : Heap) (x dx C : Addr) (mA : Str → Option Value) : Prop where
  obj : h.get? x = some (PySem.W.instObj C dx)
  ns : h.Ns1 dx mA
  ne : dx ≠ x

theorem zlo {h : Heap} {dx : Addr} {mA : Str → Option Value} (n : h.Ns1 dx mA) : ∃ od, h.get? dx = some od ∧ ∀ name, PySem.W.lookIn name od = some (mA name) := by
  obtain ⟨o, es, ep, ho, hd, hk, _, hm⟩ := n
  refine ⟨o, ho, fun name => ?_⟩
  have e := hm name
  unfold nsFind findBy at e
  rw [← Array.find?_toList] at e
  unfold PySem.W.lookIn
  rw [hd]
  dsimp only
  split
  · rename_i y q
    rw [q] at e
    exact congrArg some e
  · rename_i q
    rw [q] at e
    have a : es.toList.any (·.refKey) = false := by
      rw [List.any_eq_false]
      intro y hy
      obtain ⟨z, t, hkey⟩ := hk y (Array.mem_toList_iff.mp hy)
      simp [DictEntry.refKey, hkey]
    have a' : ¬ es.toList.any (·.refKey) = true := by rw [a]; exact Bool.false_ne_true
    rw [if_neg a']
    exact congrArg some e

theorem ObjM.look {h : Heap} {x dx C : Addr} {mA : Str → Option Value} (I : ObjM h x dx C mA) : ∃ od, PySem.W.InstAt h x (PySem.W.instObj C dx) C (some od) ∧ ∀ name, PySem.W.lookIn name od = some (mA name) :=
  let ⟨od, ho, hl⟩ := zlo I.ns
  ⟨od, ⟨I.obj, rfl, rfl, ho⟩, hl⟩

section
variable {prog : Program} {w : World} {A : Around} {E : Value → Shared → Prop} {s : Shared} {K : PySem.W.Frag} {x dx C f : Addr} {mA : Str → Option Value} {name : Str} {v : Value}

end

section
variable {P : Program} {w : World} {H H' : Hp} {h h' : Heap} {a C dx : Addr} {fs fs' : List (Str × V)}
theorem zow (hok : HOk P w H h) (e : H a = some (.ins C dx fs)) : ∃ mA, ObjM h a dx C mA ∧ (∀ f, RelO (fs.lookup f) (mA f)) ∧ PySem.Within mA (fs.map (·.1)) ∧ fs.length ≤ 1000 ∧ H dx = some (.own a) := by
  obtain ⟨d, z, ne, ob, mA, n, r, q⟩ := (show ObjOk P w H h a (.ins C dx fs) from hok a _ e)
  exact ⟨mA, ⟨ob, n, ne⟩, r, q, z, d⟩
end

structure Cls (K : PySem.W.Frag) (C : Addr) : Prop where
  pg : PySem.W.plainGet K C Str.empty = true
  hd : PySem.W.hasDictIn K C = true
  po : PySem.W.plainOver K C = true
  sa : PySem.W.findIn K (.ref C) "__setattr__" = some (some (.builtin "object.__setattr__"))
theorem Cls.get {K : PySem.W.Frag} {C : Addr} (c : Cls K C) (f : Str) : PySem.W.plainGet K C f = true := c.pg
section
variable {X : Cx} {pins : List (Addr × Obj)} {σ : St} {H : Hp} {s : Shared} {a C dx : Addr} {fs : List (Str × V)} {f : Str} {v : V} {A : Around} {E : Value → Shared → Prop}

end

section
variable {X : Cx} {o e value : Expr} {f : Str} {pos pos' tpos : Pos} {ta tv : TE}
end

section
variable {X : Cx} {pins : List (Addr × Obj)} {σ : St} {H : Hp} {s : Shared} {A : Around} {E : Value → Shared → Prop} {Q : Value → Shared → Prop} {c : Value} {b : Bool}
inductive TyOf (K : PySem.W.Frag) (H : Hp) : V → Value → Prop where
  | non : TyOf K H .non (.type "NoneType")
  | bl (x : Bool) : TyOf K H (.bl x) (.type "bool")
  | int (i : Int) : TyOf K H (.int i) (.type "int")
  | str (x : Str) : TyOf K H (.str x) (.type "str")
  | flt (x : UInt64) : TyOf K H (.flt x) (.type "float")
  | lst {a : Addr} {xs : List V} (e : H a = some (.lst xs)) : TyOf K H (.ref a) (.type "list")
  | frz {a : Addr} {o : Obj} {xs : List V} (e : H a = some (.frz o (.lst xs))) : TyOf K H (.ref a) (.type "list")
  | tup {a : Addr} {xs : List V} (e : H a = some (.tup xs)) : TyOf K H (.ref a) (.type "tuple")
  | dK {a : Addr} {kvs : List (Key × V)} (e : H a = some (.dK kvs)) : TyOf K H (.ref a) (.type "dict")
  | dT {a : Addr} {kvs : List (List Key × V)} (e : H a = some (.dT kvs)) : TyOf K H (.ref a) (.type "dict")
  | ins {a C dx : Addr} {fs : List (Str × V)} (e : H a = some (.ins C dx fs)) (cl : Cls K C) (ha : PySem.W.findIn K (.ref C) "__class__" = some (some (.builtin "object.__class__")))
      (hn : PySem.W.specialIn K (.builtin "object.__class__") "__get__" = some (some (.builtin "getset_descriptor.__get__"))) (htk : PySem.W.takesIn K (.builtin "object.__class__") = some true)
      (hm : PySem.W.mroIn K C (.type "object") = some true) : TyOf K H (.ref a) (.ref C)
theorem zli {x : V} {u t : Value} (I : Inv X pins σ H s) (rx : RelV x u) (ty : TyOf X.K H x t) (e : PySem.W.kitOne X.K t c = some b) (h : ∀ tk, Q (.bool b) { s with toks := tk }) :
    wpAny (model X.prog X.w) A (call (.builtin "isinstance") [u, c]) Q E s := by
  cases ty with
  | non => cases (show u = Value.none from rx); exact PySem.W.kia_one PySem.W.kitx_none I.kIn True.intro e (fun z => nomatch z) h
  | bl y => cases (show u = Value.bool y from rx); exact PySem.W.kia_one PySem.W.kitx_bool I.kIn True.intro e (fun z => nomatch z) h
  | int i => obtain ⟨t, q⟩ := (show ∃ t, u = Value.int i t from rx); cases q; exact PySem.W.kia_one PySem.W.kitx_int I.kIn True.intro e (fun z => nomatch z) h
  | str y => obtain ⟨t, q⟩ := (show ∃ t, u = Value.str y t from rx); cases q; exact PySem.W.kia_one PySem.W.kitx_str I.kIn True.intro e (fun z => nomatch z) h
  | flt y => obtain ⟨t, q⟩ := (show ∃ t, u = Value.float y t from rx); cases q; exact PySem.W.kia_one PySem.W.kitx_float I.kIn True.intro e (fun z => nomatch z) h
  | @lst a xs ea =>
    cases (show u = Value.ref a from rx)
    obtain ⟨_, _, n, _, h1⟩ := (show ObjOk X.prog X.w H s.heap a (.lst xs) from I.hok a _ ea)
    exact PySem.W.kia_one PySem.W.kitx_list I.kIn ⟨_, h1, rfl⟩ e (fun z => nomatch z) h
  | @frz a ob xs ea =>
    cases (show u = Value.ref a from rx)
    obtain ⟨_, _, _, n, _, h1⟩ := (show ObjOk X.prog X.w H s.heap a (.frz ob (.lst xs)) from I.hok a _ ea)
    exact PySem.W.kia_one PySem.W.kitx_list I.kIn ⟨_, h1, rfl⟩ e (fun z => nomatch z) h
  | @tup a xs ea =>
    cases (show u = Value.ref a from rx)
    obtain ⟨_, _, _, p⟩ := (show ObjOk X.prog X.w H s.heap a (.tup xs) from I.hok a _ ea)
    obtain ⟨o, h1, h2, _⟩ := p
    exact PySem.W.kia_one PySem.W.kitx_tuple I.kIn ⟨o, h1, h2⟩ e (fun z => nomatch z) h
  | @dK a kvs ea =>
    cases (show u = Value.ref a from rx)
    obtain ⟨_, _, vs, _, p⟩ := (show ObjOk X.prog X.w H s.heap a (.dK kvs) from I.hok a _ ea)
    obtain ⟨o, es, ep, h1, h2, _⟩ := p
    exact PySem.W.kia_one PySem.W.kitx_dict I.kIn ⟨o, h1, h2.1⟩ e (fun z => nomatch z) h
  | @dT a kvs ea =>
    cases (show u = Value.ref a from rx)
    obtain ⟨_, _, xs, _, o, es, ep, h1, h2, _⟩ := (show ObjOk X.prog X.w H s.heap a (.dT kvs) from I.hok a _ ea)
    exact PySem.W.kia_one PySem.W.kitx_dict I.kIn ⟨o, h1, h2.1⟩ e (fun z => nomatch z) h
  | @ins a C dx fs ea cl ha hn htk hm =>
    cases (show u = Value.ref a from rx)
    obtain ⟨mA, O, _⟩ := zow I.hok ea
    obtain ⟨od, J, _⟩ := O.look
    exact PySem.W.kia_one (PySem.W.kitx_own (cl.get _) cl.hd ha hn htk hm) I.kIn J e (fun z => nomatch z) h
end
end L2

namespace L2
open PySem PySem.Spec PyProof.Rows

structure Room (k : Nat) (A : Around) : Prop where
  hd : A.handled = none
  dp : A.depth + 3 * k + 5 < recursionLimit
  un : A.units + 16 * k + 200 < cLine
theorem Room.deeper {k : Nat} {A : Around} (r : Room (k + 1) A) (env : Env) : Room k (A.deeper env) :=
  ⟨r.hd, by have := r.dp; show A.depth + 1 + 3 * k + 5 < _; omega, by have := r.un; show A.units + 3 + 16 * k + 200 < _; omega⟩
theorem Room.depth {k : Nat} {A : Around} (r : Room k A) : A.depth < recursionLimit := by have := r.dp; omega
theorem Room.units {k : Nat} {A : Around} (r : Room k A) : A.units + 64 < cLine := by have := r.un; omega
def tNil : TA := fun _ H Q => Q [] H
def tCons (ta : TE) (tr : TA) : TA := fun σ H Q => ta σ H fun x H1 => tr σ H1 fun xs H2 => Q (x :: xs) H2
section
variable {X : Cx} {e : Expr} {es : List Expr} {te : TE} {t : TA} {pos : Pos}
theorem zdX : PA X [] tNil := fun _ _ _ _ H Q I h => Calls.spliced_nil ⟨[], H, I, .nil, h⟩
theorem zci (ha : PE X e te) (hr : PA X es t) (hs : starEach (e :: es) X.env = (false, eval e X.env) :: starEach es X.env := by rfl) : PA X (e :: es) (tCons te t) := by
  intro pos pins s σ H Q I h
  rw [hs]
  show wpAny _ _ (spliced ((false, eval e X.env) :: backTo pos (starEach es X.env))) _ _ s
  refine Calls.spliced_cons (thn (ha pins s σ H _ I h) fun u s1 ⟨x, H1, I1, r1, q1⟩ => ?_)
  exact thn (hr pos pins s1 σ H1 _ I1 q1) fun us s2 ⟨xs, H2, I2, r2, q2⟩ => ⟨x :: xs, H2, I2, .cons r1 r2, q2⟩

def tTup (t : TA) : TE := fun σ H Q => t σ H fun xs H1 => xs.length ≤ sizeLine ∧ ∀ p, H1 p = none → Q (.ref p) (upd H1 p (.tup xs))
def tLst (t : TA) : TE := fun σ H Q => t σ H fun xs H1 => xs.length ≤ sizeLine ∧ ∀ p, H1 p = none → Q (.ref p) (upd H1 p (.lst xs))
theorem zre {x1} (h : PA X es t) : PE X (.Tuple es x1 pos) (tTup t) := by
  intro pins s σ H Q I hq
  refine wpAny_Tuple_spliced (thn (h pos pins s σ H _ I hq) fun us s1 ⟨xs, H1, I1, r, z, q⟩ => ⟨by rw [← r.length]; exact z, ?_⟩)
  have hf : H1 s1.heap.objs.size = none := I1.hok.fresh (Nat.le_refl _)
  refine ⟨.ref s1.heap.objs.size, upd H1 s1.heap.objs.size (.tup xs), I1.laid (t' := s1.toks) (fun b u e => Heap.get?_push_of_some _ e) (Nat.le_refl _) ?_, rfl, q _ hf⟩
  exact ⟨z, us, r, ⟨_, Heap.get?_push_size _ rfl, rfl, _, rfl⟩⟩
theorem zpL (h : PA X es t) : PE X (.List es pos) (tLst t) := by
  intro pins s σ H Q I hq
  refine wpAny_List_spliced (thn (h pos pins s σ H _ I hq) fun us s1 ⟨xs, H1, I1, r, z, q⟩ => ⟨by rw [← r.length]; exact z, ?_⟩)
  have hf : H1 s1.heap.objs.size = none := I1.hok.fresh (Nat.le_refl _)
  refine ⟨.ref s1.heap.objs.size, upd H1 s1.heap.objs.size (.lst xs), I1.laid (t' := s1.toks) (fun b u e => Heap.get?_push_of_some _ e) (Nat.le_refl _) ?_, rfl, q _ hf⟩
  exact ⟨z, us, 0, r, Heap.get?_push_size _ rfl⟩
end

abbrev Sp := List V → Hp → VK → XK → Prop
abbrev CXT := List Env → Hp → Shared → XK → Value → Shared → Prop

structure Env0 (P : Program) (w : World) (K : PySem.W.Frag) (mg : Str → Option Value) (base : Heap) (A : Around) (outer : List Env) (s : Shared) (H : Hp) : Prop where
  frames : A.frames = some outer
  mod : Mod K mg base
  bs : ∀ b o, base.get? b = some o → s.heap.get? b = some o ∧ H b = none
  bsz : base.objs.size ≤ s.heap.objs.size
  funs : s.heap.FunFrames base outer
  frf : ∀ b ∈ frs outer, H b = none
  hok : HOk P w H s.heap
  bare : AllBare s.gens
def CE (outer : List Env) (P : Program) (w : World) (H : Hp) (s : Shared) (Q : VK) (u : Value) (s' : Shared) : Prop :=
  ∃ v H', s'.os = s.os ∧ AllBare s'.gens ∧ Un (frs outer) [] H H' s.heap s'.heap ∧ HOk P w H' s'.heap ∧ RelV v u ∧ Q v H'
def CR (CX : CXT) (outer : List Env) (P : Program) (w : World) (H : Hp) (s : Shared) (Q : VK) (E : XK) (r : Result) (s' : Shared) : Prop :=
  match r with
  | .ok (.ret u) => CE outer P w H s Q u s'
  | .ok _ => False
  | .error e => CX outer H s E e s'
structure FnOk (P : Program) (w : World) (K : PySem.W.Frag) (mg : Str → Option Value) (base : Heap) (CX : CXT) (k : Nat) (f : Addr) (fd : FuncData) (ps : List Str) (sp : Sp) : Prop where
  len : ∀ vs H Q E, sp vs H Q E → vs.length = ps.length
  run : ∀ (A : Around) (outer : List Env) (s : Shared) (H : Hp) (args : Args) (us : List Value) (vs : List V) (Q : VK) (E : XK), Room k A → Env0 P w K mg base A outer s H → BindsTo s fd args (ps.zip us) → Vals vs us → sp vs H Q E →
    codeAny (model P w) A (.call (.ref f) args) (CR CX outer P w H s Q E) s
section
variable {X : Cx} {pins : List (Addr × Obj)} {σ : St} {H : Hp} {s s' : Shared}
theorem Inv.env0 (I : Inv X pins σ H s) : Env0 X.prog X.w X.K X.mg X.base X.A X.stack s H :=
  ⟨I.ok.frames, I.ok.mod, I.bs, Nat.le_trans I.ok.bsz I.sz, I.stack, I.stkFree, I.hok, I.bare⟩
theorem Inv.after {Q : VK} {u : Value} (I : Inv X pins σ H s) (h : CE X.stack X.prog X.w H s Q u s') : EP X pins σ Q u s' := by
  obtain ⟨v, H', os, bare, un, hok, r, q⟩ := h
  obtain ⟨hh, g, d, t, os'⟩ := s'
  obtain rfl : os' = s.os := os
  exact ⟨v, H', I.call (h' := hh) (g' := g) (d' := d) (t' := t) (ch := []) un hok bare (fun b z => absurd z (by simp)), r, q⟩
end

def tCall (sp : Sp) (dvs : List V) (E : XK) (t : TA) : TE := fun σ H Q => t σ H fun vs H1 => sp (vs ++ dvs) H1 Q E
def Binds (K : PySem.W.Frag) (fd : FuncData) (ps : List Str) (ds : List Value) : Prop :=
  ∀ (s : Shared) (us : List Value), K.In s.heap → (us ++ ds).length = ps.length → BindsTo s fd ⟨us, []⟩ (ps.zip (us ++ ds))
theorem Binds.all {K : PySem.W.Frag} {fd : FuncData} {ps : List Str} (h : ∀ us : List Value, us.length = ps.length → bindArgs fd ⟨us, []⟩ = pure (ps.zip us)) : Binds K fd ps [] := fun s us _ hl => by
  rw [List.append_nil] at hl ⊢
  exact .of_eq (h us hl)

def Passes (CX : CXT) (X : Cx) (E : XK) : Prop := ∀ (pins : List (Addr × Obj)) (σ : St) (H : Hp) (s : Shared) (e : Value) (s' : Shared), Inv X pins σ H s → CX X.stack H s E e s' → X.xe e s'

section
variable {X : Cx} {CX : CXT} {k : Nat} {f C : Addr} {fd : FuncData} {ps : List Str} {sp : Sp} {dvs : List V} {ds : List Value} {E : XK} {x m : Str} {p pos apos : Pos} {e o : Expr} {es : List Expr} {ta : TE} {t : TA}

theorem zqy {pins : List (Addr × Obj)} {σ : St} {H : Hp} {s : Shared} {Q : VK} {us : List Value} {vs : List V} (F : FnOk X.prog X.w X.K X.mg X.base CX k f fd ps sp) (hr : Room k X.A) (hb : Binds X.K fd ps ds) (hd : Vals dvs ds) (hx : Passes CX X E)
    (I : Inv X pins σ H s) (r : Vals vs us) (h : sp (vs ++ dvs) H Q E) : wpAny (model X.prog X.w) X.A (call (.ref f) us) (EP X pins σ Q) X.xe s := by
  have r2 : Vals (vs ++ dvs) (us ++ ds) := r.append hd
  have hl : (us ++ ds).length = ps.length := by rw [← r2.length]; exact F.len _ _ _ _ h
  refine wpAny_call (codeAny_mono (F.run X.A X.stack s H ⟨us, []⟩ (us ++ ds) (vs ++ dvs) Q E hr I.env0 (hb s us I.kIn hl) r2 h) fun r s' hq => ?_)
  cases r with
  | error e => exact hx pins σ H s e s' I hq
  | ok fl =>
    cases fl with
    | ret u => exact I.after hq
    | next => exact False.elim hq
    | brk => exact False.elim hq
    | cont => exact False.elim hq

theorem zok (F : FnOk X.prog X.w X.K X.mg X.base CX k f fd ps sp) (hr : Room k X.A) (hg : Gl X x) (hm : X.mg x = some (.ref f)) (hk : PySem.W.keepIn X.K (.ref f) = true) (hb : Binds X.K fd ps ds) (hd : Vals dvs ds) (hx : Passes CX X E)
    (ha : PA X (e :: es) t) (hdb : (x == ("__debug__" : Str)) = false := by decide) (he : starEach (e :: es) X.env = (false, eval e X.env) :: starEach es X.env := by rfl) (hpl : (backTo pos (starEach es X.env)).any (·.1) = false := by rfl) :
    PE X (.Call (.Name x p) (e :: es) [] pos) (tCall sp dvs E t) := by
  intro pins s σ H Q I h
  refine wpAny_Call_Name_kw (zkf I hg hm ?_ hdb)
  refine PySem.W.callWith_K (h₀ := X.base) I.ok.mod.kin hk (thn (ha pos pins s σ H _ I h) fun us s1 ⟨vs, H1, I1, r, q⟩ => ⟨I1.kIn, ?_⟩) he hpl
  exact zqy F hr hb hd hx I1 r q
end

section
variable {X : Cx} {CX : CXT} {k : Nat} {f C : Addr} {fd : FuncData} {ps ks : List Str} {sp : Sp} {E : XK} {x m : Str} {p pos apos kpos : Pos} {e o : Expr} {es : List Expr} {kws : List Keyword} {te ta : TE} {t tk : TA} {nm : Option Str}
variable {g : List Value → List Value → List Value} {gV : List V → List V → List V}
end

structure FnScope (N P : List Str) (sc : Scope) : Prop where
  kind : sc.kind = .function
  co : sc.isCoroutine = false
  gen : sc.isGenerator = false
  nd : N.Nodup
  pre : N.take P.length = P
  par : ∀ x ∈ P, sc.names.lookup x = some .local ∨ sc.names.lookup x = some .cell
  nofree : ∀ y ∈ sc.names, y.2 ≠ .free

theorem zgx {kindOf : Str → Option NameKind} {x : Str} : ∀ {binds : List (Str × Value)} {m : Str → Option Value}, (∀ v, (x, v) ∉ binds) → bindL kindOf binds m x = m x
  | [], _, _ => rfl
  | (n, v) :: r, m, h => by
    unfold bindL
    rw [zgx fun w hw => h w (List.mem_cons_of_mem _ hw)]
    split
    · have : x ≠ n := by rintro rfl; exact h v List.mem_cons_self
      simp [this]
    · rfl
theorem zgp {kindOf : Str → Option NameKind} {x : Str} : ∀ {binds : List (Str × Value)} {m : Str → Option Value}, (∀ v, (x, v) ∉ binds) → bindC kindOf binds m x = m x
  | [], _, _ => rfl
  | (n, v) :: r, m, h => by
    unfold bindC
    rw [zgp fun w hw => h w (List.mem_cons_of_mem _ hw)]
    split
    · rfl
    · have : x ≠ n := by rintro rfl; exact h v List.mem_cons_self
      simp [this]
theorem zga {kindOf : Str → Option NameKind} {x : Str} {v : Value} : ∀ {P : List Str} {vs : List Value} {i : Nat} {m : Str → Option Value}, P.Nodup → P[i]? = some x → vs[i]? = some v → kindOf x = some .local →
    bindL kindOf (P.zip vs) m x = some v
  | [], _, _, _, _, h, _, _ => by simp at h
  | _ :: _, [], _, _, _, _, h, _ => by simp at h
  | p :: P, w :: vs, 0, m, nd, h1, h2, hk => by
    simp at h1 h2; subst h1; subst h2
    show bindL kindOf ((p, w) :: P.zip vs) m p = _
    unfold bindL
    rw [zgx fun v hv => (List.nodup_cons.mp nd).1 (List.of_mem_zip hv).1, if_pos hk]
    simp
  | p :: P, w :: vs, i + 1, m, nd, h1, h2, hk => by
    show bindL kindOf ((p, w) :: P.zip vs) m x = _
    unfold bindL
    exact zga (i := i) (List.nodup_cons.mp nd).2 (by simpa using h1) (by simpa using h2) hk
theorem zfF {kindOf : Str → Option NameKind} {x : Str} {v : Value} : ∀ {P : List Str} {vs : List Value} {i : Nat} {m : Str → Option Value}, P.Nodup → P[i]? = some x → vs[i]? = some v → kindOf x ≠ some .local →
    bindC kindOf (P.zip vs) m x = some v
  | [], _, _, _, _, h, _, _ => by simp at h
  | _ :: _, [], _, _, _, _, h, _ => by simp at h
  | p :: P, w :: vs, 0, m, nd, h1, h2, hk => by
    simp at h1 h2; subst h1; subst h2
    show bindC kindOf ((p, w) :: P.zip vs) m p = _
    unfold bindC
    rw [zgp fun v hv => (List.nodup_cons.mp nd).1 (List.of_mem_zip hv).1, if_neg hk]
    simp
  | p :: P, w :: vs, i + 1, m, nd, h1, h2, hk => by
    show bindC kindOf ((p, w) :: P.zip vs) m x = _
    unfold bindC
    exact zfF (i := i) (List.nodup_cons.mp nd).2 (by simpa using h1) (by simpa using h2) hk

def start (N : List Str) (vs : List V) : St := vs.map some ++ List.replicate (N.length - vs.length) none

def cxOf (CX : CXT) (P : Program) (w : World) (K : PySem.W.Frag) (mg : Str → Option Value) (base : Heap) (N : List Str) (qual : Str) (scope : Scope) (f : Addr) (cd : Value) (A : Around) (outer : List Env) (s : Shared) (H : Hp) (E : XK) : Cx where
  prog := P
  w := w
  K := K
  mg := mg
  base := base
  A := A.deeper (envOfC qual scope s.heap.objs.size f cd)
  N := N
  s₀ := s
  H₀ := H
  env := envOfC qual scope s.heap.objs.size f cd
  outer := outer
  stack := envOfC qual scope s.heap.objs.size f cd :: outer
  ex := []
  calm := true
  fn := fun _ => true
  pn := []
  xe := fun e s' => wpAny (model P w) (A.deeper (envOfC qual scope s.heap.objs.size f cd)) (leaving (envOfC qual scope s.heap.objs.size f cd) e) (fun _ s'' => CX outer H s E e s'') (fun e' s'' => CX outer H s E e' s'') s'

theorem zii {sc : Scope} {n : Nat} {x : Str} (h : sc.names.lookup x = some .cell) : ∃ c, (cellsFrom n sc.names []).lookup x = some c := by
  have q := PySem.W.cellsFrom_some sc.names n [] (.inl h)
  exact Option.isSome_iff_exists.mp q

theorem zlt {CX : CXT} {P : Program} {w : World} {K : PySem.W.Frag} {mg : Str → Option Value} {base : Heap} {N ps : List Str} {qual : Str} {scope : Scope} {f : Addr} {cd : Value} {A : Around} {outer : List Env} {s s1 : Shared} {H : Hp} {E : XK} {us : List Value} {vs : List V}
    (S : FnScope N ps scope) (hd : A.handled = none) (e0 : Env0 P w K mg base A outer s H) (hl : vs.length = ps.length) (r : Vals vs us)
    (x : InCallC s s.heap.objs.size (bindL (envOfC qual scope s.heap.objs.size f cd).kindOf (ps.zip us) fun _ => none) (cellsFrom (s.heap.objs.size + 1) scope.names []) (bindC (envOfC qual scope s.heap.objs.size f cd).kindOf (ps.zip us) fun _ => none) s1) :
    Inv (cxOf CX P w K mg base N qual scope f cd A outer s H E) [] (start N vs) H s1 := by
  have hpl : ps.length ≤ N.length := by have := congrArg List.length S.pre; rw [List.length_take] at this; omega
  obtain ⟨h1, tk, rfl, hk⟩ := x.done
  have noA : ∀ b : Addr, b ∉ (cxOf CX P w K mg base N qual scope f cd A outer s H E).ex := fun b z => absurd (show b ∈ ([] : List Addr) from z) (by simp)
  refine ⟨⟨e0.mod, S.kind, rfl, rfl, Nat.le_refl _, fun y z c h1 h2 => ?_, fun y hy => ?_, fun y c _ h => ?_, fun _ => hd, Around.frames_deeper e0.frames, .inr ⟨rfl, rfl⟩, fun b z => absurd z (noA b), e0.bs, e0.bsz, fun b _ _ => noA b, fun b z => absurd z (noA b), e0.funs, e0.frf⟩,
    rfl, e0.bare, Un.kept hk, ⟨_, x.toInCall.ns, fun i y v h1 h2 h3 => ?_⟩, fun y c h => ⟨_, x.cell y c h⟩, e0.hok.fresh (Nat.le_refl _), fun y c h => ?_, fun p hp => absurd (show p ∈ ([] : List (Addr × Obj)) from hp) (by simp), e0.hok.kept hk, ?_⟩
  · exact name_of_addr x.apart (PySem.mem_of_lookup h1) (PySem.mem_of_lookup h2)
  · have hy : scope.names.lookup y = some .cell ∨ scope.names.lookup y = some .free := hy
    rcases hy with hy | hy
    · exact zii hy
    · exact absurd rfl (S.nofree _ (PySem.mem_of_lookup hy))
  · exact Nat.le_of_lt (x.above y c (PySem.mem_of_lookup h))
  · have hi : i < vs.length := by
      unfold start at h2
      by_cases hi : i < vs.length
      · exact hi
      · rw [List.getElem?_append_right (by simpa using hi)] at h2
        rw [List.getElem?_replicate] at h2
        split at h2 <;> cases h2
    have ha : vs[i]? = some v := by
      unfold start at h2
      rw [List.getElem?_append_left (by simpa using hi), List.getElem?_map] at h2
      cases e : vs[i]? with
      | none => rw [e] at h2; cases h2
      | some a => rw [e] at h2; cases h2; rfl
    obtain ⟨u, hu, rv⟩ := r.get ha
    have hp : ps[i]? = some y := by
      rw [← S.pre, List.getElem?_take_of_lt (by omega)]; exact h1
    have ndP : ps.Nodup := by rw [← S.pre]; exact S.nd.sublist (List.take_sublist _ _)
    refine ⟨u, rv, ?_⟩
    rcases S.par y (List.mem_of_getElem? hp) with k | k
    · exact .inl ⟨k, zga ndP hp hu k⟩
    · obtain ⟨c, e⟩ := zii (n := s.heap.objs.size + 1) k
      refine .inr ⟨.inl k, c, e, ?_⟩
      have q := x.cell y c e
      rw [zfF ndP hp hu (by show scope.names.lookup y ≠ _; rw [k]; decide)] at q
      exact q
  · exact e0.hok.fresh (Nat.le_of_lt (x.above y c (PySem.mem_of_lookup h)))
  · unfold start
    show _ = N.length
    rw [List.length_append, List.length_map, List.length_replicate]
    omega

theorem zrY {CX : CXT} {P : Program} {w : World} {K : PySem.W.Frag} {mg : Str → Option Value} {base : Heap} {k : Nat} {f : Addr} {name qual : Str} {params : Arguments} {body : List Stmt} {scope : Scope} {dV kV doc pm cdv ct oc : Value} {an od : Option Addr}
    {osl : Array (Option Value)} {N ps : List Str} {sp : Sp} (lk : K.lookup f = some ⟨oc, od, .func (PySem.W.fnOf name qual params body scope dV kV doc pm an cdv ct), osl⟩) (hcd : PySem.W.codeIn K cdv qual = true) (S : FnScope N ps scope)
    (len : ∀ vs H Q E, sp vs H Q E → vs.length = ps.length)
    (hbody : ∀ (A : Around) (outer : List Env) (s : Shared) (H : Hp) (vs : List V) (Q : VK) (E : XK), Room k (A.deeper (envOfC qual scope s.heap.objs.size f cdv)) → sp vs H Q E →
      ∃ t, PSs (cxOf CX P w K mg base N qual scope f cdv A outer s H E) body t ∧ t { nx := fun _ H' => Q .non H', rt := Q } (start N vs) H) :
    FnOk P w K mg base CX (k + 1) f (PySem.W.fnOf name qual params body scope dV kV doc pm an cdv ct) ps sp := by
  refine ⟨len, fun A outer s H args us vs Q E hr e0 hb r hsp => ?_⟩
  have hl := len _ _ _ _ hsp
  have KX : K.In s.heap := e0.mod.kin.keeps fun b o e => (e0.bs b o e).1
  have lim : s.heap.NoLimit := e0.mod.nolimit.keeps fun b o e => (e0.bs b o e).1
  have hkind : ∀ y ∈ ps.zip us, scope.names.lookup y.1 = some .local ∨ (scope.names.lookup y.1 = some .cell ∧ ((cellsFrom (s.heap.objs.size + 1) scope.names []).lookup y.1).isSome = true) := fun ⟨n, v⟩ hy => by
    rcases S.par n (List.of_mem_zip hy).1 with q | q
    · exact .inl q
    · exact .inr ⟨q, PySem.W.cellsFrom_some _ _ _ (.inl q)⟩
  refine codeAny_call_function hr.depth (KX _ _ lk) rfl S.co S.gen rfl (PySem.W.codeRec_of KX hcd) (hb _ _ _ _ ?_)
  refine wpAny_newFunctionEnv_cells S.kind hkind fun env he s1 x => ?_
  subst he
  refine ⟨lim.keeps x.toInCall.keep, codeAny_func ?_⟩
  obtain ⟨t, ht, hq⟩ := hbody A outer s H vs Q E (hr.deeper _) hsp
  have I : Inv (cxOf CX P w K mg base N qual scope f cdv A outer s H E) [] (start N vs) H s1 := zlt S hr.hd e0 hl r x
  refine wpAny_mono (ht [] s1 (start N vs) H _ I hq) (fun fl s' hs => ?_) fun e s' hs => hs
  have fin : ∀ {σ' : St} {H' : Hp} {v : V} {u : Value}, Inv (cxOf CX P w K mg base N qual scope f cdv A outer s H E) [] σ' H' s' → RelV v u → Q v H' → CE outer P w H s Q u s' :=
    fun {σ' H' v u} J rv q => ⟨v, H', J.os, J.bare, J.base, J.hok, rv, q⟩
  cases fl with
  | ret u =>
    obtain ⟨v, σ', H', J, rv, q⟩ := hs
    exact fin J rv q
  | next =>
    obtain ⟨σ', H', J, q⟩ := hs
    exact fin (v := V.non) (u := Value.none) J rfl q
  | brk =>
    obtain ⟨_, _, _, q⟩ := hs
    exact False.elim q
  | cont =>
    obtain ⟨_, _, _, q⟩ := hs
    exact False.elim q
end L2

namespace L2
open PySem PySem.Spec PyProof.Rows
section
variable {X : Cx} {x : Str} {p pos : Pos} {e : Expr} {es : List Expr} {t : TA} {id T : String} {r : List V → Hp → VK → Prop}

def tCB (r : List V → Hp → VK → Prop) (t : TA) : TE := fun σ H Q => t σ H fun vs H1 => r vs H1 Q
theorem zeT (hc : CallR X (.builtin id) r) (hg : Gl X x) (hm : X.mg x = none) (hv : bootBuiltins x = some (.builtin id)) (ha : PA X (e :: es) t) (hn : x ≠ "__name__" := by decide) (hdb : (x == ("__debug__" : Str)) = false := by decide)
    (he : starEach (e :: es) X.env = (false, eval e X.env) :: starEach es X.env := by rfl) (hpl : (backTo pos (starEach es X.env)).any (·.1) = false := by rfl) : PE X (.Call (.Name x p) (e :: es) [] pos) (tCB r t) := by
  intro pins s σ H Q I h
  refine wpAny_Call_Name_kw (zet I hg hm hv ?_ hn hdb)
  exact PyProof.Rows.callWith_builtin1 (thn (ha pos pins s σ H _ I h) fun us s1 ⟨vs, H1, I1, r1, q1⟩ => hc pins s1 σ H1 vs us Q I1 r1 q1) he hpl
theorem zfR (hc : CallR X (.type T) r) (hg : Gl X x) (hm : X.mg x = none) (hv : bootBuiltins x = some (.type T)) (ha : PA X (e :: es) t) (hn : x ≠ "__name__" := by decide) (hdb : (x == ("__debug__" : Str)) = false := by decide)
    (he : starEach (e :: es) X.env = (false, eval e X.env) :: starEach es X.env := by rfl) (hpl : (backTo pos (starEach es X.env)).any (·.1) = false := by rfl) : PE X (.Call (.Name x p) (e :: es) [] pos) (tCB r t) := by
  intro pins s σ H Q I h
  refine wpAny_Call_Name_kw (zet I hg hm hv ?_ hn hdb)
  exact PyProof.Rows.callWith_type1 (thn (ha pos pins s σ H _ I h) fun us s1 ⟨vs, H1, I1, r1, q1⟩ => hc pins s1 σ H1 vs us Q I1 r1 q1) he hpl
end
end L2

namespace HT
open PySem PyProof.Rows

section
open PySem.SeqAt
open PySem.AutoSeq1 (wpAny_loadPart')
open PySem.MeetsSeq PySem.MeetsSeq2 PySem.MeetsSeq3

end

section
variable {prog : Program} {w : World} {A : Around} {E : Value → Shared → Prop} {s : Shared}

theorem cat_tup {t b : Addr} {vs ws : List Value} {Q : Value → Shared → Prop} (ht : IsTup s.heap t vs.toArray) (hb : IsTup s.heap b ws.toArray) (hv : vs ≠ [])
    (h1 : ws = [] → Q (.ref t) s) (h2 : ws ≠ [] → Q (.ref s.heap.objs.size) { s with heap := s.heap.push { cls := .type "tuple", data := .seq (vs ++ ws).toArray } })
    (hsz : vs.length + ws.length ≤ sizeLine) : wpAny (model prog w) A (binaryOp .Add (.ref t) (.ref b)) Q E s := by
  obtain ⟨⟨cls, dd, data, sl⟩, ho, hc, n, hd⟩ := id ht
  obtain ⟨⟨cls2, dd2, data2, sl2⟩, ho2, hc2, n2, hd2⟩ := id hb
  simp only at hc hd hc2 hd2
  subst hc hd hc2 hd2
  have e : vs.toArray ++ ws.toArray = (vs ++ ws).toArray := by simp
  by_cases hw : ws = []
  · exact concat_meets ⟨_, ho, rfl⟩ ⟨_, ho2, rfl⟩ noFill_tuple_add seq_tuple_add PySem.F.slot_tuple_add PySem.F.entry_tuple_add (PySem.F.args_tuple_add_2 _ _)
      (tuple_addW1 t b vs.toArray ws.toArray n n2 dd dd2 sl sl2 (by simpa using hv) (by simp [hw])) ⟨ho, ho2, h1 hw⟩
  · refine concat_meets ⟨_, ho, rfl⟩ ⟨_, ho2, rfl⟩ noFill_tuple_add seq_tuple_add PySem.F.slot_tuple_add PySem.F.entry_tuple_add (PySem.F.args_tuple_add_2 _ _)
      (tuple_addW2 t b vs.toArray ws.toArray n n2 dd dd2 sl sl2 (by simpa using hv) (by simpa using hw) (by rw [List.size_toArray, List.size_toArray]; exact hsz)) ⟨ho, ho2, ?_⟩
    rw [e]
    exact h2 hw

def sIx (n d : Nat) : Option Int → Nat
  | none => d
  | some v => if v < 0 then (v + (n : Int)).toNat else min v.toNat n
theorem sIx_none (n d : Nat) : sIx n d none = d := rfl
theorem sIx_nat (n d k : Nat) : sIx n d (some (k : Int)) = min k n := by
  show (if (k : Int) < 0 then ((k : Int) + (n : Int)).toNat else min (k : Int).toNat n) = min k n
  rw [if_neg (by omega), Int.toNat_natCast]
theorem sIx_le (n d : Nat) (hd : d ≤ n) (o : Option Int) : sIx n d o ≤ n := by
  cases o with
  | none => exact hd
  | some v =>
    show (if v < 0 then (v + (n : Int)).toNat else min v.toNat n) ≤ n
    by_cases hv : v < 0
    · rw [if_pos hv]; omega
    · rw [if_neg hv]; exact Nat.min_le_right _ _
theorem zkN (v : Int) (n d : Nat) : (if v < 0 then max (v + (n : Int)) 0 else min v (n : Int)) = ((sIx n d (some v) : Nat) : Int) := by
  show (if v < 0 then max (v + (n : Int)) 0 else min v (n : Int)) = (((if v < 0 then (v + (n : Int)).toNat else min v.toNat n) : Nat) : Int)
  by_cases hv : v < 0
  · simp only [if_pos hv]; omega
  · simp only [if_neg hv]; omega
theorem zja (lo hi : Option Int) (n : Nat) : Builtin.Slice.sliceAdjust lo hi 1 (n : Int) = (((sIx n 0 lo : Nat) : Int), ((sIx n n hi : Nat) : Int)) := by
  have h1 : ¬ ((1 : Int) < 0) := by omega
  unfold Builtin.Slice.sliceAdjust
  simp only [h1, if_false]
  refine Prod.ext ?_ ?_
  · cases lo with
    | none => rfl
    | some v => exact zkN v n 0
  · cases hi with
    | none => rfl
    | some v => exact zkN v n n
theorem ziP (i j : Nat) : Builtin.Slice.slicePlaces (i : Int) (j : Int) 1 = j - i := by
  unfold Builtin.Slice.slicePlaces
  have h1 : (1 : Int) > 0 := by omega
  simp only [h1, if_true, Int.ediv_one]
  split <;> omega
theorem zeD {v : Value} {o : Option Int} {Q : Option Int → Shared → Prop} (p : IsPart v o) (h : Q o s) : wpAny (model prog w) A (Builtin.Slice.slicePartIndex v) Q E s := by
  cases p with
  | none => exact slicePart_none h
  | int i t => exact slicePart_int h
theorem sliceApplied_gen {sl : Addr} {vl vu : Value} {lo hi : Option Int} {n : Nat} {Q : Int × Int × Nat → Shared → Prop} (hs : s.heap.IsSliceOf sl vl vu .none) (pl : IsPart vl lo) (pu : IsPart vu hi)
    (h : Q (((sIx n 0 lo : Nat) : Int), 1, sIx n n hi - sIx n 0 lo) s) : wpAny (model prog w) A (Builtin.Slice.sliceApplied (.ref sl) (pure (n : Int))) Q E s := by
  obtain ⟨os, hos, hcs, hds⟩ := id hs
  unfold Builtin.Slice.sliceApplied Builtin.Slice.sliceFields
  refine wpAny_bind (wpAny_bind (wpAny_field hos hds (x := vl) rfl (wpAny_bind (wpAny_field hos hds (x := vu) rfl (wpAny_bind (wpAny_field hos hds (x := .none) rfl (wpAny_pure ?_)))))))
  refine wpAny_bind (slicePart_none ?_)
  show wpAny _ _ (if ((1 : Int) == 0) = true then _ else _) _ _ s
  rw [if_neg (by decide)]
  refine wpAny_bind (zeD pl (wpAny_bind (zeD pu (wpAny_bind (wpAny_pure ?_)))))
  show wpAny _ _ (match Builtin.Slice.sliceAdjust lo hi 1 (n : Int) with | (lo, hi) => pure (lo, (1 : Int), Builtin.Slice.slicePlaces lo hi 1)) _ _ s
  rw [zja lo hi n]
  show wpAny _ _ (pure (((sIx n 0 lo : Nat) : Int), (1 : Int), Builtin.Slice.slicePlaces ((sIx n 0 lo : Nat) : Int) ((sIx n n hi : Nat) : Int) 1)) _ _ s
  rw [ziP]
  exact wpAny_pure h
theorem zlP (xs : Array Value) (i k : Nat) : ((List.range k).filterMap fun (m : Nat) => xs[((i : Int) + (m : Int) * 1).toNat]?).toArray = ((xs.toList.drop i).take k).toArray := by
  have e : (fun (m : Nat) => xs[((i : Int) + (m : Int) * 1).toNat]?) = fun m => xs[i + m]? := by
    funext m
    have : ((i : Int) + (m : Int) * 1).toNat = i + m := by omega
    rw [this]
  rw [e]
  have := pick_run xs i k
  rw [List.filterMap_map] at this
  have e2 : ((fun x => xs[x]?) ∘ fun x => i + x) = fun m => xs[i + m]? := rfl
  rw [e2] at this
  rw [this]

theorem getItem_tuple_cut {t sl : Addr} {items : Array Value} {vl vu : Value} {lo hi : Option Int} {Q : Value → Shared → Prop} (ht : IsTup s.heap t items) (hs : s.heap.IsSliceOf sl vl vu .none) (pl : IsPart vl lo) (pu : IsPart vu hi)
    (hw : ¬ (sIx items.size 0 lo = 0 ∧ sIx items.size items.size hi = items.size))
    (h : Q (.ref s.heap.objs.size) { s with heap := s.heap.push { cls := .type "tuple", data := .seq ((items.toList.drop (sIx items.size 0 lo)).take (sIx items.size items.size hi - sIx items.size 0 lo)).toArray } })
    (hsz : items.size ≤ sizeLine) : wpAny (model prog w) A (getItem (.ref t) (.ref sl)) Q E s := by
  have htake : sizeOk (.seq ((items.toList.drop (sIx items.size 0 lo)).take (sIx items.size items.size hi - sIx items.size 0 lo)).toArray) := by
    show ((items.toList.drop (sIx items.size 0 lo)).take (sIx items.size items.size hi - sIx items.size 0 lo)).toArray.size ≤ sizeLine
    rw [List.size_toArray, List.length_take, List.length_drop, Array.length_toList]
    omega
  have hj : sIx items.size items.size hi ≤ items.size := sIx_le _ _ (Nat.le_refl _) hi
  obtain ⟨os, hos, hcs, hds⟩ := id hs
  have hTs : s.TypeIs (.ref sl) "slice" := ⟨os, hos, hcs⟩
  unfold getItem
  try with_reducible refine wpAny_holding ?_
  first | refine wpAny_bind (wpAny_pure ?_) | skip
  refine wpAny_bind (wpAny_sequenceKey ht.typeIs (by decide) ?_)
  refine wpAny_bind (wpAny_callSpecial?_slot (name := Str.ofString "__getitem__") ht.typeIs PyProof.Rows.slot_tuple_getitem
    (wpAny_call_entry PyProof.Rows.slot_tuple_getitem ht.typeIs entry_tuple_getitem ?_ (args_tuple_getitem _ _)))
  show wpAny _ _ (Builtin.Tuple.tupleItemsOf (.ref t) >>= _) _ _ s
  refine wpAny_bind (tupleItemsOf_ ht ?_)
  refine wpAny_bind (wpAny_typeOf hTs ?_)
  rw [if_pos (by decide)]
  refine wpAny_bind (sliceApplied_gen hs pl pu ?_)
  have hno : ¬ ((((sIx items.size 0 lo : Nat) : Int) == 0 && (1 : Int) == 1 && (sIx items.size items.size hi - sIx items.size 0 lo) == items.size) = true) := by
    intro q
    rw [Bool.and_eq_true, Bool.and_eq_true] at q
    have q1 : ((sIx items.size 0 lo : Nat) : Int) = 0 := eq_of_beq q.1.1
    have q2 : sIx items.size items.size hi - sIx items.size 0 lo = items.size := eq_of_beq q.2
    exact hw ⟨by omega, by omega⟩
  show wpAny _ _ (if (((sIx items.size 0 lo : Nat) : Int) == 0 && (1 : Int) == 1 && (sIx items.size items.size hi - sIx items.size 0 lo) == items.size) = true then _ else _) _ _ s
  rw [if_neg hno, zlP]
  first
    | exact wpAny_bind (m := Builtin.Tuple.tupleExact _) (wpAny_newObj_type (wpAny_pure ⟨_, rfl, wpAny_pure h⟩) htake)
    | exact wpAny_bind (m := Builtin.Tuple.tupleExact _) (wpAny_newObj_type (wpAny_bind (wpAny_pure (wpAny_pure ⟨_, rfl, wpAny_pure h⟩))) htake)
    | exact wpAny_bind (wpAny_bind (m := Builtin.Tuple.tupleExact _) (wpAny_newObj_type (wpAny_pure (wpAny_pure ⟨_, rfl, wpAny_pure h⟩)) htake))
    | exact wpAny_bind (wpAny_bind (m := Builtin.Tuple.tupleExact _) (wpAny_newObj_type (wpAny_pure ⟨_, rfl, wpAny_pure h⟩) htake))
end
end HT

namespace L2
open PySem PySem.Spec PyProof.Rows

abbrev TO := St → Hp → (Option Int → Hp → Prop) → Prop
def PO (X : Cx) (e : Option Expr) (t : TO) : Prop :=
  ∀ (pins : List (Addr × Obj)) (s : Shared) (σ : St) (H : Hp) (Q : Option Int → Hp → Prop), Inv X pins σ H s → t σ H Q →
    wpAny (model X.prog X.w) X.A (evalPart e X.env) (fun u s' => ∃ o H', Inv X pins σ H' s' ∧ IsPart u o ∧ Q o H') X.xe s
def tNoPart : TO := fun _ H Q => Q none H
def tPart (t : TE) : TO := fun σ H Q => t σ H fun x H1 => ∃ i, x = .int i ∧ Q (some i) H1

section
variable {X : Cx} {e : Expr} {te : TE} {lo hi : Option Expr} {tl th : TO} {pos p2 : Pos}

theorem zoe : PO X none tNoPart := by
  intro pins s σ H Q I h
  rw [evalPart_none]
  exact wpAny_pure ⟨none, H, I, .none, h⟩
theorem znP (h : PE X e te) : PO X (some e) (tPart te) := by
  intro pins s σ H Q I hw
  rw [evalPart_some]
  refine thn (h pins s σ H _ I hw) fun u s1 ⟨x, H1, I1, r1, q1⟩ => ?_
  obtain ⟨i, rfl, q⟩ := q1
  obtain ⟨t, rfl⟩ := r1
  exact ⟨some i, H1, I1, .int i t, q⟩

def SlR (X : Cx) (r : V → Option Int → Option Int → Hp → VK → Prop) : Prop :=
  ∀ (pins : List (Addr × Obj)) (s : Shared) (σ : St) (H : Hp) (x : V) (v vl vu : Value) (lo hi : Option Int) (sl : Addr) (Q : VK), Inv X pins σ H s → RelV x v → s.heap.IsSliceOf sl vl vu .none → IsPart vl lo → IsPart vu hi → r x lo hi H Q →
    ∃ T id, typeLookup (.type T) "__getitem__" = pure (some (.builtin id)) ∧ s.TypeIs v T ∧ wpAny (model X.prog X.w) X.A (getItem v (.ref sl)) (EP X pins σ Q) X.xe s
theorem SlR.or {r r' : V → Option Int → Option Int → Hp → VK → Prop} (h : SlR X r) (h' : SlR X r') : SlR X (fun x lo hi H Q => r x lo hi H Q ∨ r' x lo hi H Q) := by
  intro pins s σ H x v vl vu lo hi sl Q I rx hs pl pu q
  rcases q with q | q
  · exact h pins s σ H x v vl vu lo hi sl Q I rx hs pl pu q
  · exact h' pins s σ H x v vl vu lo hi sl Q I rx hs pl pu q
def tSl (r : V → Option Int → Option Int → Hp → VK → Prop) (te : TE) (tl th : TO) : TE := fun σ H Q => te σ H fun x H1 => tl σ H1 fun l H2 => th σ H2 fun u H3 => r x l u H3 Q
theorem ziq {r : V → Option Int → Option Int → Hp → VK → Prop} (hr : SlR X r) (he : PE X e te) (hl : PO X lo tl) (hu : PO X hi th) : PE X (.Subscript e (.Slice lo hi none p2) pos) (tSl r te tl th) := by
  intro pins s σ H Q I h
  refine Subscript_ (thn (he pins s σ H _ I h) fun v s1 ⟨x, H1, I1, r1, q1⟩ => ?_)
  refine wpAny_Slice (thn (hl pins s1 σ H1 _ I1 q1) fun vl s2 ⟨l, H2, I2, pl, q2⟩ => thn (hu pins s2 σ H2 _ I2 q2) fun vu s3 ⟨u, H3, I3, pu, q3⟩ => ?_)
  rw [evalPart_none]
  refine wpAny_pure ?_
  have I4 : Inv X pins σ H3 { s3 with heap := s3.heap.push { cls := .type "slice", data := .fields #[vl, vu, .none] } } := I3.kept (t' := s3.toks) fun b ob q => Heap.get?_push_of_some _ q
  obtain ⟨T, id, hT, ht, hg⟩ := hr pins { s3 with heap := s3.heap.push { cls := .type "slice", data := .fields #[vl, vu, .none] } } σ H3 x v vl vu l u s3.heap.objs.size Q I4 r1 (Heap.IsSliceOf.new ..) pl pu q3
  show wpAny (model X.prog X.w) X.A (subscriptTail e (.Slice lo hi none p2) v (.ref s3.heap.objs.size)) (EP X pins σ Q) X.xe { s3 with heap := s3.heap.push { cls := .type "slice", data := .fields #[vl, vu, .none] } }
  exact tail_any (ops := [.ref s3.heap.objs.size, v]) ht hT hg (by with_unfolding_all rfl)

def cutV (xs : List V) (lo hi : Option Int) : List V := (xs.drop (HT.sIx xs.length 0 lo)).take (HT.sIx xs.length xs.length hi - HT.sIx xs.length 0 lo)
theorem zdG (xs : List V) (lo hi : Option Int) : (cutV xs lo hi).length ≤ xs.length := by
  unfold cutV
  rw [List.length_take, List.length_drop]
  omega
def rSlT (K : PySem.W.Frag) : V → Option Int → Option Int → Hp → VK → Prop := fun x lo hi H Q => ∃ a xs, x = .ref a ∧ SqT K H a xs ∧
  ¬ (HT.sIx xs.length 0 lo = 0 ∧ HT.sIx xs.length xs.length hi = xs.length) ∧ ∀ p, H p = none → Q (.ref p) (upd H p (.tup (cutV xs lo hi)))
theorem zru : SlR X (rSlT X.K) := by
  intro pins s σ H x v vl vu lo hi sl Q I rx hs pl pu h
  obtain ⟨a, xs, rfl, hx, hw, q⟩ := h
  cases rx
  obtain ⟨its, r, ht, hz⟩ := I.tuple hx
  have hlen : its.toArray.size = xs.length := by rw [List.size_toArray]; exact r.length.symm
  refine ⟨"tuple", _, PyProof.Rows.slot_tuple_getitem.lookup, ht.typeIs, ?_⟩
  refine HT.getItem_tuple_cut ht hs pl pu (by rw [hlen]; exact hw) ?_ (by rw [hlen]; exact hz)
  rw [hlen]
  refine ⟨.ref s.heap.objs.size, _, I.laid (t' := s.toks) (o := .tup (cutV xs lo hi)) (fun b ob q => Heap.get?_push_of_some _ q) (Nat.le_refl _) ?_, rfl, q _ (I.hok.fresh (Nat.le_refl _))⟩
  exact ⟨Nat.le_trans (zdG xs lo hi) hz, _, (r.drop (HT.sIx xs.length 0 lo)).take (HT.sIx xs.length xs.length hi - HT.sIx xs.length 0 lo), IsTup.new _ _⟩

def rCatT (K : PySem.W.Frag) : R2 := fun x y H Q => ∃ a b xs ys, x = .ref a ∧ y = .ref b ∧ SqT K H a xs ∧ SqT K H b ys ∧ xs ≠ [] ∧ xs.length + ys.length ≤ sizeLine ∧
  (ys = [] → Q (.ref a) H) ∧ (ys ≠ [] → ∀ p, H p = none → Q (.ref p) (upd H p (.tup (xs ++ ys))))
theorem Vals.nil_iff {xs : List V} {us : List Value} (r : Vals xs us) : us = [] ↔ xs = [] := by
  cases r with
  | nil => simp
  | cons _ _ => simp
theorem znN : OpR X (binaryOp .Add) (rCatT X.K) := by
  intro pins s σ H x y v u Q I rx ry h
  obtain ⟨a, b, xs, ys, rfl, rfl, ha, hb, hx, hz, q1, q2⟩ := h
  cases rx
  cases ry
  obtain ⟨its, r1, p1, _⟩ := I.tuple ha
  obtain ⟨its2, r2, p2, _⟩ := I.tuple hb
  refine HT.cat_tup p1 p2 (fun z => hx (r1.nil_iff.mp z)) (fun z => ⟨.ref a, H, I, rfl, q1 (r2.nil_iff.mp z)⟩) (fun z => ?_) (by rw [← r1.length, ← r2.length]; exact hz)
  refine ⟨.ref s.heap.objs.size, _, I.laid (t' := s.toks) (o := .tup (xs ++ ys)) (fun b ob q => Heap.get?_push_of_some _ q) (Nat.le_refl _) ?_, rfl, q2 (fun w => z (r2.nil_iff.mpr w)) _ (I.hok.fresh (Nat.le_refl _))⟩
  exact ⟨by rw [List.length_append]; exact hz, _, r1.append r2, IsTup.new _ _⟩
end
end L2

namespace L2
open PySem PySem.Spec PyProof.Rows

def ixN (n : Nat) (i : Int) : Option Nat := if 0 ≤ i then (if i < n then some i.toNat else none) else if -(n : Int) ≤ i then some (i + n).toNat else none
def atI {α : Type} (xs : List α) (i : Int) : Option α := (ixN xs.length i).bind fun j => xs[j]?
theorem zoP {n : Nat} {i : Int} {j : Nat} (h : ixN n i = some j) : seqIndex? i n = some j ∧ j < n ∧ -(n : Int) ≤ i ∧ i < n := by
  unfold ixN at h
  by_cases h0 : 0 ≤ i
  · rw [if_pos h0] at h
    by_cases h1 : i < n
    · rw [if_pos h1] at h
      have e : i.toNat = j := Option.some.inj h
      exact ⟨by rw [seqIndex_of h0 h1, e], by omega, by omega, h1⟩
    · rw [if_neg h1] at h; cases h
  · rw [if_neg h0] at h
    by_cases h1 : -(n : Int) ≤ i
    · rw [if_pos h1] at h
      have e : (i + n).toNat = j := Option.some.inj h
      exact ⟨by rw [seqIndex_neg (by omega) h1, e], by omega, h1, by omega⟩
    · rw [if_neg h1] at h; cases h
theorem zhw {α : Type} {xs : List α} {i : Int} {v : α} (h : atI xs i = some v) : ∃ j, seqIndex? i xs.length = some j ∧ xs[j]? = some v ∧ j < xs.length ∧ -(xs.length : Int) ≤ i ∧ i < xs.length := by
  unfold atI at h
  cases e : ixN xs.length i with
  | none => rw [e] at h; cases h
  | some j =>
    rw [e] at h
    obtain ⟨h1, h2, h3, h4⟩ := zoP e
    exact ⟨j, h1, h, h2, h3, h4⟩
theorem zor {α : Type} {xs : List α} {j : Nat} {v : α} (h : xs[j]? = some v) : atI xs (j : Int) = some v := by
  have hj : j < xs.length := (List.getElem?_eq_some_iff.mp h).1
  have e : ixN xs.length (j : Int) = some j := by
    unfold ixN
    rw [if_pos (by omega), if_pos (by omega)]; simp
  unfold atI; rw [e]; exact h
def PlainIx (b : Expr) : Prop := ∀ o i, subscripted b false o i = operate [o, i] (getItem o i)
def IxR (X : Cx) (r : R2) : Prop :=
  ∀ (value slice : Expr) (pins : List (Addr × Obj)) (s : Shared) (σ : St) (H : Hp) (x y : V) (v u : Value) (Q : VK), Inv X pins σ H s → RelV x v → RelV y u → r x y H Q →
    subscripted slice false v u = operate [v, u] (getItem v u) → wpAny (model X.prog X.w) X.A (subscriptTail value slice v u) (EP X pins σ Q) X.xe s
def MtR (X : Cx) (id : String) (r : V → List V → Hp → VK → Prop) : Prop :=
  ∀ (pins : List (Addr × Obj)) (s : Shared) (σ : St) (H : Hp) (x : V) (xs : List V) (v : Value) (us : List Value) (Q : VK), Inv X pins σ H s → RelV x v → Vals xs us → r x xs H Q →
    wpAny (model X.prog X.w) X.A (call (.builtin id) (v :: us)) (EP X pins σ Q) X.xe s
section
variable {X : Cx} {a b : Expr} {ta tb : TE} {pos : Pos}
theorem IxR.or {r r' : R2} (h : IxR X r) (h' : IxR X r') : IxR X (fun x y H Q => r x y H Q ∨ r' x y H Q) := by
  intro value slice pins s σ H x y v u Q I rx ry q hs
  rcases q with q | q
  · exact h value slice pins s σ H x y v u Q I rx ry q hs
  · exact h' value slice pins s σ H x y v u Q I rx ry q hs
theorem zrk {r : R2} (hr : IxR X r) (ha : PE X a ta) (hb : PE X b tb) (hs : PlainIx b) : PE X (.Subscript a b pos) (tOp r ta tb) := by
  intro pins s σ H Q I h
  exact Subscript_ (binT ha hb I h fun v u s2 x y H2 I2 rx ry q => hr a b pins s2 σ H2 x y v u Q I2 rx ry q (hs _ _))

def rIxL (K : PySem.W.Frag) : R2 := fun x y H Q => ∃ p xs i v, x = .ref p ∧ y = .int i ∧ SqL K H p xs ∧ atI xs i = some v ∧ Q v H
def rIxT (K : PySem.W.Frag) : R2 := fun x y H Q => ∃ p xs i v, x = .ref p ∧ y = .int i ∧ SqT K H p xs ∧ atI xs i = some v ∧ Q v H
def rIxS : R2 := fun x y H Q => ∃ z i c, x = .str z ∧ y = .int i ∧ z.length ≤ sizeLine ∧ atI z.cps.toList i = some c ∧ Q (.str ⟨#[c]⟩) H
theorem zoW : IxR X (rIxL X.K) := by
  intro value slice pins s σ H x y v u Q I rx ry h hs
  obtain ⟨p, xs, i, z, rfl, rfl, hq, he, q⟩ := h
  cases rx
  obtain ⟨t, rfl⟩ := ry
  obtain ⟨its, r, pl, hz⟩ := I.list hq
  obtain ⟨j, h1, h2, h3, h4, h5⟩ := zhw he
  obtain ⟨w, ew, rw'⟩ := r.get h2
  have hl := r.length
  have hn := line63
  have fin : EP X pins σ Q w s := ⟨z, H, I, rw', q⟩
  by_cases h0 : 0 ≤ i
  · have hj : i.toNat = j := by
      rw [seqIndex_of h0 h5] at h1
      exact Option.some.inj h1
    exact item_listR pl.isList h0 (by omega) (by rw [hj]; simpa using ew) fin hs
  · have hj : (i + (its.toArray.size : Int)).toNat = j := by
      rw [seqIndex_neg (by omega) h4] at h1
      rw [List.size_toArray, ← hl]
      exact Option.some.inj h1
    exact subscriptTail_builtinR (x := w) pl.isList.typeIs slot_list_getitem.lookup
      (wpAny_getItem_list_neg (Q := fun r s' => r = w ∧ EP X pins σ Q r s') pl.isList (by omega) (by rw [List.size_toArray] <;> omega) (by omega) (by rw [hj]; simpa using ew) ⟨rfl, fin⟩) hs
theorem zqd : IxR X (rIxT X.K) := by
  intro value slice pins s σ H x y v u Q I rx ry h hs
  obtain ⟨p, xs, i, z, rfl, rfl, hq, he, q⟩ := h
  cases rx
  obtain ⟨t, rfl⟩ := ry
  obtain ⟨its, r, pl, hz⟩ := I.tuple hq
  obtain ⟨j, h1, h2, h3, h4, h5⟩ := zhw he
  obtain ⟨w, ew, rw'⟩ := r.get h2
  have hl := r.length
  have hn := line63
  have fin : EP X pins σ Q w s := ⟨z, H, I, rw', q⟩
  exact subscriptTail_builtinR (x := w) pl.typeIs slot_tuple_getitem.lookup
    (getItem_tuple (j := j) (Q := fun r s' => r = w ∧ EP X pins σ Q r s') pl (by omega) (by omega) (by rw [List.size_toArray, ← hl]; exact h1) (by simpa using ew) ⟨rfl, fin⟩) hs
theorem zqk : IxR X rIxS := by
  intro value slice pins s σ H x y v u Q I rx ry h hs
  obtain ⟨z, i, c, rfl, rfl, hz, he, q⟩ := h
  obtain ⟨t, rfl⟩ := rx
  obtain ⟨t', rfl⟩ := ry
  obtain ⟨j, h1, h2, h3, h4, h5⟩ := zhw he
  have hl : z.cps.toList.length = z.length := by simp [Str.length]
  rw [hl] at h1 h4 h5
  have hn := line63
  exact tail_any (typeIs_str s z t) slot_str_getitem.lookup (getItem_str (c := c) (by
    have e1 : decide (i < -(2 ^ 63 : Int)) = false := decide_eq_false (by omega)
    have e2 : decide (i ≥ 2 ^ 63) = false := decide_eq_false (by omega)
    rw [e1, e2, Bool.or_false]) (by rw [h1]; simpa using h2) ⟨.str ⟨#[c]⟩, H, I.tok _, ⟨_, rfl⟩, q⟩) hs
def rIx (K : PySem.W.Frag) : R2 := fun x y H Q => rIxL K x y H Q ∨ rIxT K x y H Q ∨ rIxS x y H Q
theorem znc : IxR X (rIx X.K) := zoW.or (zqd.or zqk)

theorem zgl (lo hi : Option Int) (n : Nat) : (sliceBounds lo hi none n).1 = ((HT.sIx n 0 lo : Nat) : Int) ∧ (sliceBounds lo hi none n).2.1 = ((HT.sIx n n hi : Nat) : Int) ∧ (sliceBounds lo hi none n).2.2 = 1 := by
  refine ⟨?_, ?_, rfl⟩
  · cases lo with
    | none => simp [sliceBounds, HT.sIx]
    | some i =>
      simp only [sliceBounds, HT.sIx, Option.getD_none, show (1 : Int) > 0 by decide, if_true]
      by_cases h : i < 0
      · simp only [h, if_true] <;> omega
      · simp only [h, if_false] <;> omega
  · cases hi with
    | none => simp [sliceBounds, HT.sIx]
    | some i =>
      simp only [sliceBounds, HT.sIx, Option.getD_none, show (1 : Int) > 0 by decide, if_true]
      by_cases h : i < 0
      · simp only [h, if_true] <;> omega
      · simp only [h, if_false] <;> omega
theorem zfi (its : List Value) (lo hi : Option Int) : slicePick its.toArray lo hi none = ((its.drop (HT.sIx its.length 0 lo)).take (HT.sIx its.length its.length hi - HT.sIx its.length 0 lo)).toArray := by
  obtain ⟨h1, h2, h3⟩ := zgl lo hi its.toArray.size
  unfold slicePick
  rw [h1, h2, h3]
  simp only [sliceRange_one, pick_run, List.size_toArray] <;> rfl
def rSlL (K : PySem.W.Frag) : V → Option Int → Option Int → Hp → VK → Prop := fun x lo hi H Q => ∃ a xs, x = .ref a ∧ SqL K H a xs ∧ ∀ p, H p = none → Q (.ref p) (upd H p (.lst (cutV xs lo hi)))
theorem zkc : SlR X (rSlL X.K) := by
  intro pins s σ H x v vl vu lo hi sl Q I rx hs pl pu h
  obtain ⟨a, xs, rfl, hx, q⟩ := h
  cases rx
  obtain ⟨its, r, ht, hz⟩ := I.list hx
  have hlen := r.length
  refine ⟨"list", _, slot_list_getitem.lookup, ht.isList.typeIs, ?_⟩
  refine wpAny_getItem_list_slice ht.isList hs pl pu .none (by simp) ?_ (by rw [List.size_toArray] <;> omega)
  rw [zfi, ← hlen]
  refine ⟨.ref s.heap.objs.size, _, I.laid (t' := s.toks) (o := .lst (cutV xs lo hi)) (fun b ob q => Heap.get?_push_of_some _ q) (Nat.le_refl _) ?_, rfl, q _ (I.hok.fresh (Nat.le_refl _))⟩
  exact ⟨Nat.le_trans (zdG xs lo hi) hz, _, 0, (r.drop (HT.sIx xs.length 0 lo)).take (HT.sIx xs.length xs.length hi - HT.sIx xs.length 0 lo), Heap.get?_push_size _ rfl⟩

theorem zgE : CallR X (.builtin "len") (fun xs H Q => ∃ p ys, xs = [.ref p] ∧ (SqL X.K H p ys ∨ SqT X.K H p ys) ∧ Q (.int ys.length) H) := by
  intro pins s σ H xs us Q I r h
  obtain ⟨p, ys, rfl, hq, q⟩ := h
  obtain ⟨u, rfl, rx⟩ := vals1 r
  cases rx
  have hn := line63
  rcases hq with hq | hq
  · obtain ⟨its, r', pl, hz⟩ := I.list hq
    have hlen := r'.length
    exact Calls.call_len_list pl.isList (by simp only [List.size_toArray] <;> omega) ⟨.int ys.length, H, I.tok _, ⟨s.toks + 1, by rw [List.size_toArray, hlen]⟩, q⟩
  · obtain ⟨its, r', pl, hz⟩ := I.tuple hq
    have hlen := r'.length
    exact len_tuple pl (by simp only [List.size_toArray] <;> omega) ⟨.int ys.length, H, I.tok _, ⟨s.toks + 1, by rw [List.size_toArray, hlen]⟩, q⟩
theorem zgr : CallR X (.builtin "len") (fun xs H Q => ∃ z, xs = [.str z] ∧ z.length ≤ sizeLine ∧ Q (.int z.length) H) := by
  intro pins s σ H xs us Q I r h
  obtain ⟨z, rfl, hz, q⟩ := h
  obtain ⟨u, rfl, t, rfl⟩ := vals1 r
  have hn := line63
  exact len_str (by omega) ⟨.int z.length, H, I.tok _, ⟨_, rfl⟩, q⟩
theorem CallR.or {f : Value} {r r' : List V → Hp → VK → Prop} (h : CallR X f r) (h' : CallR X f r') : CallR X f (fun xs H Q => r xs H Q ∨ r' xs H Q) := by
  intro pins s σ H xs us Q I rs q
  rcases q with q | q
  · exact h pins s σ H xs us Q I rs q
  · exact h' pins s σ H xs us Q I rs q
theorem zcX : CallR X (.type "tuple") (fun xs H Q => ∃ p ys, xs = [.ref p] ∧ ((SqL X.K H p ys ∧ ∀ l, H l = none → Q (.ref l) (upd H l (.tup ys))) ∨ (SqT X.K H p ys ∧ Q (.ref p) H))) := by
  intro pins s σ H xs us Q I r h
  obtain ⟨p, ys, rfl, h⟩ := h
  obtain ⟨u, rfl, rx⟩ := vals1 r
  cases rx
  rcases h with ⟨hq, q⟩ | ⟨hq, q⟩
  · obtain ⟨its, r', pl, hz⟩ := I.list hq
    have hlen := r'.length
    refine call_tuple_list pl.isList (fun h' kp => ?_) (by simp only [List.size_toArray] <;> omega)
    have I1 : Inv X pins σ H { s with heap := h' } := I.kept (t' := s.toks) kp
    have I2 : Inv X pins σ (upd H h'.objs.size (.tup ys)) { s with heap := h'.push { cls := .type "tuple", data := .seq its.toArray } } :=
      I1.laid (t' := s.toks) (fun b o e => Heap.get?_push_of_some _ e) (Nat.le_refl _) (show ObjOk X.prog X.w _ _ _ (.tup ys) from ⟨hz, its, r', IsTup.new _ _⟩)
    exact ⟨.ref h'.objs.size, _, I2, rfl, q _ (I1.hok.fresh (Nat.le_refl _))⟩
  · obtain ⟨its, r', pl, hz⟩ := I.tuple hq
    exact call_tuple_same pl ⟨.ref p, H, I, rfl, q⟩

def tyV (K : PySem.W.Frag) (T : String) (x : V) (H : Hp) : Prop := match x with
  | .str _ => T = "str"
  | .int _ => T = "int"
  | .ref p => (T = "list" ∧ ∃ xs, SqL K H p xs) ∨ (T = "tuple" ∧ ∃ o, K.lookup p = some o ∧ o.cls = .type "tuple" ∧ o.dict = none) ∨
      (T = "dict" ∧ ((∃ kvs, H p = some (.dK kvs)) ∨ ∃ kvs, H p = some (.dT kvs))) ∨ (T = "set" ∧ ∃ S n, H p = some (.set S n))
  | _ => False
theorem znf {pins : List (Addr × Obj)} {σ : St} {H : Hp} {s : Shared} {T : String} {x : V} {v : Value} (I : Inv X pins σ H s) (r : RelV x v) (ty : tyV X.K T x H) :
    s.TypeIs v T ∧ ∀ a, v = .ref a → ∃ ob, s.heap.get? a = some ob ∧ ob.dict = none := by
  cases x with
  | str z =>
    obtain ⟨t, rfl⟩ := r
    cases (show T = "str" from ty)
    exact ⟨typeIs_str s z t, fun _ e => nomatch e⟩
  | int i =>
    obtain ⟨t, rfl⟩ := r
    cases (show T = "int" from ty)
    exact ⟨typeIs_int s i t, fun _ e => nomatch e⟩
  | ref p =>
    cases r
    rcases ty with ⟨rfl, xs, hq⟩ | ⟨rfl, o, hk, hc, hd⟩ | ⟨rfl, hk⟩ | ⟨rfl, S, n, hk⟩
    · obtain ⟨its, _, pl, _⟩ := I.list hq
      refine ⟨pl.isList.typeIs, fun a e => ?_⟩
      cases e
      obtain ⟨o, n, e, c, hd, _⟩ := pl
      exact ⟨o, e, hd⟩
    · refine ⟨⟨o, I.kIn p o hk, hc⟩, fun a e => ?_⟩
      cases e
      exact ⟨o, I.kIn _ o hk, hd⟩
    · have z : ∃ o, s.heap.get? p = some o ∧ o.ExactDict := by
        rcases hk with ⟨kvs, hk⟩ | ⟨kvs, hk⟩
        · obtain ⟨_, _, _, _, o, _, _, e, ex, _⟩ := I.hok p _ hk
          exact ⟨o, e, ex⟩
        · obtain ⟨_, _, _, _, o, _, _, e, ex, _⟩ := I.hok p _ hk
          exact ⟨o, e, ex⟩
      obtain ⟨o, e, ex⟩ := z
      refine ⟨⟨o, e, ex.1⟩, fun a e2 => ?_⟩
      cases e2
      exact ⟨o, e, ex.2.1⟩
    · obtain ⟨o, _, _, _, e, ex, _⟩ := I.hok p _ hk
      refine ⟨⟨o, e, ex.1⟩, fun a e2 => ?_⟩
      cases e2
      exact ⟨o, e, ex.2.1⟩
  | _ => exact False.elim ty
def tBM0 (K : PySem.W.Frag) (T : String) (r : V → List V → Hp → VK → Prop) (to : TE) : TE := fun σ H Q => to σ H fun x H1 => tyV K T x H1 ∧ r x [] H1 Q
def tBM (K : PySem.W.Frag) (T : String) (r : V → List V → Hp → VK → Prop) (to : TE) (t : TA) : TE := fun σ H Q => to σ H fun x H1 => tyV K T x H1 ∧ t σ H1 fun xs H2 => r x xs H2 Q
variable {o e : Expr} {es : List Expr} {to : TE} {t : TA} {name : Str} {apos cpos : Pos} {T id : String} {r : V → List V → Hp → VK → Prop}
theorem zqS (pa : PlainAttrs T) (slot : Slot T name id) (hty : typeOf (.builtin id) = pure (.type "method_descriptor")) (hm : MtR X id r) (ho : PE X o to)
    (hbase : attributeBase o name X.env (eval o X.env) = eval o X.env := by rfl) (hline : (apos.endLine == cpos.line) = true := by rfl) : PE X (.Call (.Attribute o name apos) [] [] cpos) (tBM0 X.K T r to) := by
  intro pins s σ H Q I h
  refine wpAny_Call_method0_late hbase hline (thn (ho pins s σ H _ I h) fun v s1 ⟨x, H1, I1, r1, ty, q1⟩ => ?_)
  obtain ⟨h1, h2⟩ := znf I1 r1 ty
  exact ⟨T, id, pa, slot, hty, h1, h2, Calls.callWith_builtin rfl (PySem.evalArgs_none (hm pins s1 σ H1 x [] v [] Q I1 r1 .nil q1))⟩
theorem zqX (pa : PlainAttrs T) (slot : Slot T name id) (hty : typeOf (.builtin id) = pure (.type "method_descriptor")) (hm : MtR X id r) (ho : PE X o to) (ha : PA X (e :: es) t)
    (hbase : attributeBase o name X.env (eval o X.env) = eval o X.env := by rfl)
    (hfew : ((backTo cpos (starEach (e :: es) X.env)).all (fun x => !x.1) && (backToKw cpos (keywordEach [] X.env)).all (fun x => x.1.isSome)
      && decide ((e :: es).length + ([] : List Keyword).length + (if ([] : List Keyword).isEmpty then 0 else 1) < 30)) = true := by rfl)
    (hline : (apos.endLine == cpos.line) = true := by rfl) (hs : starEach (e :: es) X.env = (false, eval e X.env) :: starEach es X.env := by rfl) (hplain : (backTo cpos (starEach es X.env)).any (·.1) = false := by rfl) :
    PE X (.Call (.Attribute o name apos) (e :: es) [] cpos) (tBM X.K T r to t) := by
  intro pins s σ H Q I h
  refine wpAny_Call_method_late hbase hfew hline rfl (thn (ho pins s σ H _ I h) fun v s1 ⟨x, H1, I1, r1, ty, q1⟩ => ?_)
  obtain ⟨h1, h2⟩ := znf I1 r1 ty
  refine ⟨T, id, pa, slot, hty, h1, h2, ?_⟩
  have hA := ha cpos pins s1 σ H1 _ I1 q1
  rw [hs] at hA ⊢
  refine Calls.callWith_builtin (by show (false || (backTo cpos (starEach es X.env)).any (·.1)) = false; rw [hplain] <;> rfl) (Calls.evalArgs_plain ?_)
  exact thn hA fun us s2 ⟨vs, H2, I2, r2, q2⟩ => hm pins s2 σ H2 x vs v us Q I2 r1 r2 q2
/- xs.append(e), list.index on a module's tuple .. are MtR facts of 06m -/
end
end L2

namespace L2
open PySem PySem.Spec PyProof.Rows

def MtM (X : Cx) (id : String) (r : V → List V → Hp → VK → Prop) : Prop :=
  ∀ (pins : List (Addr × Obj)) (s : Shared) (σ : St) (H : Hp) (x : V) (xs : List V) (v : Value) (us : List Value) (Q : VK), Inv X pins σ H s → RelV x v → Vals xs us → r x xs H Q →
    wpAny (model X.prog X.w) X.A (call (.builtin id) (v :: us)) (EP X pins σ Q) X.xe s

theorem Vals.one : ∀ {x : V} {us : List Value}, Vals [x] us → ∃ u, us = [u] ∧ RelV x u
  | _, _, .cons r .nil => ⟨_, rfl, r⟩
theorem Vals.rep {xs : List V} {us : List Value} (h : Vals xs us) : ∀ k : Nat, Vals (List.replicate k xs).flatten (List.replicate k us).flatten
  | 0 => .nil
  | k + 1 => by
    rw [List.replicate_succ, List.replicate_succ, List.flatten_cons, List.flatten_cons]
    exact Vals.append h (Vals.rep h k)
theorem zgm (its : List Value) : ∀ (k : Nat) (acc : List Value),
    List.foldl (fun x1 x2 => x1 ++ x2) acc.toArray (List.replicate k its.toArray) = (acc ++ (List.replicate k its).flatten).toArray
  | 0, acc => by simp
  | k + 1, acc => by
    have e : acc.toArray ++ its.toArray = (acc ++ its).toArray := by simp
    have e2 : (acc ++ its) ++ (List.replicate k its).flatten = acc ++ (List.replicate (k + 1) its).flatten := by
      rw [List.replicate_succ, List.flatten_cons, List.append_assoc]
    rw [← e2, ← zgm its k (acc ++ its), ← e, List.replicate_succ, List.foldl_cons]

section
variable {X : Cx} {pins : List (Addr × Obj)} {σ : St} {H : Hp} {s : Shared} {l b : Addr} {xs ys zs : List V}

theorem Inv.lset {its its' : List Value} {n : Nat} {f : Array Value → Array Value} {t' : Nat} (I : Inv X pins σ H s) (hH : H l = some (.lst xs))
    (e : s.heap.get? l = some { cls := .type "list", data := .seq its.toArray n }) (hf : f its.toArray = its'.toArray) (hv : Vals ys its') (hz : ys.length ≤ sizeLine) :
    Inv X pins σ (upd H l (.lst ys)) { s with heap := s.heap.update l (Obj.mapSeq f), toks := t' } := by
  have q := PySem.IsL.update e f
  rw [hf] at q
  refine I.write (x := l) (e := l) (by rw [hH]; exact trivial) (.inl rfl) (fun b' u hb hu => (Heap.get?_update_other s.heap (Obj.mapSeq f) (Ne.symm hb)).trans hu) ⟨_, q⟩ ?_
  exact ⟨hz, its', _, hv, q⟩
theorem Inv.lnew {its : List Value} {t' : Nat} (I : Inv X pins σ H s) (hv : Vals ys its) (hz : ys.length ≤ sizeLine) :
    Inv X pins σ (upd H s.heap.objs.size (.lst ys)) { s with heap := s.heap.push { cls := .type "list", data := .seq its.toArray }, toks := t' } :=
  I.laid (fun _ _ q => Heap.get?_push_of_some _ q) (Nat.le_refl _) ⟨hz, its, 0, hv, Heap.get?_push_size _ rfl⟩
theorem Inv.fresh (I : Inv X pins σ H s) : H s.heap.objs.size = none := I.hok.fresh (Nat.le_refl _)
theorem Inv.lstM (I : Inv X pins σ H s) (hH : H l = some (.lst xs)) : xs.length ≤ sizeLine ∧ ∃ (its : List Value) (n : Nat), Vals xs its ∧ xs.length = its.length ∧ s.heap.get? l = some { cls := .type "list", data := .seq its.toArray n } := by
  obtain ⟨z, its, n, r, e⟩ := I.hok l _ hH
  exact ⟨z, its, n, r, r.length, e⟩

theorem notLongL {n : Nat} (h : n ≤ sizeLine) : Builtin.List.listTooLong n = false := by
  unfold Builtin.List.listTooLong
  exact decide_eq_false (by omega)
end

section
variable {X : Cx}

def rAppend : V → List V → Hp → VK → Prop := fun x vs H Q => ∃ l xs y, x = .ref l ∧ vs = [y] ∧ H l = some (.lst xs) ∧ xs.length < sizeLine ∧ Q .non (upd H l (.lst (xs ++ [y])))
theorem zgd : MtM X "list.append" rAppend := by
  intro pins s σ H x vs v us Q I rx rv h
  obtain ⟨l, xs, y, rfl, rfl, hH, hz, q⟩ := h
  cases rx
  obtain ⟨u, rfl, ru⟩ := rv.one
  obtain ⟨z, its, n, r, hl, e⟩ := I.lstM hH
  refine call_meets F.slot_list_append ⟨_, e, rfl⟩ F.entry_list_append (F.args_list_append_2 _ _) (PySem.list_append l its.toArray n u (by rw [List.size_toArray]; omega)) ⟨e, ?_⟩
  refine ⟨.non, _, I.lset (its' := its ++ [u]) hH e (by simp) (r.append (.cons ru .nil)) ?_, rfl, q⟩
  rw [List.length_append, List.length_singleton]
  omega

def rCat : R2 := fun x y H Q => ∃ l b xs zs, x = .ref l ∧ y = .ref b ∧ H l = some (.lst xs) ∧ H b = some (.lst zs) ∧ xs.length + zs.length ≤ sizeLine ∧ ∀ p, H p = none → Q (.ref p) (upd H p (.lst (xs ++ zs)))
theorem zin : OpR X (binaryOp .Add) rCat := by
  intro pins s σ H x y v u Q I rx ry h
  obtain ⟨l, b, xs, zs, rfl, rfl, hH, hB, hz, q⟩ := h
  cases rx
  cases ry
  obtain ⟨z, its, n, r, hl, e⟩ := I.lstM hH
  obtain ⟨z2, its2, n2, r2, hl2, e2⟩ := I.lstM hB
  refine PySem.P.add_list e e2 ?_ (by rw [List.size_toArray, List.size_toArray]; omega)
  have ea : its.toArray ++ its2.toArray = (its ++ its2).toArray := by simp
  rw [ea]
  exact ⟨.ref _, _, I.lnew (t' := s.toks) (r.append r2) (by rw [List.length_append]; omega), rfl, q _ I.fresh⟩
def rRep : R2 := fun x y H Q => ∃ l k xs, x = .ref l ∧ y = .int k ∧ H l = some (.lst xs) ∧ -(2 ^ 63) ≤ k ∧ k < 2 ^ 63 ∧ xs.length * k.toNat ≤ sizeLine ∧
  ∀ p, H p = none → Q (.ref p) (upd H p (.lst (List.replicate k.toNat xs).flatten))
theorem znF {α : Type} (xs : List α) (k : Nat) : (List.replicate k xs).flatten.length = k * xs.length := by
  induction k with
  | zero => simp
  | succ k ih => rw [List.replicate_succ, List.flatten_cons, List.length_append, ih, Nat.succ_mul, Nat.add_comm]
theorem zpI : OpR X (binaryOp .Mult) rRep := by
  intro pins s σ H x y v u Q I rx ry h
  obtain ⟨l, k, xs, rfl, rfl, hH, h1, h2, hz, q⟩ := h
  cases rx
  obtain ⟨t, rfl⟩ := ry
  obtain ⟨z, its, n, r, hl, e⟩ := I.lstM hH
  have hlen : its.toArray.size * k.toNat ≤ sizeLine := by rw [List.size_toArray, ← hl]; exact hz
  have hcap : ¬ its.toArray.size * k.toNat > (2 ^ 63 - 1) / 8 := by
    have : (sizeLine : Nat) ≤ (2 ^ 63 - 1) / 8 := by decide
    omega
  have hfit : ¬ (!Builtin.List.listFitsIndex k) = true := by
    rw [fitsIndex_both h1 h2]
    exact Bool.false_ne_true
  have hlong : ¬ Builtin.List.listTooLong (its.toArray.size * k.toNat) = true := by
    rw [notLongL hlen]
    exact Bool.false_ne_true
  have hnew : List.foldl (fun x1 x2 => x1 ++ x2) #[] (List.replicate (if its.toArray.isEmpty = true then 0 else k.toNat) its.toArray) = (List.replicate k.toNat its).flatten.toArray := by
    have f0 : ∀ m : Nat, List.foldl (fun x1 x2 => x1 ++ x2) #[] (List.replicate m its.toArray) = (List.replicate m its).flatten.toArray := fun m => by
      have := zgm its m []
      rw [List.nil_append] at this
      exact this
    rw [f0]
    cases its with
    | nil => simp
    | cons a r' => rw [if_neg (by simp)]
  refine wpAny_binaryOp_repeat_ref (T := "list") (U := "int") (by decide) ⟨_, e, rfl⟩ (fun s' => typeIs_int s' k t) noFill_list_mul F.fills_int_mul F.slot_int_rmul repeat_list F.slot_int_index.lookup
    (call_meets F.slot_int_rmul (typeIs_int s k t) F.entry_int_rmul (F.args_int_rmul_2 _ _) (int___rmul___int_list k t l its.toArray n)
      ⟨e, rfl, ⟨_, e, rfl⟩, call_meets F.slot_list_mul ⟨_, e, rfl⟩ F.entry_list_mul (F.args_list_mul_2 _ _) (AutoListH.list___mul___list_int_3 l its.toArray n k t hfit hcap hlong) ⟨e, ?_⟩⟩)
  rw [hnew]
  exact ⟨.ref _, _, I.lnew (t' := s.toks) (r.rep k.toNat) (by rw [znF, Nat.mul_comm]; exact hz), rfl, q _ I.fresh⟩

end

section
variable {prog : Program} {w : World} {A : Around} {E : Value → Shared → Prop} {s : Shared}
set_option maxRecDepth 100000 in
end

section
variable {X : Cx}
end
end L2

namespace Att
open PySem PySem.W PySem.Calls PyProof.Rows

theorem zdQ {P : Params} {h : Heap} : ∀ (ns : List Int) (vs : List Value), WellAll P h vs (ns.map WData.int) → IntsAre vs ns := by
  intro ns
  induction ns with
  | nil =>
    intro vs w
    rw [List.map_nil] at w
    cases w
    exact .nil
  | cons n ns ih =>
    intro vs w
    rw [List.map_cons] at w
    cases w with
    | cons a b =>
      cases a
      exact .cons _ _ (ih _ b)

theorem zjn {l : OpenLaw} {n : Nat} (hn : l.most = some n) {P : Params} {h : Heap} {args : List WData} {vals : List Value}
    (hpre : l.row.toRowW.claim.pre args = true) (hwl : WellAll P h vals args) :
    ∃ a vs ns, vals = [Value.ref a] ∧ args = [WData.list (ns.map WData.int)] ∧ h.get? a = some { cls := .type "list", data := .seq vs.toArray } ∧ IntsAre vs ns ∧ ns.length ≤ n := by
  have hsh : WShape.hasAll [] args [.list .int] = true := (pre_splitW hpre).1
  have hc : l.pre.holds [] { args := args } = true := (pre_splitW hpre).2
  obtain ⟨d, r, rfl, h1, h2⟩ := hasAllW_cons hsh
  obtain rfl := hasAllW_nil h2
  obtain ⟨xs, rfl, h3⟩ := hasW_list h1
  obtain ⟨ns, rfl⟩ := items_int h3
  have hlen : ns.length ≤ n := by
    unfold OpenLaw.pre at hc
    have h4 : (WTm.not (.lt (.lit (.int (n : Int))) (.len (.arg 0)))).holds [] { args := [.list (ns.map .int)] } = true := by
      have h4 := (holds_andW hc).1
      rw [hn] at h4
      exact h4
    have h5 := condW_of h4 (w_not (w_lt w_lit (w_len_list (w_arg rfl))))
    rw [List.length_map] at h5
    refine Nat.le_of_not_lt fun q => ?_
    have q' : (n : Int) < ((ns.length : Nat) : Int) := by omega
    first
      | (rw [decide_eq_true q'] at h5; exact absurd h5 (by decide))
      | (simp at h5; omega)
  cases hwl with
  | cons w1 w2 =>
    cases w2
    cases w1 with
    | list ho hall => exact ⟨_, _, ns, rfl, rfl, ho, zdQ ns _ hall, hlen⟩

theorem zlp (l : OpenLaw) (args : List WData) : l.row.toRowW.claim.post args (.bool true) args = true :=
  postW_of (r := l.row.toRowW) (X := (true == true))
    (show WShape.has [] (.bool true) .bool = true by first | rfl | decide | simp [WShape.has, WShape.arms, WShape.armsAll])
    (show (WTm.eq .res (.lit (.bool true))).value [] { args := args, res := some (.bool true), after := args } = some (.bool (true == true)) from w_eq_bool (w_res rfl) w_lit) rfl

theorem attach_call {l : OpenLaw} {n : Nat} {q : Program} {loose : List Str} {XP : (Str → Option Value) → Heap → Prop} {YP : World → Heap → Prop} {d : DefRec}
    (hn : l.most = some n) (hdf : d.params.defaults = [])
    (call : ∀ (w : World) (s₀ s₁ : Shared) (mg mb : Str → Option Value) (fa : Addr) (o : Obj) (pm cd doc : Value) (a : Addr) (vs : List Value) (ns : List Int),
      Ground q loose [] XP w s₀ mg mb s₁.heap → YP w s₁.heap →
      s₁.heap.get? fa = some o → o.data = .func (docDef d.name d.params d.body d.scope pm cd doc) → s₁.heap.CodeRec cd d.name → mg d.name = some (.ref fa) →
      s₁.heap.get? a = some { cls := .type "list", data := .seq vs.toArray } → IntsAre vs ns → ns.length ≤ n → s₁.gens = #[] →
      codeAny (model l.prog w) callerA (.call (.ref fa) ⟨[.ref a], []⟩) (fun r s' => r = .ok (.ret (.bool true)) ∧ OldK s₁.heap s'.heap ∧ s'.os = s₁.os ∧ AllBare s'.gens) s₁) :
    WalkO q loose XP YP l.row.toRowW d [] (fun f vs => PySem.call f vs) := by
  intro w s₀ s₁ mg mb G Y fa o pm cd doc dV kV ho hd hcd hD hmg hg args vals as hpre hlay hrd hwl hlo
  obtain rfl : dV = .none := Dflts.none hD hdf
  obtain rfl : kV = .none := Dflts.noKw hD
  obtain ⟨a, vs, ns, rfl, rfl, hobj, hints, hlen⟩ := zjn hn hpre hwl
  refine enter_call (codeAny_mono (call w s₀ s₁ mg mb fa o pm cd doc a vs ns G Y ho (fd_plain hd) hcd hmg hobj hints hlen hg) fun r s' hq => ?_)
  obtain ⟨rfl, h2, h3, h4⟩ := hq
  exact ⟨.inl ⟨.bool true, .bool true, [], rfl, fun _ => rfl, .bool true, zlp l _, fun _ => ⟨List.Pairwise.nil, fun _ hm => (nomatch hm)⟩⟩, h2, h3, h4⟩

section
variable {prog : Program} {w : World} {A : Around} {E : Value → Shared → Prop} {s : Shared} {K : Frag}

end
end Att

namespace L2
open PySem PySem.Spec PyProof.Rows

theorem zgD : ∀ {vs : List Value} {ns : List Int}, IntsAre vs ns → Vals (ns.map V.int) vs
  | _, _, .nil => .nil
  | _, _, .cons n t h => .cons ⟨t, rfl⟩ (zgD h)

def Only (H : Hp) : Prop := ∀ b, H b = none ∨ ∃ o xs, H b = some (.frz o (.lst xs))

theorem zmA {P : Program} {w : World} {K : PySem.W.Frag} {mg mb : Str → Option Value} {CX : CXT} {k : Nat} {fa a : Addr} {fd : FuncData} {x : Str} {sp : Sp} {s₁ : Shared} {vs : List Value} {ns : List Int}
    (KX : K.In s₁.heap) (hns : s₁.heap.Ns mainGlobals mg) (hb : s₁.heap.Ns builtinsNs mb) (hbb : ∀ x : Str, x ≠ "__name__" → mb x = bootBuiltins x) (hlim : s₁.heap.NoLimit) (hg : s₁.gens = #[])
    (ha : s₁.heap.get? a = some { cls := .type "list", data := .seq vs.toArray }) (hi : IntsAre vs ns) (hl : ns.length ≤ sizeLine) (hr : Room k callerA)
    (F : ∀ base : Heap, K.In base → base.Ns mainGlobals mg → FnOk P w K mg base CX k fa fd [x] sp) (hbind : ∀ (s : Shared) (u : Value), BindsTo s fd ⟨[u], []⟩ [(x, u)])
    (hsp : ∀ H : Hp, Only H → SqL K H a (ns.map V.int) → sp [.ref a] H (fun v _ => v = .bl true) fun _ _ _ => False)
    (hCX : ∀ H e s', CX [] H s₁ (fun _ _ _ => False) e s' → False) :
    codeAny (model P w) callerA (.call (.ref fa) ⟨[.ref a], []⟩) (fun r s' => r = .ok (.ret (.bool true)) ∧ OldK s₁.heap s'.heap ∧ s'.os = s₁.os ∧ AllBare s'.gens) s₁ := by
  have rv := zgD hi
  have lenV := hi.length
  -- from an abstract heap in which nothing but the script may be tracked
  have core : ∀ H : Hp, Only H → SqL K H a (ns.map V.int) → HOk P w H s₁.heap → (∀ b, H b ≠ none → b = a) → (H a ≠ none → K.lookup a = none) →
      codeAny (model P w) callerA (.call (.ref fa) ⟨[.ref a], []⟩) (fun r s' => r = .ok (.ret (.bool true)) ∧ OldK s₁.heap s'.heap ∧ s'.os = s₁.os ∧ AllBare s'.gens) s₁ := by
    intro H hO hS hok hA hK
    have base_of : ∀ {b : Addr} {o : Obj}, s₁.heap.get? b = some o → H b = none → (hidT s₁.heap H).get? b = some o := fun e n => zmn e n
    have noA : ∀ {b : Addr} {o : Obj} {es : Array DictEntry} {ep : Nat}, s₁.heap.get? b = some o → o.data = .dict es ep → H b = none := fun {b o es ep} e d => by
      cases q : H b with
      | none => rfl
      | some u =>
        have e' : b = a := hA b (by rw [q]; simp)
        subst e'
        rw [ha] at e; cases e
        have d' : Data.seq vs.toArray _ = Data.dict es ep := d
        cases d'
    have nsK : ∀ {b : Addr} {m : Str → Option Value}, s₁.heap.Ns b m → (hidT s₁.heap H).Ns b m := fun {b m} ⟨o, es, ep, e, d, r⟩ => ⟨o, es, ep, base_of e (noA e d), d, r⟩
    have hKb : K.In (hidT s₁.heap H) := fun b o e => base_of (KX b o e) (by
      cases q : H b with
      | none => rfl
      | some u =>
        have e' : b = a := hA b (by rw [q]; simp)
        subst e'
        rw [hK (by rw [q]; simp)] at e; cases e)
    have hM : Mod K mg (hidT s₁.heap H) := ⟨hKb, nsK hns, ⟨mb, nsK hb, hbb⟩, let ⟨mc, h1, h2⟩ := hlim; ⟨mc, nsK h1, h2⟩⟩
    have e0 : Env0 P w K mg (hidT s₁.heap H) callerA [] s₁ H := ⟨rfl, hM, fun b o e => znL e, Nat.le_of_eq (zjX _ _), trivial, fun b hb => absurd (show b ∈ ([] : List Addr) from hb) (by simp), hok, .of_eq hg⟩
    refine codeAny_mono ((F _ hKb (nsK hns)).run callerA [] s₁ H ⟨[.ref a], []⟩ [.ref a] [.ref a] _ _ hr e0 (hbind s₁ (.ref a)) (.cons rfl .nil) (hsp H hO hS)) fun r s' h => ?_
    cases r with
    | error e => exact (hCX H e s' h).elim
    | ok fl =>
      cases fl with
      | next => exact False.elim h
      | brk => exact False.elim h
      | cont => exact False.elim h
      | ret u =>
        obtain ⟨v, H', os, bare, un, hok', r', q⟩ := h
        have q' : v = .bl true := q
        subst q'
        obtain rfl : u = Value.bool true := r'
        refine ⟨rfl, OldK.of_keep fun b o e => ?_, os, bare⟩
        cases q : H b with
        | none => exact un.keep b o e q (by intro z; exact absurd (show b ∈ ([] : List Addr) from z) (by simp)) (by simp)
        | some u =>
          rcases hO b with z | ⟨ob, xs, z⟩
          · rw [q] at z; cases z
          · have z2 := un.frzs b ob _ z
            obtain ⟨e1, _⟩ := hok b _ z
            obtain ⟨e2, _⟩ := hok' b _ z2
            rw [e] at e1; cases e1
            exact e2
  cases hk : K.lookup a with
  | some o =>
    -- the script is one of the module's own objects
    have e := KX a o hk
    rw [ha] at e
    cases e
    refine core (fun _ => none) (fun _ => .inl rfl) (.inr ⟨_, vs.toArray, _, hk, rfl, rfl, rfl, by rw [List.size_toArray, lenV]; exact hl, by simpa using rv⟩) (fun b u z => by have z' : (none : Option HO) = some u := z; cases z') (fun b z => absurd rfl z) fun z => absurd rfl z
  | none =>
    refine core (fun b => if b = a then some (.frz { cls := .type "list", data := .seq vs.toArray } (.lst (ns.map V.int))) else none) (fun b => ?_) (.inl (.inr ⟨{ cls := .type "list", data := .seq vs.toArray }, if_pos rfl⟩)) (fun b u z => ?_) (fun b z => ?_) fun _ => hk
    · by_cases hb : b = a
      · exact .inr ⟨_, _, if_pos hb⟩
      · exact .inl (if_neg hb)
    · by_cases hb : b = a
      · have z' := (if_pos hb).symm.trans z
        cases z'
        subst hb
        exact ⟨ha, by rw [List.length_map]; exact hl, vs, _, rv, ha⟩
      · have z' := (if_neg hb).symm.trans z
        cases z'
    · by_cases hb : b = a
      · exact hb
      · exact absurd (if_neg hb) z
end L2

namespace L2
open PySem PySem.Spec PyProof.Rows

theorem zke {l : PySem.W.OpenLaw} {n k : Nat} {q : Program} {loose : List Str} {XP : (Str → Option Value) → Heap → Prop} {YP : World → Heap → Prop} {d : DefRec} {K : Params → PySem.W.Frag} {CX : World → CXT} {sp : World → Sp} {x : Str}
    (hn : l.most = some n) (hn2 : n ≤ sizeLine) (hdf : d.params.defaults = []) (hr : Room k callerA)
    (hY : ∀ (w : World) (h : Heap), YP w h → (K w.params).In h)
    (F : ∀ (w : World) (mg : Str → Option Value) (fa : Addr) (h : Heap), (K w.params).In h → h.Ns mainGlobals mg → mg d.name = some (.ref fa) →
      ∃ fd : FuncData, (∀ (s : Shared) (u : Value), BindsTo s fd ⟨[u], []⟩ [(x, u)]) ∧
        ∀ base : Heap, (K w.params).In base → base.Ns mainGlobals mg → FnOk l.prog w (K w.params) mg base (CX w) k fa fd [x] (sp w))
    (hsp : ∀ (w : World) (H : Hp) (a : Addr) (ns : List Int), ns.length ≤ n → Only H → SqL (K w.params) H a (ns.map V.int) → sp w [.ref a] H (fun v _ => v = .bl true) fun _ _ _ => False)
    (hCX : ∀ (w : World) (H : Hp) (s : Shared) (e : Value) (s' : Shared), CX w [] H s (fun _ _ _ => False) e s' → False) :
    PySem.W.WalkO q loose XP YP l.row.toRowW d [] (fun f vs => PySem.call f vs) := by
  refine Att.attach_call hn hdf fun w s₀ s₁ mg mb fa o pm cd doc a vs ns G Y ho hd hcd hmg hobj hints hlen hg => ?_
  have KX := hY w _ Y
  obtain ⟨fd, hb, hF⟩ := F w mg fa _ KX G.T.g hmg
  exact zmA KX G.T.g G.T.b G.T.builtins G.T.nolimit hg hobj hints (Nat.le_trans hlen hn2) hr hF hb (fun H hO hS => hsp w H a ns hlen hO hS) fun H e s' => hCX w H s₁ e s'
end L2

/- THE LAST THEOREM (shape; LID, My.* are yours):
   My.Adr: a structure of the addresses that your layer names (classes, functions); My.Txt K t: a structure (Prop) of the equations over K;
   My.txt_mk : {K} {implicit addresses ..} (e1 : nsIn K mainGlobals "law" = some (some (.ref f))) (e2 : K.lookup f = some ⟨oc, od, .func (fnOf "law" "law" params body scope dV kV doc pm an cdv ct), sl⟩) (e3 : codeIn K cdv "law" = true) .. : ∃ t, My.Txt K t

set_option maxRecDepth 100000 in
set_option maxHeartbeats 0 in
theorem PySem.Challenge.cw_LID_holds : PySem.Challenge.rw_LID.Holds := by
  w_on; o_law; k_head; (case hw => w_witness2)
  k_fill
  refine L2.zke (l := PySem.Challenge.rw_LID) (n := 63) (k := 40) (x := "script") (CX := fun w => ..) (sp := fun _ => My.sp_law) rfl (by decide) rfl ⟨rfl, by decide, by decide⟩ (fun w h Y => PySem.W.kIn_of Y) ?F ?S ?C
  case F =>
    intro w mg fa h KX G hmg
    have T : ∃ t, My.Txt (L2.KOf KX) t := by
      dsimp only [L2.KOf]                          -- K must stand as «<heap const> w.params» for k_is
      refine' My.txt_mk ?e1 ?e2 ?e3 ..
      (case e1 => PySem.W.k_is)                    -- in the order: a name -> its address -> its object -> its parts
      (case e2 => PySem.W.k_is)
      ..
    obtain ⟨t, T⟩ := T
    have e0 := hmg.symm.trans (PySem.W.mg_of KX G T.law)
    cases e0                                       -- fa is the law's own address
    exact ⟨_, fun s u => .of_eq rfl, fun base kb nb => My.law_fn T kb nb⟩     -- if «.of_eq rfl» comes too early: refine' ⟨_, ?b, fun base kb nb => My.law_fn T kb nb⟩; exact fun s u => .of_eq rfl
  case S => exact fun w H a ns hl hO hS => ..
  case C => exact ..
(the tactic k_is has no namespace: write k_is) -/

namespace L2
open PySem PySem.Spec PyProof.Rows

def defArgs (s : Stmt) : Arguments := match s with
  | .FunctionDef _ a _ _ _ _ _ _ _ _ => a
  | _ => { posonlyargs := [], args := [], vararg := none, kwonlyargs := [], kw_defaults := [], kwarg := none, defaults := [] }
def defBody (s : Stmt) : List Stmt := match s with
  | .FunctionDef _ _ b _ _ _ _ _ _ _ => b
  | _ => []
def defScope (s : Stmt) : Scope := match s with
  | .FunctionDef _ _ _ _ _ _ sc _ _ _ => sc
  | _ => { kind := .function, names := [], isGenerator := false, isCoroutine := false }

abbrev CX0 : CXT := fun _ _ _ _ _ _ => False
abbrev E0 : XK := fun _ _ _ => False
theorem pass0 {X : Cx} : Passes CX0 X E0 := fun _ _ _ _ _ _ _ h => h.elim

structure Fun (K : PySem.W.Frag) (x qual : Str) (st : Stmt) (f : Addr) (fd : FuncData) : Prop where
  ex : ∃ (oc : Value) (od : Option Addr) (kV doc pm : Value) (an : Option Addr) (cdv ct : Value) (osl : Array (Option Value)),
    fd = PySem.W.fnOf x qual (defArgs st) (defBody st) (defScope st) .none kV doc pm an cdv ct ∧ K.lookup f = some ⟨oc, od, .func fd, osl⟩ ∧ PySem.W.codeIn K cdv qual = true
  kp : PySem.W.keepIn K (.ref f) = true
section
variable {P : Program} {w : World} {K : PySem.W.Frag} {mg : Str → Option Value} {base : Heap}
theorem Fun.ok {x qual : Str} {st : Stmt} {f : Addr} {fd : FuncData} {N ps : List Str} {k : Nat} {sp : Sp} (F : Fun K x qual st f fd) (S : FnScope N ps (defScope st)) (len : ∀ vs H Q E, sp vs H Q E → vs.length = ps.length)
    (hbody : ∀ (cdv : Value) (A : Around) (outer : List Env) (s : Shared) (H : Hp) (vs : List V) (Q : VK) (E : XK), Room k (A.deeper (envOfC qual (defScope st) s.heap.objs.size f cdv)) → sp vs H Q E →
      ∃ t, PSs (cxOf CX0 P w K mg base N qual (defScope st) f cdv A outer s H E).nox (defBody st) t ∧ t { nx := fun _ H' => Q .non H', rt := Q } (start N vs) H) : FnOk P w K mg base CX0 (k + 1) f fd ps sp := by
  obtain ⟨oc, od, kV, doc, pm, an, cdv, ct, osl, rfl, lk, hcd⟩ := F.ex
  refine zrY lk hcd S len fun A outer s H vs Q E hr hsp => ?_
  obtain ⟨t, h, q⟩ := hbody cdv A outer s H vs Q E hr hsp
  exact ⟨t, h.nox, q⟩
theorem Fun.binds {x qual : Str} {st : Stmt} {f : Addr} {fd : FuncData} {ps : List Str} (F : Fun K x qual st f fd)
    (h : ∀ (kV doc pm : Value) (an : Option Addr) (cdv ct : Value) (us : List Value), us.length = ps.length → bindArgs (PySem.W.fnOf x qual (defArgs st) (defBody st) (defScope st) .none kV doc pm an cdv ct) ⟨us, []⟩ = pure (ps.zip us)) : Binds K fd ps [] := by
  obtain ⟨oc, od, kV, doc, pm, an, cdv, ct, osl, rfl, lk, hcd⟩ := F.ex
  exact .all (h kV doc pm an cdv ct)
theorem zqb {x qual : Str} {st : Stmt} {f : Addr} {oc : Value} {od an : Option Addr} {osl : Array (Option Value)} {kV doc pm cdv ct : Value} (l : K.lookup f = some ⟨oc, od, .func (PySem.W.fnOf x qual (defArgs st) (defBody st) (defScope st) .none kV doc pm an cdv ct), osl⟩)
    (c : PySem.W.codeIn K cdv qual = true) (k : PySem.W.keepIn K (.ref f) = true) : Fun K x qual st f (PySem.W.fnOf x qual (defArgs st) (defBody st) (defScope st) .none kV doc pm an cdv ct) := ⟨⟨oc, od, kV, doc, pm, an, cdv, ct, osl, rfl, l, c⟩, k⟩
end
section
variable {X : Cx}
theorem pv (i : Nat) {x : Str} {pos : Pos} (hN : X.N[i]? = some x := by rfl) (hv : Vis X.env.scope x := by first | exact Or.inl rfl | exact Or.inr (Or.inl rfl) | exact Or.inr (Or.inr rfl)) (hd : (x == ("__debug__" : Str)) = false := by decide)
    (hcd : (x == ("__classdict__" : Str)) = false := by decide) : PE X (.Name x pos) (tVar i) := znm hN hv hd hcd
end

theorem iteF {A B : Prop} (h : B) : if false = true then A else B := by
  rw [if_neg Bool.false_ne_true]
  exact h
theorem iteT {A B : Prop} (h : A) : if true = true then A else B := by
  rw [if_pos rfl]
  exact h
def Same (H H' : Hp) : Prop := ∀ b o, H b = some o → H' b = some o
theorem Same.trans {H H1 H2 : Hp} (a : Same H H1) (b : Same H1 H2) : Same H H2 := fun c o h => b c o (a c o h)
end L2
end

section
-- CHANGE: your row's module here, as the last of these rows
set_option Elab.async false
set_option linter.all false
set_option maxRecDepth 100000
namespace L2
open PySem PySem.Spec PyProof.Rows

end L2

namespace L2
open PySem PySem.Spec PyProof.Rows

section
variable (P : Program) (w : World)
end

section
variable {P : Program} {w : World} {H H' : Hp} {h h' : Heap} {a : Addr} {o : HO}
end

section
variable {P : Program} {w : World} {H : Hp} {h h' : Heap} {x e : Addr} {o' : HO}
end

section
variable {fs fs' ex ex' : List Addr} {H H1 H2 : Hp} {h h1 h2 h' : Heap} {a x e : Addr} {o : HO}
end

end L2

namespace L2
open PySem PySem.Spec PyProof.Rows

section
variable {X : Cx} {pins : List (Addr × Obj)} {σ : List (Option V)} {H H' : Hp} {s : Shared} {h' : Heap}

end

end L2

namespace L2
open PySem PySem.Spec PyProof.Rows
section
variable {X : Cx}

variable {a b : Expr} {ta tb : TE} {pos : Pos}
variable {tA tB' : TT} {rest : List Expr}
end
end L2

namespace L2
open PySem PySem.Spec PyProof.Rows

section
variable {X : Cx} {pins : List (Addr × Obj)} {σ : St} {H : Hp} {s : Shared} {a : Addr} {xs ys : List V}
end

section
variable {X : Cx} {pins : List (Addr × Obj)} {σ : St} {H : Hp} {s : Shared} {E : Value → Shared → Prop}
end

section
variable {X : Cx} {st : Stmt} {rest : List Stmt} {t u : TS} {e : Expr} {te : TE} {pos : Pos}
end

section
variable {X : Cx} {pos : Pos}
end

section
variable {X : Cx} {pos : Pos}
end

end L2

namespace L2
open PySem PySem.Spec PyProof.Rows
section
variable {X : Cx} {tg : Expr}
end

end L2

namespace L2
open PySem PySem.Spec PyProof.Rows

section
variable {X : Cx} {a b c : Expr} {ta tb tc : TE} {pos : Pos}

end

section
variable {X : Cx} {a b c : Expr} {ta tb tc : TE} {pos : Pos}
end
end L2

namespace L2
open PySem PySem.Spec PyProof.Rows

section
variable {prog : Program} {w : World} {A : Around} {E : Value → Shared → Prop} {s : Shared} {K : PySem.W.Frag} {x dx C f : Addr} {mA : Str → Option Value} {name : Str} {v : Value}

end

section
variable {P : Program} {w : World} {H H' : Hp} {h h' : Heap} {a C dx : Addr} {fs fs' : List (Str × V)}
end

section
variable {X : Cx} {pins : List (Addr × Obj)} {σ : St} {H : Hp} {s : Shared} {a C dx : Addr} {fs : List (Str × V)} {f : Str} {v : V} {A : Around} {E : Value → Shared → Prop}

end

section
variable {X : Cx} {o e value : Expr} {f : Str} {pos pos' tpos : Pos} {ta tv : TE}
end

section
variable {X : Cx} {pins : List (Addr × Obj)} {σ : St} {H : Hp} {s : Shared} {A : Around} {E : Value → Shared → Prop} {Q : Value → Shared → Prop} {c : Value} {b : Bool}
end
end L2

namespace L2
open PySem PySem.Spec PyProof.Rows

section
variable {X : Cx} {e : Expr} {es : List Expr} {te : TE} {t : TA} {pos : Pos}
end

section
variable {X : Cx} {pins : List (Addr × Obj)} {σ : St} {H : Hp} {s s' : Shared}
end

section
variable {X : Cx} {CX : CXT} {k : Nat} {f C : Addr} {fd : FuncData} {ps : List Str} {sp : Sp} {dvs : List V} {ds : List Value} {E : XK} {x m : Str} {p pos apos : Pos} {e o : Expr} {es : List Expr} {ta : TE} {t : TA}

end

section
variable {X : Cx} {CX : CXT} {k : Nat} {f C : Addr} {fd : FuncData} {ps ks : List Str} {sp : Sp} {E : XK} {x m : Str} {p pos apos kpos : Pos} {e o : Expr} {es : List Expr} {kws : List Keyword} {te ta : TE} {t tk : TA} {nm : Option Str}
variable {g : List Value → List Value → List Value} {gV : List V → List V → List V}
end

end L2

namespace L2
open PySem PySem.Spec PyProof.Rows
section
variable {X : Cx} {x : Str} {p pos : Pos} {e : Expr} {es : List Expr} {t : TA} {id T : String} {r : List V → Hp → VK → Prop}

end
end L2

namespace L2
open PySem PySem.Spec PyProof.Rows

section
variable {κ : Type} [DecidableEq κ]
def valV (kvs : List (κ × V)) (k : κ) : Option V := (kvs.find? fun kv => decide (kv.1 = k)).map (·.2)
def putK (kvs : List (κ × V)) (k : κ) (v : V) : List (κ × V) :=
  if (kvs.any fun kv => decide (kv.1 = k)) = true then kvs.map (fun kv => if kv.1 = k then (kv.1, v) else kv) else kvs ++ [(k, v)]
theorem zdE {p : κ × V} {r : List (κ × V)} {k : κ} (e : p.1 = k) : valV (p :: r) k = some p.2 := by simp [valV, List.find?_cons, e]
theorem zdD {p : κ × V} {r : List (κ × V)} {k : κ} (e : ¬ p.1 = k) : valV (p :: r) k = valV r k := by simp [valV, List.find?_cons, e]
theorem zih (k : κ) : ∀ kvs : List (κ × V), (kvs.any fun kv => decide (kv.1 = k)) = (valV kvs k).isSome
  | [] => rfl
  | p :: r => by
    rw [List.any_cons]
    by_cases e : p.1 = k
    · simp only [zdE e, decide_eq_true e, Bool.true_or, Option.isSome_some]
    · rw [zdD e, decide_eq_false e, Bool.false_or]; exact zih k r
theorem zhh (kvs : List (κ × V)) (k : κ) (v : V) : (putK kvs k v).length ≤ kvs.length + 1 := by
  unfold putK
  split
  · rw [List.length_map]; omega
  · rw [List.length_append, List.length_cons, List.length_nil]; omega
theorem RelO.isSome_eq {o : Option V} {u : Option Value} (r : RelO o u) : o.isSome = u.isSome := by
  cases o with
  | none => cases u with
    | none => rfl
    | some _ => exact (show False from r).elim
  | some _ => cases u with
    | none => exact (show False from r).elim
    | some _ => rfl
theorem RelO.getD {o : Option V} {u : Option Value} {d : V} {d' : Value} (r : RelO o u) (rd : RelV d d') : RelV (o.getD d) (u.getD d') := by
  cases o with
  | none => cases u with
    | none => exact rd
    | some _ => exact (show False from r).elim
  | some _ => cases u with
    | none => exact (show False from r).elim
    | some _ => exact r

theorem KV.val {kvs : List (κ × V)} {vs : List (κ × Value)} (r : KV kvs vs) (k : κ) : RelO (valV kvs k) (valueAt vs k) := by
  unfold KV at r
  induction r with
  | nil => exact True.intro
  | @cons p q ps qs h t ih =>
    obtain ⟨h1, h2⟩ := h
    by_cases e : p.1 = k
    · have e' : q.1 = k := h1.symm.trans e
      have b : valueAt (q :: qs) k = some q.2 := by simp [valueAt, List.find?_cons, e']
      rw [zdE e, b]; exact h2
    · have e' : ¬ q.1 = k := fun z => e (h1.trans z)
      have b : valueAt (q :: qs) k = valueAt qs k := by simp [valueAt, List.find?_cons, e']
      rw [zdD e, b]; exact ih
theorem KV.length {kvs : List (κ × V)} {vs : List (κ × Value)} (r : KV kvs vs) : kvs.length = vs.length := Paired.length r
end


theorem zpS {P : Program} {w : World} {k : Key} {u : Value} (r : RelV (kV k) u) : (mixKind P w).is k u = true := by
  cases k with
  | inl i => obtain ⟨t, e⟩ := (show ∃ t, u = Value.int i t from r); subst e; exact zgX P w i t
  | inr x => obtain ⟨t, e⟩ := (show ∃ t, u = Value.str x t from r); subst e; exact zhr P w x t
theorem zgJ {P : Program} {w : World} : ∀ {ks : List Key} {us : List Value}, Vals (ks.map kV) us → ItemsAre (mixKind P w) ks us
  | [], _, r => by rw [List.map_nil] at r; cases r; exact .nil
  | k :: ks, _, r => by
    rw [List.map_cons] at r
    cases r with
    | cons h t => exact .cons (zpS h) (zgJ t)

abbrev KT (H : Hp) : List (List Key × V) → List (List Key × Addr × Value) → Prop := Paired fun p q => p.1 = q.1 ∧ H q.2.1 = some (.tup (p.1.map kV)) ∧ RelV p.2 q.2.2
theorem KT.val {H : Hp} {kvs : List (List Key × V)} {xs : List (List Key × Addr × Value)} (r : KT H kvs xs) (k : List Key) : RelO (valV kvs k) ((atKey xs k).map (·.2)) := by
  induction r with
  | nil => exact True.intro
  | @cons p q ps qs h t ih =>
    obtain ⟨h1, _, h2⟩ := h
    by_cases e : p.1 = k
    · have e' : q.1 = k := h1.symm.trans e
      have b : atKey (q :: qs) k = some q.2 := by simp [atKey, List.find?_cons, e']
      rw [zdE e, b]; exact h2
    · have e' : ¬ q.1 = k := fun z => e (h1.trans z)
      have b : atKey (q :: qs) k = atKey qs k := by simp [atKey, List.find?_cons, e']
      rw [zdD e, b]; exact ih
theorem KT.repl {H : Hp} {kvs : List (List Key × V)} {xs : List (List Key × Addr × Value)} (r : KT H kvs xs) (k : List Key) {y : V} {u : Value} (ry : RelV y u) :
    KT H (kvs.map fun kv => if kv.1 = k then (kv.1, y) else kv) (xs.map (putAt k u)) := by
  induction r with
  | nil => exact .nil
  | @cons p q ps qs h t ih =>
    rw [List.map_cons, List.map_cons]
    refine .cons ?_ ih
    obtain ⟨h1, h2, h3⟩ := h
    unfold putAt
    by_cases e : p.1 = k
    · rw [if_pos e, if_pos (h1.symm.trans e)]; exact ⟨h1, h2, ry⟩
    · rw [if_neg e, if_neg (fun z => e (h1.trans z))]; exact ⟨h1, h2, h3⟩
theorem KT.put {H : Hp} {kvs : List (List Key × V)} {xs : List (List Key × Addr × Value)} (r : KT H kvs xs) (k : List Key) {b : Addr} {y : V} {u : Value} (hb : H b = some (.tup (k.map kV))) (ry : RelV y u) :
    KT H (putK kvs k y) (storedH xs k b u) := by
  have e : (kvs.any fun kv => decide (kv.1 = k)) = (atKey xs k).isSome := by
    rw [zih, (r.val k).isSome_eq, Option.isSome_map]
  unfold putK storedH
  rw [e]
  by_cases q : (atKey xs k).isSome = true
  · rw [if_pos q, if_pos q]; exact r.repl k ry
  · rw [if_neg q, if_neg q]; exact Paired.snoc r ⟨rfl, hb, ry⟩
theorem KT.keeps {H H' : Hp} {kvs : List (List Key × V)} {xs : List (List Key × Addr × Value)} (r : KT H kvs xs) (ht : ∀ b ys, H b = some (.tup ys) → H' b = some (.tup ys)) : KT H' kvs xs :=
  Paired.mapP r fun _ _ z => ⟨z.1, ht _ _ z.2.1, z.2.2⟩

section
variable {P : Program} {w : World} {H : Hp} {h : Heap} {a : Addr}
theorem zqD {u : HO} (ok : HOk P w H h) (e : Rd H a u) : ObjOk P w H h a u := e.ok ok
theorem zsl {kvs : List (Key × V)} (ok : HOk P w H h) (e : Rd H a (.dK kvs)) : kvs.length ≤ sizeLine ∧ (a == sysModules) = false ∧ ∃ vs, KV kvs vs ∧ h.DictOf (mixKind P w) a vs :=
  show ObjOk P w H h a (.dK kvs) from zqD ok e
theorem zjl {ks : List Key} (ok : HOk P w H h) (e : H a = some (.tup (ks.map kV))) : (tupleKind (mixKind P w)).is h ks a := by
  obtain ⟨_, its, r, o, h1, h2, n, h3⟩ := (show ObjOk P w H h a (.tup (ks.map kV)) from ok a _ e)
  exact ⟨o, its.toArray, n, h1, h2, h3, by simpa using zgJ r⟩
theorem zsm {kvs : List (List Key × V)} (ok : HOk P w H h) (e : Rd H a (.dT kvs)) : kvs.length ≤ sizeLine ∧ (a == sysModules) = false ∧
    ∃ xs, KT H kvs xs ∧ h.DictOfH (tupleKind (mixKind P w)) a xs := by
  obtain ⟨z, y, xs, r, o, es, ep, h1, h2, h3, h4, h5⟩ := (show ObjOk P w H h a (.dT kvs) from zqD ok e)
  refine ⟨z, y, xs, r, o, es, ep, h1, h2, h3, h4, fun x hx => ?_, h5⟩
  have all : ∀ {l : List (List Key × V)} {m : List (List Key × Addr × Value)}, KT H l m → ∀ x ∈ m, (tupleKind (mixKind P w)).is h x.1 x.2.1 := by
    intro l m q
    induction q with
    | nil => intro x hx; exact nomatch hx
    | @cons p q ps qs hq t ih =>
      intro x hx
      rcases List.mem_cons.mp hx with e | hx
      · subst e
        exact zjl ok (by rw [← hq.1]; exact hq.2.1)
      · exact ih x hx
  exact all r x hx
end

def DGet (H : Hp) (a : Addr) (y : V) (r : Option V) : Prop :=
  (∃ kvs k, Rd H a (.dK kvs) ∧ y = kV k ∧ r = valV kvs k) ∨ ∃ kvs k b, Rd H a (.dT kvs) ∧ y = .ref b ∧ H b = some (.tup (k.map kV)) ∧ r = valV kvs k
theorem DGet.t {H : Hp} {a b : Addr} {kvs : List (List Key × V)} {k : List Key} (e : H a = some (.dT kvs)) (eb : H b = some (.tup (k.map kV))) : DGet H a (.ref b) (valV kvs k) := .inr ⟨kvs, k, b, .inl e, rfl, eb, rfl⟩
section
variable {X : Cx} {pins : List (Addr × Obj)} {σ : St} {H : Hp} {s : Shared} {a : Addr} {y v : V} {u r : Value} {o : Option V} {A : Around} {E : Value → Shared → Prop}

theorem Inv.big (I : Inv X pins σ H s) : sysModules < s.heap.objs.size := by
  have h : mainGlobals < s.heap.objs.size := (I.mod.glob.keeps I.bk).lt
  exact Nat.lt_trans (by decide) h

theorem d_in {Q : Value → Shared → Prop} (hu : A.units + 1 < cLine) (I : Inv X pins σ H s) (g : DGet H a y o) (ry : RelV y u) (h : ∀ s', Inv X pins σ H s' → Q (.bool o.isSome) s') :
    wpAny (model X.prog X.w) A (compareOp .In u (.ref a)) Q E s := by
  rcases g with ⟨kvs, k, e, ey, l⟩ | ⟨kvs, k, b, e, ey, eb, l⟩
  · subst ey
    obtain ⟨z, hd, vs, rel, dd⟩ := zsl I.hok e
    refine wpAny_in_of (zpS ry) hd dd.mapOf ?_
    rw [← (rel.val k).isSome_eq, ← l]
    exact h _ (I.tok _)
  · subst ey
    cases (show u = Value.ref b from ry)
    obtain ⟨z, hd, xs, rel, dd⟩ := zsm I.hok e
    refine wpAny_in_heap (tupleKind_room_in1 hu) (zjl I.hok eb) hd dd ?_
    have q := (rel.val k).isSome_eq
    rw [Option.isSome_map] at q
    rw [← q, ← l]
    exact h _ (I.tok _)
end

section
variable {X : Cx} {pins : List (Addr × Obj)} {σ : St} {H : Hp} {s : Shared} {a : Addr} {kvs : List (Key × V)} {k : Key} {u : Value} {A : Around} {E : Value → Shared → Prop}
end


section
variable {X : Cx} {o i e value : Expr} {pos pos' tpos : Pos} {td ty tv : TE}
end


section
variable {X : Cx} {pos : Pos}
end

section
variable {X : Cx} {pins : List (Addr × Obj)} {σ : St} {H : Hp} {s : Shared} {a : Addr} {y d : V} {u r : Value} {o : Option V} {A : Around} {E : Value → Shared → Prop}
end

section
variable {X : Cx} {o e f : Expr} {apos cpos : Pos} {td ty tx : TE}
end

section
variable {X : Cx} {pins : List (Addr × Obj)} {σ : St} {H : Hp} {s : Shared} {a : Addr} {kvs : List (Key × V)} {A : Around} {E : Value → Shared → Prop}
end


section
variable {X : Cx} {pins : List (Addr × Obj)} {σ : St} {H : Hp} {s : Shared} {a : Addr} {y : V} {u : Value} {A : Around} {E : Value → Shared → Prop}
end
end L2

namespace Att
open PySem PySem.W PySem.Calls PyProof.Rows

section
variable {prog : Program} {w : World} {A : Around} {E : Value → Shared → Prop} {s : Shared} {K : Frag}

end
end Att

namespace L2
open PySem PySem.Spec PyProof.Rows

end L2

namespace L2
open PySem PySem.Spec PyProof.Rows

end L2

namespace L2
open PySem PySem.Spec PyProof.Rows

section
variable {P : Program} {w : World} {K : PySem.W.Frag} {mg : Str → Option Value} {base : Heap}
end
section
variable {X : Cx}
end

section
variable {κ : Type} [DecidableEq κ]
end
end L2
end

section
set_option Elab.async false
set_option linter.all false
set_option maxRecDepth 100000
set_option maxHeartbeats 4000000
namespace L2
open PySem PySem.Spec PyProof.Rows

section
variable {prog : Program} {w : World} {A : Around} {R : Result → Shared → Prop} {s : Shared}
theorem zgR {elt target iter : Expr} {ifs : List Expr} {scope : Scope} {pos : Pos} {it acc : Value} {env : Env} (I : Nat → Shared → Prop)
    (turn : ∀ n s, I n s → wpAny (model prog w) A (pyNext it) (fun r s₁ => match r with
      | none => R (.ok .next) s₁
      | some v => wpAny (model prog w) A (letOwnedTupleGo target it v) (fun _ s₀ => wpAny (model prog w) A (assign target env v) (fun _ s₂ =>
          wpAny (model prog w) A (forIn ifs true fun c r => if r = true then do let ok ← isTrue c env (eval c env); pure (ForInStep.yield ok) else pure (ForInStep.yield r)) (fun ok s₃ =>
            if ok = true then wpAny (model prog w) A (eval elt env) (fun x s₄ =>
              wpAny (model prog w) A (call (.builtin "list.append") [acc, x]) (fun _ s₅ => ∃ m, m < n ∧ I m s₅) (fun _ _ => False) s₄) (fun _ _ => False) s₃
            else ∃ m, m < n ∧ I m s₃) (fun _ _ => False) s₂) (fun _ _ => False) s₀) (fun _ _ => False) s₁) (fun _ _ => False) s)
    (n : Nat) (h : I n s) :
    codeAny (model prog w) A (.compLoop (.ListComp elt [⟨target, iter, ifs, 0⟩] scope pos) 0 it acc env) R s := by
  refine codeAny_loop rfl I (fun n s hI => ?_) n h
  show wpAny _ A ((compTurn (.ListComp elt [⟨target, iter, ifs, 0⟩] scope pos) 0 it acc env).onRaise (fun x => do noteFrame x env; theTreesLotGoes x)) _ _ s
  refine wpAny_noted ?_
  rw [compTurn_list]
  refine wpAny_bind (wpAny_standAt (wpAny_bind (wpAny_mono (turn n s hI) (fun r s₁ h₁ => ?_) fun _ _ h' => h'.elim)))
  cases r with
  | none => exact wpAny_pure h₁
  | some v =>
    refine wpAny_bind (wpAny_mono h₁ (fun _ s₀ h₀ => ?_) fun _ _ h' => h'.elim)
    refine wpAny_bind (wpAny_mono h₀ (fun _ s₂ h₂ => wpAny_bind (wpAny_mono h₂ (fun ok s₃ h₃ => ?_) fun _ _ h' => h'.elim)) fun _ _ h' => h'.elim)
    cases ok with
    | false => exact wpAny_pure ⟨rfl, h₃⟩
    | true =>
      exact wpAny_bind (wpAny_bind (wpAny_mono h₃ (fun x s₄ h₄ => wpAny_bind (wpAny_mono h₄ (fun _ s₅ h₅ => wpAny_pure (wpAny_pure ⟨rfl, h₅⟩)) fun _ _ h' => h'.elim)) fun _ _ h' => h'.elim))
end

def clOf (cells : List (Str × Addr)) : List (Str × NameKind) → List (Str × Addr) → List (Str × Addr)
  | [], acc => acc
  | (n, k) :: r, acc => if (k == NameKind.free) = true then clOf cells r ((n, (cells.lookup n).getD 0) :: acc) else clOf cells r acc
theorem ziK {scope : Scope} {env : Env} (h : ∀ y ∈ scope.names, y.2 = .free → ∃ c, env.cells.lookup y.1 = some c) :
    closureFor scope env = pure (clOf env.cells scope.names []) := by
  have go : ∀ (l : List (Str × NameKind)) (acc : List (Str × Addr)), (∀ y ∈ l, y.2 = .free → ∃ c, env.cells.lookup y.1 = some c) →
      (forIn l acc fun (x : Str × NameKind) (cs : List (Str × Addr)) => (if (x.2 == NameKind.free) = true then (do let a ← cellOf env x.1; pure (ForInStep.yield ((x.1, a) :: cs))) else pure (ForInStep.yield cs) : Sem (ForInStep (List (Str × Addr))))) = (pure (clOf env.cells l acc) : Sem (List (Str × Addr))) := by
    intro l
    induction l with
    | nil => intro acc _; rfl
    | cons x l ih =>
      intro acc hl
      obtain ⟨n, k⟩ := x
      have hr := fun y hy => hl y (List.mem_cons_of_mem _ hy)
      rw [List.forIn_cons]
      by_cases hk : k = .free
      · subst hk
        obtain ⟨c, hc⟩ := hl (n, .free) List.mem_cons_self rfl
        have hc' : env.cells.lookup n = some c := hc
        have e : cellOf env n = pure c := by unfold cellOf; rw [hc']
        have e2 : clOf env.cells ((n, NameKind.free) :: l) acc = clOf env.cells l ((n, c) :: acc) := by
          show (if (NameKind.free == NameKind.free) = true then clOf env.cells l ((n, (env.cells.lookup n).getD 0) :: acc) else clOf env.cells l acc) = _
          rw [if_pos (by rfl), hc']
          rfl
        dsimp only
        rw [if_pos (by rfl), e, pure_bind, pure_bind, e2]
        exact ih _ hr
      · have hb : ¬ (k == NameKind.free) = true := by simpa using hk
        have e2 : clOf env.cells ((n, k) :: l) acc = clOf env.cells l acc := by
          show (if (k == NameKind.free) = true then clOf env.cells l ((n, (env.cells.lookup n).getD 0) :: acc) else clOf env.cells l acc) = _
          rw [if_neg hb]
        dsimp only
        rw [if_neg hb, pure_bind, e2]
        exact ih _ hr
  have q := go scope.names [] h
  unfold closureFor
  first
    | exact (bind_pure _).trans q
    | (simp only [bind_pure]; exact q)
    | (simp only [pure_bind, bind_assoc, bind_pure]; exact q)
theorem zeU {cells : List (Str × Addr)} {x : Str} {c : Addr} : ∀ (l : List (Str × NameKind)) (acc : List (Str × Addr)), (∀ y ∈ l, y.2 = .free → ∃ c, cells.lookup y.1 = some c) →
    (clOf cells l acc).lookup x = some c → acc.lookup x = some c ∨ cells.lookup x = some c
  | [], acc, _, h => .inl h
  | (n, k) :: r, acc, hl, h => by
    have hr := fun y hy => hl y (List.mem_cons_of_mem (n, k) hy)
    by_cases hk : k = .free
    · subst hk
      have h' : (clOf cells r ((n, (cells.lookup n).getD 0) :: acc)).lookup x = some c := h
      rcases zeU r _ hr h' with q | q
      · rw [List.lookup_cons] at q
        cases e : x == n with
        | true =>
          rw [e] at q
          obtain ⟨d, hd⟩ := hl (n, .free) List.mem_cons_self rfl
          have hd' : cells.lookup n = some d := hd
          have e1 : x = n := eq_of_beq e
          rw [hd'] at q
          have q' : d = c := Option.some.inj q
          exact .inr (by rw [e1, hd', q'])
        | false =>
          rw [e] at q
          exact .inl q
      · exact .inr q
    · have hb : ¬ (k == NameKind.free) = true := by simpa using hk
      have h' : (if (k == NameKind.free) = true then clOf cells r ((n, (cells.lookup n).getD 0) :: acc) else clOf cells r acc).lookup x = some c := h
      rw [if_neg hb] at h'
      exact zeU r acc hr h'
theorem zdB {cells : List (Str × Addr)} {x : Str} : ∀ (l : List (Str × NameKind)) (acc : List (Str × Addr)), ((x, NameKind.free) ∈ l ∨ ∃ c, acc.lookup x = some c) → ∃ c, (clOf cells l acc).lookup x = some c
  | [], acc, h => by
    rcases h with h | h
    · cases h
    · exact h
  | (n, k) :: r, acc, h => by
    by_cases hk : k = .free
    · subst hk
      refine zdB r ((n, (cells.lookup n).getD 0) :: acc) ?_
      cases e : x == n with
      | true => exact .inr ⟨_, by rw [List.lookup_cons, e]⟩
      | false =>
        rcases h with h | ⟨c, h⟩
        · rcases List.mem_cons.mp h with q | q
          · have : x = n := congrArg Prod.fst q
            rw [this] at e
            simp at e
          · exact .inl q
        · exact .inr ⟨c, by rw [List.lookup_cons, e]; exact h⟩
    · have hb : ¬ (k == NameKind.free) = true := by simpa using hk
      show ∃ c, (if (k == NameKind.free) = true then clOf cells r ((n, (cells.lookup n).getD 0) :: acc) else clOf cells r acc).lookup x = some c
      rw [if_neg hb]
      refine zdB r acc ?_
      rcases h with h | h
      · rcases List.mem_cons.mp h with q | q
        · exact absurd (congrArg Prod.snd q).symm hk
        · exact .inl q
      · exact .inr h
theorem zbU {env : Env} {x : Str} {k : NameKind} : ∀ {names : List (Str × NameKind)}, (∀ y ∈ names, y.2 ≠ .cell) →
    (names.map fun (n, k) => if (k == NameKind.free && env.scope.kind == .function && env.kindOf n == some .cell) then (n, NameKind.cell) else (n, k)).lookup x = some k → (k = .cell ∨ k = .free) → (x, NameKind.free) ∈ names
  | [], _, h, _ => by simp at h
  | (n, j) :: r, hc, h, hk => by
    have h' : List.lookup x ((if (j == NameKind.free && env.scope.kind == .function && env.kindOf n == some .cell) = true then (n, NameKind.cell) else (n, j)) ::
      (r.map fun (n, k) => if (k == NameKind.free && env.scope.kind == .function && env.kindOf n == some .cell) then (n, NameKind.cell) else (n, k))) = some k := h
    have hr := fun y hy => hc y (List.mem_cons_of_mem (n, j) hy)
    have hj : j ≠ .cell := hc (n, j) List.mem_cons_self
    cases e : x == n with
    | true =>
      have e1 : x = n := eq_of_beq e
      subst e1
      by_cases c : (j == NameKind.free && env.scope.kind == .function && env.kindOf x == some .cell) = true
      · have c1 : (j == NameKind.free) = true := by
          cases q : (j == NameKind.free) with
          | true => rfl
          | false => rw [q] at c; simp at c
        have c2 : j = .free := by simpa using c1
        rw [c2]
        exact List.mem_cons_self
      · rw [if_neg c] at h'
        simp only [List.lookup_cons, beq_self_eq_true] at h'
        have h2 : j = k := Option.some.inj h'
        rcases hk with z | z
        · exact absurd (h2.trans z) hj
        · rw [h2, z]
          exact List.mem_cons_self
    | false =>
      by_cases c : (j == NameKind.free && env.scope.kind == .function && env.kindOf n == some .cell) = true
      · rw [if_pos c] at h'
        simp only [List.lookup_cons, e] at h'
        exact List.mem_cons_of_mem _ (zbU hr h' hk)
      · rw [if_neg c] at h'
        simp only [List.lookup_cons, e] at h'
        exact List.mem_cons_of_mem _ (zbU hr h' hk)
theorem zcx {env : Env} {x : Str} : ∀ {names : List (Str × NameKind)}, names.lookup x = some .free →
    (names.map fun (n, k) => if (k == NameKind.free && env.scope.kind == .function && env.kindOf n == some .cell) then (n, NameKind.cell) else (n, k)).lookup x = some .cell ∨
    (names.map fun (n, k) => if (k == NameKind.free && env.scope.kind == .function && env.kindOf n == some .cell) then (n, NameKind.cell) else (n, k)).lookup x = some .free
  | [], h => by simp at h
  | (n, j) :: r, h => by
    show List.lookup x ((if (j == NameKind.free && env.scope.kind == .function && env.kindOf n == some .cell) = true then (n, NameKind.cell) else (n, j)) ::
      (r.map fun (n, k) => if (k == NameKind.free && env.scope.kind == .function && env.kindOf n == some .cell) then (n, NameKind.cell) else (n, k))) = _ ∨
      List.lookup x ((if (j == NameKind.free && env.scope.kind == .function && env.kindOf n == some .cell) = true then (n, NameKind.cell) else (n, j)) ::
      (r.map fun (n, k) => if (k == NameKind.free && env.scope.kind == .function && env.kindOf n == some .cell) then (n, NameKind.cell) else (n, k))) = _
    cases e : x == n with
    | true =>
      simp only [List.lookup_cons, e] at h
      have h2 : j = .free := Option.some.inj h
      subst h2
      by_cases c : (NameKind.free == NameKind.free && env.scope.kind == .function && env.kindOf n == some .cell) = true
      · rw [if_pos c]
        simp only [List.lookup_cons, e]
        exact .inl trivial
      · rw [if_neg c]
        simp only [List.lookup_cons, e]
        exact .inr trivial
    | false =>
      simp only [List.lookup_cons, e] at h
      by_cases c : (j == NameKind.free && env.scope.kind == .function && env.kindOf n == some .cell) = true
      · rw [if_pos c]
        simp only [List.lookup_cons, e]
        exact zcx h
      · rw [if_neg c]
        simp only [List.lookup_cons, e]
        exact zcx h

def cxComp (X : Cx) (scope : Scope) (N : List Str) (s : Shared) (H : Hp) (fp : List Addr) (pins : List (Addr × Obj)) : Cx :=
  { X with N := N, s₀ := s, H₀ := H, env := compEnvC scope (clOf X.env.cells scope.names []) s.heap.objs.size X.env, outer := X.stack, stack := X.stack, ex := fp, fn := fun _ => false, pn := X.pn ++ pins, xe := fun _ _ => False }
structure CompSc (X : Cx) (scope : Scope) (N : List Str) (k : Nat) (fr : List Nat) : Prop where
  kind : scope.kind = .function
  nd : N.Nodup
  len : N.length = k + fr.length
  cell : (scope.names.all fun y => y.2 != NameKind.cell) = true
  loc : (scope.names.all fun y => y.2 != NameKind.local || scope.names.lookup y.1 == some NameKind.local) = true
  free : (scope.names.all fun y => y.2 != NameKind.free || X.env.kindOf y.1 == some NameKind.cell || X.env.kindOf y.1 == some NameKind.free) = true
  frs : ((N.drop k).all fun x => scope.names.lookup x == some NameKind.free) = true
  pl : N.drop k = fr.map fun j => X.N.getD j Str.empty
  plen : (fr.all fun j => decide (j < X.N.length)) = true
def frVals (σ : St) (fr : List Nat) : St := fr.map fun j => (σ[j]?).join
def startC (σ : St) (k : Nat) (fr : List Nat) : St := List.replicate k none ++ frVals σ fr

section
variable {X : Cx} {scope : Scope} {N : List Str} {k : Nat} {fr : List Nat}
theorem CompSc.cell' (S : CompSc X scope N k fr) : ∀ y ∈ scope.names, y.2 ≠ .cell := fun y hy => by
  have q := List.all_eq_true.mp S.cell y hy
  simpa using q
theorem CompSc.loc' (S : CompSc X scope N k fr) : ∀ y ∈ scope.names, y.2 = .local → scope.names.lookup y.1 = some .local := fun y hy e => by
  have q := List.all_eq_true.mp S.loc y hy
  rw [e] at q
  simpa using q
theorem CompSc.kinds (S : CompSc X scope N k fr) : ∀ y ∈ scope.names, y.2 = .free → X.env.kindOf y.1 = some .cell ∨ X.env.kindOf y.1 = some .free := fun y hy e => by
  have q := List.all_eq_true.mp S.free y hy
  rw [e] at q
  simpa using q
theorem CompSc.hasCell (S : CompSc X scope N k fr) (ok : X.Ok) : ∀ y ∈ scope.names, y.2 = .free → ∃ c, X.env.cells.lookup y.1 = some c := fun y hy e => ok.has y.1 (S.kinds y hy e)
theorem CompSc.sub (S : CompSc X scope N k fr) (ok : X.Ok) {x : Str} {c : Addr} (h : (clOf X.env.cells scope.names []).lookup x = some c) : X.env.cells.lookup x = some c := by
  rcases zeU scope.names [] (S.hasCell ok) h with q | q
  · simp at q
  · exact q
end

section
variable {X : Cx} {pins : List (Addr × Obj)} {σ : St} {H : Hp} {s : Shared} {scope : Scope} {N : List Str} {k : Nat} {fr : List Nat} {fp : List Addr}
theorem znZ (I : Inv X pins σ H s) (S : CompSc X scope N k fr) (hfp : ∀ b ∈ fp, FpOk X pins H b) (hob : ∀ b ∈ fp, ∃ o, s.heap.get? b = some o) : (cxComp X scope N s H fp pins).Ok where
  mod := I.ok.mod
  kind := S.kind
  glob := I.ok.glob
  blt := I.ok.blt
  above := Nat.le_refl _
  inj := fun x y c h1 h2 => I.ok.inj x y c (S.sub I.ok h1) (S.sub I.ok h2)
  has := fun x hx => zdB scope.names [] (.inl (by
    rcases hx with hx | hx
    · exact zbU S.cell' hx (.inl rfl)
    · exact zbU S.cell' hx (.inr rfl)))
  cab := fun x c h _ => absurd h (by show ¬ (false = true); decide)
  hd := I.ok.hd
  frames := I.ok.frames
  stk := .inl rfl
  exf := fun b hb => ⟨by
    obtain ⟨o, e⟩ := hob b hb
    exact Nat.ne_of_lt (Heap.lt_size e), fun x c h => (hfp b hb).2.2.2.2.1 x c (S.sub I.ok h)⟩
  bs := I.bs
  bsz := Nat.le_trans I.ok.bsz I.sz
  noex := fun b o e hb => by
    rcases (hfp b hb).2.2.2.1 with z | z
    · exact I.ok.noex b o e z
    · exact absurd (Nat.lt_of_lt_of_le (Heap.lt_size (I.ok.bs b o e).1) z) (Nat.lt_irrefl _)
  exfs := fun b hb z => by
    rcases List.mem_cons.mp (I.stkSub b z) with q | q
    · exact (hfp b hb).2.1 q
    · exact (hfp b hb).2.2.1 q
  funs := I.stack
  frf := I.stkFree
theorem zoL (I : Inv X pins σ H s) (S : CompSc X scope N k fr) {H' : Hp} {b : Addr} (hb : b ∈ fp) (hf : FpOk X pins H b) (hob : ∃ o, s.heap.get? b = some o) (hn : H' b = none) : FpOk (cxComp X scope N s H fp pins) [] H' b := by
  refine ⟨hn, ?_, fun z => ?_, .inl hb, fun x c h => hf.2.2.2.2.1 x c (S.sub I.ok h), fun p hp => ?_⟩
  · obtain ⟨o, e⟩ := hob
    exact Nat.ne_of_lt (Heap.lt_size e)
  · rcases List.mem_cons.mp (I.stkSub b z) with q | q
    · exact hf.2.1 q
    · exact hf.2.2.1 q
  · rcases List.mem_append.mp hp with z | z
    · exact hf.2.2.2.2.2 p z
    · cases z
theorem ziS {j : Nat} {v : V} (h : (frVals σ fr)[j]? = some (some v)) : ∃ i, fr[j]? = some i ∧ σ[i]? = some (some v) := by
  unfold frVals at h
  rw [List.getElem?_map] at h
  cases e : fr[j]? with
  | none => rw [e] at h; cases h
  | some i =>
    rw [e] at h
    have h' : (σ[i]?).join = some v := Option.some.inj h
    refine ⟨i, rfl, ?_⟩
    cases q : σ[i]? with
    | none => rw [q] at h'; cases h'
    | some o =>
      rw [q] at h'
      have h2 : o = some v := h'
      rw [h2]
theorem zlz (I : Inv X pins σ H s) (S : CompSc X scope N k fr) (hfp : ∀ b ∈ fp, FpOk X pins H b) (hob : ∀ b ∈ fp, ∃ o, s.heap.get? b = some o) {h1 : Heap} {tk : Nat} {m : Str → Option Value}
    (hns : h1.Ns s.heap.objs.size m) (hk : ∀ b o, s.heap.get? b = some o → h1.get? b = some o) : Inv (cxComp X scope N s H fp pins) [] (startC σ k fr) H { s with heap := h1, toks := tk } where
  ok := znZ I S hfp hob
  os := rfl
  bare := I.bare
  base := Un.kept hk
  loc := ⟨m, hns, fun i x v e1 e2 e3 => by
    have e2' : (List.replicate k (none : Option V) ++ frVals σ fr)[i]? = some (some v) := e2
    have hi : k ≤ i := by
      refine Nat.le_of_not_lt fun z => ?_
      rw [List.getElem?_append_left (by simpa using z), List.getElem?_replicate] at e2'
      split at e2' <;> cases e2'
    rw [List.getElem?_append_right (by simpa using hi), List.length_replicate] at e2'
    obtain ⟨j, f1, f2⟩ := ziS e2'
    have e1' : N[i]? = some x := e1
    have d1 : (N.drop k)[i - k]? = some x := by
      rw [List.getElem?_drop]
      have : k + (i - k) = i := by omega
      rw [this]; exact e1'
    have d2 := d1
    rw [S.pl, List.getElem?_map, f1] at d2
    have d3 : X.N.getD j Str.empty = x := Option.some.inj d2
    have jl : j < X.N.length := of_decide_eq_true (List.all_eq_true.mp S.plen j (List.mem_of_getElem? f1))
    have d4 : X.N[j]? = some x := by
      rw [List.getD_eq_getElem?_getD, List.getElem?_eq_getElem jl] at d3
      rw [List.getElem?_eq_getElem jl]
      exact congrArg some d3
    have fk : scope.names.lookup x = some .free := by
      have q := List.all_eq_true.mp S.frs x (List.mem_of_getElem? d1)
      simpa using q
    have hmem : (x, NameKind.free) ∈ scope.names := PySem.mem_of_lookup fk
    have kd := S.kinds _ hmem rfl
    have vis : Vis X.env.scope x := by
      rcases kd with z | z
      · exact .inr (.inl z)
      · exact .inr (.inr z)
    obtain ⟨m0, _, hl⟩ := I.loc
    obtain ⟨u, ru, lk⟩ := hl j x v d4 f2 vis
    refine ⟨u, ru, .inr ⟨zcx fk, ?_⟩⟩
    have kd' : X.env.kindOf x = some .cell ∨ X.env.kindOf x = some .free := kd
    rcases lk with ⟨z, _⟩ | ⟨_, c, hc, hcell⟩
    · rcases kd' with q | q <;> (rw [z] at q; cases q)
    · obtain ⟨c', hc'⟩ := zdB (cells := X.env.cells) scope.names [] (.inl hmem)
      have e := S.sub I.ok hc'
      rw [hc] at e
      cases e
      exact ⟨c, hc', hcell.keeps hk⟩⟩
  cell := fun x c h => by
    obtain ⟨v, z⟩ := I.cell x c (S.sub I.ok h)
    exact ⟨v, z.keeps hk⟩
  free := I.hok.fresh (Nat.le_refl _)
  freeC := fun x c h => I.freeC x c (S.sub I.ok h)
  pin := fun p hp => by
    have hp' : p ∈ X.pn ++ pins := by
      rcases List.mem_append.mp hp with z | z
      · exact z
      · cases z
    obtain ⟨e, n, ne, nf, d⟩ := I.pin p hp'
    refine ⟨hk _ _ e, n, Nat.ne_of_lt (Heap.lt_size e), fun z => ?_, d⟩
    rcases List.mem_cons.mp (I.stkSub p.1 z) with q | q
    · exact ne q
    · exact nf q
  hok := I.hok.kept hk
  len := by
    show (List.replicate k (none : Option V) ++ frVals σ fr).length = N.length
    rw [List.length_append, List.length_replicate, S.len]
    unfold frVals
    rw [List.length_map]
theorem zgb {σ' : St} {H' : Hp} {s' : Shared} {h' : Heap} (I : Inv X pins σ H s) (hfp : ∀ b ∈ fp, FpOk X pins H b) (J : Inv (cxComp X scope N s H fp pins) [] σ' H' s') (sb : Heap.SameBut s.heap.objs.size s'.heap h') : Inv X pins σ H' { s' with heap := h' } := by
  have neC : ∀ b o, s.heap.get? b = some o → b ≠ s.heap.objs.size := fun b o e => Nat.ne_of_lt (Heap.lt_size e)
  have frC : H' s.heap.objs.size = none := J.free
  refine Inv.call' (s' := { s' with heap := h' }) (ch := fp) I J.os ⟨fun b o e n hf hx => ?_, fun b o e n hf hx => ?_, fun b o e n hx => J.base.free b o e n hx, fun b o e hx => ?_, J.base.tups, J.base.frzs, J.base.tbls⟩ (fun b o e => ?_) J.bare fun b hb => ⟨(hfp b hb).2.2.2.1, (hfp b hb).2.1, (hfp b hb).2.2.2.2.1, (hfp b hb).2.2.2.2.2⟩
  · exact (sb.2 b (neC b o e)).trans (J.base.keep b o e n hf hx)
  · obtain ⟨sl, q⟩ := J.base.slot b o e n hf hx
    exact ⟨sl, (sb.2 b (neC b o e)).trans q⟩
  · obtain ⟨o', q⟩ := J.base.there b o e hx
    exact ⟨o', (sb.2 b (neC b o e)).trans q⟩
  · refine (J.hok b o e).stay (fun c v hc q => (sb.2 c ?_).trans q) (fun _ q => q) fun _ _ q => q
    rintro rfl
    rcases hc with rfl | hc
    · rw [frC] at e; cases e
    · rw [frC] at hc; cases hc
end

def PTs (X : Cx) (ifs : List Expr) (t : TT) : Prop :=
  ∀ (pins : List (Addr × Obj)) (s : Shared) (σ : St) (H : Hp) (Q : Bool → Hp → Prop), Inv X pins σ H s → t σ H Q →
    wpAny (model X.prog X.w) X.A (forIn ifs true fun c r => if r = true then do let ok ← isTrue c X.env (eval c X.env); pure (ForInStep.yield ok) else pure (ForInStep.yield r)) (TP X pins σ Q) X.xe s
def tYes : TT := fun _ H Q => Q true H
theorem zoy {X : Cx} : PTs X [] tYes := fun _ _ _ H _ I h => wpAny_tests_nil ⟨H, I, h⟩
theorem zoQ {X : Cx} {c : Expr} {t : TT} (h : PT X c t) : PTs X [c] t := fun pins s σ H Q I q => wpAny_tests_one (h pins s σ H Q I q)

def CTurn (X : Cx) (scope : Scope) (N : List Str) (tg : Expr) (ifs : List Expr) (elt : Expr) (l : Addr) (x : V) (σ : St) (H : Hp) (M : St → Hp → Prop) : Prop :=
  ∀ (s₀ : Shared) (H₀ : Hp) (fp : List Addr) (pn : List (Addr × Obj)), ∃ (g : TG) (tt : TT) (te : TE), PG (cxComp X scope N s₀ H₀ fp pn) tg g ∧ PTs (cxComp X scope N s₀ H₀ fp pn) ifs tt ∧ PE (cxComp X scope N s₀ H₀ fp pn) elt te ∧
    g x σ H fun σ2 H2 => tt σ2 H2 fun b H3 => if b = true then te σ2 H3 fun y H4 => ∃ ys, H4 l = some (.lst ys) ∧ ys.length < sizeLine ∧ M σ2 (upd H4 l (.lst (ys ++ [y]))) else M σ2 H3
def CompRun (X : Cx) (scope : Scope) (N : List Str) (k : Nat) (fr : List Nat) (tg : Expr) (ifs : List Expr) (elt : Expr) (σ : St) (Q : VK) (J : It) (H1 : Hp) : Prop := ∀ l, H1 l = none →
  ∃ W : Nat → Nat → St → Hp → Prop, (∃ m, W 0 m (startC σ k fr) (upd H1 l (.lst []))) ∧ ∀ i m σ' H', W i m σ' H' →
    (J.stop i H' ∧ Q (.ref l) H') ∨ (J.go i H' ∧ ∃ M : St → Hp → Prop, (∀ σ'' H'', M σ'' H'' → ∃ m', m' < m ∧ W (i + 1) m' σ'' H'') ∧ ∀ x H2, J.yld i H' x H2 → CTurn X scope N tg ifs elt l x σ' H2 M)
def tComp (X : Cx) (scope : Scope) (N : List Str) (k : Nat) (fr : List Nat) (tg : Expr) (ifs : List Expr) (elt : Expr) (wi : TI) : TE := fun σ H Q => wi σ H fun J H1 => CompRun X scope N k fr tg ifs elt σ Q J H1
theorem zfQ {X : Cx} {use : Option (Value → Sem Unit)} {Qf : Value → Shared → Prop} {pins : List (Addr × Obj)} {s : Shared} {σ : St} {H : Hp} {Q : VK} {scope : Scope} {N : List Str} {k : Nat} {fr : List Nat} {tg iter elt : Expr} {ifs : List Expr} {wi : TI} {pos : Pos} (hx : X.xe = fun _ _ => False) (hc : X.calm = true) (S : CompSc X scope N k fr) (hi : PI X tg iter wi) (I : Inv X pins σ H s)
    (fin : ∀ {s3 s6 : Shared} {H3 H5 : Hp} {fp : List Addr} {σ5 : St} {l : Addr} {a : Flow}, Inv X pins σ H3 s3 → (∀ b ∈ fp, FpOk X pins H3 b) → Inv (cxComp X scope N s3 H3 fp pins) [] σ5 H5 s6 → Q (.ref l) H5 → compPost (model X.prog X.w) X.A X.xe use Qf (.ref l) s3.heap.objs.size (.ok a) s6)
    (h : tComp X scope N k fr tg ifs elt wi σ H Q)
    (hs : ∀ x, foldedSetIterable iter X.env x = pure x := by intro _; rfl) : wpAny (model X.prog X.w) X.A (comprehension (.ListComp elt [⟨tg, iter, ifs, 0⟩] scope pos) scope X.env (firstIterPos [⟨tg, iter, ifs, 0⟩] pos) (newList []) (firstAsync [⟨tg, iter, ifs, 0⟩]) (firstIter [⟨tg, iter, ifs, 0⟩] X.env) use) Qf X.xe s := by
  refine wpAny_comprehension_free (use := use) rfl hs (ziK (S.hasCell I.ok)) S.kind S.loc' (thn (hi pins s σ H _ I h) fun v s1 h1 => thn h1 fun itv s2 h2 => ?_)
  obtain ⟨it, fp, tn, J, H2, e, I2, T, st2, f2, h2⟩ := h2
  subst e
  have fr2 : H2 s2.heap.objs.size = none := I2.hok.fresh (Nat.le_refl _)
  obtain ⟨W, ⟨m0, w0⟩, turn⟩ := h2 s2.heap.objs.size fr2
  refine wpAny_newList ?_ (by show 0 ≤ sizeLine; exact Nat.zero_le _)
  have I3 : Inv X pins σ (upd H2 s2.heap.objs.size (.lst [])) { s2 with heap := s2.heap.push { cls := .type "list", data := .seq ([] : List Value).toArray } } := I2.lnew (t' := s2.toks) (ys := []) .nil (Nat.zero_le _)
  have old : ∀ b o, s2.heap.get? b = some o → (s2.heap.push { cls := .type "list", data := .seq ([] : List Value).toArray }).get? b = some o := fun b o e => Heap.get?_push_of_some _ e
  have fpo2 : ∀ b ∈ fp, ∃ o, s2.heap.get? b = some o := fun b hb => by
    obtain ⟨o, e, _⟩ := T.obj _ _ st2 b hb
    exact ⟨o, e⟩
  have fpo : ∀ b ∈ fp, ∃ o, (s2.heap.push { cls := .type "list", data := .seq ([] : List Value).toArray }).get? b = some o := fun b hb => by
    obtain ⟨o, e⟩ := fpo2 b hb
    exact ⟨o, old b o e⟩
  have f3 : ∀ b ∈ fp, FpOk X pins (upd H2 s2.heap.objs.size (.lst [])) b := fun b hb => by
    obtain ⟨o, e⟩ := fpo2 b hb
    refine ⟨?_, (f2 b hb).2⟩
    rw [zaq (Nat.ne_of_lt (Heap.lt_size e))]
    exact (f2 b hb).1
  generalize hs3 : ({ s2 with heap := s2.heap.push { cls := .type "list", data := .seq ([] : List Value).toArray } } : Shared) = s3 at I3 ⊢
  have st3 : tn 0 s3.heap := by
    rw [← hs3]
    exact T.keep _ _ _ st2 fun b _ o e => old b o e
  have fpo3 : ∀ b ∈ fp, ∃ o, s3.heap.get? b = some o := by rw [← hs3]; exact fpo
  clear fpo old hs3
  refine wpAny_newFunctionEnv S.cell' (by intro y hy; simp at hy) (fun h1 hns1 hsb1 => ?_) S.kind
  have hk1 : ∀ b o, s3.heap.get? b = some o → h1.get? b = some o := fun b o e => hsb1.extBut b o (Nat.ne_of_lt (Heap.lt_size e)) (Heap.get?_push_of_some _ e)
  have I4 := zlz (tk := s3.toks + ([] : List (Str × Value)).length) I3 S f3 fpo3 hns1 hk1
  have st4 : tn 0 h1 := T.keep _ _ _ st3 fun b _ o e => hk1 b o e
  have stat : ∀ {H' : Hp}, (∀ b ∈ fp, H' b = none) → ∀ b ∈ fp, FpOk (cxComp X scope N s3 (upd H2 s2.heap.objs.size (.lst [])) fp pins) [] H' b := fun hn b hb => zoL I3 S hb (f3 b hb) (fpo3 b hb) (hn b hb)
  have loop : ∀ s4 : Shared, s4 = { s3 with heap := h1, toks := s3.toks + ([] : List (Str × Value)).length } →
      codeAny (model X.prog X.w) X.A (.compLoop (.ListComp elt [⟨tg, iter, ifs, 0⟩] scope pos) 0 (.ref it) (.ref s2.heap.objs.size) (compEnvC scope (clOf X.env.cells scope.names []) s3.heap.objs.size X.env))
        (compPost (model X.prog X.w) X.A X.xe use Qf (.ref s2.heap.objs.size) s3.heap.objs.size) s4 := by
    rintro s4 rfl
    refine zgR (fun n s' => ∃ i σ' H', Inv (cxComp X scope N s3 (upd H2 s2.heap.objs.size (.lst [])) fp pins) [] σ' H' s' ∧ tn i s'.heap ∧ (∀ b ∈ fp, H' b = none) ∧ W i n σ' H') ?_ m0 ⟨0, _, _, I4, st4, fun b hb => (f3 b hb).1, w0⟩
    rintro n s5 ⟨i, σ5, H5, I5, st5, fr5, w5⟩
    rcases turn i n σ5 H5 w5 with ⟨stop, qn⟩ | ⟨go, M, hM, step⟩
    · refine thn (T.done (cxComp X scope N s3 (upd H2 s2.heap.objs.size (.lst [])) fp pins) rfl rfl rfl hc i [] s5 σ5 H5 _ I5 (stat fr5) st5 stop) fun r s6 ⟨hr, I6⟩ => ?_
      subst hr
      exact fin I3 f3 I6 qn
    · refine thn (T.item (cxComp X scope N s3 (upd H2 s2.heap.objs.size (.lst [])) fp pins) rfl rfl rfl hc i [] s5 σ5 H5 _ I5 (stat fr5) st5 go) fun r s6 ⟨u, hr, h6⟩ => ?_
      subst hr
      refine thn h6 fun _ s7 ⟨x, H7, I7, r7, y7, st7, fr7⟩ => ?_
      have I7' := I7.pinned (stat fr7) (T.obj _ _ st7)
      obtain ⟨g, tt, te, hg, ht, he, q⟩ := step x H7 y7 s3 (upd H2 s2.heap.objs.size (.lst [])) fp pins
      have again : ∀ {s8 : Shared} {σ8 : St} {H8 : Hp}, Inv (cxComp X scope N s3 (upd H2 s2.heap.objs.size (.lst [])) fp pins) ([] ++ pinsAt fp s7.heap) σ8 H8 s8 → M σ8 H8 →
          ∃ m, m < n ∧ ∃ i σ' H', Inv (cxComp X scope N s3 (upd H2 s2.heap.objs.size (.lst [])) fp pins) [] σ' H' s8 ∧ tn i s8.heap ∧ (∀ b ∈ fp, H' b = none) ∧ W i m σ' H' := fun {s8 σ8 H8} I8 n8 => by
        obtain ⟨m', hm, w8⟩ := hM σ8 H8 n8
        refine ⟨m', hm, i + 1, σ8, H8, I8.unpinned, T.keep _ _ _ st7 fun b hb o e => (I8.pin (b, o) (List.mem_append_right _ (List.mem_append_right _ (zcA hb e)))).1, fun b hb => ?_, w8⟩
        obtain ⟨o, e, d⟩ := T.obj _ _ st7 b hb
        exact (I8.pin (b, o) (List.mem_append_right _ (List.mem_append_right _ (zcA hb e)))).2.1
      refine thn (hg _ s7 σ5 H7 x u _ I7' r7 q) fun _ s8 ⟨σ8, H8, I8, q8⟩ => ?_
      refine thn (ht _ s8 σ8 H8 _ I8 q8) fun b s9 ⟨H9, I9, q9⟩ => ?_
      cases b with
      | false => exact again I9 q9
      | true =>
        refine thn (he _ s9 σ8 H9 _ I9 q9) fun y s10 ⟨yv, H10, I10, r10, ys, hl, hz, qM⟩ => ?_
        exact thn (zgd _ s10 σ8 H10 (.ref s2.heap.objs.size) [yv] (.ref s2.heap.objs.size) [y] (fun _ H' => M σ8 H') I10 rfl (.cons r10 .nil) ⟨_, ys, yv, rfl, rfl, hl, hz, qM⟩) fun _ s11 ⟨_, H11, I11, _, q11⟩ => again I11 q11
  exact codeAny_compStart_list (loop _ rfl) (T.self _ 0 _ _ _ st4 (loop _ rfl))
theorem znM {X : Cx} {scope : Scope} {N : List Str} {k : Nat} {fr : List Nat} {tg iter elt : Expr} {ifs : List Expr} {wi : TI} {pos : Pos} (hx : X.xe = fun _ _ => False) (hc : X.calm = true) (S : CompSc X scope N k fr) (hi : PI X tg iter wi)
    (hs : ∀ x, foldedSetIterable iter X.env x = pure x := by intro _; rfl) : PE X (.ListComp elt [⟨tg, iter, ifs, 0⟩] scope pos) (tComp X scope N k fr tg ifs elt wi) := by
  intro pins s σ H Q I h
  rw [eval_ListComp]
  refine zfQ hx hc S hi I (fun {s3 s6 H3 H5 fp σ5 l a} I3 f3 I6 qn => ?_) h hs
  obtain ⟨m6, ns6, _⟩ := I6.loc
  exact ⟨m6, ns6, fun h' sb => ⟨.ref l, H5, zgb I3 f3 I6 sb, rfl, qn⟩⟩
theorem znC {X : Cx} {scope : Scope} {N : List Str} {k : Nat} {fr : List Nat} {tg iter elt : Expr} {ifs : List Expr} {wi : TI} {pos spos pos' : Pos} {i : Nat} {x : Str} (hx : X.xe = fun _ _ => False) (hc : X.calm = true) (S : CompSc X scope N k fr) (hi : PI X tg iter wi)
    (hN : X.N.Nodup) (hxi : X.N[i]? = some x) (hxl : Loc X.env.scope x) (hw : swapsWith (.ListComp elt [⟨tg, iter, ifs, 0⟩] scope pos) (some (.Name x pos')) spos.line X.env = pure true) (hf : X.fn x = true ∨ X.env.scope.names.lookup x = some .local)
    (hs : ∀ x, foldedSetIterable iter X.env x = pure x := by intro _; rfl) : PS X (.Assign [.Name x pos'] (.ListComp elt [⟨tg, iter, ifs, 0⟩] scope pos) spos) (tAsg (tComp X scope N k fr tg ifs elt wi) (gName i)) := by
  intro pins s σ H D I h
  rw [exec_Assign_Name_used x pos' _ spos hw]
  refine wpAny_bind (wpAny_standAt (wpAny_bind ?_))
  rw [arm_evalThenUse_ListComp]
  refine wpAny_bind ?_
  refine zfQ (Qf := fun _ s' => wpAny (model X.prog X.w) X.A (pure ()) (fun _ s2 => wpAny (model X.prog X.w) X.A (pure Flow.next) (SP X pins D) X.xe s2) X.xe s') hx hc S hi I (fun {s3 s6 H3 H5 fp σ5 l a} I3 f3 I6 qn => ?_) h hs
  have IX : Inv X pins σ H5 s6 := zgb (h' := s6.heap) I3 f3 I6 ⟨rfl, fun _ _ => rfl⟩
  obtain ⟨m6, ns6, _⟩ := I6.loc
  have ns6 : s6.heap.Ns s3.heap.objs.size m6 := ns6
  have frC : H5 s3.heap.objs.size = none := I6.free
  have fC : FpOk X pins H5 s3.heap.objs.size := I3.fpOk (Nat.le_refl _) frC
  refine wpAny_assign_Name (zfM IX hN hxi hxl (v := .ref l) rfl (fun s7 I7 ⟨b, sb, hb⟩ => ?_) hf)
  have hbC : s3.heap.objs.size ≠ b := by
    rcases hb with rfl | hb
    · exact fC.2.1
    · exact Ne.symm (fC.2.2.2.2.1 _ _ hb)
  refine ⟨m6, ns6.sameBut sb hbC, fun h' sb2 => wpAny_pure (wpAny_pure ⟨_, H5, ?_, qn⟩)⟩
  refine Inv.call' (s' := { s7 with heap := h' }) (ch := [s3.heap.objs.size]) I7 rfl ⟨fun c o e n hfs hex => ?_, fun c o e n hfs hex => ?_, fun c o e n _ => n, fun c o e hex => ?_, fun _ _ q => q, fun _ _ _ q => q, fun _ ps q => ⟨#[], by simpa using q⟩⟩ (fun c o e => ?_) I7.bare fun c hcm => ?_
  · exact (sb2.2 c (fun z => hex (by simp [z]))).trans e
  · exact ⟨o.slots, (sb2.2 c (fun z => hex (by simp [z]))).trans e⟩
  · exact ⟨o, (sb2.2 c (fun z => hex (by simp [z]))).trans e⟩
  · refine (I7.hok c o e).stay (fun d v hd q => (sb2.2 d ?_).trans q) (fun _ q => q) fun _ _ q => q
    rintro rfl
    rcases hd with rfl | hd
    · rw [frC] at e; cases e
    · rw [frC] at hd; cases hd
  · rw [List.mem_singleton.mp hcm]
    exact ⟨fC.2.2.2.1, fC.2.1, fC.2.2.2.2.1, fC.2.2.2.2.2⟩
section
variable {X : Cx} {st : Stmt} {rest : List Stmt} {t u : TS} {e : Expr} {te : TE} {tt : TT}
end
end L2
end

section
set_option Elab.async false
set_option linter.all false
set_option maxRecDepth 100000
set_option maxHeartbeats 4000000
namespace L2
open PySem PySem.Spec PyProof.Rows
def Its (x : Str) : It := ⟨fun i _ => i < x.cps.size, fun i H v H' => H' = H ∧ ∃ c, x.cps[i]? = some c ∧ v = .str ⟨#[c]⟩, fun i _ => i = x.cps.size⟩
theorem ziu {P : Program} {w : World} {K : PySem.W.Frag} {tg : Expr} (it : Addr) (x : Str) (t : Tok) (ty : String)
    (hn : ["enumerate", "zip", "dict_itemiterator", "dict_reverseitemiterator", "odict_iterator", "itertools.zip_longest", "itertools.pairwise"].contains ty = false)
    (hW : ∀ A' : Around, A'.handled = none → Walks P w A' it [it] [it] x.cps.size (SignAt x) (fun i h => h.IsStrIter it ty x t i))
    (hself : ∀ (A : Around) (i : Nat) (s : Shared) (Q : Value → Shared → Prop) (E : Value → Shared → Prop), s.heap.IsStrIter it ty x t i → Q (.ref it) s → wpAny (model P w) A (pyIter (.ref it)) Q E s) :
    Turn P w K tg (Its x) [it] it (fun i h => h.IsStrIter it ty x t i) where
  mem := by simp
  obj := fun i h st b hb => by
    have e : b = it := by simpa using hb
    subst e
    obtain ⟨o, e, c, d⟩ := st
    exact ⟨o, e, fun v z => by rw [d] at z; cases z⟩
  keep := fun i h h' st k => by
    obtain ⟨o, e, r⟩ := st
    exact ⟨o, k it (by simp) o e, r⟩
  item := by
    intro X hP hw hK hc i pins s σ H E I hf st hg
    subst hP hw hK
    obtain ⟨f0, f1, f2, f3, f4, f5⟩ := hf it (by simp)
    refine (hW X.A (I.ok.hd hc)).item i s _ _ hg st fun v h' tk hv st' kk => ?_
    obtain ⟨c, u, hc', rfl⟩ := hv
    have I1 : Inv X pins σ H { s with heap := h', toks := tk } := I.turned (fun b o hb e => kk b o (by simpa using hb) e) f0 f1 f3 f4 f5
    obtain ⟨o, e, c', d⟩ := id st'
    exact ⟨_, rfl, zme (s := { s with heap := h', toks := tk }) e c' d hn ⟨.str ⟨#[c]⟩, H, I1, ⟨u, rfl⟩, ⟨rfl, c, hc', rfl⟩, st', fun b hb => (hf b hb).1⟩⟩
  done := by
    intro X hP hw hK hc i pins s σ H E I hf st hg
    subst hP hw hK
    obtain ⟨f0, f1, f2, f3, f4, f5⟩ := hf it (by simp)
    have hi : i = x.cps.size := hg
    subst hi
    exact (hW X.A (I.ok.hd hc)).done s _ _ st fun h' tk kk => ⟨rfl, I.turned (fun b o hb e => kk b o (by simpa using hb) e) f0 f1 f3 f4 f5⟩
  self := hself
section
variable {X : Cx} {tg : Expr}
end

def TupsOn (H H' : Hp) : Prop := ∀ b xs, H b = some (.tup xs) → H' b = some (.tup xs)
theorem TupsOn.trans {H H1 H2 : Hp} (a : TupsOn H H1) (b : TupsOn H1 H2) : TupsOn H H2 := fun c xs h => b c xs (a c xs h)
section
variable {X : Cx}
def rSlS : V → Option Int → Option Int → Hp → VK → Prop := fun x lo hi H Q => ∃ z, x = .str z ∧ z.length ≤ sizeLine ∧ Q (.str (Txt.slice z lo hi)) H
theorem zrd : SlR X rSlS := by
  intro pins s σ H x v vl vu lo hi sl Q I rx hs pl pu h
  obtain ⟨z, rfl, hz, q⟩ := h
  obtain ⟨t, rfl⟩ := rx
  refine ⟨"str", _, F.slot_str_getitem.lookup, typeIs_str _ _ _, ?_⟩
  obtain ⟨o, ho, hc, hd⟩ := hs
  have fin : ∀ t' k, EP X pins σ Q (.str (Txt.slice z lo hi) t') { s with toks := k } := fun t' k => ⟨.str _, H, I.tok _, ⟨t', rfl⟩, q⟩
  have le := Nat.le_trans (Txt.slice_le z lo hi) hz
  cases pl with
  | none =>
    cases pu with
    | none => exact wpAny_getItem_str_slice (l := none) (u := none) (st := none) ⟨o, ho, hc, hd⟩ rfl (post_val_or_str ⟨le, fin⟩)
    | int j u => exact wpAny_getItem_str_slice (l := none) (u := some (j, u)) (st := none) ⟨o, ho, hc, hd⟩ rfl (post_val_or_str ⟨le, fin⟩)
  | int i w =>
    cases pu with
    | none => exact wpAny_getItem_str_slice (l := some (i, w)) (u := none) (st := none) ⟨o, ho, hc, hd⟩ rfl (post_val_or_str ⟨le, fin⟩)
    | int j u => exact wpAny_getItem_str_slice (l := some (i, w)) (u := some (j, u)) (st := none) ⟨o, ho, hc, hd⟩ rfl (post_val_or_str ⟨le, fin⟩)
def cutN (xs : List Nat) (lo hi : Option Int) : List Nat := (xs.drop (HT.sIx xs.length 0 lo)).take (HT.sIx xs.length xs.length hi - HT.sIx xs.length 0 lo)
theorem zmW (lo hi : Option Int) (n : Nat) : Builtin.Str.strSliceIndices lo hi 1 n = sliceRange ((HT.sIx n 0 lo : Nat) : Int) ((HT.sIx n n hi : Nat) : Int) 1 := by
  have one : (1 : Int) > 0 := by decide
  have a : ∀ (v : Option Int) (d : Nat), (match v with | none => (d : Int) | some i => (if (1 : Int) > 0 then max 0 (min (if i < 0 then i + (n : Int) else i) (n : Int)) else max (-1) (min (if i < 0 then i + (n : Int) else i) ((n : Int) - 1)))) = ((HT.sIx n d v : Nat) : Int) := by
    intro v d
    cases v with
    | none => rfl
    | some i =>
      simp only [HT.sIx, one, if_true]
      by_cases h : i < 0
      · simp only [h, if_true]; omega
      · simp only [h, if_false]; omega
  have l := a lo 0
  have u := a hi n
  unfold Builtin.Str.strSliceIndices
  simp only [one, if_true] at l u ⊢
  first
    | rw [l, u]
    | (cases lo <;> cases hi <;> simp_all)
theorem zkI (z : Str) (lo hi : Option Int) : (Txt.slice z lo hi).cps.toList = cutN z.cps.toList lo hi := by
  have hn : z.length = z.cps.toList.length := by simp [Str.length]
  have hp : (Builtin.Str.strSliceIndices lo hi 1 z.length).filterMap (z.cps[·]?) = cutN z.cps.toList lo hi := by
    rw [zmW, sliceRange_one, pick_run, hn]; rfl
  unfold Txt.slice
  split
  · rename_i h
    have h1 : (Builtin.Str.strSliceIndices lo hi 1 z.length).length = z.length := by simpa using h
    rw [zmW, sliceRange_one, List.length_map, List.length_range] at h1
    have le1 := HT.sIx_le z.length z.length (Nat.le_refl _) hi
    unfold cutN
    rw [← hn]
    have e0 : HT.sIx z.length 0 lo = 0 ∨ z.length = 0 := by omega
    have hz : z.cps.toList.length = z.length := hn.symm
    rcases e0 with e0 | e0
    · rw [e0, List.drop_zero, List.take_of_length_le (by omega)]
    · have : z.cps.toList = [] := List.eq_nil_of_length_eq_zero (by omega)
      rw [this]; simp
  · show (List.filterMap _ _).toArray.toList = _
    rw [hp]
theorem zmk (hc : X.calm = true) : CallR X (.builtin "all") (fun xs H Q => ∃ (p : Addr) (bs : List Bool), xs = [.ref p] ∧ SqL X.K H p (bs.map V.bl) ∧ Q (.bl (bs.all id)) H) := by
  intro pins s σ H xs us Q I r h
  obtain ⟨p, bs, rfl, hq, q⟩ := h
  obtain ⟨u, rfl, rx⟩ := vals1 r
  cases rx
  obtain ⟨its, r', pl, hz⟩ := I.list hq
  have hlen : bs.length = its.length := by have := r'.length; rw [List.length_map] at this; exact this
  have hp : p < s.heap.objs.size := by obtain ⟨o, n, e, _⟩ := pl; exact Heap.lt_size e
  have hd : X.A.in1.handled = none := I.ok.hd hc
  have get : ∀ (i : Nat) (v : Value), its.toArray[i]? = some v → v = .bool (bs.getD i false) := fun i v e => by
    have e' : its[i]? = some v := by simpa using e
    have hi : i < bs.length := by rw [hlen]; exact (List.getElem?_eq_some_iff.mp e').1
    obtain ⟨u, hu, ru⟩ := r'.get (i := i) (x := .bl (bs.getD i false)) (by rw [List.getElem?_map, List.getElem?_eq_getElem hi, List.getD_eq_getElem?_getD, List.getElem?_eq_getElem hi]; rfl)
    rw [e'] at hu
    cases hu
    exact ru
  refine call_all_walk (wpAny_pyIter_list pl.isList ?_)
  refine ⟨s.heap.objs.size, _, _, _, _, _, fun i => bs.getD i false, rfl, Walks.list hd _ p (Nat.ne_of_lt hp) its.toArray, ⟨⟨_, Heap.get?_push_size _ rfl, rfl, rfl⟩, pl.isList.push _⟩, fun i v s' Q' E' hP hQ => ?_, fun h' tk hk => ?_⟩
  · rw [get i v hP]
    exact wpAny_truthy_bool hQ
  · have e : (List.range its.toArray.size).all (fun i => bs.getD i false) = bs.all id := by
      rw [List.size_toArray, ← hlen]
      have : bs = (List.range bs.length).map fun i => bs.getD i false := by
        apply List.ext_getElem?
        intro i
        rw [List.getElem?_map]
        by_cases hi : i < bs.length
        · rw [List.getElem?_range hi, List.getElem?_eq_getElem hi]
          show some bs[i] = some (bs.getD i false)
          rw [List.getD_eq_getElem?_getD, List.getElem?_eq_getElem hi]; rfl
        · rw [List.getElem?_eq_none (by omega), List.getElem?_eq_none (by simpa using hi)]; rfl
      conv => rhs; rw [this]
      rw [List.all_map]
      rfl
    have I1 : Inv X pins σ H { s with heap := h', toks := tk } := I.kept fun b o e => hk b o (fun z => by
      have z' : b = s.heap.objs.size := by simpa using z
      rw [z'] at e
      exact absurd (Heap.lt_size e) (Nat.lt_irrefl _)) (Heap.get?_push_of_some _ e)
    exact ⟨.bl _, H, I1, by rw [e]; exact rfl, q⟩
theorem zmo : CallR X (.builtin "isinstance") (fun xs H Q => ∃ x t c b, xs = [x, .ty c] ∧ TyOf X.K H x t ∧ PySem.W.kitOne X.K t (.type c) = some b ∧ Q (.bl b) H) := by
  intro pins s σ H xs us Q I r h
  obtain ⟨x, t, c, b, rfl, ty, e, q⟩ := h
  obtain ⟨u, v, rfl, rx, ry⟩ := vals2 r
  cases (show v = Value.type c from ry)
  exact zli I rx ty e fun tk => ⟨.bl b, H, I.tok _, rfl, q⟩
end
end L2
end

section
set_option Elab.async false
set_option linter.all false
set_option maxRecDepth 100000
set_option maxHeartbeats 4000000
namespace L2
open PySem PySem.Spec PyProof.Rows
section
variable {X : Cx}
def rJoin (K : PySem.W.Frag) : V → List V → Hp → VK → Prop := fun x vs H Q => ∃ (z : Str) (b : Addr) (ys : List Str), x = .str z ∧ vs = [.ref b] ∧ SqL K H b (ys.map V.str) ∧ (ys.map (·.length)).sum + ys.length * z.length ≤ 16777216 ∧ Q (.str (Str.join z ys)) H
theorem znz {ys : List Str} : ∀ {us : List Value}, Vals (ys.map V.str) us → StrsAre us ys := by
  induction ys with
  | nil =>
    intro us r
    cases r
    exact .nil
  | cons y ys ih =>
    intro us r
    cases r with
    | cons a b =>
      obtain ⟨t, rfl⟩ := a
      exact .cons y t (ih b)
theorem zoJ : MtM X "str.join" (rJoin X.K) := by
  intro pins s σ H x vs v us Q I rx rv h
  obtain ⟨z, b, ys, rfl, rfl, hB, hz, q⟩ := h
  obtain ⟨t, rfl⟩ := rx
  obtain ⟨u, rfl, ru⟩ := rv.one
  cases ru
  obtain ⟨its, r, pl, _⟩ := I.list hB
  refine join_list pl.isList (by simpa using znz r) hz fun t' k => ⟨.str (Str.join z ys), H, I.tok _, ⟨t', ?_⟩, q⟩
  show Value.str (Builtin.Str.glued z ys) t' = _
  rw [StrLaws.glued_eq_join]
end
end L2
end

section
set_option Elab.async false
set_option linter.all false
set_option maxRecDepth 100000
set_option maxHeartbeats 4000000
namespace L2
open PySem PySem.Spec PyProof.Rows
section
variable {X : Cx}
end
end L2
end

section
set_option Elab.async false
set_option linter.all false
set_option maxRecDepth 100000
set_option maxHeartbeats 4000000
namespace L2
open PySem PySem.Spec PyProof.Rows

inductive W where
  | non | bl (b : Bool) | int (i : Int) | str (x : Str) | tup (ws : List W) | ref (a : Addr) | scr (ns : List Int)
inductive Ob where
  | lst (ws : List W)
  | dct (kvs : List (List Int × W))
  | ins (C : Addr) (fs : List (Str × W))
abbrev Sto := Addr → Option Ob
def put (S : Sto) (a : Addr) (o : Ob) : Sto := fun b => if b = a then some o else S b
def FzL (K : PySem.W.Frag) (H : Hp) (a : Addr) (xs : List V) : Prop :=
  (∃ o, H a = some (.frz o (.lst xs))) ∨
    ∃ (o : Obj) (its : Array Value) (n : Nat), K.lookup a = some o ∧ o.cls = .type "list" ∧ o.dict = none ∧ o.data = .seq its n ∧ its.size ≤ sizeLine ∧ Vals xs its.toList
mutual
inductive Rep (K : PySem.W.Frag) (H : Hp) : W → V → Prop
  | non : Rep K H .non .non
  | bl (b : Bool) : Rep K H (.bl b) (.bl b)
  | int (i : Int) : Rep K H (.int i) (.int i)
  | str (x : Str) : Rep K H (.str x) (.str x)
  | ref (a : Addr) : Rep K H (.ref a) (.ref a)
  | scr {a : Addr} {ns : List Int} : FzL K H a (ns.map V.int) → Rep K H (.scr ns) (.ref a)
  | tup {a : Addr} {vs : List V} {ws : List W} : H a = some (.tup vs) → Reps K H ws vs → Rep K H (.tup ws) (.ref a)
inductive Reps (K : PySem.W.Frag) (H : Hp) : List W → List V → Prop
  | nil : Reps K H [] []
  | cons {w : W} {v : V} {ws : List W} {vs : List V} : Rep K H w v → Reps K H ws vs → Reps K H (w :: ws) (v :: vs)
end
structure Ext (H : Hp) (S : Sto) (H' : Hp) (S' : Sto) : Prop where
  tup : ∀ b xs, H b = some (.tup xs) → H' b = some (.tup xs)
  frz : ∀ b o u, H b = some (.frz o u) → H' b = some (.frz o u)
  fr : ∀ b o, H b = some o → S b = none → H' b = some o ∧ S' b = none
  all : ∀ b o, H b = some o → ∃ o', H' b = some o'
def Sub (S S' : Sto) : Prop := ∀ a o, S a = some o → S' a = some o
section
variable {K : PySem.W.Frag} {H H' H1 H2 : Hp} {S S' S1 S2 : Sto}
theorem zaf {a : Addr} {o : Ob} : put S a o a = some o := by unfold put; rw [if_pos rfl]
theorem zaH {a b : Addr} {o : Ob} (h : b ≠ a) : put S a o b = S b := by unfold put; rw [if_neg h]
theorem zaE {a : Addr} {o o' : Ob} : put (put S a o) a o' = put S a o' := by funext b; unfold put; split <;> rfl
theorem Ext.refl : Ext H S H S := ⟨fun _ _ h => h, fun _ _ _ h => h, fun _ _ h g => ⟨h, g⟩, fun _ o h => ⟨o, h⟩⟩
theorem Ext.trans (a : Ext H S H1 S1) (b : Ext H1 S1 H2 S2) : Ext H S H2 S2 := ⟨fun c xs h => b.tup c xs (a.tup c xs h), fun c o u h => b.frz c o u (a.frz c o u h),
  fun c o h g => by
    obtain ⟨h1, g1⟩ := a.fr c o h g
    exact b.fr c o h1 g1, fun c o h => by
    obtain ⟨o1, h1⟩ := a.all c o h
    exact b.all c o1 h1⟩
theorem Ext.new {p : Addr} {o : HO} (h : H p = none) : Ext H S (upd H p o) S :=
  ⟨fun b xs e => by rw [zaq (zal e h)]; exact e, fun b ob u e => by rw [zaq (zal e h)]; exact e,
   fun b ob e g => ⟨by rw [zaq (zal e h)]; exact e, g⟩, fun b ob e => ⟨ob, by rw [zaq (zal e h)]; exact e⟩⟩
theorem Ext.newS {p : Addr} {o : HO} {ob : Ob} (h : H p = none) : Ext H S (upd H p o) (put S p ob) :=
  ⟨fun b xs e => by rw [zaq (zal e h)]; exact e, fun b ob u e => by rw [zaq (zal e h)]; exact e,
   fun b ob e g => ⟨by rw [zaq (zal e h)]; exact e, by rw [zaH (zal e h)]; exact g⟩, fun b ob e => ⟨ob, by rw [zaq (zal e h)]; exact e⟩⟩
theorem Ext.mut {p : Addr} {o u : HO} {ob ob0 : Ob} (h : H p = some u) (hs : S p = some ob0) (ht : ∀ xs, u ≠ .tup xs) (hf : ∀ ob q, u ≠ .frz ob q) : Ext H S (upd H p o) (put S p ob) :=
  ⟨fun b xs e => by rw [zaq (zlA e h fun z => ht xs z.symm)]; exact e, fun b ob q e => by rw [zaq (zlA e h fun z => hf ob q z.symm)]; exact e,
   fun b ob e g => by
     have hb : b ≠ p := by rintro rfl; rw [hs] at g; cases g
     exact ⟨by rw [zaq hb]; exact e, by rw [zaH hb]; exact g⟩, fun b ob e => by
     by_cases hb : b = p
     · subst hb; exact ⟨o, zau⟩
     · exact ⟨ob, by rw [zaq hb]; exact e⟩⟩
theorem Ext.lst {p : Addr} {o : HO} {ob ob0 : Ob} {xs : List V} (h : H p = some (.lst xs)) (hs : S p = some ob0) : Ext H S (upd H p o) (put S p ob) := .mut h hs (fun _ z => nomatch z) fun _ _ z => nomatch z
theorem Ext.drop (h : Sub S' S) : Ext H S H S' := ⟨fun _ _ h => h, fun _ _ _ h => h, fun b o e g => ⟨e, by
  cases q : S' b with
  | none => rfl
  | some z => rw [h b z q] at g; cases g⟩, fun _ o h => ⟨o, h⟩⟩
theorem Ext.free (e : Ext H S H' S') {p : Addr} (h : H' p = none) : H p = none := by
  cases q : H p with
  | none => rfl
  | some o => obtain ⟨o', z⟩ := e.all p o q; rw [h] at z; cases z
theorem Ext.fz {a : Addr} {xs : List V} (e : Ext H S H' S') (h : FzL K H a xs) : FzL K H' a xs := by
  rcases h with ⟨o, h⟩ | h
  · exact .inl ⟨o, e.frz _ _ _ h⟩
  · exact .inr h
theorem FzL.sq {a : Addr} {xs : List V} (h : FzL K H a xs) : SqL K H a xs := by
  rcases h with ⟨o, h⟩ | h
  · exact .inl (.inr ⟨o, h⟩)
  · exact .inr h
mutual
theorem Rep.ext (e : Ext H S H' S') {w : W} {v : V} : Rep K H w v → Rep K H' w v
  | .non => .non
  | .bl b => .bl b
  | .int i => .int i
  | .str x => .str x
  | .ref a => .ref a
  | .scr h => .scr (e.fz h)
  | .tup h hs => .tup (e.tup _ _ h) (Reps.ext e hs)
theorem Reps.ext (e : Ext H S H' S') {ws : List W} {vs : List V} : Reps K H ws vs → Reps K H' ws vs
  | .nil => .nil
  | .cons h hs => .cons (Rep.ext e h) (Reps.ext e hs)
end
theorem Reps.length : ∀ {ws : List W} {vs : List V}, Reps K H ws vs → ws.length = vs.length
  | _, _, .nil => rfl
  | _, _, .cons _ hs => congrArg (· + 1) (Reps.length hs)
theorem Reps.get : ∀ {ws : List W} {vs : List V} {i : Nat} {w : W}, Reps K H ws vs → ws[i]? = some w → ∃ v, vs[i]? = some v ∧ Rep K H w v
  | _, _, _, _, .nil, e => by simp at e
  | _, _, 0, _, .cons h _, e => by simp at e; subst e; exact ⟨_, rfl, h⟩
  | _, _, i + 1, w, .cons _ hs, e => by
    obtain ⟨v, h1, h2⟩ := Reps.get (i := i) (w := w) hs (by simpa using e)
    exact ⟨v, by simpa using h1, h2⟩
theorem Reps.append : ∀ {ws us : List W} {vs xs : List V}, Reps K H ws vs → Reps K H us xs → Reps K H (ws ++ us) (vs ++ xs)
  | _, _, _, _, .nil, h => h
  | _, _, _, _, .cons r t, h => .cons r (Reps.append t h)
theorem Reps.take : ∀ {ws : List W} {vs : List V} (n : Nat), Reps K H ws vs → Reps K H (ws.take n) (vs.take n)
  | _, _, 0, _ => .nil
  | _, _, _ + 1, .nil => .nil
  | _, _, n + 1, .cons r t => .cons r (Reps.take n t)
theorem Reps.drop : ∀ {ws : List W} {vs : List V} (n : Nat), Reps K H ws vs → Reps K H (ws.drop n) (vs.drop n)
  | _, _, 0, r => r
  | _, _, _ + 1, .nil => .nil
  | _, _, n + 1, .cons _ t => Reps.drop n t
theorem Reps.one {w : W} {v : V} (h : Rep K H w v) : Reps K H [w] [v] := .cons h .nil
theorem Reps.ofInts : ∀ (ns : List Int), Reps K H (ns.map W.int) (ns.map V.int)
  | [] => .nil
  | n :: ns => .cons (.int n) (Reps.ofInts ns)
end

def RepO (K : PySem.W.Frag) (H : Hp) (a : Addr) : Ob → Prop
  | .lst ws => ∃ vs, H a = some (.lst vs) ∧ Reps K H ws vs
  | .dct kvs => ∃ ps : List (List Key × V), H a = some (.dT ps) ∧ Paired (fun q p => p.1 = q.1.map Sum.inl ∧ Rep K H q.2 p.2) kvs ps
  | .ins C fs => False
def RepS (K : PySem.W.Frag) (H : Hp) (S : Sto) : Prop := ∀ a o, S a = some o → RepO K H a o
section
variable {K : PySem.W.Frag} {H H' : Hp} {S S' S0 S0' : Sto} {a b p : Addr} {o : Ob}
theorem Sub.refl : Sub S S := fun _ _ h => h
theorem Sub.trans {S1 S2 S3 : Sto} (h : Sub S1 S2) (g : Sub S2 S3) : Sub S1 S3 := fun a o e => g a o (h a o e)
theorem Sub.new (h : S a = none) : Sub S (put S a o) := fun b u e => by rw [zaH (by rintro rfl; rw [h] at e; cases e)]; exact e
theorem RepS.sub (h : RepS K H S') (q : Sub S S') : RepS K H S := fun a o e => h a o (q a o e)
theorem RepO.some (h : RepO K H a o) : ∃ u, H a = some u := by
  cases o with
  | lst ws => obtain ⟨vs, e, _⟩ := h; exact ⟨_, e⟩
  | dct kvs => obtain ⟨vs, e, _⟩ := h; exact ⟨_, e⟩
  | ins C fs => exact h.elim
theorem RepS.free (h : RepS K H S) (e : H p = none) : S p = none := by
  cases q : S p with
  | none => rfl
  | some o => obtain ⟨u, z⟩ := (h p o q).some; rw [e] at z; cases z
theorem RepO.keep (e : Ext H S0 H' S0') (k : ∀ u, H a = Option.some u → H' a = Option.some u) (h : RepO K H a o) : RepO K H' a o := by
  cases o with
  | lst ws => obtain ⟨vs, e1, r⟩ := h; exact ⟨vs, k _ e1, r.ext e⟩
  | dct kvs => obtain ⟨vs, e1, r⟩ := h; exact ⟨vs, k _ e1, Paired.mapP r fun _ _ z => ⟨z.1, z.2.ext e⟩⟩
  | ins C fs => exact h.elim
theorem RepS.new {u : HO} (h : RepS K H S) (e : H p = none) : RepS K (upd H p u) S := fun a o q =>
  (h a o q).keep (.new (S := S) e) fun v z => by rw [zaq (zal z e)]; exact z
theorem RepS.put_lst {ws : List W} {vs : List V} (h : RepS K H S) (e : H p = none) (r : Reps K (upd H p (.lst vs)) ws vs) : RepS K (upd H p (.lst vs)) (put S p (.lst ws)) := fun a o q => by
  by_cases ha : a = p
  · subst ha; rw [zaf] at q; cases q; exact ⟨vs, zau, r⟩
  · rw [zaH ha] at q; exact h.new e a o q
theorem RepS.set_lst {ws0 ws : List W} {vs : List V} (h : RepS K H S) (e : S a = some (.lst ws0)) (r : Reps K H ws vs) : Ext H S (upd H a (.lst vs)) (put S a (.lst ws)) ∧ RepS K (upd H a (.lst vs)) (put S a (.lst ws)) := by
  obtain ⟨vs0, e0, _⟩ := h a _ e
  have x : Ext H S (upd H a (.lst vs)) (put S a (.lst ws)) := .lst e0 e
  refine ⟨x, fun b o q => ?_⟩
  by_cases hb : b = a
  · subst hb; rw [zaf] at q; cases q; exact ⟨vs, zau, r.ext x⟩
  · rw [zaH hb] at q; exact (h b o q).keep x fun u z => by rw [zaq hb]; exact z
end

abbrev WSt := List (Option W)
abbrev WK := W → Sto → Prop
abbrev WX := Str → WSt → Sto → Prop
abbrev WE := WX → WSt → Sto → WK → Prop
abbrev WT := WX → WSt → Sto → (Bool → Sto → Prop) → Prop
abbrev WA := WX → WSt → Sto → (List W → Sto → Prop) → Prop
structure WEnds where
  nx : WSt → Sto → Prop
  rt : WK
  bk : WSt → Sto → Prop := fun _ _ => False
  ct : WSt → Sto → Prop := fun _ _ => False
abbrev WS := WX → WEnds → WSt → Sto → Prop
abbrev WG := W → WSt → Sto → (WSt → Sto → Prop) → Prop
abbrev WSp := List W → Sto → WK → (Str → Sto → Prop) → Prop
abbrev WI := WX → WSt → Sto → (List W → (Sto → Prop) → Sto → Prop) → Prop
abbrev WL := WX → WSt → Sto → (List W → Sto → Prop) → Prop

def RpO (K : PySem.W.Frag) (H : Hp) : Option W → Option V → Prop
  | none, _ => True
  | some w, some v => Rep K H w v
  | some _, none => False
def RpSt (K : PySem.W.Frag) (H : Hp) (σW : WSt) (σ : St) : Prop := Paired (RpO K H) σW σ
section
variable {K : PySem.W.Frag} {H H' : Hp} {S S' : Sto}
theorem RpO.ext (e : Ext H S H' S') : ∀ {w : Option W} {v : Option V}, RpO K H w v → RpO K H' w v
  | none, _, _ => trivial
  | some _, some _, h => Rep.ext e h
  | some _, none, h => h.elim
theorem RpSt.ext (e : Ext H S H' S') {σW : WSt} {σ : St} (h : RpSt K H σW σ) : RpSt K H' σW σ := Paired.mapP h fun _ _ r => RpO.ext e r
theorem RpSt.get : ∀ {σW : WSt} {σ : St} {i : Nat} {w : W}, RpSt K H σW σ → σW[i]? = some (some w) → ∃ v, σ[i]? = some (some v) ∧ Rep K H w v
  | _, _, _, _, .nil, e => by simp at e
  | _, _, 0, _, .cons (b := b) h _, e => by
    simp at e; subst e
    cases b with
    | none => exact (show False from h).elim
    | some v => exact ⟨v, rfl, h⟩
  | _, _, i + 1, w, .cons _ hs, e => by
    obtain ⟨v, h1, h2⟩ := RpSt.get (i := i) (w := w) hs (by simpa using e)
    exact ⟨v, by simpa using h1, h2⟩
theorem RpSt.set {w : W} {v : V} (h : Rep K H w v) : ∀ {σW : WSt} {σ : St} (i : Nat), RpSt K H σW σ → RpSt K H (σW.set i (some w)) (σ.set i (some v))
  | _, _, _, .nil => .nil
  | _, _, 0, .cons _ t => .cons h t
  | _, _, i + 1, .cons q t => .cons q (RpSt.set h i t)
end

def Wish (K : PySem.W.Frag) (H : Hp) (S : Sto) (QW : WK) (Q : VK) : Prop := ∀ w S' v H', Ext H S H' S' → Rep K H' w v → RepS K H' S' → QW w S' → Q v H'
def lift (K : PySem.W.Frag) (t : WSt → Sto → WK → Prop) : TE := fun σ H Q => ∃ σW S QW, RpSt K H σW σ ∧ RepS K H S ∧ t σW S QW ∧ Wish K H S QW Q
def liftT (K : PySem.W.Frag) (t : WSt → Sto → (Bool → Sto → Prop) → Prop) : TT := fun σ H Q => ∃ σW S QW, RpSt K H σW σ ∧ RepS K H S ∧ t σW S QW ∧ ∀ b S' H', Ext H S H' S' → RepS K H' S' → QW b S' → Q b H'
def liftA (K : PySem.W.Frag) (t : WSt → Sto → (List W → Sto → Prop) → Prop) : TA := fun σ H Q => ∃ σW S QW, RpSt K H σW σ ∧ RepS K H S ∧ t σW S QW ∧ ∀ ws S' vs H', Ext H S H' S' → Reps K H' ws vs → RepS K H' S' → QW ws S' → Q vs H'
def Goes (K : PySem.W.Frag) (H : Hp) (S : Sto) (P : WSt → Sto → Prop) (Q : St → Hp → Prop) : Prop := ∀ σW S' σ H', Ext H S H' S' → RpSt K H' σW σ → RepS K H' S' → P σW S' → Q σ H'
structure Meets (K : PySem.W.Frag) (H : Hp) (S : Sto) (DW : WEnds) (D : Ends) : Prop where
  nx : Goes K H S DW.nx D.nx
  rt : Wish K H S DW.rt D.rt
  bk : Goes K H S DW.bk D.bk
  ct : Goes K H S DW.ct D.ct
def liftS (K : PySem.W.Frag) (t : WEnds → WSt → Sto → Prop) : TS := fun D σ H => ∃ σW S DW, RpSt K H σW σ ∧ RepS K H S ∧ t DW σW S ∧ Meets K H S DW D
def liftG (K : PySem.W.Frag) (t : WG) : TG := fun v σ H Q => ∃ w σW S P, Rep K H w v ∧ RpSt K H σW σ ∧ RepS K H S ∧ t w σW S P ∧ Goes K H S P Q
def ItW (K : PySem.W.Frag) (J : It) (ws : List W) (G : Sto → Prop) (H0 : Hp) (S0 : Sto) : Prop := ∀ i S H, Ext H0 S0 H S → RepS K H S → G S →
  (∀ w, ws[i]? = some w → J.go i H ∧ ∀ x H', J.yld i H x H' → Ext H S H' S ∧ RepS K H' S ∧ Rep K H' w x) ∧ (i = ws.length → J.stop i H)
def liftI (K : PySem.W.Frag) (t : WSt → Sto → (List W → (Sto → Prop) → Sto → Prop) → Prop) : TI := fun σ H R => ∃ σW S QW, RpSt K H σW σ ∧ RepS K H S ∧ t σW S QW ∧
  ∀ ws G S' J H', Ext H S H' S' → RepS K H' S' → G S' → ItW K J ws G H' S' → QW ws G S' → R J H'
def liftL (K : PySem.W.Frag) (t : WSt → Sto → (List W → Sto → Prop) → Prop) : TE := fun σ H Q => ∃ σW S QW, RpSt K H σW σ ∧ RepS K H S ∧ t σW S QW ∧
  ∀ ws S' vs a H', Ext H S H' S' → H a = none → H' a = some (.lst vs) → S' a = none → Reps K H' ws vs → RepS K H' S' → QW ws S' → Q (.ref a) H'
def liftSp (K : PySem.W.Frag) (sp : WSp) : Sp := fun vs H Q _ => ∃ ws S QW, Reps K H ws vs ∧ RepS K H S ∧ sp ws S QW (fun _ _ => False) ∧ Wish K H S QW Q

structure Hook (X : Cx) (E : WX) : Prop where
  no : E = fun _ _ _ => False
  xe : X.xe = fun _ _ => False
  calm : X.calm = true
def JE (X : Cx) (e : Expr) (t : WE) : Prop := ∀ E, Hook X E → PE X e (lift X.K (t E))
def JT (X : Cx) (e : Expr) (t : WT) : Prop := ∀ E, Hook X E → PT X e (liftT X.K (t E))
def JW (X : Cx) (e : Expr) (t : WT) : Prop := ∀ E, Hook X E → PW X e (liftT X.K (t E))
def JA (X : Cx) (es : List Expr) (t : WA) : Prop := ∀ E, Hook X E → PA X es (liftA X.K (t E))
def JS (X : Cx) (st : Stmt) (t : WS) : Prop := ∀ E, Hook X E → PS X st (liftS X.K (t E))
def JSs (X : Cx) (st : List Stmt) (t : WS) : Prop := ∀ E, Hook X E → PSs X st (liftS X.K (t E))
def JG (X : Cx) (tg : Expr) (t : WG) : Prop := ∀ E, Hook X E → PG X tg (liftG X.K t)
def JI (X : Cx) (tg iter : Expr) (t : WI) : Prop := ∀ E, Hook X E → PI X tg iter (liftI X.K (t E))
def JL (X : Cx) (e : Expr) (t : WL) : Prop := ∀ E, Hook X E → PE X e (liftL X.K (t E))

theorem PE.mono {X : Cx} {e : Expr} {t t' : TE} (h : PE X e t) (q : ∀ σ H Q, t' σ H Q → t σ H Q) : PE X e t' := fun pins s σ H Q I z => h pins s σ H Q I (q σ H Q z)
theorem PT.mono {X : Cx} {e : Expr} {t t' : TT} (h : PT X e t) (q : ∀ σ H Q, t' σ H Q → t σ H Q) : PT X e t' := fun pins s σ H Q I z => h pins s σ H Q I (q σ H Q z)
theorem PW.mono {X : Cx} {e : Expr} {t t' : TT} (h : PW X e t) (q : ∀ σ H Q, t' σ H Q → t σ H Q) : PW X e t' := fun wh pins s σ H Q I z => h wh pins s σ H Q I (q σ H Q z)
theorem PA.mono {X : Cx} {e : List Expr} {t t' : TA} (h : PA X e t) (q : ∀ σ H Q, t' σ H Q → t σ H Q) : PA X e t' := fun pos pins s σ H Q I z => h pos pins s σ H Q I (q σ H Q z)
theorem PS.mono {X : Cx} {e : Stmt} {t t' : TS} (h : PS X e t) (q : ∀ D σ H, t' D σ H → t D σ H) : PS X e t' := fun pins s σ H D I z => h pins s σ H D I (q D σ H z)
theorem PSs.mono {X : Cx} {e : List Stmt} {t t' : TS} (h : PSs X e t) (q : ∀ D σ H, t' D σ H → t D σ H) : PSs X e t' := fun pins s σ H D I z => h pins s σ H D I (q D σ H z)
theorem PG.mono {X : Cx} {e : Expr} {t t' : TG} (h : PG X e t) (q : ∀ v σ H Q, t' v σ H Q → t v σ H Q) : PG X e t' := fun pins s σ H v u Q I r z => h pins s σ H v u Q I r (q v σ H Q z)
theorem PI.mono {X : Cx} {tg e : Expr} {t t' : TI} (h : PI X tg e t) (q : ∀ σ H R, t' σ H R → t σ H R) : PI X tg e t' := fun pins s σ H R I z => h pins s σ H R I (q σ H R z)

def wVar (i : Nat) : WE := fun _ σ S Q => match σ[i]? with
  | some (some w) => Q w S
  | _ => False
def wC (w : W) : WE := fun _ _ S Q => Q w S
section
variable {X : Cx}
theorem jv (i : Nat) {x : Str} {pos : Pos} (hN : X.N[i]? = some x := by rfl) (hv : Vis X.env.scope x := by first | exact Or.inl rfl | exact Or.inr (Or.inl rfl) | exact Or.inr (Or.inr rfl)) (hd : (x == ("__debug__" : Str)) = false := by decide)
    (hcd : (x == ("__classdict__" : Str)) = false := by decide) : JE X (.Name x pos) (wVar i) := fun E hE => (znm hN hv hd hcd).mono fun σ H Q ⟨σW, S, QW, hσ, hS, ht, hQ⟩ => by
  unfold wVar at ht
  split at ht
  · rename_i w e
    obtain ⟨v, e', r⟩ := hσ.get e
    exact ⟨v, e', hQ w S v H .refl r hS ht⟩
  · exact ht.elim
theorem zle {e : Expr} {v : V} {w : W} (h : PE X e (tC v)) (r : ∀ K H, Rep K H w v) : JE X e (wC w) := fun E hE => h.mono fun σ H Q ⟨σW, S, QW, hσ, hS, ht, hQ⟩ => hQ w S v H .refl (r _ _) hS ht
theorem zac {i j pos} : JE X (.Constant (.int i) j pos) (wC (.int i)) := zle zrA fun _ _ => .int i
theorem zeb {b j pos} : JE X (.Constant (.bool b) j pos) (wC (.bl b)) := zle zrK fun _ _ => .bl b
theorem zdH {j pos} : JE X (.Constant .none j pos) (wC .non) := zle zrz fun _ _ => .non
theorem zjy {x j pos} : JE X (.Constant (.str x) j pos) (wC (.str x)) := zle zqM fun _ _ => .str x
theorem zhg {x : Str} {i : Int} {u : Tok} {pos : Pos} (hg : Gl X x) (hm : X.mg x = some (.int i u)) (hd : (x == ("__debug__" : Str)) = false := by decide) : JE X (.Name x pos) (wC (.int i)) := zle (v := .int i) (zoC hg hm ⟨u, rfl⟩ hd) fun _ _ => .int i
end

abbrev W2 := W → W → Sto → WK → Prop
def wOp (r : W2) (a b : WE) : WE := fun E σ S Q => a E σ S fun x S1 => b E σ S1 fun y S2 => r x y S2 Q
def OpW (K : PySem.W.Frag) (r : R2) (wr : W2) : Prop := ∀ H x y wx wy S (Q : VK) (QW : WK), Rep K H wx x → Rep K H wy y → RepS K H S → wr wx wy S QW → Wish K H S QW Q → r x y H Q
theorem Wish.from {K : PySem.W.Frag} {H H' : Hp} {S S' : Sto} {QW : WK} {Q : VK} (h : Wish K H S QW Q) (e : Ext H S H' S') : Wish K H' S' QW Q := fun w S v H'' e' r hS q => h w S v H'' (e.trans e') r hS q
theorem Goes.from {K : PySem.W.Frag} {H H' : Hp} {S S' : Sto} {P : WSt → Sto → Prop} {Q : St → Hp → Prop} (h : Goes K H S P Q) (e : Ext H S H' S') : Goes K H' S' P Q := fun σW S σ H'' e' r hS q => h σW S σ H'' (e.trans e') r hS q
theorem Meets.from {K : PySem.W.Frag} {H H' : Hp} {S S' : Sto} {DW : WEnds} {D : Ends} (h : Meets K H S DW D) (e : Ext H S H' S') : Meets K H' S' DW D := ⟨h.nx.from e, h.rt.from e, h.bk.from e, h.ct.from e⟩
section
variable {X : Cx} {a b c : Expr} {pos : Pos}
theorem zdA {K : PySem.W.Frag} {ta tb : WSt → Sto → WK → Prop} {wr : W → W → Sto → WK → Prop} {σ : St} {H : Hp} {Q : VK} {R : V → V → Hp → Prop}
    (h : lift K (fun σ S Q => ta σ S fun x S1 => tb σ S1 fun y S2 => wr x y S2 Q) σ H Q)
    (hR : ∀ H2 x y wx wy S (QW : WK), Rep K H2 wx x → Rep K H2 wy y → RepS K H2 S → wr wx wy S QW → Wish K H2 S QW Q → R x y H2) :
    lift K ta σ H fun x H1 => lift K tb σ H1 fun y H2 => R x y H2 := by
  obtain ⟨σW, S, QW, hσ, hS, ht, hQ⟩ := h
  refine ⟨σW, S, _, hσ, hS, ht, fun w1 S1 v1 H1 e1 r1 hS1 h1 => ?_⟩
  refine ⟨σW, S1, _, hσ.ext e1, hS1, h1, fun w2 S2 v2 H2 e2 r2 hS2 h2 => ?_⟩
  exact hR H2 v1 v2 w1 w2 S2 QW (r1.ext e2) r2 hS2 h2 (hQ.from (e1.trans e2))
theorem ziJ {op : Operator} {r : R2} {wr : W2} {ta tb : WE} (ho : OpR X (binaryOp op) r) (hw : OpW X.K r wr) (ha : JE X a ta) (hb : JE X b tb) : JE X (.BinOp a op b pos) (wOp wr ta tb) := fun E hE =>
  (zjx ho (ha E hE) (hb E hE)).mono fun σ H Q h => zdA h fun H2 x y wx wy S QW rx ry hS q hQ => hw H2 x y wx wy S Q QW rx ry hS q hQ
theorem zmY {op : CmpOp} {r : R2} {wr : W2} {ta tb : WE} (ho : OpR X (compareOp op) r) (hw : OpW X.K r wr) (ha : JE X a ta) (hb : JE X b tb) (hm : behindInMarks op b = false) : JE X (.Compare a [op] [b] pos) (wOp wr ta tb) := fun E hE =>
  (znS ho (ha E hE) (hb E hE) hm).mono fun σ H Q h => zdA h fun H2 x y wx wy S QW rx ry hS q hQ => hw H2 x y wx wy S Q QW rx ry hS q hQ
end
end L2
end

section
set_option Elab.async false
set_option linter.all false
set_option maxRecDepth 100000
set_option maxHeartbeats 4000000
namespace L2
open PySem PySem.Spec PyProof.Rows

def lstW (S : Sto) (a : Addr) (Q : List W → Prop) : Prop := match S a with
  | some (.lst ws) => Q ws
  | _ => False
theorem zai {S : Sto} {a : Addr} {Q : List W → Prop} {ws : List W} (h : S a = some (.lst ws)) : lstW S a Q = Q ws := by unfold lstW; rw [h]
theorem zaZ {S : Sto} {a : Addr} {Q : List W → Prop} (h : lstW S a Q) : ∃ ws, S a = some (.lst ws) ∧ Q ws := by
  unfold lstW at h
  split at h
  · exact ⟨_, ‹_›, h⟩
  · exact h.elim
def truW : W → Sto → (Bool → Sto → Prop) → Prop
  | .non, S, Q => Q false S
  | .bl b, S, Q => Q b S
  | .int i, S, Q => Q (i != 0) S
  | .str x, S, Q => x.length ≤ sizeLine ∧ Q ((x.length : Int) != 0) S
  | .tup ws, S, Q => Q (!ws.isEmpty) S
  | .ref a, S, Q => lstW S a fun ws => Q (!ws.isEmpty) S
  | .scr ns, S, Q => Q (!ns.isEmpty) S
def wTru (t : WE) : WT := fun E σ S Q => t E σ S fun w S' => truW w S' Q
def wTb (t : WE) : WT := fun E σ S Q => t E σ S fun w S' => match w with
  | .bl b => Q b S'
  | _ => False
def wAnd (t u : WT) : WT := fun E σ S Q => t E σ S fun c S1 => if c = true then u E σ S1 Q else Q false S1
def wOr (t u : WT) : WT := fun E σ S Q => t E σ S fun c S1 => if c = true then Q true S1 else u E σ S1 Q
def wNot (t : WT) : WT := fun E σ S Q => t E σ S fun c S1 => Q (!c) S1
def wAndV (t u : WE) : WE := fun E σ S Q => t E σ S fun w S1 => match w with
  | .bl true => u E σ S1 Q
  | .bl false => Q (.bl false) S1
  | _ => False
def wOrV (t u : WE) : WE := fun E σ S Q => t E σ S fun w S1 => match w with
  | .bl false => u E σ S1 Q
  | .bl true => Q (.bl true) S1
  | _ => False
def wNotV (t : WE) : WE := fun E σ S Q => t E σ S fun w S1 => match w with
  | .bl b => Q (.bl !b) S1
  | _ => False
def wIf (c : WT) (t u : WE) : WE := fun E σ S Q => c E σ S fun b S1 => if b = true then t E σ S1 Q else u E σ S1 Q
def wIfS (c : WT) (t u : WS) : WS := fun E D σ S => c E σ S fun b S1 => if b = true then t E D σ S1 else u E D σ S1
def wNext : WS := fun _ D σ S => D.nx σ S
def wSeq (t u : WS) : WS := fun E D σ S => t E { D with nx := u E D } σ S
def wRet (e : WE) : WS := fun E D σ S => e E σ S D.rt
def wRetN : WS := fun _ D _ S => D.rt .non S
def wDrop (e : WE) : WS := fun E D σ S => e E σ S fun _ S1 => D.nx σ S1
def wNever : WS := fun _ _ _ _ => False
def wGN (i : Nat) : WG := fun w σ S Q => Q (σ.set i (some w)) S
def wAsg (e : WE) (g : WG) : WS := fun E D σ S => e E σ S fun w S1 => g w σ S1 D.nx
abbrev WGs := List W → WSt → Sto → (WSt → Sto → Prop) → Prop
def wGnil : WGs := fun ws σ S Q => match ws with
  | [] => Q σ S
  | _ => False
def wGcons (g : WG) (u : WGs) : WGs := fun ws σ S Q => match ws with
  | [] => False
  | w :: r => g w σ S fun σ' S' => u r σ' S' Q
def wGT (u : WGs) : WG := fun w σ S Q => match w with
  | .tup ws => u ws σ S Q
  | _ => False
section
variable {X : Cx} {a b c e : Expr} {pos : Pos} {ta tb : WE} {tc tA tB' : WT} {st : Stmt} {rest : List Stmt} {t u : WS}
theorem znT {K : PySem.W.Frag} {H : Hp} {w : W} {v : V} {S : Sto} {QW : Bool → Sto → Prop} (r : Rep K H w v) (hS : RepS K H S) (h : truW w S QW) : ∃ k, TruV K v H k ∧ QW k S := by
  cases r with
  | non => exact ⟨false, rfl, h⟩
  | bl b => exact ⟨b, rfl, h⟩
  | int i => exact ⟨_, rfl, h⟩
  | str x => exact ⟨_, ⟨h.1, rfl⟩, h.2⟩
  | ref a =>
    obtain ⟨ws, e, h⟩ := zaZ h
    obtain ⟨vs, e1, r1⟩ := hS a _ e
    refine ⟨_, .inl ⟨vs, .of e1, rfl⟩, ?_⟩
    have q : vs.isEmpty = ws.isEmpty := by cases r1 <;> rfl
    rw [q]; exact h
  | @scr a ns f =>
    refine ⟨_, .inl ⟨_, f.sq, rfl⟩, ?_⟩
    have q : (ns.map V.int).isEmpty = ns.isEmpty := by cases ns <;> rfl
    rw [q]; exact h
  | @tup a vs ws f hs =>
    refine ⟨_, .inr (.inl ⟨vs, .of f, rfl⟩), ?_⟩
    have q : vs.isEmpty = ws.isEmpty := by cases hs <;> rfl
    rw [q]; exact h
theorem zbV (ha : JE X a ta) (he : ∀ whole, isTrue a X.env whole = (do let v ← whole; standAt a.pos; holding [v] (truthy v)) := by intro _; rfl) : JT X a (wTru ta) := fun E hE =>
  (zml (ha E hE) he).mono fun σ H Q ⟨σW, S, QW, hσ, hS, ht, hQ⟩ => ⟨σW, S, _, hσ, hS, ht, fun w S1 v H1 e1 r1 hS1 h1 => by
    obtain ⟨k, hk, q⟩ := znT r1 hS1 h1
    exact ⟨k, hk, hQ k S1 H1 e1 hS1 q⟩⟩
theorem zcJ {op : CmpOp} {r : R2} {wr : W2} (ho : OpR X (compareOp op) r) (hw : OpW X.K r wr) (ha : JE X a ta) (hb : JE X b tb) (hm : behindInMarks op b = false) : JT X (.Compare a [op] [b] pos) (wTb (wOp wr ta tb)) := fun E hE =>
  (zoA ho (ha E hE) (hb E hE) hm).mono fun σ H Q ⟨σW, S, QW, hσ, hS, ht, hQ⟩ => by
    refine zdA (Q := fun v H1 => ∃ k, v = .bl k ∧ Q k H1) ⟨σW, S, fun w S' => match w with
      | .bl b => QW b S'
      | _ => False, hσ, hS, ht, fun w S1 v H1 e1 r1 hS1 h1 => ?_⟩ fun H2 x y wx wy S QW rx ry hS q hQ => hw H2 x y wx wy S _ QW rx ry hS q hQ
    cases r1 with
    | bl k => exact ⟨k, rfl, hQ k S1 H1 e1 hS1 h1⟩
    | _ => exact h1.elim
theorem zfS (ha : JT X a tA) : JT X (.UnaryOp .Not a pos) (wNot tA) := fun E hE =>
  (zpR (ha E hE)).mono fun σ H Q ⟨σW, S, QW, hσ, hS, ht, hQ⟩ => ⟨σW, S, _, hσ, hS, ht, fun b S1 H1 e1 hS1 h1 => hQ _ S1 H1 e1 hS1 h1⟩
theorem JW.jt (h : JW X a tA) : JT X a tA := fun E hE => (h E hE).pt
theorem zeZ (ha : JT X a tA) : JW X (.BoolOp .And [a] pos) tA := fun E hE => znG (ha E hE)
theorem zge (ha : JT X a tA) : JW X (.BoolOp .Or [a] pos) tA := fun E hE => zqQ (ha E hE)
theorem zie {rest : List Expr} (ha : JT X a tA) (hb : JW X (.BoolOp .And (b :: rest) pos) tB') : JW X (.BoolOp .And (a :: b :: rest) pos) (wAnd tA tB') := fun E hE =>
  (zrD (ha E hE) (hb E hE)).mono fun σ H Q ⟨σW, S, QW, hσ, hS, ht, hQ⟩ => ⟨σW, S, _, hσ, hS, ht, fun b S1 H1 e1 hS1 h1 => by
    cases b with
    | true => exact ⟨σW, S1, _, hσ.ext e1, hS1, h1, fun b S2 H2 e2 hS2 h2 => hQ b S2 H2 (e1.trans e2) hS2 h2⟩
    | false => exact hQ _ S1 H1 e1 hS1 h1⟩
theorem zko {rest : List Expr} (ha : JT X a tA) (hb : JW X (.BoolOp .Or (b :: rest) pos) tB') : JW X (.BoolOp .Or (a :: b :: rest) pos) (wOr tA tB') := fun E hE =>
  (zsf (ha E hE) (hb E hE)).mono fun σ H Q ⟨σW, S, QW, hσ, hS, ht, hQ⟩ => ⟨σW, S, _, hσ, hS, ht, fun b S1 H1 e1 hS1 h1 => by
    cases b with
    | false => exact ⟨σW, S1, _, hσ.ext e1, hS1, h1, fun b S2 H2 e2 hS2 h2 => hQ b S2 H2 (e1.trans e2) hS2 h2⟩
    | true => exact hQ _ S1 H1 e1 hS1 h1⟩
theorem zrn {op} (h : JE X a ta) : JE X (.BoolOp op [a] pos) ta := fun E hE => zrm (h E hE)
theorem zqF {rest : List Expr} (ha : JE X a ta) (hb : JE X (.BoolOp .And (b :: rest) pos) tb) : JE X (.BoolOp .And (a :: b :: rest) pos) (wAndV ta tb) := fun E hE =>
  (zqE (ha E hE) (hb E hE)).mono fun σ H Q ⟨σW, S, QW, hσ, hS, ht, hQ⟩ => ⟨σW, S, _, hσ, hS, ht, fun w S1 v H1 e1 r1 hS1 h1 => by
    cases r1 with
    | bl k =>
      refine ⟨k, rfl, ?_⟩
      cases k with
      | true => exact ⟨σW, S1, _, hσ.ext e1, hS1, h1, hQ.from e1⟩
      | false => exact hQ _ S1 _ H1 e1 (.bl false) hS1 h1
    | _ => exact h1.elim⟩
theorem zsw (hc : JT X c tc) (ha : JE X a ta) (hb : JE X b tb) : JE X (.IfExp c a b pos) (wIf tc ta tb) := fun E hE =>
  (zmj (hc E hE) (ha E hE) (hb E hE)).mono fun σ H Q ⟨σW, S, QW, hσ, hS, ht, hQ⟩ => ⟨σW, S, _, hσ, hS, ht, fun k S1 H1 e1 hS1 h1 => by
    cases k with
    | true => exact ⟨σW, S1, _, hσ.ext e1, hS1, h1, hQ.from e1⟩
    | false => exact ⟨σW, S1, _, hσ.ext e1, hS1, h1, hQ.from e1⟩⟩

theorem zav : JSs X [] wNext := fun E hE => zpn.mono fun D σ H ⟨σW, S, DW, hσ, hS, ht, hD⟩ => hD.nx σW S σ H .refl hσ hS ht
theorem zad (h1 : JS X st t) (h2 : JSs X rest u) : JSs X (st :: rest) (wSeq t u) := fun E hE =>
  (zlW (h1 E hE) (h2 E hE)).mono fun D σ H ⟨σW, S, DW, hσ, hS, ht, hD⟩ =>
    ⟨σW, S, { DW with nx := u E DW }, hσ, hS, ht, ⟨fun σW' S' σ' H' e r hS' q => ⟨σW', S', DW, r, hS', q, hD.from e⟩, hD.rt, hD.bk, hD.ct⟩⟩
theorem zae (h1 : JS X st t) : JSs X [st] t := fun E hE => zoO (h1 E hE)
theorem ziz : JS X st wNever := fun E hE => zlV.mono fun D σ H ⟨σW, S, DW, hσ, hS, ht, hD⟩ => ht
theorem zbj (he : JE X e ta) (hs : swapsWith e none pos.line X.env = pure false := by rfl) : JS X (.Expr e pos) (wDrop ta) := fun E hE =>
  (zon (he E hE) hs).mono fun D σ H ⟨σW, S, DW, hσ, hS, ht, hD⟩ => ⟨σW, S, _, hσ, hS, ht, fun w S1 v H1 e1 r1 hS1 h1 => hD.nx σW S1 σ H1 e1 (hσ.ext e1) hS1 h1⟩
theorem zaj (he : JE X e ta) : JS X (.Return (some e) pos) (wRet ta) := fun E hE =>
  (zrv (he E hE)).mono fun D σ H ⟨σW, S, DW, hσ, hS, ht, hD⟩ => ⟨σW, S, _, hσ, hS, ht, hD.rt⟩
theorem zaR {a b : List Stmt} (hc : JT X c tc) (ha : JSs X a t) (hb : JSs X b u) : JS X (.If c a b pos) (wIfS tc t u) := fun E hE =>
  (zst (hc E hE) (ha E hE) (hb E hE)).mono fun D σ H ⟨σW, S, DW, hσ, hS, ht, hD⟩ => ⟨σW, S, _, hσ, hS, ht, fun k S1 H1 e1 hS1 h1 => by
    cases k with
    | true => exact ⟨σW, S1, DW, hσ.ext e1, hS1, h1, hD.from e1⟩
    | false => exact ⟨σW, S1, DW, hσ.ext e1, hS1, h1, hD.from e1⟩⟩
theorem zak {i : Nat} {x : Str} (hN : X.N.Nodup) (hi : X.N[i]? = some x) (hx : Loc X.env.scope x) (hf : X.fn x = true ∨ X.env.scope.names.lookup x = some .local := by first | exact .inl rfl | exact .inr rfl | assumption) : JG X (.Name x pos) (wGN i) := fun E hE =>
  (zoB hN hi hx hf).mono fun v σ H Q ⟨w, σW, S, P, r, hσ, hS, ht, hP⟩ => hP _ S _ H .refl (hσ.set r i) hS ht
def JGs (X : Cx) (tgs : List Expr) (t : WGs) : Prop := ∀ E, Hook X E → PGs X tgs (fun vs σ H Q => ∃ ws σW S P, Reps X.K H ws vs ∧ RpSt X.K H σW σ ∧ RepS X.K H S ∧ t ws σW S P ∧ Goes X.K H S P Q)
theorem zbZ : JGs X [] wGnil := fun E hE pins s σ H vs us Q I r h => by
  obtain ⟨ws, σW, S, P, rs, hσ, hS, ht, hP⟩ := h
  unfold wGnil at ht
  split at ht
  · cases rs
    exact zoU pins s σ H [] us Q I r ⟨rfl, hP σW S σ H .refl hσ hS ht⟩
  · exact ht.elim
theorem zaz {es : List Expr} {g : WG} {gs : WGs} (h1 : JG X e g) (h2 : JGs X es gs)
    (hs : (assignEach (e :: es) X.env).map (·.2) = assign e X.env :: (assignEach es X.env).map (·.2) := by rfl) : JGs X (e :: es) (wGcons g gs) := fun E hE pins s σ H vs us Q I r h => by
  obtain ⟨ws, σW, S, P, rs, hσ, hS, ht, hP⟩ := h
  unfold wGcons at ht
  split at ht
  · exact ht.elim
  · cases rs with
    | cons r1 r2 =>
      refine zmP (h1 E hE) (h2 E hE) hs pins s σ H _ us Q I r ⟨_, _, rfl, ⟨_, σW, S, _, r1, hσ, hS, ht, fun σW' S' σ' H' e' rr hS' q => ?_⟩⟩
      exact ⟨_, σW', S', P, r2.ext e', rr, hS', q, hP.from e'⟩
theorem zcK {es : List Expr} {k n : Nat} {gs : WGs} (h : JGs X es gs) (hlen : ∀ ws σ S P, gs ws σ S P → ws.length = n)
    (hn : (assignEach es X.env).length = n := by rfl) (hst : (assignEach es X.env).findIdx? (·.1) = none := by rfl) : JG X (.Tuple es k pos) (wGT gs) := fun E hE =>
  (zrG hE.calm (h E hE) hn hst).mono fun v σ H Q ⟨w, σW, S, P, r, hσ, hS, ht, hP⟩ => by
    cases r with
    | tup f hs => exact ⟨_, _, rfl, .of f, by rw [← hs.length]; exact hlen _ _ _ _ ht, ⟨_, σW, S, P, hs, hσ, hS, ht, hP⟩⟩
    | _ => exact ht.elim
theorem zqo {tg : Expr} {g : WG} (he : JE X e ta) (hg : JG X tg g) (hs : swapsWithSole [tg] e pos.line X.env = pure false := by rfl) (hw : swappedStores [tg] e X.env = pure none := by rfl)
    (h1 : (assignEach [tg] X.env).map (·.2) = [assign tg X.env] := by rfl) : JS X (.Assign [tg] e pos) (wAsg ta g) := fun E hE =>
  (zpC (he E hE) (hg E hE) hs hw h1).mono fun D σ H ⟨σW, S, DW, hσ, hS, ht, hD⟩ => ⟨σW, S, _, hσ, hS, ht, fun w S1 v H1 e1 r1 hS1 h1 => ⟨w, σW, S1, _, r1, hσ.ext e1, hS1, h1, hD.nx.from e1⟩⟩
theorem zam {i : Nat} {x : Str} {pos' : Pos} (hN : X.N.Nodup) (hi : X.N[i]? = some x) (hx : Loc X.env.scope x) (he : JE X e ta) (hs : swapsWith e (some (.Name x pos')) pos.line X.env = pure false := by rfl)
    (hf : X.fn x = true ∨ X.env.scope.names.lookup x = some .local := by first | exact .inl rfl | exact .inr rfl | assumption) : JS X (.Assign [.Name x pos'] e pos) (wAsg ta (wGN i)) := fun E hE =>
  (zqO hN hi hx (he E hE) hs hf).mono fun D σ H ⟨σW, S, DW, hσ, hS, ht, hD⟩ => ⟨σW, S, _, hσ, hS, ht, fun w S1 v H1 e1 r1 hS1 h1 => hD.nx _ S1 _ H1 e1 ((hσ.ext e1).set r1 i) hS1 h1⟩
end

def waNil : WA := fun _ _ S Q => Q [] S
def waCons (t : WE) (u : WA) : WA := fun E σ S Q => t E σ S fun w S1 => u E σ S1 fun ws S2 => Q (w :: ws) S2
def wTup (t : WA) : WE := fun E σ S Q => t E σ S fun ws S1 => ws.length ≤ sizeLine ∧ Q (.tup ws) S1
def wLst (t : WA) : WL := fun E σ S Q => t E σ S fun ws S1 => ws.length ≤ sizeLine ∧ Q ws S1
def wNew (t : WL) : WE := fun E σ S Q => t E σ S fun ws S1 => ∀ a, S1 a = none → Q (.ref a) (put S1 a (.lst ws))
section
variable {X : Cx} {e : Expr} {es : List Expr} {te : WE} {ta : WA} {tl : WL} {pos : Pos}
theorem zab : JA X [] waNil := fun E hE => zdX.mono fun σ H Q ⟨σW, S, QW, hσ, hS, ht, hQ⟩ => hQ [] S [] H .refl .nil hS ht
theorem zaa (ha : JE X e te) (hr : JA X es ta) (hs : starEach (e :: es) X.env = (false, eval e X.env) :: starEach es X.env := by rfl) : JA X (e :: es) (waCons te ta) := fun E hE =>
  (zci (ha E hE) (hr E hE) hs).mono fun σ H Q ⟨σW, S, QW, hσ, hS, ht, hQ⟩ => ⟨σW, S, _, hσ, hS, ht, fun w S1 v H1 e1 r1 hS1 h1 => ⟨σW, S1, _, hσ.ext e1, hS1, h1, fun ws S2 vs H2 e2 r2 hS2 h2 =>
    hQ (w :: ws) S2 (v :: vs) H2 (e1.trans e2) (.cons (r1.ext e2) r2) hS2 h2⟩⟩
theorem zap {x1} (h : JA X es ta) : JE X (.Tuple es x1 pos) (wTup ta) := fun E hE =>
  (zre (h E hE)).mono fun σ H Q ⟨σW, S, QW, hσ, hS, ht, hQ⟩ => ⟨σW, S, _, hσ, hS, ht, fun ws S1 vs H1 e1 r1 hS1 h1 => by
    refine ⟨by rw [← r1.length]; exact h1.1, fun p hp => hQ (.tup ws) S1 _ _ (e1.trans (.new hp)) (.tup zau (r1.ext (.new (S := S1) hp))) (hS1.new hp) h1.2⟩⟩
theorem zaP (h : JA X es ta) : JL X (.List es pos) (wLst ta) := fun E hE =>
  (zpL (h E hE)).mono fun σ H Q ⟨σW, S, QW, hσ, hS, ht, hQ⟩ => ⟨σW, S, _, hσ, hS, ht, fun ws S1 vs H1 e1 r1 hS1 h1 => by
    refine ⟨by rw [← r1.length]; exact h1.1, fun p hp => hQ ws S1 vs p _ (e1.trans (.new hp)) (e1.free hp) zau (hS1.free hp) (r1.ext (.new (S := S1) hp)) (hS1.new hp) h1.2⟩⟩
theorem zaM (h : JL X e tl) : JE X e (wNew tl) := fun E hE =>
  (h E hE).mono fun σ H Q ⟨σW, S, QW, hσ, hS, ht, hQ⟩ => ⟨σW, S, _, hσ, hS, ht, fun ws S1 vs a H1 e1 fa ea na r1 hS1 h1 => by
    refine hQ (.ref a) (put S1 a (.lst ws)) (.ref a) H1 ⟨e1.tup, e1.frz, fun b o q g => by
      have hb : b ≠ a := by rintro rfl; rw [fa] at q; cases q
      rw [zaH hb]
      exact e1.fr b o q g, e1.all⟩ (.ref a) (fun b o q => ?_) (h1 a na)
    by_cases hb : b = a
    · subst hb; rw [zaf] at q; cases q; exact ⟨vs, ea, r1⟩
    · rw [zaH hb] at q; exact hS1 b o q⟩
end

def wCall (c : WSp) (t : WA) : WE := fun E σ S Q => t E σ S fun ws S1 => c ws S1 Q fun cl S2 => E cl σ S2
def wDef (n k : Nat) (body : WS) : WSp := fun ws S Q E => ws.length = k ∧ body (fun c _ S' => E c S') { nx := fun _ S' => ∃ S'', Sub S'' S' ∧ Q .non S'', rt := fun w S' => ∃ S'', Sub S'' S' ∧ Q w S'' } (ws.map some ++ List.replicate (n - k) none) S
section
variable {X : Cx} {k : Nat} {f : Addr} {fd : FuncData} {ps : List Str} {c : WSp} {x : Str} {p pos : Pos} {e : Expr} {es : List Expr} {t : WA}
theorem zag (F : FnOk X.prog X.w X.K X.mg X.base CX0 k f fd ps (liftSp X.K c)) (hr : Room k X.A) (hg : Gl X x) (hm : X.mg x = some (.ref f)) (hk : PySem.W.keepIn X.K (.ref f) = true) (hb : Binds X.K fd ps [])
    (ha : JA X (e :: es) t) (hdb : (x == ("__debug__" : Str)) = false := by decide) (he : starEach (e :: es) X.env = (false, eval e X.env) :: starEach es X.env := by rfl) (hpl : (backTo pos (starEach es X.env)).any (·.1) = false := by rfl) :
    JE X (.Call (.Name x p) (e :: es) [] pos) (wCall c t) := fun E hE =>
  (zok (E := E0) (dvs := []) F hr hg hm hk hb .nil pass0 (ha E hE) hdb he hpl).mono fun σ H Q ⟨σW, S, QW, hσ, hS, ht, hQ⟩ => ⟨σW, S, _, hσ, hS, ht, fun ws S1 vs H1 e1 r1 hS1 h1 => by
    rw [hE.no] at h1
    refine ⟨ws, S1, QW, by rw [List.append_nil]; exact r1, hS1, h1, hQ.from e1⟩⟩
theorem zlk {K : PySem.W.Frag} {H : Hp} {N : List Str} {ws : List W} {vs : List V} (h : Reps K H ws vs) : RpSt K H (ws.map some ++ List.replicate (N.length - ws.length) none) (start N vs) := by
  have go : ∀ {ws : List W} {vs : List V} (m : Nat), Reps K H ws vs → RpSt K H (ws.map some ++ List.replicate m none) (vs.map some ++ List.replicate m none) := by
    intro ws
    induction ws with
    | nil =>
      intro vs m h
      cases h
      induction m with
      | zero => exact .nil
      | succ m ih => exact .cons trivial ih
    | cons w ws ih =>
      intro vs m h
      cases h with
      | cons r rs => exact .cons r (ih m rs)
  unfold start
  rw [← h.length]
  exact go _ h
theorem zaU {P : Program} {w : World} {K : PySem.W.Frag} {mg : Str → Option Value} {base : Heap} {x qual : Str} {st : Stmt} {f : Addr} {fd : FuncData} {N ps : List Str} {r n k : Nat} {body : WS} (F : Fun K x qual st f fd) (S : FnScope N ps (defScope st)) (hn : N.length = n) (hk : ps.length = k)
    (hbody : ∀ (cdv : Value) (A : Around) (outer : List Env) (s : Shared) (H : Hp) (E : XK), Room r (A.deeper (envOfC qual (defScope st) s.heap.objs.size f cdv)) →
      JSs (cxOf CX0 P w K mg base N qual (defScope st) f cdv A outer s H E).nox (defBody st) body) : FnOk P w K mg base CX0 (r + 1) f fd ps (liftSp K (wDef n k body)) := by
  refine F.ok S (fun vs H Q E h => ?_) fun cdv A outer s H vs Q E hr h => ?_
  · obtain ⟨ws, S, QW, rs, _, h, _⟩ := h
    rw [← rs.length, h.1, hk]
  · obtain ⟨ws, S', QW, rs, hS, h, hQ⟩ := h
    refine ⟨_, hbody cdv A outer s H E hr (fun _ _ _ => False) ⟨rfl, rfl, rfl⟩, ?_⟩
    refine ⟨_, S', { nx := fun _ S' => ∃ S'', Sub S'' S' ∧ QW .non S'', rt := fun w S' => ∃ S'', Sub S'' S' ∧ QW w S'' }, zlk (N := N) rs, hS, by rw [hn, h.1]; exact h.2, ⟨fun σW S1 σ H1 e1 rr hS1 q => ?_, fun w S1 v H1 e1 rr hS1 q => ?_, fun _ _ _ _ _ _ _ q => q, fun _ _ _ _ _ _ _ q => q⟩⟩
    · obtain ⟨S2, sb, q⟩ := q
      exact hQ .non S2 .non H1 (e1.trans (.drop sb)) .non (hS1.sub sb) q
    · obtain ⟨S2, sb, q⟩ := q
      exact hQ w S2 v H1 (e1.trans (.drop sb)) rr (hS1.sub sb) q
end
end L2
end

section
set_option Elab.async false
set_option linter.all false
set_option maxRecDepth 100000
set_option maxHeartbeats 4000000
namespace L2
open PySem PySem.Spec PyProof.Rows

def oInt (C : Int → Int → Prop) (g : Int → Int → W) : W2
  | .int i, .int j, S, Q => C i j ∧ Q (g i j) S
  | _, _, _, _ => False
def oInt0 (g : Int → Int → W) : W2
  | .int i, .int j, S, Q => Q (g i j) S
  | _, _, _, _ => False
theorem zfc {K : PySem.W.Frag} {C : Int → Int → Prop} {g : Int → Int → Int} : OpW K (rI C fun i j => .int (g i j)) (oInt C fun i j => .int (g i j)) := fun H x y wx wy S Q QW rx ry hS h hQ => by
  cases rx <;> cases ry <;> first | exact ⟨_, _, rfl, rfl, h.1, hQ _ S _ H .refl (.int _) hS h.2⟩ | exact h.elim
theorem zlD {K : PySem.W.Frag} {g : Int → Int → Int} : OpW K (rI0 fun i j => .int (g i j)) (oInt0 fun i j => .int (g i j)) := fun H x y wx wy S Q QW rx ry hS h hQ => by
  cases rx <;> cases ry <;> first | exact ⟨_, _, rfl, rfl, hQ _ S _ H .refl (.int _) hS h⟩ | exact h.elim
theorem zfy {K : PySem.W.Frag} {g : Int → Int → Bool} : OpW K (rI0 fun i j => .bl (g i j)) (oInt0 fun i j => .bl (g i j)) := fun H x y wx wy S Q QW rx ry hS h hQ => by
  cases rx <;> cases ry <;> first | exact ⟨_, _, rfl, rfl, hQ _ S _ H .refl (.bl _) hS h⟩ | exact h.elim
def oAdd : W2
  | .int i, .int j, S, Q => Q (.int (i + j)) S
  | .str x, .str y, S, Q => x.length + y.length ≤ sizeLine ∧ Q (.str (x ++ y)) S
  | .tup xs, .tup ys, S, Q => xs.length + ys.length ≤ sizeLine ∧ Q (.tup (xs ++ ys)) S
  | .ref a, .ref b, S, Q => lstW S a fun xs => lstW S b fun ys => xs.length + ys.length ≤ sizeLine ∧ ∀ p, S p = none → Q (.ref p) (put S p (.lst (xs ++ ys)))
  | _, _, _, _ => False
section
variable {X : Cx}
theorem Reps.nil_r {K : PySem.W.Frag} {H : Hp} {ws : List W} (h : Reps K H ws []) : ws = [] := by cases h; rfl
theorem zlZ : OpR X (binaryOp .Add) (fun x y H Q => ∃ a b ys, x = .ref a ∧ y = .ref b ∧ SqT X.K H a [] ∧ SqT X.K H b ys ∧ Q (.ref b) H) := by
  intro pins s σ H x y v u Q I rx ry h
  obtain ⟨a, b, ys, rfl, rfl, ha, hb, q⟩ := h
  cases rx
  cases ry
  obtain ⟨its, r1, p1, _⟩ := I.tuple ha
  obtain ⟨its2, r2, p2, _⟩ := I.tuple hb
  cases r1
  obtain ⟨⟨cls, dd, data, sl⟩, ho, hc, n, hd⟩ := id p1
  obtain ⟨⟨cls2, dd2, data2, sl2⟩, ho2, hc2, n2, hd2⟩ := id p2
  simp only at hc hd hc2 hd2
  subst hc hd hc2 hd2
  exact concat_meets ⟨_, ho, rfl⟩ ⟨_, ho2, rfl⟩ noFill_tuple_add seq_tuple_add PySem.F.slot_tuple_add PySem.F.entry_tuple_add (PySem.F.args_tuple_add_2 _ _)
      (tuple_addW0 a b _ _ n n2 dd dd2 sl sl2 (by simp)) ⟨ho, ho2, ⟨.ref b, H, I, rfl, q⟩⟩
theorem zjO : OpR X (binaryOp .Add) (fun x y H Q => (rI0 fun i j => .int (i + j)) x y H Q ∨ (∃ i j, x = .str i ∧ y = .str j ∧ i.length + j.length ≤ sizeLine ∧ Q (.str (i ++ j)) H) ∨
    (∃ a b ys, x = .ref a ∧ y = .ref b ∧ SqT X.K H a [] ∧ SqT X.K H b ys ∧ Q (.ref b) H) ∨ rCatT X.K x y H Q ∨ rCat x y H Q) := zpN.or (ziV.or (zlZ.or (znN.or zin)))
theorem zny {K : PySem.W.Frag} : OpW K (fun x y H Q => (rI0 fun i j => .int (i + j)) x y H Q ∨ (∃ i j, x = .str i ∧ y = .str j ∧ i.length + j.length ≤ sizeLine ∧ Q (.str (i ++ j)) H) ∨
    (∃ a b ys, x = .ref a ∧ y = .ref b ∧ SqT K H a [] ∧ SqT K H b ys ∧ Q (.ref b) H) ∨ rCatT K x y H Q ∨ rCat x y H Q) oAdd := fun H x y wx wy S Q QW rx ry hS h hQ => by
  cases rx with
  | int i =>
    cases ry with
    | int j => exact .inl ⟨i, j, rfl, rfl, hQ _ S _ H .refl (.int _) hS h⟩
    | _ => exact h.elim
  | str i =>
    cases ry with
    | str j => exact .inr (.inl ⟨i, j, rfl, rfl, h.1, hQ _ S _ H .refl (.str _) hS h.2⟩)
    | _ => exact h.elim
  | @tup a vs ws f hs =>
    cases ry with
    | @tup b us zs g ks =>
      cases hs with
      | nil => exact .inr (.inr (.inl ⟨a, b, us, rfl, rfl, .of f, .of g, hQ (.tup zs) S _ H .refl (.tup g ks) hS h.2⟩))
      | cons h1 h2 =>
        refine .inr (.inr (.inr (.inl ⟨a, b, _, us, rfl, rfl, .of f, .of g, by simp, ?_, fun e => ?_, fun e p hp => ?_⟩)))
        · rw [← (Reps.cons h1 h2).length, ← ks.length]; exact h.1
        · subst e
          have e' := ks.nil_r
          subst e'
          have q := h.2
          rw [List.append_nil] at q
          exact hQ _ S _ H .refl (.tup f (.cons h1 h2)) hS q
        · exact hQ _ S _ _ (.new hp) (.tup zau (((Reps.cons h1 h2).append ks).ext (.new (S := S) hp))) (hS.new hp) h.2
    | _ => exact h.elim
  | ref a =>
    cases ry with
    | ref b =>
      obtain ⟨xs, ea, h⟩ := zaZ h
      obtain ⟨ys, eb, h⟩ := zaZ h
      obtain ⟨vs, e1, r1⟩ := hS a _ ea
      obtain ⟨us, e2, r2⟩ := hS b _ eb
      refine .inr (.inr (.inr (.inr ⟨a, b, vs, us, rfl, rfl, e1, e2, by rw [← r1.length, ← r2.length]; exact h.1, fun p hp => ?_⟩)))
      exact hQ _ _ _ _ (.newS hp) (.ref p) (hS.put_lst hp ((r1.append r2).ext (.new (S := S) hp))) (h.2 p (hS.free hp))
    | _ => exact h.elim
  | _ => exact h.elim
variable {a b : Expr} {pos : Pos} {ta tb : WE}
theorem zbb (ha : JE X a ta) (hb : JE X b tb) : JE X (.BinOp a .Add b pos) (wOp oAdd ta tb) := ziJ zjO zny ha hb
theorem zgg (ha : JE X a ta) (hb : JE X b tb) : JE X (.BinOp a .Sub b pos) (wOp (oInt0 fun i j => .int (i - j)) ta tb) := ziJ zqg zlD ha hb
theorem znj (ha : JE X a ta) (hb : JE X b tb) : JE X (.BinOp a .Mult b pos) (wOp (oInt CMul fun i j => .int (i * j)) ta tb) := ziJ zqU zfc ha hb
theorem zca (ha : JE X a ta) (hb : JE X b tb) : JE X (.BinOp a .FloorDiv b pos) (wOp (oInt CDiv fun i j => .int (i / j)) ta tb) := ziJ zoM zfc ha hb
theorem zbQ (ha : JE X a ta) (hb : JE X b tb) : JE X (.BinOp a .Mod b pos) (wOp (oInt (fun _ j => 0 < j) fun i j => .int (i % j)) ta tb) := ziJ zrl zfc ha hb
theorem zpz (ha : JE X a ta) (hb : JE X b tb) : JE X (.BinOp a .Pow b pos) (wOp (oInt CPow fun i j => .int (i ^ j.toNat)) ta tb) := ziJ zpD zfc ha hb
def wNeg (t : WE) : WE := fun E σ S Q => t E σ S fun w S1 => match w with
  | .int i => Q (.int (-i)) S1
  | _ => False
theorem zeB (ha : JE X a ta) : JE X (.UnaryOp .USub a pos) (wNeg ta) := fun E hE =>
  (zsu zro (ha E hE)).mono fun σ H Q ⟨σW, S, QW, hσ, hS, ht, hQ⟩ => ⟨σW, S, _, hσ, hS, ht, fun w S1 v H1 e1 r1 hS1 h1 => by
    cases r1 with
    | int i => exact ⟨i, rfl, hQ _ S1 _ H1 e1 (.int _) hS1 h1⟩
    | _ => exact h1.elim⟩

def wCatL (t u : WE) : WL := fun E σ S Q => t E σ S fun x S1 => u E σ S1 fun y S2 => match x, y with
  | .ref a, .ref b => lstW S2 a fun xs => lstW S2 b fun ys => xs.length + ys.length ≤ sizeLine ∧ Q (xs ++ ys) S2
  | _, _ => False
end

def eqFs (f : W → W → Option Bool) : List W → List W → Option Bool
  | [], [] => some true
  | [], _ => some false
  | _, [] => some false
  | x :: xs, y :: ys => match f x y, eqFs f xs ys with
    | some a, some b => some (a && b)
    | _, _ => none
def eqF (S : Sto) : Nat → W → W → Option Bool
  | 0, _, _ => none
  | n + 1, w, u => match w, u with
    | .non, .non => some true
    | .bl a, .bl b => some (a == b)
    | .int a, .int b => some (a == b)
    | .str a, .str b => some (a == b)
    | .bl a, .int b => some ((if a then 1 else 0) == b)
    | .int a, .bl b => some (a == (if b then 1 else 0))
    | .non, .bl _ => some false
    | .non, .int _ => some false
    | .non, .str _ => some false
    | .bl _, .non => some false
    | .bl _, .str _ => some false
    | .int _, .non => some false
    | .int _, .str _ => some false
    | .str _, .non => some false
    | .str _, .bl _ => some false
    | .str _, .int _ => some false
    | .tup _, .non => some false
    | .tup _, .bl _ => some false
    | .tup _, .int _ => some false
    | .tup _, .str _ => some false
    | .non, .tup _ => some false
    | .bl _, .tup _ => some false
    | .int _, .tup _ => some false
    | .str _, .tup _ => some false
    | .tup xs, .tup ys => eqFs (eqF S n) xs ys
    | .ref a, .ref b => match S a with
      | some (.lst xs) => match S b with
        | some (.lst ys) => eqFs (eqF S n) xs ys
        | _ => none
      | _ => none
    | .ref a, .non => match S a with
      | some (.lst _) => some false
      | _ => none
    | .non, .ref a => match S a with
      | some (.lst _) => some false
      | _ => none
    | _, _ => none
theorem ziv {f : W → W → Option Bool} : ∀ {xs ys : List W} {b : Bool}, eqFs f xs ys = some b →
    (∀ j, j < xs.length → j < ys.length → ∃ c, f (xs.getD j .non) (ys.getD j .non) = some c) ∧
    ((List.range (min xs.length ys.length)).all (fun j => (f (xs.getD j .non) (ys.getD j .non)).getD true) && xs.length == ys.length) = b
  | [], [], b, h => by
    have : true = b := Option.some.inj h
    subst this
    exact ⟨fun j h => absurd h (by simp), by simp⟩
  | [], y :: ys, b, h => by
    have : false = b := Option.some.inj h
    subst this
    exact ⟨fun j h => absurd h (by simp), by simp⟩
  | x :: xs, [], b, h => by
    have : false = b := Option.some.inj h
    subst this
    exact ⟨fun j _ h => absurd h (by simp), by simp⟩
  | x :: xs, y :: ys, b, h => by
    unfold eqFs at h
    split at h
    · rename_i c d e1 e2
      have hb : (c && d) = b := Option.some.inj h
      obtain ⟨h1, h2⟩ := ziv e2
      refine ⟨fun j j1 j2 => ?_, ?_⟩
      · cases j with
        | zero => exact ⟨c, by simpa using e1⟩
        | succ j => simpa using h1 j (by simpa using j1) (by simpa using j2)
      · have hm : min (xs.length + 1) (ys.length + 1) = min xs.length ys.length + 1 := by omega
        have hl : (xs.length + 1 == ys.length + 1) = (xs.length == ys.length) := by simp
        rw [List.length_cons, List.length_cons, hm, List.range_succ_eq_map, List.all_cons, List.all_map, hl]
        have q : ((fun j => (f ((x :: xs).getD j .non) ((y :: ys).getD j .non)).getD true) ∘ Nat.succ) = fun j => (f (xs.getD j .non) (ys.getD j .non)).getD true := by
          funext j
          simp
        rw [q, Bool.and_assoc, h2]
        have q0 : (f ((x :: xs).getD 0 .non) ((y :: ys).getD 0 .non)).getD true = c := by simp [e1]
        rw [q0, hb]
    · cases h
section
variable {X : Cx} {pins : List (Addr × Obj)} {σ : St} {H : Hp} {s : Shared} {S : Sto}
theorem zeO (I : Inv X pins σ H s) : ∀ (n : Nat) {wx wy : W} {v : V} {b : Bool}, Rep X.K H wx v → Rep X.K H wy v → RepS X.K H S → eqF S n wx wy = some b → b = true
  | 0, _, _, _, _, _, _, _, h => by cases h
  | n + 1, wx, wy, v, b, rx, ry, hS, h => by
    have list : ∀ {ws us : List W} {vs : List V} {b : Bool}, Reps X.K H ws vs → Reps X.K H us vs → eqFs (eqF S n) ws us = some b → b = true := by
      intro ws
      induction ws with
      | nil =>
        intro us vs b r1 r2 e
        cases r1
        cases r2
        exact (Option.some.inj e).symm
      | cons w ws ih =>
        intro us vs b r1 r2 e
        cases r1 with
        | cons a1 a2 =>
          cases r2 with
          | cons c1 c2 =>
            unfold eqFs at e
            split at e
            · rename_i c d e1 e2
              have q1 := zeO I n a1 c1 hS e1
              have q2 := ih a2 c2 e2
              have := Option.some.inj e
              rw [q1, q2] at this
              exact this.symm
            · cases e
    cases rx with
    | non => cases ry; exact (Option.some.inj h).symm
    | bl k => cases ry; have := Option.some.inj h; simpa using this.symm
    | int k => cases ry; have := Option.some.inj h; simpa using this.symm
    | str k => cases ry; have := Option.some.inj h; simpa using this.symm
    | ref a =>
      cases ry with
      | ref _ =>
        have h' : (match S a with
          | some (.lst xs) => match S a with
            | some (.lst ys) => eqFs (eqF S n) xs ys
            | _ => none
          | _ => none) = some b := h
        cases e : S a with
        | none => rw [e] at h'; cases h'
        | some o =>
          rw [e] at h'
          cases o with
          | lst ws =>
            obtain ⟨vs, _, r⟩ := hS a _ e
            exact list r r h'
          | dct _ => cases h'
          | ins _ _ => cases h'
      | scr _ => cases h
      | tup _ _ => cases h
    | scr f => cases ry <;> cases h
    | tup f hs =>
      cases ry with
      | ref _ => cases h
      | scr _ => cases h
      | tup g ks =>
        have e := I.tuple_inj (.of f) (.of g)
        subst e
        exact list hs ks h
theorem zfT {A : Around} : A.in1.units = A.units + 1 := rfl
theorem zic (I : Inv X pins σ H s) (hS : RepS X.K H S) : ∀ (n : Nat) {A : Around} {wx wy : W} {x y : V} {u v : Value} {b : Bool}, A.units + n < cLine → Rep X.K H wx x → Rep X.K H wy y → RelV x u → RelV y v → eqF S n wx wy = some b →
    SeqAt.EqAt A s u v b ∧ SeqAt.RcAt A s u v b ∧ SeqAt.RcNeAt A s u v (!b)
  | 0, _, _, _, _, _, _, _, _, _, _, _, _, _, h => by cases h
  | n + 1, A, wx, wy, x, y, u, v, b, hu, rx, ry, ru, rv, h => by
    have hu0 : A.units < cLine := by omega
    have items : ∀ {ws zs : List W} {xs ys : List V} {us vs : List Value} {b : Bool}, Reps X.K H ws xs → Reps X.K H zs ys → Vals xs us → Vals ys vs → eqFs (eqF S n) ws zs = some b →
        (∀ j (h1 : j < us.toArray.size) (h2 : j < vs.toArray.size), SeqAt.EqAt A.in1 s us.toArray[j] vs.toArray[j] ((eqF S n (ws.getD j .non) (zs.getD j .non)).getD true)) ∧
        ((List.range (min us.toArray.size vs.toArray.size)).all (fun j => (eqF S n (ws.getD j .non) (zs.getD j .non)).getD true) && us.toArray.size == vs.toArray.size) = b := by
      intro ws zs xs ys us vs b r1 r2 q1 q2 e
      obtain ⟨h1, h2⟩ := ziv e
      have l1 := r1.length
      have l2 := r2.length
      have l3 := q1.length
      have l4 := q2.length
      refine ⟨fun j j1 j2 => ?_, ?_⟩
      · rw [List.size_toArray] at j1 j2
        obtain ⟨c, hc⟩ := h1 j (by omega) (by omega)
        have jw : j < ws.length := by omega
        have jz : j < zs.length := by omega
        obtain ⟨x', ex, rx'⟩ := r1.get (List.getElem?_eq_getElem jw)
        obtain ⟨y', ey, ry'⟩ := r2.get (List.getElem?_eq_getElem jz)
        obtain ⟨u', eu, ru'⟩ := q1.get ex
        obtain ⟨v', ev, rv'⟩ := q2.get ey
        have e1 : us.toArray[j] = u' := by
          obtain ⟨_, e⟩ := List.getElem?_eq_some_iff.mp eu
          simpa using e
        have e2 : vs.toArray[j] = v' := by
          obtain ⟨_, e⟩ := List.getElem?_eq_some_iff.mp ev
          simpa using e
        have g1 : ws.getD j .non = ws[j] := by rw [List.getD_eq_getElem?_getD, List.getElem?_eq_getElem jw]; rfl
        have g2 : zs.getD j .non = zs[j] := by rw [List.getD_eq_getElem?_getD, List.getElem?_eq_getElem jz]; rfl
        rw [e1, e2, hc]
        rw [g1, g2] at hc
        exact (zic I hS n (by rw [zfT]; omega) rx' ry' ru' rv' hc).1
      · rw [List.size_toArray, List.size_toArray, ← l3, ← l4, ← l1, ← l2]
        exact h2
    cases rx with
    | non =>
      cases (show u = Value.none from ru)
      cases ry with
      | non => cases (show v = Value.none from rv); cases h; exact ⟨.same _, .none_none, .none_none⟩
      | bl k => cases (show v = Value.bool k from rv); cases h; exact ⟨.none_bool _, .none_bool _, .none_bool _⟩
      | int k => obtain ⟨t, rfl⟩ := rv; cases h; exact ⟨.none_int _ _, .none_int _ _, .none_int _ _⟩
      | str k => obtain ⟨t, rfl⟩ := rv; cases h; exact ⟨.none_str _ _, .none_str _ _, .none_str _ _⟩
      | tup f hs => cases (show v = Value.ref _ from rv); cases h; obtain ⟨its, _, p, _⟩ := I.tuple (.of f); exact ⟨.none_tuple p hu0, .none_tuple p hu0, .none_tuple p hu0⟩
      | ref a =>
        cases (show v = Value.ref _ from rv)
        have h' : (match S a with
          | some (.lst _) => some false
          | _ => none) = some b := h
        cases e : S a with
        | none => rw [e] at h'; cases h'
        | some o =>
          rw [e] at h'
          cases o with
          | lst ws =>
            cases h'
            obtain ⟨vs, f, _⟩ := hS a _ e
            obtain ⟨its, _, p, _⟩ := I.list (.of f)
            exact ⟨.none_list p.isList hu0, .none_list p.isList hu0, .none_list p.isList hu0⟩
          | dct _ => cases h'
          | ins _ _ => cases h'
      | scr _ => cases h
    | bl k =>
      cases (show u = Value.bool k from ru)
      cases ry with
      | non => cases (show v = Value.none from rv); cases h; exact ⟨.bool_none _, .bool_none _, .bool_none _⟩
      | bl j => cases (show v = Value.bool j from rv); cases h; exact ⟨.bool_bool _ _, .bool_bool _ _, .bool_bool _ _⟩
      | int j => obtain ⟨t, rfl⟩ := rv; cases h; exact ⟨.bool_int _ _ _, .bool_int _ _ _, .bool_int _ _ _⟩
      | str j => obtain ⟨t, rfl⟩ := rv; cases h; exact ⟨.bool_str _ _ _, .bool_str _ _ _, .bool_str _ _ _⟩
      | tup f hs => cases (show v = Value.ref _ from rv); cases h; obtain ⟨its, _, p, _⟩ := I.tuple (.of f); exact ⟨.bool_tuple _ p hu0, .bool_tuple _ p hu0, .bool_tuple _ p hu0⟩
      | ref a => cases h
      | scr _ => cases h
    | int k =>
      obtain ⟨t0, rfl⟩ := ru
      cases ry with
      | non => cases (show v = Value.none from rv); cases h; exact ⟨.int_none _ _, .int_none _ _, .int_none _ _⟩
      | bl j => cases (show v = Value.bool j from rv); cases h; exact ⟨.int_bool _ _ _, .int_bool _ _ _, .int_bool _ _ _⟩
      | int j => obtain ⟨t, rfl⟩ := rv; cases h; exact ⟨.int_int _ _ _ _, .int_int _ _ _ _, .int_int _ _ _ _⟩
      | str j => obtain ⟨t, rfl⟩ := rv; cases h; exact ⟨.int_str _ _ _ _, .int_str _ _ _ _, .int_str _ _ _ _⟩
      | tup f hs => cases (show v = Value.ref _ from rv); cases h; obtain ⟨its, _, p, _⟩ := I.tuple (.of f); exact ⟨.int_tuple _ _ p hu0, .int_tuple _ _ p hu0, .int_tuple _ _ p hu0⟩
      | ref a => cases h
      | scr _ => cases h
    | str k =>
      obtain ⟨t0, rfl⟩ := ru
      cases ry with
      | non => cases (show v = Value.none from rv); cases h; exact ⟨.str_none _ _, .str_none _ _, .str_none _ _⟩
      | bl j => cases (show v = Value.bool j from rv); cases h; exact ⟨.str_bool _ _ _, .str_bool _ _ _, .str_bool _ _ _⟩
      | int j => obtain ⟨t, rfl⟩ := rv; cases h; exact ⟨.str_int _ _ _ _, .str_int _ _ _ _, .str_int _ _ _ _⟩
      | str j => obtain ⟨t, rfl⟩ := rv; cases h; exact ⟨.str_str _ _ _ _, .str_str _ _ _ _, .str_str _ _ _ _⟩
      | tup f hs => cases (show v = Value.ref _ from rv); cases h; obtain ⟨its, _, p, _⟩ := I.tuple (.of f); exact ⟨.str_tuple _ _ p hu0, .str_tuple _ _ p hu0, .str_tuple _ _ p hu0⟩
      | ref a => cases h
      | scr _ => cases h
    | @tup a xs ws f hs =>
      cases (show u = Value.ref a from ru)
      obtain ⟨its, q1, p, _⟩ := I.tuple (.of f)
      cases ry with
      | non => cases (show v = Value.none from rv); cases h; exact ⟨.tuple_none p hu0, .tuple_none p hu0, .tuple_none p hu0⟩
      | bl j => cases (show v = Value.bool j from rv); cases h; exact ⟨.tuple_bool _ p hu0, .tuple_bool _ p hu0, .tuple_bool _ p hu0⟩
      | int j => obtain ⟨t, rfl⟩ := rv; cases h; exact ⟨.tuple_int _ _ p hu0, .tuple_int _ _ p hu0, .tuple_int _ _ p hu0⟩
      | str j => obtain ⟨t, rfl⟩ := rv; cases h; exact ⟨.tuple_str _ _ p hu0, .tuple_str _ _ p hu0, .tuple_str _ _ p hu0⟩
      | @tup c ys zs g ks =>
        cases (show v = Value.ref c from rv)
        obtain ⟨its2, q2, p2, _⟩ := I.tuple (.of g)
        obtain ⟨h1, h2⟩ := items hs ks q1 q2 h
        have rc : SeqAt.RcAt A s (.ref a) (.ref c) b := by
          have := SeqAt.RcAt.tuples p p2 hu0 h1
          rw [h2] at this
          exact this
        have rn : SeqAt.RcNeAt A s (.ref a) (.ref c) (!b) := by
          have := SeqAt.RcNeAt.tuples p p2 hu0 h1
          rw [h2] at this
          exact this
        refine ⟨?_, rc, rn⟩
        by_cases e : a = c
        · subst e
          have := zeO I (n + 1) (.tup f hs) (.tup g ks) hS h
          rw [this]
          exact .same _
        · exact .of_refs e rc
      | ref c => cases h
      | scr _ => cases h
    | ref a =>
      cases (show u = Value.ref a from ru)
      cases ry with
      | non =>
        cases (show v = Value.none from rv)
        have h' : (match S a with
          | some (.lst _) => some false
          | _ => none) = some b := h
        cases e : S a with
        | none => rw [e] at h'; cases h'
        | some o =>
          rw [e] at h'
          cases o with
          | lst ws =>
            cases h'
            obtain ⟨vs, f, _⟩ := hS a _ e
            obtain ⟨its, _, p, _⟩ := I.list (.of f)
            exact ⟨.list_none p.isList hu0, .list_none p.isList hu0, .list_none p.isList hu0⟩
          | dct _ => cases h'
          | ins _ _ => cases h'
      | ref c =>
        cases (show v = Value.ref c from rv)
        have h' : (match S a with
          | some (.lst xs) => match S c with
            | some (.lst ys) => eqFs (eqF S n) xs ys
            | _ => none
          | _ => none) = some b := h
        cases e : S a with
        | none => rw [e] at h'; cases h'
        | some o =>
          rw [e] at h'
          cases o with
          | dct _ => cases h'
          | ins _ _ => cases h'
          | lst ws =>
            cases e2 : S c with
            | none => rw [e2] at h'; cases h'
            | some o2 =>
              rw [e2] at h'
              cases o2 with
              | dct _ => cases h'
              | ins _ _ => cases h'
              | lst zs =>
                obtain ⟨xs, f, hs⟩ := hS a _ e
                obtain ⟨ys, g, ks⟩ := hS c _ e2
                obtain ⟨its, q1, p, _⟩ := I.list (.of f)
                obtain ⟨its2, q2, p2, _⟩ := I.list (.of g)
                obtain ⟨h1, h2⟩ := items hs ks q1 q2 h'
                have both : SeqAt.RcAt A s (.ref a) (.ref c) b ∧ SeqAt.RcNeAt A s (.ref a) (.ref c) (!b) := by
                  by_cases hz : its.toArray.size = its2.toArray.size
                  · have t1 := SeqAt.RcAt.lists p.isList p2.isList hz hu0 h1
                    have t2 := SeqAt.RcNeAt.lists p.isList p2.isList hz hu0 h1
                    rw [← hz, Nat.min_self, beq_self_eq_true, Bool.and_true] at h2
                    rw [h2] at t1 t2
                    exact ⟨t1, t2⟩
                  · have hz' : (its.toArray.size != its2.toArray.size) = true := by simpa using hz
                    have hz2 : (its.toArray.size == its2.toArray.size) = false := by simpa using hz
                    rw [hz2, Bool.and_false] at h2
                    subst h2
                    exact ⟨.lists_lengths p.isList p2.isList hz' hu0, .lists_lengths p.isList p2.isList hz' hu0⟩
                refine ⟨?_, both.1, both.2⟩
                by_cases ee : a = c
                · subst ee
                  have := zeO I (n + 1) (.ref a) (.ref a) hS h
                  rw [this]
                  exact .same _
                · exact .of_refs ee both.1
      | _ => cases h
    | scr f => cases ry <;> cases h
end
end L2
end

section
set_option Elab.async false
set_option linter.all false
set_option maxRecDepth 100000
set_option maxHeartbeats 4000000
namespace L2
open PySem PySem.Spec PyProof.Rows

def oEq (neg : Bool) : W2 := fun x y S Q => match eqF S 60 x y with
  | some b => Q (.bl (if neg then !b else b)) S
  | none => False
def rEqW (K : PySem.W.Frag) (neg : Bool) : R2 := fun x y H Q => ∃ wx wy S b, Rep K H wx x ∧ Rep K H wy y ∧ RepS K H S ∧ eqF S 60 wx wy = some b ∧ Q (.bl (if neg then !b else b)) H
section
variable {X : Cx}
theorem znn (hu : X.A.units + 60 < cLine) : OpR X (compareOp .Eq) (rEqW X.K false) := by
  intro pins s σ H x y v u Q I rx ry h
  obtain ⟨wx, wy, S, b, r1, r2, hS, e, q⟩ := h
  exact (zic I hS 60 hu r1 r2 rx ry e).2.1 _ _ _ _ ⟨.bl b, H, I, rfl, q⟩
theorem zpt (hu : X.A.units + 60 < cLine) : OpR X (compareOp .NotEq) (rEqW X.K true) := by
  intro pins s σ H x y v u Q I rx ry h
  obtain ⟨wx, wy, S, b, r1, r2, hS, e, q⟩ := h
  exact (zic I hS 60 hu r1 r2 rx ry e).2.2 _ _ _ _ ⟨.bl (!b), H, I, rfl, q⟩
theorem zjF {K : PySem.W.Frag} {neg : Bool} : OpW K (rEqW K neg) (oEq neg) := fun H x y wx wy S Q QW rx ry hS h hQ => by
  unfold oEq at h
  split at h
  · rename_i b e
    exact ⟨wx, wy, S, b, rx, ry, hS, e, hQ _ S _ H .refl (.bl _) hS h⟩
  · exact h.elim
variable {a b c : Expr} {pos : Pos} {ta tb tc : WE}
theorem zmb {k : Nat} (hr : Room k X.A) (ha : JE X a ta) (hb : JE X b tb) : JE X (.Compare a [.Eq] [b] pos) (wOp (oEq false) ta tb) := zmY (znn (by have := hr.units; omega)) zjF ha hb (nomark b)
theorem zcI {k : Nat} (hr : Room k X.A) (ha : JE X a ta) (hb : JE X b tb) : JT X (.Compare a [.Eq] [b] pos) (wTb (wOp (oEq false) ta tb)) := zcJ (znn (by have := hr.units; omega)) zjF ha hb (nomark b)
theorem zoG {k : Nat} (hr : Room k X.A) (ha : JE X a ta) (hb : JE X b tb) : JT X (.Compare a [.NotEq] [b] pos) (wTb (wOp (oEq true) ta tb)) := zcJ (zpt (by have := hr.units; omega)) zjF ha hb (nomark b)

abbrev oLt : W2 := oInt0 fun i j => .bl (decide (i < j))
abbrev oGt : W2 := oInt0 fun i j => .bl (decide (j < i))
abbrev oGe : W2 := oInt0 fun i j => .bl (decide (j ≤ i))
def oLe : W2
  | .int i, .int j, S, Q => Q (.bl (decide (i ≤ j))) S
  | .str i, .str j, S, Q => Q (.bl (!decide (j.cps.toList < i.cps.toList))) S
  | _, _, _, _ => False
theorem zmH (ha : JE X a ta) (hb : JE X b tb) : JT X (.Compare a [.Lt] [b] pos) (wTb (wOp oLt ta tb)) := zcJ zsr zfy ha hb (nomark b)
theorem ziT (ha : JE X a ta) (hb : JE X b tb) : JT X (.Compare a [.Gt] [b] pos) (wTb (wOp oGt ta tb)) := zcJ zrT zfy ha hb (nomark b)
theorem zsD (ha : JE X a ta) (hb : JE X b tb) : JT X (.Compare a [.GtE] [b] pos) (wTb (wOp oGe ta tb)) := zcJ zrr zfy ha hb (nomark b)
def wChain (r r' : W2) (a b c : WE) : WE := fun E σ S Q => a E σ S fun x S1 => b E σ S1 fun y S2 => r x y S2 fun z S3 => match z with
  | .bl true => c E σ S3 fun u S4 => r' y u S4 Q
  | .bl false => Q (.bl false) S3
  | _ => False

def oIs (neg : Bool) : W2
  | .non, .non, S, Q => Q (.bl (!neg)) S
  | .bl a, .bl b, S, Q => Q (.bl (if neg then a != b else a == b)) S
  | .bl _, .non, S, Q => Q (.bl neg) S
  | .int _, .non, S, Q => Q (.bl neg) S
  | .str _, .non, S, Q => Q (.bl neg) S
  | .tup _, .non, S, Q => Q (.bl neg) S
  | .ref _, .non, S, Q => Q (.bl neg) S
  | _, _, _, _ => False
theorem zpP : OpR X (compareOp .Is) (fun x y H Q => (y = .non ∧ Q (.bl (decide (x = .non))) H) ∨ ∃ a b, x = .bl a ∧ y = .bl b ∧ Q (.bl (a == b)) H) := zqr.or (by
  intro pins s σ H x y v u Q I rx ry h
  obtain ⟨a, b, rfl, rfl, q⟩ := h
  cases rx; cases ry
  exact is_bool ⟨.bl _, H, I, rfl, q⟩)
theorem zjr : OpR X (compareOp .IsNot) (fun x y H Q => (y = .non ∧ Q (.bl (!decide (x = .non))) H) ∨ ∃ a b, x = .bl a ∧ y = .bl b ∧ Q (.bl (a != b)) H) := znY.or (by
  intro pins s σ H x y v u Q I rx ry h
  obtain ⟨a, b, rfl, rfl, q⟩ := h
  cases rx; cases ry
  exact isnot_bool ⟨.bl _, H, I, rfl, q⟩)
theorem zps {K : PySem.W.Frag} : OpW K (fun x y H Q => (y = .non ∧ Q (.bl (decide (x = .non))) H) ∨ ∃ a b, x = .bl a ∧ y = .bl b ∧ Q (.bl (a == b)) H) (oIs false) := fun H x y wx wy S Q QW rx ry hS h hQ => by
  cases ry with
  | non => cases rx <;> first | exact .inl ⟨rfl, by simpa using hQ _ S _ H .refl (.bl _) hS h⟩ | exact h.elim
  | bl b =>
    cases rx with
    | bl a => exact .inr ⟨a, b, rfl, rfl, hQ _ S _ H .refl (.bl _) hS h⟩
    | _ => exact h.elim
  | _ => cases rx <;> exact h.elim
theorem zjU {K : PySem.W.Frag} : OpW K (fun x y H Q => (y = .non ∧ Q (.bl (!decide (x = .non))) H) ∨ ∃ a b, x = .bl a ∧ y = .bl b ∧ Q (.bl (a != b)) H) (oIs true) := fun H x y wx wy S Q QW rx ry hS h hQ => by
  cases ry with
  | non => cases rx <;> first | exact .inl ⟨rfl, by simpa using hQ _ S _ H .refl (.bl _) hS h⟩ | exact h.elim
  | bl b =>
    cases rx with
    | bl a => exact .inr ⟨a, b, rfl, rfl, hQ _ S _ H .refl (.bl _) hS h⟩
    | _ => exact h.elim
  | _ => cases rx <;> exact h.elim
theorem zsy (ha : JE X a ta) (hb : JE X b tb) : JT X (.Compare a [.Is] [b] pos) (wTb (wOp (oIs false) ta tb)) := zcJ zpP zps ha hb (nomark b)
theorem zfp (ha : JE X a ta) (hb : JE X b tb) : JT X (.Compare a [.IsNot] [b] pos) (wTb (wOp (oIs true) ta tb)) := zcJ zjr zjU ha hb (nomark b)
end

def inF (S : Sto) (x : W) : List W → Option Bool
  | [] => some false
  | w :: ws => match eqF S 59 w x with
    | some a => match inF S x ws with
      | some b => some (a || b)
      | none => none
    | none => none
section
variable {X : Cx} {pins : List (Addr × Obj)} {σ : St} {H : Hp} {s : Shared} {S : Sto}
theorem zgU (I : Inv X pins σ H s) (hS : RepS X.K H S) : ∀ (n : Nat) {w w' u : W} {v : V} {b b' : Bool}, Rep X.K H w v → Rep X.K H w' v → eqF S n w u = some b → eqF S n w' u = some b' → b = b'
  | 0, _, _, _, _, _, _, _, _, h, _ => by cases h
  | n + 1, w, w', u, v, b, b', r, r', h, h' => by
    have list : ∀ {us ws zs : List W} {vs : List V} {b b' : Bool}, Reps X.K H ws vs → Reps X.K H zs vs → eqFs (eqF S n) ws us = some b → eqFs (eqF S n) zs us = some b' → b = b' := by
      intro us
      induction us with
      | nil =>
        intro ws zs vs b b' r1 r2 e1 e2
        cases r1 with
        | nil => cases r2; rw [e1] at e2; exact Option.some.inj e2
        | cons _ _ => cases r2 with
          | cons _ _ => have := Option.some.inj e1; have := Option.some.inj e2; subst_vars; rfl
      | cons u us ih =>
        intro ws zs vs b b' r1 r2 e1 e2
        cases r1 with
        | nil => cases r2; rw [e1] at e2; exact Option.some.inj e2
        | cons a1 a2 =>
          cases r2 with
          | cons c1 c2 =>
            unfold eqFs at e1 e2
            split at e1
            · rename_i p q f1 f2
              split at e2
              · rename_i p' q' g1 g2
                have h1 := zgU I hS n a1 c1 f1 g1
                have h2 := ih a2 c2 f2 g2
                rw [← Option.some.inj e1, ← Option.some.inj e2, h1, h2]
              · cases e2
            · cases e1
    have nolist : ∀ {a : Addr} {vs : List V} {ws : List W}, H a = some (.tup vs) → S a = some (.lst ws) → False := fun f e => by
      obtain ⟨_, g, _⟩ := hS _ _ e
      rw [f] at g; cases g
    cases r with
    | non => cases r'; rw [h] at h'; exact Option.some.inj h'
    | bl k => cases r'; rw [h] at h'; exact Option.some.inj h'
    | int k => cases r'; rw [h] at h'; exact Option.some.inj h'
    | str k => cases r'; rw [h] at h'; exact Option.some.inj h'
    | scr f => cases u <;> cases h
    | @tup a vs ws f hs =>
      cases r' with
      | @tup _ us zs g ks =>
        rw [f] at g; cases g
        cases u with
        | tup us => exact list hs ks h h'
        | ref _ => cases h
        | scr _ => cases h
        | _ => have := Option.some.inj h; have := Option.some.inj h'; subst_vars; rfl
      | scr _ => cases u <;> cases h'
      | ref _ =>
        exfalso
        cases u with
        | non =>
          have h2 : (match S a with
            | some (.lst _) => some false
            | _ => none) = some b' := h'
          split at h2
          · exact nolist f ‹_›
          · cases h2
        | ref c =>
          have h2 : (match S a with
            | some (.lst xs) => match S c with
              | some (.lst ys) => eqFs (eqF S n) xs ys
              | _ => none
            | _ => none) = some b' := h'
          split at h2
          · exact nolist f ‹_›
          · cases h2
        | _ => cases h'
    | ref a =>
      cases r' with
      | ref _ => rw [h] at h'; exact Option.some.inj h'
      | scr _ => cases u <;> cases h'
      | tup f hs =>
        exfalso
        cases u with
        | non =>
          have h2 : (match S a with
            | some (.lst _) => some false
            | _ => none) = some b := h
          split at h2
          · exact nolist f ‹_›
          · cases h2
        | ref c =>
          have h2 : (match S a with
            | some (.lst xs) => match S c with
              | some (.lst ys) => eqFs (eqF S n) xs ys
              | _ => none
            | _ => none) = some b := h
          split at h2
          · exact nolist f ‹_›
          · cases h2
        | _ => cases h
open Classical in
theorem zhD (I : Inv X pins σ H s) (hS : RepS X.K H S) {A : Around} {ws : List W} {vs : List V} {us : List Value} {wx : W} {x : V} {u : Value} {b : Bool} (hu : A.units + 60 < cLine) (r : Reps X.K H ws vs) (rv : Vals vs us) (rx : Rep X.K H wx x) (ru : RelV x u) (h : inF S wx ws = some b) :
    ∃ e : Value → Bool, (∀ y, y ∈ us.toArray → SeqAt.EqAt A.in1 s y u (e y)) ∧ us.toArray.any e = b := by
  refine ⟨fun y => decide (∃ w v, Rep X.K H w v ∧ RelV v y ∧ eqF S 59 w wx = some true), ?_, ?_⟩
  · have go : ∀ {ws : List W} {vs : List V} {us : List Value} {b : Bool}, Reps X.K H ws vs → Vals vs us → inF S wx ws = some b → ∀ y ∈ us, SeqAt.EqAt A.in1 s y u (decide (∃ w v, Rep X.K H w v ∧ RelV v y ∧ eqF S 59 w wx = some true)) := by
      intro ws
      induction ws with
      | nil => intro vs us b r rv h y hy; cases r; cases rv; cases hy
      | cons w ws ih =>
        intro vs us b r rv h y hy
        cases r with
        | cons r1 r2 =>
          cases rv with
          | cons q1 q2 =>
            unfold inF at h
            split at h
            · rename_i c e1
              split at h
              · rename_i d e2
                rcases List.mem_cons.mp hy with rfl | hy
                · have ok := (zic I hS 59 (A := A.in1) (by rw [zfT]; omega) r1 rx q1 ru e1).1
                  have ec : c = decide (∃ w v, Rep X.K H w v ∧ RelV v y ∧ eqF S 59 w wx = some true) := by
                    cases c with
                    | true => exact (decide_eq_true ⟨w, _, r1, q1, e1⟩).symm
                    | false =>
                      symm
                      refine decide_eq_false fun ⟨w', v', r', q', e'⟩ => ?_
                      have := RelV.inj q' q1
                      subst this
                      exact absurd (zgU I hS 59 r1 r' e1 e') (by simp)
                  rw [← ec]; exact ok
                · exact ih r2 q2 e2 y hy
              · cases h
            · cases h
    intro y hy
    exact go r rv h y (by simpa using hy)
  · have go : ∀ {ws : List W} {vs : List V} {us : List Value} {b : Bool}, Reps X.K H ws vs → Vals vs us → inF S wx ws = some b → us.any (fun y => decide (∃ w v, Rep X.K H w v ∧ RelV v y ∧ eqF S 59 w wx = some true)) = b := by
      intro ws
      induction ws with
      | nil => intro vs us b r rv h; cases r; cases rv; exact Option.some.inj h
      | cons w ws ih =>
        intro vs us b r rv h
        cases r with
        | cons r1 r2 =>
          cases rv with
          | @cons _ _ _ _ q1 q2 =>
            rename_i y _
            unfold inF at h
            split at h
            · rename_i c e1
              split at h
              · rename_i d e2
                have ec : decide (∃ w v, Rep X.K H w v ∧ RelV v y ∧ eqF S 59 w wx = some true) = c := by
                    cases c with
                    | true => exact decide_eq_true ⟨w, _, r1, q1, e1⟩
                    | false =>
                      refine decide_eq_false fun ⟨w', v', r', q', e'⟩ => ?_
                      have := RelV.inj q' q1
                      subst this
                      exact absurd (zgU I hS 59 r1 r' e1 e') (by simp)
                rw [List.any_cons, ih r2 q2 e2, ec]
                exact Option.some.inj h
              · cases h
            · cases h
    have := go r rv h
    simpa using this
end
def oIn (neg : Bool) : W2 := fun x y S Q => match y with
  | .str j => match x with
    | .str i => Q (.bl (if neg then !(!(Builtin.Str.occurrences j i 0 j.length 1).isEmpty) else !(Builtin.Str.occurrences j i 0 j.length 1).isEmpty)) S
    | _ => False
  | .tup ws => match inF S x ws with
    | some b => Q (.bl (if neg then !b else b)) S
    | none => False
  | .ref a => lstW S a fun ws => match inF S x ws with
    | some b => Q (.bl (if neg then !b else b)) S
    | none => False
  | _ => False
def rInW (K : PySem.W.Frag) (neg : Bool) : R2 := fun x y H Q => ∃ wx ws vs S p b, y = .ref p ∧ (SqL K H p vs ∨ SqT K H p vs) ∧ Reps K H ws vs ∧ Rep K H wx x ∧ RepS K H S ∧ inF S wx ws = some b ∧ Q (.bl (if neg then !b else b)) H
section
variable {X : Cx} {a b c : Expr} {pos : Pos} {ta tb tc : WE}
theorem zqj (hu : X.A.units + 60 < cLine) : OpR X (compareOp .In) (rInW X.K false) := by
  intro pins s σ H x y v u Q I rx ry h
  obtain ⟨wx, ws, vs, S, p, b, rfl, hq, rs, r, hS, e, q⟩ := h
  cases ry
  rcases hq with hq | hq
  · obtain ⟨its, rv, p, _⟩ := I.list hq
    obtain ⟨f, h1, h2⟩ := zhD I hS hu rs rv r rx e
    exact SeqAt.in_listAt f p.isList h1 (by rw [h2]; exact ⟨.bl b, H, I, rfl, q⟩)
  · obtain ⟨its, rv, p, _⟩ := I.tuple hq
    obtain ⟨f, h1, h2⟩ := zhD I hS hu rs rv r rx e
    exact SeqAt.in_tupleAt f p h1 (by rw [h2]; exact ⟨.bl b, H, I, rfl, q⟩)
theorem zly (hu : X.A.units + 60 < cLine) : OpR X (compareOp .NotIn) (rInW X.K true) := by
  intro pins s σ H x y v u Q I rx ry h
  obtain ⟨wx, ws, vs, S, p, b, rfl, hq, rs, r, hS, e, q⟩ := h
  cases ry
  rcases hq with hq | hq
  · obtain ⟨its, rv, p, _⟩ := I.list hq
    obtain ⟨f, h1, h2⟩ := zhD I hS hu rs rv r rx e
    exact SeqAt.notIn_listAt f p.isList h1 (by rw [h2]; exact ⟨.bl (!b), H, I, rfl, q⟩)
  · obtain ⟨its, rv, p, _⟩ := I.tuple hq
    obtain ⟨f, h1, h2⟩ := zhD I hS hu rs rv r rx e
    exact SeqAt.notIn_tupleAt f p h1 (by rw [h2]; exact ⟨.bl (!b), H, I, rfl, q⟩)
theorem zeH {K : PySem.W.Frag} {neg : Bool} {H : Hp} {x y : V} {wx wy : W} {S : Sto} {Q : VK} {QW : WK} (rx : Rep K H wx x) (ry : Rep K H wy y) (hS : RepS K H S) (h : oIn neg wx wy S QW) (hQ : Wish K H S QW Q) :
    (∃ i j, x = .str i ∧ y = .str j ∧ Q (.bl (if neg then !(!(Builtin.Str.occurrences j i 0 j.length 1).isEmpty) else !(Builtin.Str.occurrences j i 0 j.length 1).isEmpty)) H) ∨ rInW K neg x y H Q := by
  cases ry with
  | str j =>
    cases rx with
    | str i => exact .inl ⟨i, j, rfl, rfl, hQ _ S _ H .refl (.bl _) hS h⟩
    | _ => exact h.elim
  | tup f hs =>
    refine .inr ?_
    unfold oIn at h
    dsimp only at h
    split at h
    · exact ⟨wx, _, _, S, _, _, rfl, .inr (.of f), hs, rx, hS, ‹_›, hQ _ S _ H .refl (.bl _) hS h⟩
    · exact h.elim
  | ref a =>
    refine .inr ?_
    obtain ⟨ws, e, h⟩ := zaZ h
    obtain ⟨vs, f, hs⟩ := hS a _ e
    split at h
    · exact ⟨wx, _, _, S, _, _, rfl, .inl (.of f), hs, rx, hS, ‹_›, hQ _ S _ H .refl (.bl _) hS h⟩
    · exact h.elim
  | _ => exact h.elim
theorem zrQ {k : Nat} (hr : Room k X.A) (ha : JE X a ta) (hb : JE X b tb) (hm : behindInMarks .In b = false := by with_unfolding_all rfl) : JE X (.Compare a [.In] [b] pos) (wOp (oIn false) ta tb) :=
  zmY (zjV.or (zqj (by have := hr.units; omega))) (fun H x y wx wy S Q QW rx ry hS h hQ => zeH rx ry hS h hQ) ha hb hm
theorem ziC {k : Nat} (hr : Room k X.A) (ha : JE X a ta) (hb : JE X b tb) (hm : behindInMarks .NotIn b = false := by with_unfolding_all rfl) : JT X (.Compare a [.NotIn] [b] pos) (wTb (wOp (oIn true) ta tb)) :=
  zcJ (zfL.or (zly (by have := hr.units; omega))) (fun H x y wx wy S Q QW rx ry hS h hQ => zeH rx ry hS h hQ) ha hb hm
end
end L2
end

section
set_option Elab.async false
set_option linter.all false
set_option maxRecDepth 100000
set_option maxHeartbeats 4000000
namespace L2
open PySem PySem.Spec PyProof.Rows

def oIx : W2 := fun x y S Q => match y with
  | .int i => match x with
    | .tup ws => match atI ws i with
      | some w => Q w S
      | none => False
    | .ref a => lstW S a fun ws => match atI ws i with
      | some w => Q w S
      | none => False
    | .scr ns => match atI ns i with
      | some n => Q (.int n) S
      | none => False
    | .str x => x.length ≤ sizeLine ∧ match atI x.cps.toList i with
      | some c => Q (.str ⟨#[c]⟩) S
      | none => False
    | _ => False
  | _ => False
theorem zht {K : PySem.W.Frag} {H : Hp} {ws : List W} {vs : List V} {i : Int} {w : W} (r : Reps K H ws vs) (e : atI ws i = some w) : ∃ v, atI vs i = some v ∧ Rep K H w v := by
  unfold atI at e ⊢
  rw [← r.length]
  cases q : ixN ws.length i with
  | none => rw [q] at e; cases e
  | some j => rw [q] at e; exact r.get e
theorem zoX {α β : Type} {f : α → β} {xs : List α} {i : Int} {x : α} (e : atI xs i = some x) : atI (xs.map f) i = some (f x) := by
  unfold atI at e ⊢
  rw [List.length_map]
  cases q : ixN xs.length i with
  | none => rw [q] at e; cases e
  | some j =>
    rw [q] at e
    show (xs.map f)[j]? = _
    rw [List.getElem?_map, show xs[j]? = some x from e]; rfl
theorem zqx {K : PySem.W.Frag} : OpW K (rIx K) oIx := fun H x y wx wy S Q QW rx ry hS h hQ => by
  cases ry with
  | int i =>
    cases rx with
    | tup f hs =>
      unfold oIx at h
      dsimp only at h
      split at h
      · obtain ⟨v, ev, r⟩ := zht hs ‹_›
        exact .inr (.inl ⟨_, _, i, v, rfl, rfl, .of f, ev, hQ _ S _ H .refl r hS h⟩)
      · exact h.elim
    | ref a =>
      obtain ⟨ws, e, h⟩ := zaZ h
      obtain ⟨vs, f, hs⟩ := hS a _ e
      split at h
      · obtain ⟨v, ev, r⟩ := zht hs ‹_›
        exact .inl ⟨_, _, i, v, rfl, rfl, .of f, ev, hQ _ S _ H .refl r hS h⟩
      · exact h.elim
    | scr f =>
      unfold oIx at h
      dsimp only at h
      split at h
      · exact .inl ⟨_, _, i, _, rfl, rfl, f.sq, zoX ‹_›, hQ _ S _ H .refl (.int _) hS h⟩
      · exact h.elim
    | str z =>
      unfold oIx at h
      dsimp only at h
      obtain ⟨hz, h⟩ := h
      split at h
      · exact .inr (.inr ⟨z, i, _, rfl, rfl, hz, ‹_›, hQ _ S _ H .refl (.str _) hS h⟩)
      · exact h.elim
    | _ => exact h.elim
  | _ => exact h.elim
section
variable {X : Cx} {a b e : Expr} {pos p2 : Pos} {ta tb te : WE} {lo hi : Option Expr}
theorem zay (ha : JE X a ta) (hb : JE X b tb) (hs : PlainIx b := by intro _ _; rfl) : JE X (.Subscript a b pos) (wOp oIx ta tb) := fun E hE =>
  (zrk znc (ha E hE) (hb E hE) hs).mono fun σ H Q h => zdA h fun H2 x y wx wy S QW rx ry hS q hQ => zqx H2 x y wx wy S Q QW rx ry hS q hQ

abbrev WO := WX → WSt → Sto → (Option Int → Sto → Prop) → Prop
def liftO (K : PySem.W.Frag) (t : WSt → Sto → (Option Int → Sto → Prop) → Prop) : TO := fun σ H Q => ∃ σW S QW, RpSt K H σW σ ∧ RepS K H S ∧ t σW S QW ∧ ∀ b S' H', Ext H S H' S' → RepS K H' S' → QW b S' → Q b H'
def JO (X : Cx) (e : Option Expr) (t : WO) : Prop := ∀ E, Hook X E → PO X e (liftO X.K (t E))
def woN : WO := fun _ _ S Q => Q none S
def woS (t : WE) : WO := fun E σ S Q => t E σ S fun w S1 => match w with
  | .int i => Q (some i) S1
  | _ => False
theorem PO.mono {X : Cx} {e : Option Expr} {t t' : TO} (h : PO X e t) (q : ∀ σ H Q, t' σ H Q → t σ H Q) : PO X e t' := fun pins s σ H Q I z => h pins s σ H Q I (q σ H Q z)
theorem zaJ : JO X none woN := fun E hE => zoe.mono fun σ H Q ⟨σW, S, QW, hσ, hS, ht, hQ⟩ => hQ none S H .refl hS ht
theorem zaI (h : JE X e te) : JO X (some e) (woS te) := fun E hE => (znP (h E hE)).mono fun σ H Q ⟨σW, S, QW, hσ, hS, ht, hQ⟩ => ⟨σW, S, _, hσ, hS, ht, fun w S1 v H1 e1 r1 hS1 h1 => by
  cases r1 with
  | int i => exact ⟨i, rfl, hQ _ S1 H1 e1 hS1 h1⟩
  | _ => exact h1.elim⟩
def cutA {α : Type} (xs : List α) (lo hi : Option Int) : List α := (xs.drop (HT.sIx xs.length 0 lo)).take (HT.sIx xs.length xs.length hi - HT.sIx xs.length 0 lo)
theorem zfj {K : PySem.W.Frag} {H : Hp} {ws : List W} {vs : List V} {lo hi : Option Int} (r : Reps K H ws vs) : Reps K H (cutA ws lo hi) (cutV vs lo hi) := by
  unfold cutA cutV
  rw [r.length]
  exact (r.drop _).take _
theorem zib {α β : Type} {f : α → β} {xs : List α} {lo hi : Option Int} : cutA (xs.map f) lo hi = (cutA xs lo hi).map f := by
  unfold cutA
  rw [List.length_map, List.map_take, List.map_drop]
theorem zcR {prog : Program} {w : World} {A : Around} {E : Value → Shared → Prop} {s : Shared} {t sl : Addr} {items : Array Value} {vl vu : Value} {lo hi : Option Int} {Q : Value → Shared → Prop} (ht : IsTup s.heap t items) (hs : s.heap.IsSliceOf sl vl vu .none) (pl : IsPart vl lo) (pu : IsPart vu hi)
    (hw : HT.sIx items.size 0 lo = 0 ∧ HT.sIx items.size items.size hi = items.size) (h : Q (.ref t) s) : wpAny (model prog w) A (getItem (.ref t) (.ref sl)) Q E s := by
  obtain ⟨os, hos, hcs, hds⟩ := id hs
  have hTs : s.TypeIs (.ref sl) "slice" := ⟨os, hos, hcs⟩
  unfold getItem
  try with_reducible refine wpAny_holding ?_
  first | refine wpAny_bind (wpAny_pure ?_) | skip
  refine wpAny_bind (wpAny_sequenceKey ht.typeIs (by decide) ?_)
  refine wpAny_bind (wpAny_callSpecial?_slot (name := Str.ofString "__getitem__") ht.typeIs PyProof.Rows.slot_tuple_getitem
    (wpAny_call_entry PyProof.Rows.slot_tuple_getitem ht.typeIs entry_tuple_getitem ?_ (args_tuple_getitem _ _)))
  show wpAny _ _ (Builtin.Tuple.tupleItemsOf (.ref t) >>= _) _ _ s
  refine wpAny_bind (tupleItemsOf_ ht ?_)
  refine wpAny_bind (wpAny_typeOf hTs ?_)
  rw [if_pos (by decide)]
  refine wpAny_bind (HT.sliceApplied_gen hs pl pu ?_)
  show wpAny _ _ (if (((HT.sIx items.size 0 lo : Nat) : Int) == 0 && (1 : Int) == 1 && (HT.sIx items.size items.size hi - HT.sIx items.size 0 lo) == items.size) = true then _ else _) _ _ s
  rw [hw.1, hw.2, if_pos (by simp)]
  unfold Builtin.Tuple.tupleIsExact
  refine wpAny_bind (wpAny_bind (wpAny_typeOf ht.typeIs (wpAny_pure ?_)))
  rw [if_pos (by decide)]
  exact wpAny_bind (wpAny_rule (wpAny_pure ⟨_, rfl, wpAny_pure h⟩))
theorem zos : SlR X (fun x lo hi H Q => ∃ a xs, x = .ref a ∧ SqT X.K H a xs ∧ ((HT.sIx xs.length 0 lo = 0 ∧ HT.sIx xs.length xs.length hi = xs.length) ∧ Q (.ref a) H ∨ ¬ (HT.sIx xs.length 0 lo = 0 ∧ HT.sIx xs.length xs.length hi = xs.length) ∧ ∀ p, H p = none → Q (.ref p) (upd H p (.tup (cutV xs lo hi))))) := by
  intro pins s σ H x v vl vu lo hi sl Q I rx hs pl pu h
  obtain ⟨a, xs, rfl, hx, ⟨hw, q⟩ | ⟨hw, q⟩⟩ := h
  · cases rx
    obtain ⟨its, r, ht, hz⟩ := I.tuple hx
    have hlen : its.toArray.size = xs.length := by rw [List.size_toArray]; exact r.length.symm
    refine ⟨"tuple", _, PyProof.Rows.slot_tuple_getitem.lookup, ht.typeIs, ?_⟩
    exact zcR ht hs pl pu (by rw [hlen]; exact hw) ⟨.ref a, H, I, rfl, q⟩
  · exact zru pins s σ H _ v vl vu lo hi sl Q I rx hs pl pu ⟨a, xs, rfl, hx, hw, q⟩
def oSl : W → Option Int → Option Int → Sto → WK → Prop
  | .tup ws, lo, hi, S, Q => Q (.tup (cutA ws lo hi)) S
  | .str z, lo, hi, S, Q => z.length ≤ sizeLine ∧ Q (.str (Txt.slice z lo hi)) S
  | .ref a, lo, hi, S, Q => lstW S a fun ws => ∀ p, S p = none → Q (.ref p) (put S p (.lst (cutA ws lo hi)))
  | .scr ns, lo, hi, S, Q => ∀ p, S p = none → Q (.ref p) (put S p (.lst ((cutA ns lo hi).map W.int)))
  | _, _, _, _, _ => False
def wSl (t : WE) (l h : WO) : WE := fun E σ S Q => t E σ S fun x S1 => l E σ S1 fun lo S2 => h E σ S2 fun hi S3 => oSl x lo hi S3 Q
theorem ziW {α : Type} {xs : List α} {lo hi : Option Int} (h : HT.sIx xs.length 0 lo = 0 ∧ HT.sIx xs.length xs.length hi = xs.length) : cutA xs lo hi = xs := by
  unfold cutA
  rw [h.1, h.2, List.drop_zero, Nat.sub_zero, List.take_length]
theorem zce {tl th : WO} (he : JE X e te) (hl : JO X lo tl) (hh : JO X hi th) : JE X (.Subscript e (.Slice lo hi none p2) pos) (wSl te tl th) := fun E hE =>
  (ziq (zos.or (zrd.or zkc)) (he E hE) (hl E hE) (hh E hE)).mono fun σ H Q ⟨σW, S, QW, hσ, hS, ht, hQ⟩ =>
    ⟨σW, S, _, hσ, hS, ht, fun w S1 v H1 e1 r1 hS1 h1 => ⟨σW, S1, _, hσ.ext e1, hS1, h1, fun lo S2 H2 e2 hS2 h2 => ⟨σW, S2, _, (hσ.ext e1).ext e2, hS2, h2, fun hi S3 H3 e3 hS3 h3 => by
      have hQ' := hQ.from (e1.trans (e2.trans e3))
      have r3 := (r1.ext e2).ext e3
      cases r3 with
      | @tup a vs ws f hs =>
        refine .inl ⟨a, vs, rfl, .of f, ?_⟩
        by_cases hw : HT.sIx vs.length 0 lo = 0 ∧ HT.sIx vs.length vs.length hi = vs.length
        · refine .inl ⟨hw, hQ' (.tup ws) S3 _ H3 .refl (.tup f hs) hS3 ?_⟩
          have := ziW (xs := ws) (lo := lo) (hi := hi) (by rw [hs.length]; exact hw)
          have h3' : QW (.tup (cutA ws lo hi)) S3 := h3
          rw [this] at h3'
          exact h3'
        · exact .inr ⟨hw, fun p hp => hQ' _ S3 _ _ (.new hp) (.tup zau ((zfj hs).ext (.new (S := S3) hp))) (hS3.new hp) h3⟩
      | str z => exact .inr (.inl ⟨z, rfl, h3.1, hQ' _ S3 _ H3 .refl (.str _) hS3 h3.2⟩)
      | ref a =>
        obtain ⟨ws, ea, h⟩ := zaZ h3
        obtain ⟨vs, f, hs⟩ := hS3 a _ ea
        exact .inr (.inr ⟨a, vs, rfl, .of f, fun p hp => hQ' _ _ _ _ (.newS hp) (.ref p) (hS3.put_lst hp ((zfj hs).ext (.new (S := S3) hp))) (h p (hS3.free hp))⟩)
      | @scr a ns f =>
        refine .inr (.inr ⟨a, _, rfl, f.sq, fun p hp => hQ' _ _ _ _ (.newS hp) (.ref p) (hS3.put_lst hp ?_) (h3 p (hS3.free hp))⟩)
        have q : cutV (ns.map V.int) lo hi = (cutA ns lo hi).map V.int := zib
        rw [q]
        exact Reps.ofInts _
      | _ => exact h3.elim⟩⟩⟩
def wSlL (t : WE) (l h : WO) : WL := fun E σ S Q => t E σ S fun x S1 => l E σ S1 fun lo S2 => h E σ S2 fun hi S3 => match x with
  | .ref a => lstW S3 a fun ws => Q (cutA ws lo hi) S3
  | .scr ns => Q ((cutA ns lo hi).map W.int) S3
  | _ => False
theorem zpl {tl th : WO} (he : JE X e te) (hl : JO X lo tl) (hh : JO X hi th) : JL X (.Subscript e (.Slice lo hi none p2) pos) (wSlL te tl th) := fun E hE =>
  (ziq zkc (he E hE) (hl E hE) (hh E hE)).mono fun σ H Q ⟨σW, S, QW, hσ, hS, ht, hQ⟩ =>
    ⟨σW, S, _, hσ, hS, ht, fun w S1 v H1 e1 r1 hS1 h1 => ⟨σW, S1, _, hσ.ext e1, hS1, h1, fun lo S2 H2 e2 hS2 h2 => ⟨σW, S2, _, (hσ.ext e1).ext e2, hS2, h2, fun hi S3 H3 e3 hS3 h3 => by
      have e' := e1.trans (e2.trans e3)
      have r3 := (r1.ext e2).ext e3
      cases r3 with
      | ref a =>
        obtain ⟨ws, ea, h⟩ := zaZ h3
        obtain ⟨vs, f, hs⟩ := hS3 a _ ea
        exact ⟨a, vs, rfl, .of f, fun p hp => hQ _ S3 _ p _ (e'.trans (.new hp)) (e'.free hp) zau (hS3.free hp) ((zfj hs).ext (.new (S := S3) hp)) (hS3.new hp) h⟩
      | @scr a ns f =>
        refine ⟨a, _, rfl, f.sq, fun p hp => hQ _ S3 _ p _ (e'.trans (.new hp)) (e'.free hp) zau (hS3.free hp) ?_ (hS3.new hp) h3⟩
        have q : cutV (ns.map V.int) lo hi = (cutA ns lo hi).map V.int := zib
        rw [q]
        exact Reps.ofInts _
      | _ => exact h3.elim⟩⟩⟩
end

abbrev WF := List W → Sto → WK → Prop
def wB (f : WF) (t : WA) : WE := fun E σ S Q => t E σ S fun ws S1 => f ws S1 Q
def CallW (K : PySem.W.Frag) (r : List V → Hp → VK → Prop) (f : WF) : Prop := ∀ H vs ws S (Q : VK) (QW : WK), Reps K H ws vs → RepS K H S → f ws S QW → Wish K H S QW Q → r vs H Q
def wBL (f : WF) (t : WL) : WE := fun E σ S Q => t E σ S fun ws S1 => f ws S1 Q
def CallL (K : PySem.W.Frag) (r : List V → Hp → VK → Prop) (f : WF) : Prop := ∀ H a vs ws S (Q : VK) (QW : WK), H a = some (.lst vs) → S a = none → Reps K H ws vs → RepS K H S → f ws S QW → Wish K H S QW Q → r [.ref a] H Q
section
variable {X : Cx} {x : Str} {p pos : Pos} {e : Expr} {es : List Expr} {t : WA} {tl : WL} {id T : String} {r : List V → Hp → VK → Prop} {f : WF}
theorem zno (hc : CallR X (.builtin id) r) (hw : CallW X.K r f) (hg : Gl X x) (hm : X.mg x = none) (hv : bootBuiltins x = some (.builtin id)) (ha : JA X (e :: es) t) (hn : x ≠ "__name__" := by decide) (hdb : (x == ("__debug__" : Str)) = false := by decide)
    (he : starEach (e :: es) X.env = (false, eval e X.env) :: starEach es X.env := by rfl) (hpl : (backTo pos (starEach es X.env)).any (·.1) = false := by rfl) : JE X (.Call (.Name x p) (e :: es) [] pos) (wB f t) := fun E hE =>
  (zeT hc hg hm hv (ha E hE) hn hdb he hpl).mono fun σ H Q ⟨σW, S, QW, hσ, hS, ht, hQ⟩ => ⟨σW, S, _, hσ, hS, ht, fun ws S1 vs H1 e1 r1 hS1 h1 => hw H1 vs ws S1 Q QW r1 hS1 h1 (hQ.from e1)⟩
theorem zpx (hc : CallR X (.type T) r) (hw : CallW X.K r f) (hg : Gl X x) (hm : X.mg x = none) (hv : bootBuiltins x = some (.type T)) (ha : JA X (e :: es) t) (hn : x ≠ "__name__" := by decide) (hdb : (x == ("__debug__" : Str)) = false := by decide)
    (he : starEach (e :: es) X.env = (false, eval e X.env) :: starEach es X.env := by rfl) (hpl : (backTo pos (starEach es X.env)).any (·.1) = false := by rfl) : JE X (.Call (.Name x p) (e :: es) [] pos) (wB f t) := fun E hE =>
  (zfR hc hg hm hv (ha E hE) hn hdb he hpl).mono fun σ H Q ⟨σW, S, QW, hσ, hS, ht, hQ⟩ => ⟨σW, S, _, hσ, hS, ht, fun ws S1 vs H1 e1 r1 hS1 h1 => hw H1 vs ws S1 Q QW r1 hS1 h1 (hQ.from e1)⟩
theorem zjG (hc : CallR X (.builtin id) r) (hw : CallL X.K r f) (hg : Gl X x) (hm : X.mg x = none) (hv : bootBuiltins x = some (.builtin id)) (ha : JL X e tl) (hn : x ≠ "__name__" := by decide) (hdb : (x == ("__debug__" : Str)) = false := by decide)
    (he : starEach [e] X.env = (false, eval e X.env) :: starEach [] X.env := by rfl) (hpl : (backTo pos (starEach [] X.env)).any (·.1) = false := by rfl) : JE X (.Call (.Name x p) [e] [] pos) (wBL f tl) := fun E hE =>
  (zeT hc hg hm hv (zci (ha E hE) zdX he) hn hdb he hpl).mono fun σ H Q ⟨σW, S, QW, hσ, hS, ht, hQ⟩ => ⟨σW, S, _, hσ, hS, ht, fun ws S1 vs a H1 e1 fa ea na r1 hS1 h1 => hw H1 a vs ws S1 Q QW ea na r1 hS1 h1 (hQ.from e1)⟩
theorem znt (hc : CallR X (.type T) r) (hw : CallL X.K r f) (hg : Gl X x) (hm : X.mg x = none) (hv : bootBuiltins x = some (.type T)) (ha : JL X e tl) (hn : x ≠ "__name__" := by decide) (hdb : (x == ("__debug__" : Str)) = false := by decide)
    (he : starEach [e] X.env = (false, eval e X.env) :: starEach [] X.env := by rfl) (hpl : (backTo pos (starEach [] X.env)).any (·.1) = false := by rfl) : JE X (.Call (.Name x p) [e] [] pos) (wBL f tl) := fun E hE =>
  (zfR hc hg hm hv (zci (ha E hE) zdX he) hn hdb he hpl).mono fun σ H Q ⟨σW, S, QW, hσ, hS, ht, hQ⟩ => ⟨σW, S, _, hσ, hS, ht, fun ws S1 vs a H1 e1 fa ea na r1 hS1 h1 => hw H1 a vs ws S1 Q QW ea na r1 hS1 h1 (hQ.from e1)⟩

def fLen : WF := fun ws S Q => match ws with
  | [.tup us] => Q (.int us.length) S
  | [.ref a] => lstW S a fun us => Q (.int us.length) S
  | [.scr ns] => Q (.int ns.length) S
  | [.str z] => z.length ≤ sizeLine ∧ Q (.int z.length) S
  | _ => False
theorem zkg {K : PySem.W.Frag} : CallW K (fun xs H Q => (∃ p ys, xs = [.ref p] ∧ (SqL K H p ys ∨ SqT K H p ys) ∧ Q (.int ys.length) H) ∨ ∃ z, xs = [.str z] ∧ z.length ≤ sizeLine ∧ Q (.int z.length) H) fLen := fun H vs ws S Q QW r hS h hQ => by
  cases r with
  | nil => exact h.elim
  | cons r1 r2 =>
    cases r2 with
    | cons _ _ => cases r1 <;> exact h.elim
    | nil =>
      cases r1 with
      | tup f hs => exact .inl ⟨_, _, rfl, .inr (.of f), by rw [← hs.length]; exact hQ _ S _ H .refl (.int _) hS h⟩
      | ref a =>
        obtain ⟨us, e, h⟩ := zaZ h
        obtain ⟨vs, f, hs⟩ := hS a _ e
        exact .inl ⟨_, _, rfl, .inl (.of f), by rw [← hs.length]; exact hQ _ S _ H .refl (.int _) hS h⟩
      | scr f => exact .inl ⟨_, _, rfl, .inl f.sq, by rw [List.length_map]; exact hQ _ S _ H .refl (.int _) hS h⟩
      | str z => exact .inr ⟨z, rfl, h.1, hQ _ S _ H .refl (.int _) hS h.2⟩
      | _ => exact h.elim
theorem zbL (hg : Gl X "len") (hm : X.mg "len" = none) (ha : JA X (e :: es) t) 
    (he : starEach (e :: es) X.env = (false, eval e X.env) :: starEach es X.env := by rfl) (hpl : (backTo pos (starEach es X.env)).any (·.1) = false := by rfl) : JE X (.Call (.Name "len" p) (e :: es) [] pos) (wB fLen t) :=
  zno (zgE.or zgr) zkg hg hm PySem.boot_len ha (by decide) (by decide) he hpl

def fTuple : WF := fun ws S Q => match ws with
  | [.tup us] => Q (.tup us) S
  | [.ref a] => lstW S a fun us => Q (.tup us) S
  | _ => False
theorem zho {K : PySem.W.Frag} : CallW K (fun xs H Q => ∃ p ys, xs = [.ref p] ∧ ((SqL K H p ys ∧ ∀ l, H l = none → Q (.ref l) (upd H l (.tup ys))) ∨ (SqT K H p ys ∧ Q (.ref p) H))) fTuple := fun H vs ws S Q QW r hS h hQ => by
  cases r with
  | nil => exact h.elim
  | cons r1 r2 =>
    cases r2 with
    | cons _ _ => cases r1 <;> exact h.elim
    | nil =>
      cases r1 with
      | tup f hs => exact ⟨_, _, rfl, .inr ⟨.of f, hQ _ S _ H .refl (.tup f hs) hS h⟩⟩
      | ref a =>
        obtain ⟨us, e, h⟩ := zaZ h
        obtain ⟨vs, f, hs⟩ := hS a _ e
        exact ⟨_, _, rfl, .inl ⟨.of f, fun l hl => hQ _ S _ _ (.new hl) (.tup zau (hs.ext (.new (S := S) hl))) (hS.new hl) h⟩⟩
      | _ => exact h.elim
def fTupleL : WF := fun ws S Q => Q (.tup ws) S
theorem zhy {K : PySem.W.Frag} : CallL K (fun xs H Q => ∃ p ys, xs = [.ref p] ∧ ((SqL K H p ys ∧ ∀ l, H l = none → Q (.ref l) (upd H l (.tup ys))) ∨ (SqT K H p ys ∧ Q (.ref p) H))) fTupleL := fun H a vs ws S Q QW ea na r hS h hQ =>
  ⟨a, vs, rfl, .inl ⟨.of ea, fun l hl => hQ _ S _ _ (.new hl) (.tup zau (r.ext (.new (S := S) hl))) (hS.new hl) h⟩⟩
def wListOf (t : WE) : WL := fun E σ S Q => t E σ S fun w S1 => match w with
  | .tup ws => Q ws S1
  | .ref a => lstW S1 a fun ws => Q ws S1
  | .scr ns => Q (ns.map W.int) S1
  | _ => False
def blsOf : List W → Option (List Bool)
  | [] => some []
  | .bl b :: ws => (blsOf ws).map (b :: ·)
  | _ => none
theorem zjH {K : PySem.W.Frag} {H : Hp} : ∀ {ws : List W} {vs : List V} {bs : List Bool}, Reps K H ws vs → blsOf ws = some bs → vs = bs.map V.bl
  | [], _, _, .nil, e => by have := Option.some.inj e; subst this; rfl
  | w :: ws, _, _, .cons r rs, e => by
    cases r with
    | bl b =>
      have e' : (blsOf ws).map (b :: ·) = some _ := e
      cases q : blsOf ws with
      | none => rw [q] at e'; cases e'
      | some cs =>
        rw [q] at e'
        have := Option.some.inj e'
        subst this
        rw [List.map_cons, zjH rs q]
    | _ => cases e
def fAllL : WF := fun ws S Q => match blsOf ws with
  | some bs => Q (.bl (bs.all _root_.id)) S
  | none => False
theorem zkR {K : PySem.W.Frag} : CallL K (fun xs H Q => ∃ (p : Addr) (bs : List Bool), xs = [.ref p] ∧ SqL K H p (bs.map V.bl) ∧ Q (.bl (bs.all _root_.id)) H) fAllL := fun H a vs ws S Q QW ea na r hS h hQ => by
  unfold fAllL at h
  split at h
  · rename_i bs e
    have := zjH r e
    subst this
    exact ⟨a, bs, rfl, .of ea, hQ _ S _ H .refl (.bl _) hS h⟩
  · exact h.elim

def tyW : W → Sto → (String → Prop) → Prop
  | .non, _, Q => Q "NoneType"
  | .bl _, _, Q => Q "bool"
  | .int _, _, Q => Q "int"
  | .str _, _, Q => Q "str"
  | .tup _, _, Q => Q "tuple"
  | .ref a, S, Q => lstW S a fun _ => Q "list"
  | .scr _, _, _ => False
def subTy (A B : String) : Bool := A == B || (A == "bool" && B == "int")
def wIsi (T : String) (t : WE) : WE := fun E σ S Q => t E σ S fun w S1 => tyW w S1 fun A => Q (.bl (subTy A T)) S1
theorem zds {a : Expr} {ta : WE} {p2 : Pos} {T : Str} {T' : String} (hg : Gl X "isinstance") (hm : X.mg "isinstance" = none) (hgT : Gl X T) (hmT : X.mg T = none) (hv : bootBuiltins T = some (.type T')) (ha : JE X a ta) (hn : T ≠ "__name__") (hd : (T == ("__debug__" : Str)) = false)
    (hk : ∀ A ∈ ["NoneType", "bool", "int", "str", "tuple", "list"], PySem.W.kitOne X.K (.type A) (.type T') = some (subTy A T'))
    (he : starEach [a, .Name T p2] X.env = (false, eval a X.env) :: starEach [.Name T p2] X.env := by rfl) (he2 : starEach [.Name T p2] X.env = (false, eval (.Name T p2) X.env) :: starEach [] X.env := by rfl) (hpl : (backTo pos (starEach [.Name T p2] X.env)).any (·.1) = false := by rfl) :
    JE X (.Call (.Name "isinstance" p) [a, .Name T p2] [] pos) (wIsi T' ta) := fun E hE =>
  (zeT zmo hg hm PyProof.Rows.boot_isinstance (zci (ha E hE) (zci (zoR (v := .ty T') hgT hmT hv rfl hn hd) zdX he2) he) (by decide) (by decide) he hpl).mono fun σ H Q ⟨σW, S, QW, hσ, hS, ht, hQ⟩ => ⟨σW, S, _, hσ, hS, ht, fun w S1 v H1 e1 r1 hS1 h1 => by
    have fin : ∀ {t : Value} (A : String), t = .type A → A ∈ ["NoneType", "bool", "int", "str", "tuple", "list"] → TyOf X.K H1 v t → QW (.bl (subTy A T')) S1 → ∃ x t c b, [v, V.ty T'] = [x, .ty c] ∧ TyOf X.K H1 x t ∧ PySem.W.kitOne X.K t (.type c) = some b ∧ Q (.bl b) H1 := fun A e hA ty q => by
      subst e
      exact ⟨v, _, T', _, rfl, ty, hk A hA, hQ _ S1 _ H1 e1 (.bl _) hS1 q⟩
    cases r1 with
    | non => exact fin _ rfl (by simp) .non h1
    | bl b => exact fin _ rfl (by simp) (.bl b) h1
    | int i => exact fin _ rfl (by simp) (.int i) h1
    | str z => exact fin _ rfl (by simp) (.str z) h1
    | tup f hs => exact fin _ rfl (by simp) (.tup f) h1
    | ref a =>
      obtain ⟨ws, ea, h⟩ := zaZ h1
      obtain ⟨vs, f, hs⟩ := hS1 a _ ea
      exact fin _ rfl (by simp) (.lst f) h
    | scr f => exact h1.elim⟩
end
end L2
end

section
set_option Elab.async false
set_option linter.all false
set_option maxRecDepth 100000
set_option maxHeartbeats 4000000
namespace L2
open PySem PySem.Spec PyProof.Rows

abbrev WMf := W → List W → Sto → WK → Prop
def rvL : W → Sto → Prop
  | .ref a, S => lstW S a fun _ => True
  | _, _ => False
def rvS : W → Sto → Prop
  | .str _, _ => True
  | _, _ => False
def wM (rv : W → Sto → Prop) (f : WMf) (to : WE) (t : WA) : WE := fun E σ S Q => to E σ S fun w S1 => rv w S1 ∧ t E σ S1 fun ws S2 => f w ws S2 Q
def wML (rv : W → Sto → Prop) (f : WMf) (to : WE) (t : WL) : WE := fun E σ S Q => to E σ S fun w S1 => rv w S1 ∧ t E σ S1 fun ws S2 => f w ws S2 Q
def MtW (K : PySem.W.Frag) (r : V → List V → Hp → VK → Prop) (f : WMf) : Prop := ∀ H x w vs ws S (Q : VK) (QW : WK), Rep K H w x → Reps K H ws vs → RepS K H S → f w ws S QW → Wish K H S QW Q → r x vs H Q
def MtL (K : PySem.W.Frag) (r : V → List V → Hp → VK → Prop) (f : WMf) : Prop := ∀ H x w a vs ws S (Q : VK) (QW : WK), Rep K H w x → H a = some (.lst vs) → S a = none → Reps K H ws vs → RepS K H S → f w ws S QW → Wish K H S QW Q → r x [.ref a] H Q
def RvOk (K : PySem.W.Frag) (T : String) (rv : W → Sto → Prop) : Prop := ∀ H w v S, Rep K H w v → RepS K H S → rv w S → tyV K T v H
theorem zqR {K : PySem.W.Frag} : RvOk K "list" rvL := fun H w v S r hS h => by
  cases r with
  | ref a =>
    obtain ⟨ws, e, _⟩ := zaZ h
    obtain ⟨vs, f, _⟩ := hS a _ e
    exact .inl ⟨rfl, vs, .of f⟩
  | _ => exact h.elim
theorem znr {K : PySem.W.Frag} : RvOk K "str" rvS := fun H w v S r hS h => by
  cases r with
  | str x => exact rfl
  | _ => exact h.elim
section
variable {X : Cx} {o e : Expr} {es : List Expr} {to : WE} {t : WA} {tl : WL} {name : Str} {apos cpos : Pos} {id T : String} {r : V → List V → Hp → VK → Prop} {f : WMf} {rv : W → Sto → Prop}
theorem je_m (pa : PlainAttrs T) (slot : Slot T name id) (hty : typeOf (.builtin id) = pure (.type "method_descriptor")) (hrv : RvOk X.K T rv) (hm : MtR X id r) (hw : MtW X.K r f) (ho : JE X o to) (ha : JA X (e :: es) t)
    (hbase : attributeBase o name X.env (eval o X.env) = eval o X.env := by rfl)
    (hfew : ((backTo cpos (starEach (e :: es) X.env)).all (fun x => !x.1) && (backToKw cpos (keywordEach [] X.env)).all (fun x => x.1.isSome)
      && decide ((e :: es).length + ([] : List Keyword).length + (if ([] : List Keyword).isEmpty then 0 else 1) < 30)) = true := by rfl)
    (hline : (apos.endLine == cpos.line) = true := by rfl) (hs : starEach (e :: es) X.env = (false, eval e X.env) :: starEach es X.env := by rfl) (hplain : (backTo cpos (starEach es X.env)).any (·.1) = false := by rfl) :
    JE X (.Call (.Attribute o name apos) (e :: es) [] cpos) (wM rv f to t) := fun E hE =>
  (zqX pa slot hty hm (ho E hE) (ha E hE) hbase hfew hline hs hplain).mono fun σ H Q ⟨σW, S, QW, hσ, hS, ht, hQ⟩ => ⟨σW, S, _, hσ, hS, ht, fun w S1 v H1 e1 r1 hS1 h1 =>
    ⟨hrv H1 w v S1 r1 hS1 h1.1, σW, S1, _, hσ.ext e1, hS1, h1.2, fun ws S2 vs H2 e2 r2 hS2 h2 => hw H2 v w vs ws S2 Q QW (r1.ext e2) r2 hS2 h2 (hQ.from (e1.trans e2))⟩⟩
theorem zsc (pa : PlainAttrs T) (slot : Slot T name id) (hty : typeOf (.builtin id) = pure (.type "method_descriptor")) (hrv : RvOk X.K T rv) (hm : MtR X id r) (hw : MtL X.K r f) (ho : JE X o to) (ha : JL X e tl)
    (hbase : attributeBase o name X.env (eval o X.env) = eval o X.env := by rfl)
    (hfew : ((backTo cpos (starEach [e] X.env)).all (fun x => !x.1) && (backToKw cpos (keywordEach [] X.env)).all (fun x => x.1.isSome)
      && decide ([e].length + ([] : List Keyword).length + (if ([] : List Keyword).isEmpty then 0 else 1) < 30)) = true := by rfl)
    (hline : (apos.endLine == cpos.line) = true := by rfl) (hs : starEach [e] X.env = (false, eval e X.env) :: starEach [] X.env := by rfl) (hplain : (backTo cpos (starEach [] X.env)).any (·.1) = false := by rfl) :
    JE X (.Call (.Attribute o name apos) [e] [] cpos) (wML rv f to tl) := fun E hE =>
  (zqX pa slot hty hm (ho E hE) (zci (ha E hE) zdX hs) hbase hfew hline hs hplain).mono fun σ H Q ⟨σW, S, QW, hσ, hS, ht, hQ⟩ => ⟨σW, S, _, hσ, hS, ht, fun w S1 v H1 e1 r1 hS1 h1 =>
    ⟨hrv H1 w v S1 r1 hS1 h1.1, σW, S1, _, hσ.ext e1, hS1, h1.2, fun ws S2 vs a H2 e2 fa ea na r2 hS2 h2 => hw H2 v w a vs ws S2 Q QW (r1.ext e2) ea na r2 hS2 h2 (hQ.from (e1.trans e2))⟩⟩
theorem zrL (pa : PlainAttrs T) (slot : Slot T name id) (hty : typeOf (.builtin id) = pure (.type "method_descriptor")) (hrv : RvOk X.K T rv) (hm : MtR X id r) (hw : MtW X.K r f) (ho : JE X o to)
    (hbase : attributeBase o name X.env (eval o X.env) = eval o X.env := by rfl) (hline : (apos.endLine == cpos.line) = true := by rfl) : JE X (.Call (.Attribute o name apos) [] [] cpos) (wM rv f to waNil) := fun E hE =>
  (zqS pa slot hty hm (ho E hE) hbase hline).mono fun σ H Q ⟨σW, S, QW, hσ, hS, ht, hQ⟩ => ⟨σW, S, _, hσ, hS, ht, fun w S1 v H1 e1 r1 hS1 h1 =>
    ⟨hrv H1 w v S1 r1 hS1 h1.1, hw H1 v w [] [] S1 Q QW r1 .nil hS1 h1.2 (hQ.from e1)⟩⟩

def mAppend : WMf := fun w ws S Q => match w with
  | .ref a => lstW S a fun xs => match ws with
    | [y] => xs.length < sizeLine ∧ Q .non (put S a (.lst (xs ++ [y])))
    | _ => False
  | _ => False
theorem zjb {K : PySem.W.Frag} : MtW K rAppend mAppend := fun H x w vs ws S Q QW r rs hS h hQ => by
  cases r with
  | ref a =>
    obtain ⟨xs, ea, h⟩ := zaZ h
    obtain ⟨us, f, hs⟩ := hS a _ ea
    cases rs with
    | nil => exact h.elim
    | cons r1 r2 =>
      cases r2 with
      | cons _ _ => exact h.elim
      | nil =>
        obtain ⟨e, hS'⟩ := hS.set_lst ea (hs.append (.one r1))
        exact ⟨a, us, _, rfl, rfl, f, by rw [← hs.length]; exact h.1, hQ _ _ _ _ e .non hS' h.2⟩
  | _ => exact h.elim
theorem zbs (ho : JE X o to) (ha : JA X (e :: es) t)
    (hbase : attributeBase o "append" X.env (eval o X.env) = eval o X.env := by rfl)
    (hfew : ((backTo cpos (starEach (e :: es) X.env)).all (fun x => !x.1) && (backToKw cpos (keywordEach [] X.env)).all (fun x => x.1.isSome)
      && decide ((e :: es).length + ([] : List Keyword).length + (if ([] : List Keyword).isEmpty then 0 else 1) < 30)) = true := by rfl)
    (hline : (apos.endLine == cpos.line) = true := by rfl) (hs : starEach (e :: es) X.env = (false, eval e X.env) :: starEach es X.env := by rfl) (hplain : (backTo cpos (starEach es X.env)).any (·.1) = false := by rfl) :
    JE X (.Call (.Attribute o "append" apos) (e :: es) [] cpos) (wM rvL mAppend to t) := je_m PySem.F.plainAttrs_list PySem.F.slot_list_append PySem.F.type_list_append zqR zgd zjb ho ha hbase hfew hline hs hplain
def mPop : WMf := fun w ws S Q => match w with
  | .ref a => lstW S a fun xs => match ws with
    | [] => match xs[xs.length - 1]? with
      | some y => Q y (put S a (.lst xs.dropLast))
      | none => False
    | _ => False
  | _ => False
def mExtend : WMf := fun w ws S Q => match w with
  | .ref a => lstW S a fun xs => match ws with
    | [.tup ys] => xs.length + ys.length ≤ sizeLine ∧ Q .non (put S a (.lst (xs ++ ys)))
    | [.ref b] => lstW S b fun ys => xs.length + ys.length ≤ sizeLine ∧ Q .non (put S a (.lst (xs ++ ys)))
    | _ => False
  | _ => False
def mExtendL : WMf := fun w ws S Q => match w with
  | .ref a => lstW S a fun xs => xs.length + ws.length ≤ sizeLine ∧ Q .non (put S a (.lst (xs ++ ws)))
  | _ => False
def strsOf : List W → Option (List Str)
  | [] => some []
  | .str b :: ws => (strsOf ws).map (b :: ·)
  | _ => none
theorem zhS {K : PySem.W.Frag} {H : Hp} : ∀ {ws : List W} {vs : List V} {bs : List Str}, Reps K H ws vs → strsOf ws = some bs → vs = bs.map V.str
  | [], _, _, .nil, e => by have := Option.some.inj e; subst this; rfl
  | w :: ws, _, _, .cons r rs, e => by
    cases r with
    | str b =>
      have e' : (strsOf ws).map (b :: ·) = some _ := e
      cases q : strsOf ws with
      | none => rw [q] at e'; cases e'
      | some cs =>
        rw [q] at e'
        have := Option.some.inj e'
        subst this
        rw [List.map_cons, zhS rs q]
    | _ => cases e
def mJoinL : WMf := fun w ws S Q => match w with
  | .str z => match strsOf ws with
    | some ys => (ys.map (·.length)).sum + ys.length * z.length ≤ 16777216 ∧ Q (.str (Str.join z ys)) S
    | none => False
  | _ => False
theorem zmp {K : PySem.W.Frag} : MtL K (rJoin K) mJoinL := fun H x w a vs ws S Q QW r ea na rs hS h hQ => by
  cases r with
  | str z =>
    unfold mJoinL at h
    dsimp only at h
    split at h
    · rename_i ys e
      have := zhS rs e
      subst this
      exact ⟨z, a, ys, rfl, rfl, .of ea, h.1, hQ _ S _ H .refl (.str _) hS h.2⟩
    · exact h.elim
  | _ => exact h.elim
theorem zmz (ho : JE X o to) (ha : JL X e tl)
    (hbase : attributeBase o "join" X.env (eval o X.env) = eval o X.env := by rfl)
    (hfew : ((backTo cpos (starEach [e] X.env)).all (fun x => !x.1) && (backToKw cpos (keywordEach [] X.env)).all (fun x => x.1.isSome)
      && decide ([e].length + ([] : List Keyword).length + (if ([] : List Keyword).isEmpty then 0 else 1) < 30)) = true := by rfl)
    (hline : (apos.endLine == cpos.line) = true := by rfl) (hs : starEach [e] X.env = (false, eval e X.env) :: starEach [] X.env := by rfl) (hplain : (backTo cpos (starEach [] X.env)).any (·.1) = false := by rfl) :
    JE X (.Call (.Attribute o "join" apos) [e] [] cpos) (wML rvS mJoinL to tl) := zsc PySem.F.plainAttrs_str PySem.F.slot_str_join PySem.F.type_str_join znr zoJ zmp ho ha hbase hfew hline hs hplain
def mIndex : WMf := fun w ws S Q => match w with
  | .str z => match ws with
    | [.str y] => match Builtin.Str.occurrences z y 0 z.length 1 with
      | i :: _ => Q (.int i) S
      | [] => False
    | _ => False
  | _ => False
end

def wAug (i : Nat) (g : Int → Int → Int) (e : WE) : WS := fun E D σ S => match σ[i]? with
  | some (some (.int a)) => e E σ S fun w S1 => match w with
    | .int b => D.nx (σ.set i (some (.int (g a b)))) S1
    | _ => False
  | _ => False
section
variable {X : Cx} {e : Expr} {te : WE} {pos pos' : Pos}
end

def wWhile (c : WT) (b : WS) : WS := fun E D σ S => ∃ I : Nat → WSt → Sto → Prop, (∃ m, I m σ S) ∧ ∀ m σ S, I m σ S → c E σ S fun k S1 => if k = true then
  b E { D with nx := fun σ' S' => ∃ m' S'', m' < m ∧ Sub S'' S' ∧ I m' σ' S'', ct := fun σ' S' => ∃ m' S'', m' < m ∧ Sub S'' S' ∧ I m' σ' S'', bk := D.nx } σ S1 else D.nx σ S1
section
variable {X : Cx} {c : Expr} {body : List Stmt} {tc : WT} {tb : WS} {pos : Pos}
theorem zlN (hc : JT X c tc) (hb : JSs X body tb) (hp : PassesOwn (model X.prog X.w) X.A X.env (fun _ _ => False) := by exact PassesOwn.never) : JS X (.While c body [] pos) (wWhile tc tb) := fun E hE =>
  (zmx (by rw [hE.xe]; exact hp) (hc E hE) (hb E hE)).mono fun D σ H ⟨σW, S, DW, hσ, hS, ⟨J, ⟨n, ht⟩, step⟩, hD⟩ => by
    refine ⟨fun m σ1 H1 => ∃ σW1 S1, Ext H S H1 S1 ∧ RpSt X.K H1 σW1 σ1 ∧ RepS X.K H1 S1 ∧ J m σW1 S1, ⟨n, σW, S, .refl, hσ, hS, ht⟩, ?_⟩
    rintro m σ1 H1 ⟨σW1, S1, e1, hσ1, hS1, h1⟩
    refine ⟨σW1, S1, _, hσ1, hS1, step m σW1 S1 h1, fun k S2 H2 e2 hS2 h2 => ?_⟩
    cases k with
    | false => exact hD.nx σW1 S2 σ1 H2 (e1.trans e2) (hσ1.ext e2) hS2 h2
    | true =>
      rw [if_pos rfl] at h2 ⊢
      refine ⟨fun σ' H' => ∃ m', m' < m ∧ ∃ σW1 S1, Ext H S H' S1 ∧ RpSt X.K H' σW1 σ' ∧ RepS X.K H' S1 ∧ J m' σW1 S1, fun σ' H' n' => n', σW1, S2, _, hσ1.ext e2, hS2, h2, ?_⟩
      have e12 := e1.trans e2
      have go : Goes X.K H2 S2 (fun σ' S' => ∃ m' S'', m' < m ∧ Sub S'' S' ∧ J m' σ' S'') (fun σ' H' => ∃ m', m' < m ∧ ∃ σW1 S1, Ext H S H' S1 ∧ RpSt X.K H' σW1 σ' ∧ RepS X.K H' S1 ∧ J m' σW1 S1) := fun σW3 S3 σ3 H3 e3 hσ3 hS3 ⟨m', S4, hm, sb, q⟩ =>
        ⟨m', hm, σW3, S4, (e12.trans e3).trans (.drop sb), hσ3, hS3.sub sb, q⟩
      exact ⟨go, hD.rt.from e12, hD.nx.from e12, go⟩
end

def forL (g : WG) (b : WS) (E : WX) (D : WEnds) (G : Sto → Prop) : List W → WSt → Sto → Prop
  | [], σ, S => D.nx σ S
  | w :: ws, σ, S => g w σ S fun σ1 S1 => b E { D with nx := fun σ' S' => ∃ S'', Sub S'' S' ∧ G S'' ∧ forL g b E D G ws σ' S'', ct := fun σ' S' => ∃ S'', Sub S'' S' ∧ G S'' ∧ forL g b E D G ws σ' S'', bk := D.nx } σ1 S1
def wFor (q : WI) (g : WG) (b : WS) : WS := fun E D σ S => q E σ S fun ws G S1 => forL g b E D G ws σ S1
section
variable {X : Cx} {tg iter : Expr} {body : List Stmt} {q : WI} {g : WG} {tb : WS} {pos : Pos}
theorem zbl (hi : JI X tg iter q) (hg : JG X tg g) (hb : JSs X body tb) (hp : PassesOwn (model X.prog X.w) X.A X.env (fun _ _ => False) := by exact PassesOwn.never)
    (hs : ∀ x, foldedSetIterable iter X.env x = pure x := by intro _; rfl) : JS X (.For tg iter body [] pos) (wFor q g tb) := fun E hE =>
  (zqw (by rw [hE.xe]; exact hp) hE.calm (hi E hE) (hg E hE) (hb E hE) hs).mono fun D σ H ⟨σW, S, DW, hσ, hS, ht, hD⟩ => by
    refine ⟨σW, S, _, hσ, hS, ht, fun ws G S1 J H1 e1 hS1 hG1 hJ h1 => ?_⟩
    refine ⟨fun i m σ2 H2 => ∃ σW2 S2, Ext H1 S1 H2 S2 ∧ RpSt X.K H2 σW2 σ2 ∧ RepS X.K H2 S2 ∧ G S2 ∧ m = ws.length - i ∧ i ≤ ws.length ∧ forL g tb E DW G (ws.drop i) σW2 S2,
      ⟨ws.length, σW, S1, .refl, hσ.ext e1, hS1, hG1, rfl, Nat.zero_le _, h1⟩, ?_⟩
    rintro i m σ2 H2 ⟨σW2, S2, e2, hσ2, hS2, hG2, rfl, hi2, h2⟩
    obtain ⟨ji, js⟩ := hJ i S2 H2 e2 hS2 hG2
    by_cases hlt : i < ws.length
    · obtain ⟨jgo, jy⟩ := ji ws[i] (List.getElem?_eq_getElem hlt)
      refine .inr ⟨jgo, fun σ' H' => ∃ σW2 S2, Ext H1 S1 H' S2 ∧ RpSt X.K H' σW2 σ' ∧ RepS X.K H' S2 ∧ G S2 ∧ ws.length - (i + 1) = ws.length - (i + 1) ∧ i + 1 ≤ ws.length ∧ forL g tb E DW G (ws.drop (i + 1)) σW2 S2, fun σ' H' z => ⟨_, by omega, z⟩, fun x H3 y3 => ?_⟩
      obtain ⟨e3, hS3, r3⟩ := jy x H3 y3
      rw [List.drop_eq_getElem_cons hlt] at h2
      refine ⟨_, σW2, S2, _, r3, hσ2.ext e3, hS3, h2, fun σW4 S4 σ4 H4 e4 hσ4 hS4 h4 => ?_⟩
      have e14 : Ext H1 S1 H4 S4 := (e2.trans e3).trans e4
      refine ⟨σW4, S4, _, hσ4, hS4, h4, ?_⟩
      have go : Goes X.K H4 S4 (fun σ' S' => ∃ S'', Sub S'' S' ∧ G S'' ∧ forL g tb E DW G (ws.drop (i + 1)) σ' S'') (fun σ' H' => ∃ σW2 S2, Ext H1 S1 H' S2 ∧ RpSt X.K H' σW2 σ' ∧ RepS X.K H' S2 ∧ G S2 ∧ ws.length - (i + 1) = ws.length - (i + 1) ∧ i + 1 ≤ ws.length ∧ forL g tb E DW G (ws.drop (i + 1)) σW2 S2) :=
        fun σW5 S5 σ5 H5 e5 hσ5 hS5 ⟨S6, sb, hG6, q⟩ => ⟨σW5, S6, (e14.trans e5).trans (.drop sb), hσ5, hS5.sub sb, hG6, rfl, hlt, q⟩
      exact ⟨go, hD.rt.from (e1.trans e14), hD.nx.from (e1.trans e14), go⟩
    · have hl : i = ws.length := by omega
      rw [List.drop_of_length_le (Nat.le_of_eq hl.symm)] at h2
      exact .inl ⟨js hl, hD.nx σW2 S2 σ2 H2 (e1.trans e2) hσ2 hS2 h2⟩
end
end L2
end

section
set_option Elab.async false
set_option linter.all false
set_option maxRecDepth 100000
set_option maxHeartbeats 4000000
namespace L2
open PySem PySem.Spec PyProof.Rows

section
variable {X : Cx} {tg : Expr}
def iAny (K : PySem.W.Frag) (tl : TE) : TI := fun σ H R => tl σ H fun x H1 => (∃ a, x = .ref a ∧ (∃ xs, SqL K H1 a xs) ∧ R (Itl K a) H1) ∨ (∃ a, x = .ref a ∧ (∃ xs, SqT K H1 a xs) ∧ R (Itt K a) H1) ∨ ∃ z, x = .str z ∧ R (Its z) H1
theorem zpM {l : Expr} {tl : TE} (hl : PE X l tl) : PI X tg l (iAny X.K tl) := by
  intro pins s σ H R I h
  refine thn (hl pins s σ H _ I h) fun v s1 ⟨x, H1, I1, r1, q1⟩ => ?_
  have fp : ∀ b ∈ [s1.heap.objs.size], FpOk X pins H1 b := fun b hb => by
    have e : b = s1.heap.objs.size := by simpa using hb
    subst e
    exact I1.fpOk (Nat.le_refl _) (I1.hok.fresh (Nat.le_refl _))
  rcases q1 with ⟨a, e, ⟨xs, hq⟩, q⟩ | ⟨a, e, ⟨xs, hq⟩, q⟩ | ⟨z, e, q⟩
  · subst e
    cases r1
    obtain ⟨its, rv, p, hz⟩ := I1.list hq
    refine wpAny_pyIter_list p.isList ?_
    exact ⟨s1.heap.objs.size, [s1.heap.objs.size], _, _, H1, rfl, I1.kept (t' := s1.toks) fun b o e => Heap.get?_push_of_some _ e, zls a _, ⟨_, Heap.get?_push_size _ rfl, rfl, rfl⟩, fp, q⟩
  · subst e
    cases r1
    obtain ⟨its, rv, p, hz⟩ := I1.tuple hq
    refine wpAny_pyIter_tuple (show s1.heap.IsTuple a its.toArray from p) ?_
    exact ⟨s1.heap.objs.size, [s1.heap.objs.size], _, _, H1, rfl, I1.kept (t' := s1.toks) fun b o e => Heap.get?_push_of_some _ e, ziR a _, ⟨_, Heap.get?_push_size _ rfl, rfl, rfl⟩, fp, q⟩
  · subst e
    obtain ⟨t, rfl⟩ := r1
    cases ha : z.cps.all (· < 128)
    · refine wpAny_pyIter_wide ha ?_
      exact ⟨s1.heap.objs.size, [s1.heap.objs.size], _, _, H1, rfl, I1.kept (t' := s1.toks) fun b o e => Heap.get?_push_of_some _ e,
        ziu _ z t "str_iterator" (by decide) (fun A' hA => Walks.strWide hA _ z t) (fun _ _ _ _ _ st h => wpAny_pyIter_striter_wide st h), ⟨_, Heap.get?_push_size _ rfl, rfl, rfl⟩, fp, q⟩
    · refine wpAny_pyIter_ascii ha ?_
      exact ⟨s1.heap.objs.size, [s1.heap.objs.size], _, _, H1, rfl, I1.kept (t' := s1.toks) fun b o e => Heap.get?_push_of_some _ e,
        ziu _ z t "str_ascii_iterator" (by decide) (fun A' hA => Walks.strAscii hA _ z t) (fun _ _ _ _ _ st h => wpAny_pyIter_striter_ascii st h), ⟨_, Heap.get?_push_size _ rfl, rfl, rfl⟩, fp, q⟩
def signs (z : Str) : List W := z.cps.toList.map fun c => .str ⟨#[c]⟩
def wIv (t : WE) : WI := fun E σ S Q => t E σ S fun w S1 => match w with
  | .tup ws => Q ws (fun _ => True) S1
  | .ref a => lstW S1 a fun ws => Q ws (fun S' => S' a = some (.lst ws)) S1
  | .scr ns => Q (ns.map W.int) (fun _ => True) S1
  | .str z => Q (signs z) (fun _ => True) S1
  | _ => False
theorem zjM {K : PySem.W.Frag} {a : Addr} {ws : List W} {G : Sto → Prop} {H0 : Hp} {S0 : Sto} (h : ∀ S H, Ext H0 S0 H S → RepS K H S → G S → ∃ vs, SqL K H a vs ∧ Reps K H ws vs) : ItW K (Itl K a) ws G H0 S0 := fun i S H e hS hG => by
  obtain ⟨vs, hq, r⟩ := h S H e hS hG
  refine ⟨fun w ew => ?_, fun hl => ⟨vs, hq, by rw [← r.length, hl]; exact Nat.le_refl _⟩⟩
  obtain ⟨v, ev, rv⟩ := r.get ew
  refine ⟨⟨vs, v, hq, ev⟩, fun x H' ⟨e1, e2⟩ => ?_⟩
  subst e1
  have e3 := e2 vs hq
  rw [ev] at e3; cases e3
  exact ⟨.refl, hS, rv⟩
theorem zpF {K : PySem.W.Frag} {a : Addr} {ws : List W} {vs : List V} {H0 : Hp} {S0 : Sto} (f : H0 a = some (.tup vs)) (r : Reps K H0 ws vs) : ItW K (Itt K a) ws (fun _ => True) H0 S0 := fun i S H e hS hG => by
  have f' := e.tup _ _ f
  have r' := r.ext e
  refine ⟨fun w ew => ?_, fun hl => ⟨vs, .of f', by rw [← r'.length, hl]; exact Nat.le_refl _⟩⟩
  obtain ⟨v, ev, rv⟩ := r'.get ew
  refine ⟨⟨vs, v, .of f', ev⟩, fun x H' ⟨e1, e2⟩ => ?_⟩
  subst e1
  have e3 := e2 vs (.of f')
  rw [ev] at e3; cases e3
  exact ⟨.refl, hS, rv⟩
theorem zqa {K : PySem.W.Frag} {z : Str} {H0 : Hp} {S0 : Sto} : ItW K (Its z) (signs z) (fun _ => True) H0 S0 := fun i S H e hS hG => by
  unfold signs
  refine ⟨fun w ew => ?_, fun hl => ?_⟩
  · rw [List.getElem?_map] at ew
    cases ec : z.cps.toList[i]? with
    | none => rw [ec] at ew; cases ew
    | some c =>
      rw [ec] at ew
      have ew' := Option.some.inj ew
      subst ew'
      have hi : i < z.cps.size := by
        have := (List.getElem?_eq_some_iff.mp ec).1
        simpa using this
      refine ⟨hi, fun x H' ⟨e1, c', e2, e3⟩ => ?_⟩
      subst e1 e3
      have : c' = c := by
        have q : z.cps.toList[i]? = some c' := by rw [← e2]; simp
        rw [ec] at q; exact (Option.some.inj q).symm
      subst this
      exact ⟨.refl, hS, .str _⟩
  · show i = z.cps.size
    simpa using hl
theorem zbt {l : Expr} {tl : WE} (hl : JE X l tl) : JI X tg l (wIv tl) := fun E hE =>
  (zpM (hl E hE)).mono fun σ H R ⟨σW, S, QW, hσ, hS, ht, hR⟩ => ⟨σW, S, _, hσ, hS, ht, fun w S1 v H1 e1 r1 hS1 h1 => by
    cases r1 with
    | tup f hs => exact .inr (.inl ⟨_, rfl, ⟨_, .of f⟩, hR _ _ S1 _ H1 e1 hS1 trivial (zpF f hs) h1⟩)
    | ref a =>
      obtain ⟨ws, ea, h⟩ := zaZ h1
      obtain ⟨vs, f, hs⟩ := hS1 a _ ea
      refine .inl ⟨_, rfl, ⟨_, .of f⟩, hR _ _ S1 _ H1 e1 hS1 ea (zjM fun S2 H2 e2 hS2 g2 => ?_) h⟩
      obtain ⟨vs2, f2, hs2⟩ := hS2 a _ g2
      exact ⟨vs2, .of f2, hs2⟩
    | scr f => exact .inl ⟨_, rfl, ⟨_, f.sq⟩, hR _ _ S1 _ H1 e1 hS1 trivial (zjM fun S2 H2 e2 hS2 g2 => ⟨_, (e2.fz f).sq, Reps.ofInts _⟩) h1⟩
    | str z => exact .inr (.inr ⟨z, rfl, hR _ _ S1 _ H1 e1 hS1 trivial zqa h1⟩)
    | _ => exact h1.elim⟩
def wIl (t : WL) : WI := fun E σ S Q => t E σ S fun ws S1 => Q ws (fun _ => True) S1
def upto (lo : Int) (n : Nat) : List W := (List.range n).map fun (i : Nat) => .int (lo + (i : Int))
theorem zpr {K : PySem.W.Frag} {lo : Int} {n : Nat} {H0 : Hp} {S0 : Sto} : ItW K (Itr lo n) (upto lo n) (fun _ => True) H0 S0 := fun i S H e hS hG => by
  unfold upto
  refine ⟨fun w ew => ?_, fun hl => by
    have : i = n := by simpa using hl
    exact Nat.le_of_eq this.symm⟩
  rw [List.getElem?_map] at ew
  by_cases hi : i < n
  · rw [List.getElem?_range hi] at ew
    have ew' := Option.some.inj ew
    subst ew'
    refine ⟨hi, fun x H' ⟨e1, e2⟩ => ?_⟩
    subst e1 e2
    exact ⟨.refl, hS, .int _⟩
  · rw [List.getElem?_eq_none (by simpa using hi)] at ew; cases ew
def wRng (t : WA) : WI := fun E σ S Q => t E σ S fun ws S1 => match ws with
  | [.int j] => (-(2 ^ 62) ≤ j ∧ j < 2 ^ 62) ∧ Q (upto 0 j.toNat) (fun _ => True) S1
  | _ => False
theorem zcW {a : Expr} {ta : WA} {p pos : Pos} (hg : Gl X "range") (hm : X.mg "range" = none) (ha : JA X [a] ta) (hs : starEach [a] X.env = [(false, eval a X.env)] := by rfl) : JI X tg (.Call (.Name "range" p) [a] [] pos) (wRng ta) := fun E hE =>
  (zkL hg hm (ha E hE) hs).mono fun σ H R ⟨σW, S, QW, hσ, hS, ht, hR⟩ => ⟨σW, S, _, hσ, hS, ht, fun ws S1 vs H1 e1 r1 hS1 h1 => by
    cases r1 with
    | nil => exact h1.elim
    | cons r2 r3 =>
      cases r3 with
      | cons _ _ => cases r2 <;> exact h1.elim
      | nil =>
        cases r2 with
        | int j => exact ⟨j, rfl, h1.1.1, h1.1.2, hR _ _ S1 _ H1 e1 hS1 trivial zpr h1.2⟩
        | _ => exact h1.elim⟩
end

def wYes : WT := fun _ _ S Q => Q true S
def JTs (X : Cx) (ifs : List Expr) (t : WT) : Prop := ∀ E, Hook X E → PTs X ifs (liftT X.K (t E))
theorem zbH {X : Cx} : JTs X [] wYes := fun E hE pins s σ H Q I ⟨σW, S, QW, hσ, hS, ht, hQ⟩ => zoy pins s σ H Q I (hQ true S H .refl hS ht)
theorem zov {X : Cx} {c : Expr} {t : WT} (h : JT X c t) : JTs X [c] t := fun E hE => zoQ (h E hE)
def compL (g : WG) (c : WT) (e : WE) (E : WX) (G : Sto → Prop) (Q : List W → Sto → Prop) : List W → List W → WSt → Sto → Prop
  | [], acc, _, S => Q acc S
  | w :: ws, acc, σ, S => g w σ S fun σ1 S1 => c E σ1 S1 fun b S2 => if b = true then e E σ1 S2 fun y S3 => acc.length < sizeLine ∧ ∃ S4, Sub S4 S3 ∧ G S4 ∧ compL g c e E G Q ws (acc ++ [y]) σ1 S4
      else ∃ S4, Sub S4 S2 ∧ G S4 ∧ compL g c e E G Q ws acc σ1 S4
def wComp (k : Nat) (fr : List Nat) (q : WI) (g : WG) (c : WT) (e : WE) : WL := fun E σ S Q => q E σ S fun ws G S1 => compL g c e E G Q ws [] (List.replicate k none ++ fr.map fun j => (σ[j]?).join) S1
theorem ziN {K : PySem.W.Frag} {H : Hp} {σW : WSt} {σ : St} {k : Nat} {fr : List Nat} (h : RpSt K H σW σ) : RpSt K H (List.replicate k none ++ fr.map fun j => (σW[j]?).join) (startC σ k fr) := by
  have one : ∀ j : Nat, RpO K H (σW[j]?).join (σ[j]?).join := fun j => by
    cases e : σW[j]? with
    | none => exact trivial
    | some w =>
      cases w with
      | none => exact trivial
      | some w =>
        obtain ⟨v, ev, r⟩ := h.get e
        rw [ev]
        exact r
  have go : ∀ fr : List Nat, RpSt K H (fr.map fun j => (σW[j]?).join) (frVals σ fr) := by
    intro fr
    induction fr with
    | nil => exact .nil
    | cons j fr ih => exact .cons (one j) ih
  unfold startC
  induction k with
  | zero => exact go fr
  | succ k ih => exact .cons trivial ih
section
variable {X : Cx} {scope : Scope} {N : List Str} {k : Nat} {fr : List Nat} {tg iter elt : Expr} {ifs : List Expr} {pos : Pos} {q : WI} {g : WG} {c : WT} {e : WE}
theorem Ext.loose {H H' : Hp} (a : ∀ b xs, H b = some (.tup xs) → H' b = some (.tup xs)) (b : ∀ c o u, H c = some (.frz o u) → H' c = some (.frz o u)) (d : ∀ b o, H b = some o → ∃ o', H' b = some o') : Ext H (fun _ => some (.lst [])) H' (fun _ => some (.lst [])) :=
  ⟨a, b, (fun _ _ _ g => nomatch g), d⟩
theorem Ext.over {H H' : Hp} {S S' : Sto} {l : Addr} {o : HO} (e : Ext H S H' S') (h : H l = none) : Ext H S (upd H' l o) S' :=
  ⟨fun b xs q => by rw [zaq (zal q h)]; exact e.tup b xs q, fun b ob u q => by rw [zaq (zal q h)]; exact e.frz b ob u q, fun b ob q z => by rw [zaq (zal q h)]; exact e.fr b ob q z, fun b ob q => by rw [zaq (zal q h)]; exact e.all b ob q⟩
theorem zgQ (hg : ∀ s₀ H₀ fp pn, JG (cxComp X scope N s₀ H₀ fp pn) tg g) (hc : ∀ s₀ H₀ fp pn, JTs (cxComp X scope N s₀ H₀ fp pn) ifs c) (he : ∀ s₀ H₀ fp pn, JE (cxComp X scope N s₀ H₀ fp pn) elt e)
    {E : WX} (hE : Hook X E) (σ : St) (H : Hp) (Q : VK) : liftL X.K (wComp k fr q g c e E) σ H Q → tComp X scope N k fr tg ifs elt (liftI X.K (q E)) σ H Q := fun ⟨σW, S0, QW, hσ, hS, ht, hQ⟩ => by
    refine ⟨σW, S0, _, hσ, hS, ht, fun ws G S1 J H1 e1 hS1 hG1 hJ h1 l hl => ?_⟩
    have upl : ∀ {H' : Hp} {vs us : List V} {S' : Sto}, H' l = some (.lst vs) → S' l = none → RepS X.K H' S' → Ext H' (fun _ => some (.lst [])) (upd H' l (.lst us)) (fun _ => some (.lst [])) ∧ RepS X.K (upd H' l (.lst us)) S' := fun {H' vs us S'} f n hS' => by
      have x : Ext H' (fun _ => some (.lst [])) (upd H' l (.lst us)) (fun _ => some (.lst [])) := .loose (fun b xs q => by rw [zaq (zlA q f fun z => nomatch z)]; exact q) (fun b o u q => by rw [zaq (zlA q f fun z => nomatch z)]; exact q) fun b o q => by
        by_cases hb : b = l
        · subst hb; exact ⟨_, zau⟩
        · exact ⟨o, by rw [zaq hb]; exact q⟩
      refine ⟨x, fun a o q => (hS' a o q).keep x fun u z => ?_⟩
      have ha : a ≠ l := by rintro rfl; rw [n] at q; cases q
      rw [zaq ha]; exact z
    refine ⟨fun i m σ' H' => ∃ σW' S' acc vs, Ext H1 S1 H' S' ∧ H' l = some (.lst vs) ∧ S' l = none ∧ Reps X.K H' acc vs ∧ RpSt X.K H' σW' σ' ∧ RepS X.K H' S' ∧ G S' ∧ m = ws.length - i ∧ i ≤ ws.length ∧ compL g c e E G QW (ws.drop i) acc σW' S',
      ⟨ws.length, _, S1, [], [], .new hl, zau, hS1.free hl, .nil, ziN (hσ.ext (e1.trans (.new (S := S1) hl))), hS1.new hl, hG1, rfl, Nat.zero_le _, h1⟩, ?_⟩
    rintro i m σ' H' ⟨σW', S', acc, vs, e2, f2, n2, ra, hσ2, hS2, hG2, rfl, hi2, h2⟩
    obtain ⟨ji, js⟩ := hJ i S' H' e2 hS2 hG2
    by_cases hlt : i < ws.length
    · obtain ⟨jgo, jy⟩ := ji ws[i] (List.getElem?_eq_getElem hlt)
      refine .inr ⟨jgo, fun σ'' H'' => ∃ σW' S' acc vs, Ext H1 S1 H'' S' ∧ H'' l = some (.lst vs) ∧ S' l = none ∧ Reps X.K H'' acc vs ∧ RpSt X.K H'' σW' σ'' ∧ RepS X.K H'' S' ∧ G S' ∧ ws.length - (i + 1) = ws.length - (i + 1) ∧ i + 1 ≤ ws.length ∧ compL g c e E G QW (ws.drop (i + 1)) acc σW' S',
        fun σ'' H'' z => ⟨_, by omega, z⟩, fun x H3 y3 => ?_⟩
      obtain ⟨e3, hS3, r3⟩ := jy x H3 y3
      rw [List.drop_eq_getElem_cons hlt] at h2
      intro s₀ H₀ fp pn
      have hk : Hook (cxComp X scope N s₀ H₀ fp pn) E := ⟨hE.no, rfl, hE.calm⟩
      refine ⟨_, _, _, hg s₀ H₀ fp pn E hk, hc s₀ H₀ fp pn E hk, he s₀ H₀ fp pn E hk, ?_⟩
      refine ⟨_, σW', S', _, r3, hσ2.ext e3, hS3, h2, fun σW4 S4 σ4 H4 e4 hσ4 hS4 h4 => ?_⟩
      refine ⟨σW4, S4, _, hσ4, hS4, h4, fun b S5 H5 e5 hS5 h5 => ?_⟩
      have e15 : Ext H' S' H5 S5 := (e3.trans e4).trans e5
      have hσ5 := hσ4.ext e5
      obtain ⟨f5, n5⟩ := e15.fr l _ f2 n2
      cases b with
      | false =>
        have h5 : ∃ S4, Sub S4 S5 ∧ G S4 ∧ compL g c e E G QW (ws.drop (i + 1)) acc σW4 S4 := h5
        refine iteF ?_
        obtain ⟨S6, sb, hG6, h6⟩ := h5
        have e16 := e15.trans (.drop sb)
        exact ⟨σW4, S6, acc, vs, e2.trans e16, f5, (e16.fr l _ f2 n2).2, ra.ext e15, hσ5, hS5.sub sb, hG6, rfl, hlt, h6⟩
      | true =>
        rw [if_pos rfl] at h5
        refine iteT ?_
        refine ⟨σW4, S5, _, hσ5, hS5, h5, fun y S6 v H6 e6 r6 hS6 h6 => ?_⟩
        have e17 := e15.trans e6
        obtain ⟨f6, n6⟩ := e17.fr l _ f2 n2
        obtain ⟨hz, S7, sb, hG7, h7⟩ := h6
        obtain ⟨x6, hS6'⟩ := upl (us := vs ++ [v]) f6 n6 hS6
        have ra6 : Reps X.K H6 (acc ++ [y]) (vs ++ [v]) := (ra.ext e17).append (.one r6)
        refine ⟨vs, f6, by rw [← ra.length]; exact hz, σW4, S7, acc ++ [y], vs ++ [v], ?_, zau, ((e17.trans (.drop sb)).fr l _ f2 n2).2, ra6.ext x6, (hσ5.ext e6).ext x6, hS6'.sub sb, hG7, rfl, hlt, h7⟩
        exact (e2.trans (e17.trans (.drop sb))).over hl
    · have hll : i = ws.length := by omega
      rw [List.drop_of_length_le (Nat.le_of_eq hll.symm)] at h2
      exact .inl ⟨js hll, hQ acc S' vs l H' (e1.trans e2) (e1.free hl) f2 n2 ra hS2 h2⟩
theorem zbN (S : CompSc X scope N k fr) (hi : JI X tg iter q) (hg : ∀ s₀ H₀ fp pn, JG (cxComp X scope N s₀ H₀ fp pn) tg g) (hc : ∀ s₀ H₀ fp pn, JTs (cxComp X scope N s₀ H₀ fp pn) ifs c) (he : ∀ s₀ H₀ fp pn, JE (cxComp X scope N s₀ H₀ fp pn) elt e)
    (hs : ∀ x, foldedSetIterable iter X.env x = pure x := by intro _; rfl) : JL X (.ListComp elt [⟨tg, iter, ifs, 0⟩] scope pos) (wComp k fr q g c e) := fun E hE =>
  (znM hE.xe hE.calm S (hi E hE) hs).mono (zgQ hg hc he hE)
theorem zjE {i : Nat} {x : Str} {pos' spos : Pos} (hN : X.N.Nodup) (hxi : X.N[i]? = some x) (hxl : Loc X.env.scope x) (S : CompSc X scope N k fr) (hi : JI X tg iter q) (hg : ∀ s₀ H₀ fp pn, JG (cxComp X scope N s₀ H₀ fp pn) tg g) (hc : ∀ s₀ H₀ fp pn, JTs (cxComp X scope N s₀ H₀ fp pn) ifs c) (he : ∀ s₀ H₀ fp pn, JE (cxComp X scope N s₀ H₀ fp pn) elt e)
    (hw : swapsWith (.ListComp elt [⟨tg, iter, ifs, 0⟩] scope pos) (some (.Name x pos')) spos.line X.env = pure true := by rfl) (hf : X.fn x = true ∨ X.env.scope.names.lookup x = some .local := by first | exact .inl rfl | exact .inr rfl | assumption)
    (hs : ∀ x, foldedSetIterable iter X.env x = pure x := by intro _; rfl) : JS X (.Assign [.Name x pos'] (.ListComp elt [⟨tg, iter, ifs, 0⟩] scope pos) spos) (wAsg (wNew (wComp k fr q g c e)) (wGN i)) := fun E hE =>
  (znC hE.xe hE.calm S (hi E hE) hN hxi hxl hw hf hs).mono fun D σ H ⟨σW, S0, DW, hσ, hS, ht, hD⟩ =>
    zgQ hg hc he hE σ H _ ⟨σW, S0, _, hσ, hS, ht, fun ws S1 vs a H1 e1 fa ea na r1 hS1 h1 => by
      have ex : Ext H S0 H1 (put S1 a (.lst ws)) := ⟨e1.tup, e1.frz, fun b o q g => by
        have hb : b ≠ a := by rintro rfl; rw [fa] at q; cases q
        rw [zaH hb]
        exact e1.fr b o q g, e1.all⟩
      refine hD.nx _ (put S1 a (.lst ws)) _ H1 ex ((hσ.ext ex).set (.ref a) i) (fun b o q => ?_) (h1 a na)
      by_cases hb : b = a
      · subst hb; rw [zaf] at q; cases q; exact ⟨vs, ea, r1⟩
      · rw [zaH hb] at q; exact hS1 b o q⟩
end
end L2
end

section
set_option Elab.async false
set_option linter.all false
set_option maxRecDepth 100000
set_option maxHeartbeats 4000000
namespace L2
open PySem PySem.Spec PyProof.Rows

def SeqIt (k : Bool) (h : Heap) (it a : Addr) (i : Nat) : Prop := if k = true then h.IsListIter it a i else h.IsTupleIter it a i
def SeqIs (k : Bool) (h : Heap) (a : Addr) (its : Array Value) : Prop := if k = true then h.IsList a its else h.IsTuple a its
section
variable {k : Bool} {h h' : Heap} {it a b : Addr} {i : Nat} {its : Array Value}
theorem SeqIt.at (x : SeqIt k h it a i) (e : ∀ o, h.get? it = some o → h'.get? it = some o) : SeqIt k h' it a i := by
  cases k with
  | true => exact Heap.IsListIter.at (show h.IsListIter it a i from x) e
  | false => exact Heap.IsTupleIter.at (show h.IsTupleIter it a i from x) e
theorem SeqIs.at (x : SeqIs k h a its) (e : ∀ o, h.get? a = some o → h'.get? a = some o) : SeqIs k h' a its := by
  cases k with
  | true => exact Heap.IsList.at (show h.IsList a its from x) e
  | false => obtain ⟨o, ho, r⟩ := (show h.IsTuple a its from x); exact ⟨o, e o ho, r⟩
theorem SeqIt.ob (x : SeqIt k h it a i) : ∃ o vs, h.get? it = some o ∧ o.data = .fields vs := by
  cases k with
  | true => obtain ⟨o, ho, _, hd⟩ := (show h.IsListIter it a i from x); exact ⟨o, _, ho, hd⟩
  | false => obtain ⟨o, ho, _, hd⟩ := (show h.IsTupleIter it a i from x); exact ⟨o, _, ho, hd⟩
end
section
variable {prog : Program} {w : World} {A : Around} {E : Value → Shared → Prop} {s : Shared}
theorem zec {it t : Addr} {i : Nat} {its : Array Value} {x : Value} {Q : Value → Shared → Prop} (hit : s.heap.IsTupleIter it t i) (ht : s.heap.IsTuple t its) (hx : its[i]? = some x)
    (hQ : ∀ g, g.IsTupleIter it t (i + 1) → Heap.SameBut it s.heap g → Q x { s with heap := g }) : wpAny (model prog w) A (Builtin.SmallTypes.nextOf (.ref it)) Q E s := by
  obtain ⟨o, ho, hc, hd⟩ := id hit
  obtain ⟨ot, hot, _, nt, hdt⟩ := ht
  unfold Builtin.SmallTypes.nextOf
  refine wpAny_bind (wpAny_callSpecial?_slot (name := Str.ofString "__next__") hit.typeIs PySem.F.slot_tuple_iterator_next (wpAny_call_entry PySem.F.slot_tuple_iterator_next hit.typeIs PySem.F.entry_tuple_iterator_next ?_ (PySem.F.args_tuple_iterator_next_1 _)))
  show wpAny _ _ (field (.ref it) 0 >>= _) _ _ s
  refine wpAny_bind (wpAny_field ho hd (x := .ref t) rfl ?_)
  show wpAny _ _ (if (Value.ref t == Value.none) = true then _ else _) _ _ s
  rw [if_neg (show ¬ ((Value.ref t == Value.none) = true) from Bool.false_ne_true)]
  show wpAny _ _ (field (.ref it) 1 >>= _) _ _ s
  refine wpAny_bind (wpAny_field ho hd (x := .int i 0) rfl ?_)
  show wpAny _ _ (seqItems? (.ref t) >>= _) _ _ s
  refine wpAny_bind (wpAny_seqItems hot hdt ?_)
  simp only [Int.toNat_natCast, hx]
  refine wpAny_bind (wpAny_setField ho hd (by simp) (wpAny_pure ⟨x, rfl, wpAny_pure (hQ _ ?_ (Heap.SameBut.update ..))⟩))
  exact ⟨_, Heap.get?_update_self _ ho (Obj.isFreed_of_fields (Obj.data_mapFields hd _)), (Obj.cls_mapFields ..).trans hc, by rw [Obj.data_mapFields hd]; simp [rawInt]⟩
theorem zeo {it t : Addr} {i : Nat} {its : Array Value} {Q : Value → Shared → Prop} (hh : A.handled = none) (hit : s.heap.IsTupleIter it t i) (ht : s.heap.IsTuple t its) (hx : its[i]? = none)
    (hE : ∀ g e, Heap.ExtBut it s.heap g → (∃ o, g.get? e = some o ∧ o.cls = .type "StopIteration") → E (.ref e) { s with heap := g }) : wpAny (model prog w) A (Builtin.SmallTypes.nextOf (.ref it)) Q E s := by
  obtain ⟨o, ho, hc, hd⟩ := id hit
  obtain ⟨ot, hot, _, nt, hdt⟩ := ht
  unfold Builtin.SmallTypes.nextOf
  refine wpAny_bind (wpAny_callSpecial?_slot (name := Str.ofString "__next__") hit.typeIs PySem.F.slot_tuple_iterator_next (wpAny_call_entry PySem.F.slot_tuple_iterator_next hit.typeIs PySem.F.entry_tuple_iterator_next ?_ (PySem.F.args_tuple_iterator_next_1 _)))
  show wpAny _ _ (field (.ref it) 0 >>= _) _ _ s
  refine wpAny_bind (wpAny_field ho hd (x := .ref t) rfl ?_)
  show wpAny _ _ (if (Value.ref t == Value.none) = true then _ else _) _ _ s
  rw [if_neg (show ¬ ((Value.ref t == Value.none) = true) from Bool.false_ne_true)]
  show wpAny _ _ (field (.ref it) 1 >>= _) _ _ s
  refine wpAny_bind (wpAny_field ho hd (x := .int i 0) rfl ?_)
  show wpAny _ _ (seqItems? (.ref t) >>= _) _ _ s
  refine wpAny_bind (wpAny_seqItems hot hdt ?_)
  simp only [Int.toNat_natCast, hx]
  refine wpAny_bind (wpAny_rule (wpAny_bind (wpAny_setField ho hd (by simp) ?_)))
  show wpAny _ _ (newExc (.type "StopIteration") [] >>= _) _ _ _
  refine wpAny_bind ?_
  simp only [newExc, newTuple]
  refine wpAny_bind (wpAny_newObj_type ?_ (by size_fits))
  refine wpAny_bind (m := firstArgMember _ _) (wpAny_of_eq (a := Value.none) (by first | rfl | (simp only [firstArgMember]; rfl)) ?_)
  refine wpAny_newObj_type ?_ (by size_fits)
  simp only [raiseNew]
  refine wpAny_bind (wpAny_handled ?_)
  first | rw [show A.in1.handled = none from hh] | rw [hh]
  refine wpAny_bind (wpAny_pure (wpAny_throw ?_))
  exact hE _ _ (((Heap.SameBut.update ..).extBut.push _).push _) ⟨_, Heap.get?_push_size _ rfl, rfl⟩
theorem zcY {k : Bool} {it t : Addr} {i : Nat} {its : Array Value} {x : Value} {Q : Value → Shared → Prop} (hit : SeqIt k s.heap it t i) (ht : SeqIs k s.heap t its) (hx : its[i]? = some x)
    (hQ : ∀ g, SeqIt k g it t (i + 1) → Heap.SameBut it s.heap g → Q x { s with heap := g }) : wpAny (model prog w) A (Builtin.SmallTypes.nextOf (.ref it)) Q E s := by
  cases k with
  | true => exact wpAny_nextOf_list_item hit ht hx hQ
  | false => exact zec hit ht hx hQ
theorem zfs {k : Bool} {it t : Addr} {i : Nat} {its : Array Value} {Q : Value → Shared → Prop} (hh : A.handled = none) (hit : SeqIt k s.heap it t i) (ht : SeqIs k s.heap t its) (hx : its[i]? = none)
    (hE : ∀ g e, Heap.ExtBut it s.heap g → (∃ o, g.get? e = some o ∧ o.cls = .type "StopIteration") → E (.ref e) { s with heap := g }) : wpAny (model prog w) A (Builtin.SmallTypes.nextOf (.ref it)) Q E s := by
  cases k with
  | true => exact wpAny_nextOf_list_end hh hit ht hx hE
  | false => exact zeo hh hit ht hx hE

theorem zka {k : Bool} {e it l : Addr} {i : Nat} {its : Array Value} {x old : Value} {Q : Option Value → Shared → Prop}
    (he : IsEnum s.heap e it i old) (hit : SeqIt k s.heap it l i) (hl : SeqIs k s.heap l its) (hx : its[i]? = some x) (hne : e ≠ it)
    (hQ : ∀ g, IsEnumOut g e it ((i : Int) + 1) x s.heap.objs.size → SeqIt k g it l (i + 1) → g.get? s.heap.objs.size = some { cls := .type "tuple", data := .seq #[.int i s.toks, x] } → g.objs.size = s.heap.objs.size + 1 →
      (∀ b o, b ≠ e → b ≠ it → s.heap.get? b = some o → g.get? b = some o) → Q (some (.ref s.heap.objs.size)) { s with heap := g, toks := s.toks + 1 }) : wpAny (model prog w) A (pyNext (.ref e)) Q E s := by
  have hT : s.TypeIs (.ref e) "enumerate" := ⟨_, he, rfl⟩
  unfold pyNext
  refine wpAny_bind (wpAny_attempt (wpAny_callSpecial?_slot (name := Str.ofString "__next__") hT PySem.F.slot_enumerate_next (wpAny_call_entry PySem.F.slot_enumerate_next hT PySem.F.entry_enumerate_next ?_ (PySem.F.args_enumerate_next_1 _))))
  obtain ⟨hp, g, d, tk, os⟩ := s
  show wpAny _ _ (field (.ref e) 2 >>= _) _ _ _
  refine wpAny_bind (wpAny_field he rfl (x := .ref it) rfl ?_)
  refine wpAny_bind (zcY hit hl hx fun g1 hit1 hs1 => ?_)
  replace hs1 : Heap.SameBut it hp g1 := hs1
  have he1 : IsEnum g1 e it i old := (hs1.2 e hne).trans he
  show wpAny _ _ (field (.ref e) 3 >>= _) _ _ ⟨g1, g, d, tk, os⟩
  refine wpAny_bind (wpAny_field he1 rfl (x := rawInt i) rfl ?_)
  show wpAny _ _ (field (.ref e) 4 >>= _) _ _ ⟨g1, g, d, tk, os⟩
  refine wpAny_bind (wpAny_field he1 rfl (x := .none) rfl ?_)
  show wpAny _ _ (mkInt i >>= _) _ _ ⟨g1, g, d, tk, os⟩
  refine wpAny_bind (wpAny_mkInt ?_)
  show wpAny _ _ (setField (.ref e) 3 (rawInt ((i : Int) + 1)) >>= _) _ _ ⟨g1, g, d, tk + 1, os⟩
  refine wpAny_bind (wpAny_setField_rec he1 (by simp) fun g2 he2 hs2 => ?_)
  replace hs2 : Heap.SameBut e g1 g2 := hs2
  replace he2 : IsEnum g2 e it ((i : Int) + 1) old := he2
  show wpAny _ _ (setField (.ref e) 4 .none >>= _) _ _ ⟨g2, g, d, tk + 1, os⟩
  refine wpAny_bind (wpAny_setField_rec he2 (by simp) fun g3 he3 hs3 => ?_)
  replace hs3 : Heap.SameBut e g2 g3 := hs3
  replace he3 : IsEnum g3 e it ((i : Int) + 1) old := he3
  show wpAny _ _ (newTuple [.int i tk, x] >>= _) _ _ ⟨g3, g, d, tk + 1, os⟩
  refine wpAny_bind (wpAny_newTuple ?_)
  have he4 : IsEnum (g3.push { cls := .type "tuple", data := .seq #[.int i tk, x] }) e it ((i : Int) + 1) old := Heap.get?_push_of_some _ he3
  generalize hg4 : g3.push { cls := .type "tuple", data := .seq #[.int i tk, x] } = g4 at he4
  have hsz : g3.objs.size = hp.objs.size := by rw [hs3.1, hs2.1, hs1.1]
  have hel : e < hp.objs.size := Heap.lt_size he
  have ht4 : g4.get? hp.objs.size = some { cls := .type "tuple", data := .seq #[.int i tk, x] } := by rw [← hg4, ← hsz]; exact Heap.get?_push_size _ rfl
  have hz4 : g4.objs.size = hp.objs.size + 1 := by rw [← hg4, Heap.size_push, hsz]
  have hk4 : ∀ b o, b ≠ e → b ≠ it → hp.get? b = some o → g4.get? b = some o := fun b o hbe hbi hb => by rw [← hg4]; exact Heap.get?_push_of_some _ (hs3.extBut b o hbe (hs2.extBut b o hbe (hs1.extBut b o hbi hb)))
  have hit4 : SeqIt k g4 it l (i + 1) := by rw [← hg4]; exact hit1.at fun o ho => Heap.get?_push_of_some _ (hs3.extBut it o (Ne.symm hne) (hs2.extBut it o (Ne.symm hne) ho))
  show wpAny _ _ (Builtin.SmallTypes.ownedTupleIsFree (.ref e) >>= _) _ _ ⟨g4, g, d, tk + 1, os⟩
  rw [hsz]
  clear hg4 he3 hs3 he2 hs2 he1 hs1 hit1 hsz g3 g2 g1
  refine wpAny_bind ?_
  unfold Builtin.SmallTypes.ownedTupleIsFree
  refine wpAny_bind (wpAny_field he4 rfl (x := .none) rfl (wpAny_pure ?_))
  simp only [if_true]
  refine wpAny_bind (wpAny_rule ?_)
  refine wpAny_bind (wpAny_field he4 rfl (x := old) rfl ?_)
  refine wpAny_bind (wpAny_setField_rec he4 (by simp) fun g5 he5 hs5 => ?_)
  replace hs5 : Heap.SameBut e g4 g5 := hs5
  replace he5 : IsEnum g5 e it ((i : Int) + 1) x := he5
  show wpAny _ _ (Builtin.SmallTypes.ownedTupleHandOut (.ref e) (.ref hp.objs.size) >>= _) _ _ ⟨g5, g, d, tk + 1, os⟩
  refine wpAny_bind ?_
  unfold Builtin.SmallTypes.ownedTupleHandOut
  refine wpAny_bind (wpAny_setField_rec he5 (by simp) fun g6 he6 hs6 => ?_)
  replace hs6 : Heap.SameBut e g5 g6 := hs6
  replace he6 : IsEnumOut g6 e it ((i : Int) + 1) x hp.objs.size := he6
  refine wpAny_setField_rec he6 (by simp) fun g7 he7 hs7 => ?_
  replace hs7 : Heap.SameBut e g6 g7 := hs7
  replace he7 : IsEnumOut g7 e it ((i : Int) + 1) x hp.objs.size := he7
  refine wpAny_bind (wpAny_letGo (wpAny_pure ⟨_, rfl, wpAny_pure (hQ g7 he7 ?_ ?_ ?_ ?_)⟩))
  · exact hit4.at fun o ho => hs7.extBut it o (Ne.symm hne) (hs6.extBut it o (Ne.symm hne) (hs5.extBut it o (Ne.symm hne) ho))
  · exact hs7.extBut _ _ (Nat.ne_of_gt hel) (hs6.extBut _ _ (Nat.ne_of_gt hel) (hs5.extBut _ _ (Nat.ne_of_gt hel) ht4))
  · rw [hs7.1, hs6.1, hs5.1, hz4]
  · exact fun b o hbe hbi hb => hs7.extBut b o hbe (hs6.extBut b o hbe (hs5.extBut b o hbe (hk4 b o hbe hbi hb)))
theorem zmE {k : Bool} {e it l : Addr} {i : Nat} {its : Array Value} {old : Value} {Q : Option Value → Shared → Prop} (hh : A.handled = none)
    (he : IsEnum s.heap e it i old) (hit : SeqIt k s.heap it l i) (hl : SeqIs k s.heap l its) (hx : its[i]? = none) (hQ : ∀ g, Heap.ExtBut it s.heap g → Q none { s with heap := g }) : wpAny (model prog w) A (pyNext (.ref e)) Q E s := by
  have hT : s.TypeIs (.ref e) "enumerate" := ⟨_, he, rfl⟩
  unfold pyNext
  refine wpAny_bind (wpAny_attempt (wpAny_callSpecial?_slot (name := Str.ofString "__next__") hT PySem.F.slot_enumerate_next (wpAny_call_entry PySem.F.slot_enumerate_next hT PySem.F.entry_enumerate_next ?_ (PySem.F.args_enumerate_next_1 _))))
  show wpAny _ _ (field (.ref e) 2 >>= _) _ _ _
  refine wpAny_bind (wpAny_field he rfl (x := .ref it) rfl ?_)
  refine wpAny_bind (zfs hh hit hl hx fun g x he' hx' => ?_)
  obtain ⟨o, ho, hc⟩ := hx'
  refine wpAny_bind (wpAny_isInstance (T := "StopIteration") (b := true) ⟨o, ho, hc⟩ isSubtype_stop ?_)
  exact wpAny_pure (hQ _ he')
end
end L2
end

section
set_option Elab.async false
set_option linter.all false
set_option maxRecDepth 100000
set_option maxHeartbeats 4000000
namespace L2
open PySem PySem.Spec PyProof.Rows

def itObj (k : Bool) (a : Addr) : Obj := { cls := .type (if k = true then "list_iterator" else "tuple_iterator"), data := .fields #[.ref a, .int 0 0] }
theorem zfq {k : Bool} {h : Heap} {it a : Addr} (e : h.get? it = some (itObj k a)) : SeqIt k h it a 0 := by
  cases k with
  | true => exact ⟨_, e, rfl, rfl⟩
  | false => exact ⟨_, e, rfl, rfl⟩
theorem zdp {k : Bool} {a : Addr} : (itObj k a).isFreed = false := by cases k <;> rfl
section
variable {prog : Program} {w : World} {A : Around} {E : Value → Shared → Prop} {s : Shared}
theorem zfo {k : Bool} {a : Addr} {its : Array Value} {Q : Value → Shared → Prop} (ha : SeqIs k s.heap a its) (hQ : Q (.ref s.heap.objs.size) { s with heap := s.heap.push (itObj k a) }) : wpAny (model prog w) A (pyIter (.ref a)) Q E s := by
  cases k with
  | true => exact wpAny_pyIter_list ha hQ
  | false => exact wpAny_pyIter_tuple ha hQ
end
theorem SeqIs.push {k : Bool} {h : Heap} {a : Addr} {its : Array Value} (x : SeqIs k h a its) (o : Obj) : SeqIs k (h.push o) a its := x.at fun _ e => Heap.get?_push_of_some _ e
theorem ziH {k : Bool} (l : Addr) (its : Array Value) :
    PySem.Meets (Builtin.«enumerate.__new__» ⟨[.type "enumerate", .ref l], []⟩) (fun _ R s => SeqIs k s.heap l its ∧
      R (.ok (.ret (.ref (s.heap.push (itObj k l)).objs.size))) { s with heap := (s.heap.push (itObj k l)).push { cls := .type "enumerate", data := .fields #[.none, .bool false, .ref s.heap.objs.size, rawInt 0, .none, .none] } }) :=
  .of_wp fun prog w A R s h => by
    obtain ⟨hp, g, d, tk, os⟩ := s; obtain ⟨hl, h⟩ := h
    have hsub := sub_enumerate
    have hL : SeqIs k (Shared.heap ⟨hp, g, d, tk, os⟩) l its := hl
    have fin : ∀ {A : Around} {E : Value → Shared → Prop} {Q : Value → Shared → Prop}, Q (.ref hp.objs.size) ⟨hp.push (itObj k l), g, d, tk, os⟩ → wpAny (model prog w) A (pyIter (.ref l)) Q E ⟨hp, g, d, tk, os⟩ := fun q => zfo hL q
    wp_walk
    refine wpAny_stack_any fun st => wpAny_pure ?_
    split
    · rename_i c _ _ _ _ _
      cases (c == Value.type "enumerate")
      · wp_walk using fin
        exact ⟨_, rfl, h⟩
      · wp_walk using fin
        exact ⟨_, rfl, h⟩
    · wp_walk using fin
      exact ⟨_, rfl, h⟩
section
variable {prog : Program} {w : World} {A : Around} {E : Value → Shared → Prop} {s : Shared}
theorem zll {k : Bool} {l : Addr} {its : Array Value} {Q : Value → Shared → Prop} (hL : SeqIs k s.heap l its)
    (h : ∀ g, IsEnum g (s.heap.objs.size + 1) s.heap.objs.size 0 .none → SeqIt k g s.heap.objs.size l 0 → g.objs.size = s.heap.objs.size + 2 → (∀ b o, s.heap.get? b = some o → g.get? b = some o) → Q (.ref (s.heap.objs.size + 1)) { s with heap := g }) :
    wpAny (model prog w) A (call (.type "enumerate") [.ref l]) Q E s := by
  refine callType_new PySem.F.called_enumerate (by decide) (PySem.F.typeCall_enumerate_1 _) (PySem.F.newCall_enumerate_1 _) (fun obj => PySem.F.args_object_init_2 obj _) PySem.F.entry_enumerate_new (ziH (k := k) l its) ⟨hL, ?_⟩
  have hz : (s.heap.push (itObj k l)).objs.size = s.heap.objs.size + 1 := Heap.size_push ..
  show _ ∧ _
  rw [hz]
  have he : IsEnum ((s.heap.push (itObj k l)).push { cls := .type "enumerate", data := .fields #[.none, .bool false, .ref s.heap.objs.size, rawInt 0, .none, .none] }) (s.heap.objs.size + 1) s.heap.objs.size 0 .none := by
    have := Heap.get?_push_size (s.heap.push (itObj k l)) (o := { cls := .type "enumerate", data := .fields #[.none, .bool false, .ref s.heap.objs.size, rawInt 0, .none, .none] }) rfl
    rw [hz] at this; exact this
  exact ⟨⟨_, he, rfl⟩, h _ he (zfq (Heap.get?_push_of_some _ (Heap.get?_push_size _ zdp))) (by rw [Heap.size_push, hz]) fun b o x => Heap.get?_push_of_some _ (Heap.get?_push_of_some _ x)⟩
end

section
variable {X : Cx} {pins : List (Addr × Obj)} {σ : St} {H : Hp} {s : Shared} {g : Heap} {fp : List Addr}
theorem Inv.turnNew {p : Addr} {o : HO} {t' : Nat} (I : Inv X pins σ H s) (hp : s.heap.objs.size ≤ p) (k : ∀ b u, b ∉ fp → s.heap.get? b = some u → g.get? b = some u) (hf : ∀ b ∈ fp, FpOk X pins H b) (new : ObjOk X.prog X.w (upd H p o) g p o) :
    Inv X pins σ (upd H p o) { s with heap := g, toks := t' } := by
  have hn := I.hok.fresh hp
  have lt : ∀ {b u}, s.heap.get? b = some u → b ≠ p := fun e => Nat.ne_of_lt (Nat.lt_of_lt_of_le (Heap.lt_size e) hp)
  have nfp : ∀ {b u}, H b = some u → b ∉ fp := fun e z => by rw [(hf _ z).1] at e; cases e
  refine I.call (g' := s.gens) (d' := s.drawn) (ch := fp) ⟨fun b u e _ _ hx => k b u hx e, fun b u e _ _ hx => ⟨u.slots, k b u hx e⟩, fun b u e n _ => by rw [zaq (lt e)]; exact n, fun b u e hx => ⟨u, k b u hx e⟩,
    fun b xs e => by rw [zaq (zal e hn)]; exact e, fun b u xs e => by rw [zaq (zal e hn)]; exact e, fun b ps e => ⟨#[], by rw [zaq (zal e hn), e]; simp⟩⟩ (fun b u e => ?_) I.bare fun b hb => ⟨(hf b hb).2.2.2.1, (hf b hb).2.1, (hf b hb).2.2.2.2.1, (hf b hb).2.2.2.2.2⟩
  by_cases hb : b = p
  · subst hb; rw [zau] at e; cases e; exact new
  · rw [zaq hb] at e
    refine (I.hok b u e).stay (fun c v hc q => k c v ?_ q) (fun c q => by rw [zaq (zal q hn)]; exact q) fun c xs q => by rw [zaq (zal q hn)]; exact q
    rcases hc with rfl | hc
    · exact nfp e
    · exact nfp hc
theorem Inv.turnedL {t' : Nat} (I : Inv X pins σ H s) (k : ∀ b u, b ∉ fp → s.heap.get? b = some u → g.get? b = some u) (hf : ∀ b ∈ fp, FpOk X pins H b) : Inv X pins σ H { s with heap := g, toks := t' } := by
  have nfp : ∀ {b u}, H b = some u → b ∉ fp := fun e z => by rw [(hf _ z).1] at e; cases e
  refine I.call (g' := s.gens) (d' := s.drawn) (ch := fp) ⟨fun b u e _ _ hx => k b u hx e, fun b u e _ _ hx => ⟨u.slots, k b u hx e⟩, fun b u e n _ => n, fun b u e hx => ⟨u, k b u hx e⟩,
    fun b xs e => e, fun b u xs e => e, fun b ps e => ⟨#[], by rw [e]; simp⟩⟩ (fun b u e => ?_) I.bare fun b hb => ⟨(hf b hb).2.2.2.1, (hf b hb).2.1, (hf b hb).2.2.2.2.1, (hf b hb).2.2.2.2.2⟩
  refine (I.hok b u e).stay (fun c v hc q => k c v ?_ q) (fun c q => q) fun c xs q => q
  rcases hc with rfl | hc
  · exact nfp e
  · exact nfp hc
def SqK (k : Bool) (K : PySem.W.Frag) (H : Hp) (a : Addr) (xs : List V) : Prop := if k = true then SqL K H a xs else SqT K H a xs
theorem Inv.seq {k : Bool} {a : Addr} {xs : List V} (I : Inv X pins σ H s) (h : SqK k X.K H a xs) : ∃ its : List Value, Vals xs its ∧ SeqIs k s.heap a its.toArray ∧ xs.length ≤ sizeLine := by
  cases k with
  | true => obtain ⟨its, r, p, z⟩ := I.list h; exact ⟨its, r, p.isList, z⟩
  | false => obtain ⟨its, r, p, z⟩ := I.tuple h; exact ⟨its, r, p, z⟩
theorem Inv.seq_inj {k : Bool} {a : Addr} {xs ys : List V} (I : Inv X pins σ H s) (h : SqK k X.K H a xs) (h' : SqK k X.K H a ys) : xs = ys := by
  cases k with
  | true => exact I.list_inj h h'
  | false => exact I.tuple_inj h h'
end

def Ite (k : Bool) (K : PySem.W.Frag) (a : Addr) : It :=
  ⟨fun i H => ∃ xs x, SqK k K H a xs ∧ xs[i]? = some x, fun i H v H' => ∃ p x, H p = none ∧ v = .ref p ∧ H' = upd H p (.tup [.int i, x]) ∧ ∀ xs, SqK k K H a xs → xs[i]? = some x, fun i H => ∃ xs, SqK k K H a xs ∧ xs.length ≤ i⟩
theorem zlq {P : Program} {w : World} {K : PySem.W.Frag} {es : List Expr} {x1 : Nat} {pos : Pos} (k : Bool) (a e it : Addr) (hne : e ≠ it) : Turn P w K (.Tuple es x1 pos) (Ite k K a) [e, it] e (fun i h => (∃ old, IsEnum h e it (i : Nat) old) ∧ SeqIt k h it a i) where
  mem := by simp
  obj := fun i h ⟨⟨old, he⟩, hit⟩ b hb => by
    rcases List.mem_cons.mp hb with rfl | hb
    · exact ⟨_, he, fun v z => by cases z⟩
    · have q : b = it := by simpa using hb
      subst q
      obtain ⟨o, vs, e, d⟩ := hit.ob
      exact ⟨o, e, fun v z => by rw [d] at z; cases z⟩
  keep := fun i h h' ⟨⟨old, he⟩, hit⟩ kk => ⟨⟨old, kk e (by simp) _ he⟩, hit.at fun o q => kk it (by simp) o q⟩
  item := by
    intro X hP hw hK hc i pins s σ H E I hf st hg
    subst hP hw hK
    obtain ⟨xs, x, hq, hx⟩ := hg
    obtain ⟨⟨old, he⟩, hit⟩ := st
    obtain ⟨its, rv, p, hz⟩ := I.seq hq
    obtain ⟨u, hu, ru⟩ := rv.get hx
    refine zka he hit p (x := u) (by simpa using hu) hne fun g ho hit' ht hz' kk => ⟨_, rfl, ?_⟩
    refine wpAny_letOwnedTupleGo_enum ho fun g2 he2 hs2 => ?_
    have hlt : s.heap.objs.size ≠ e := Nat.ne_of_gt (Heap.lt_size he)
    have kk2 : ∀ b o, b ∉ [e, it] → s.heap.get? b = some o → g2.get? b = some o := fun b o hb q => by
      have h1 : b ≠ e := fun z => hb (by simp [z])
      have h2 : b ≠ it := fun z => hb (by simp [z])
      exact (hs2.2 b h1).trans (kk b o h1 h2 q)
    have hn := I.hok.fresh (Nat.le_refl s.heap.objs.size)
    have ht2 : g2.get? s.heap.objs.size = some { cls := .type "tuple", data := .seq #[.int i s.toks, u] } := (hs2.2 _ hlt).trans ht
    refine ⟨.ref s.heap.objs.size, upd H s.heap.objs.size (.tup [.int i, x]), I.turnNew (fp := [e, it]) (t' := s.toks + 1) (Nat.le_refl _) kk2 hf ⟨by show 2 ≤ sizeLine; rw [sizeLine_eq]; decide, [.int i s.toks, u], .cons ⟨_, rfl⟩ (.cons ru .nil), ⟨_, ht2, rfl, _, rfl⟩⟩, rfl,
      ⟨_, x, hn, rfl, rfl, fun ys hy => by rw [I.seq_inj hy hq]; exact hx⟩, ⟨⟨u, by simpa using he2⟩, hit'.at fun o q => (hs2.2 it (Ne.symm hne)).trans q⟩, fun b hb => ?_⟩
    have hb' := (hf b hb).1
    have : b ≠ s.heap.objs.size := by
      rcases List.mem_cons.mp hb with rfl | hb
      · exact Ne.symm hlt
      · have q : b = it := by simpa using hb
        subst q
        obtain ⟨o, vs, e, d⟩ := hit.ob
        exact Nat.ne_of_lt (Heap.lt_size e)
    rw [zaq this]; exact hb'
  done := by
    intro X hP hw hK hc i pins s σ H E I hf st hg
    subst hP hw hK
    obtain ⟨xs, hq, hx⟩ := hg
    obtain ⟨⟨old, he⟩, hit⟩ := st
    obtain ⟨its, rv, p, hz⟩ := I.seq hq
    have hl := rv.length
    exact zmE (I.ok.hd hc) he hit p (by simp; omega) fun g eb => ⟨rfl, I.turnedL (fp := [e, it]) (t' := s.toks) (fun b o hb q => eb b o (fun z => hb (by simp [z])) q) hf⟩
  self := fun A i s Q E ⟨⟨old, he⟩, hit⟩ h => wpAny_pyIter_enum he h
section
variable {X : Cx} {es : List Expr} {x1 : Nat} {tpos : Pos}
def iEnum (K : PySem.W.Frag) (ta : TA) : TI := fun σ H R => ta σ H fun vs H1 => ∃ k a xs, vs = [.ref a] ∧ SqK k K H1 a xs ∧ R (Ite k K a) H1
theorem znB {a : Expr} {ta : TA} {p pos : Pos} (hg : Gl X "enumerate") (hm : X.mg "enumerate" = none) (ha : PA X [a] ta) (hs : starEach [a] X.env = [(false, eval a X.env)] := by rfl) : PI X (.Tuple es x1 tpos) (.Call (.Name "enumerate" p) [a] [] pos) (iEnum X.K ta) := by
  intro pins s σ H R I h
  refine Call_ (zet I hg hm boot_enumerate (PyProof.Rows.callWith_type1 (thn (ha pos pins s σ H _ I h) fun us s1 ⟨vs, H1, I1, r1, q1⟩ => ?_) hs rfl))
  obtain ⟨k, a, xs, e, hq, q⟩ := q1
  subst e
  cases r1 with
  | cons r rr =>
    cases rr
    cases (show _ = Value.ref a from r)
    obtain ⟨its, rv, pl, hz⟩ := I1.seq hq
    refine zll pl fun g he hit hz' kk => wpAny_pyIter_enum he ?_
    have I2 : Inv X pins σ H1 { s1 with heap := g } := I1.kept (t' := s1.toks) kk
    refine ⟨s1.heap.objs.size + 1, [s1.heap.objs.size + 1, s1.heap.objs.size], _, _, H1, rfl, I2, zlq k a _ _ (Nat.succ_ne_self _), ⟨⟨.none, he⟩, hit⟩, fun b hb => ?_, q⟩
    have hb' : s1.heap.objs.size ≤ b := by
      rcases List.mem_cons.mp hb with rfl | hb
      · exact Nat.le_succ _
      · have q : b = s1.heap.objs.size := by simpa using hb
        exact Nat.le_of_eq q.symm
    exact I1.fpOk hb' (I1.hok.fresh hb')
def nums : Nat → List W → List W
  | _, [] => []
  | n, w :: ws => .tup [.int n, w] :: nums (n + 1) ws
theorem zhG : ∀ {ws : List W} {n i : Nat} {u : W}, (nums n ws)[i]? = some u → ∃ w, ws[i]? = some w ∧ u = .tup [.int ((n + i : Nat) : Int), w]
  | [], _, _, _, h => by simp [nums] at h
  | w :: ws, n, 0, u, h => by
    simp [nums] at h
    exact ⟨w, rfl, by rw [← h]; rfl⟩
  | w :: ws, n, i + 1, u, h => by
    obtain ⟨w', e, q⟩ := zhG (ws := ws) (n := n + 1) (i := i) (u := u) (by simpa [nums] using h)
    refine ⟨w', by simpa using e, ?_⟩
    rw [q, show n + 1 + i = n + (i + 1) by omega]
theorem zhQ : ∀ {ws : List W} {n : Nat}, (nums n ws).length = ws.length
  | [], _ => rfl
  | w :: ws, n => by simp [nums, zhQ (ws := ws)]
theorem zoN {K : PySem.W.Frag} {k : Bool} {a : Addr} {ws : List W} {G : Sto → Prop} {H0 : Hp} {S0 : Sto} (h : ∀ S H, Ext H0 S0 H S → RepS K H S → G S → ∃ vs, SqK k K H a vs ∧ Reps K H ws vs) : ItW K (Ite k K a) (nums 0 ws) G H0 S0 := fun i S H e hS hG => by
  obtain ⟨vs, hq, r⟩ := h S H e hS hG
  refine ⟨fun u eu => ?_, fun hl => ⟨vs, hq, by rw [← r.length, hl, zhQ]; exact Nat.le_refl _⟩⟩
  obtain ⟨w, ew, rfl⟩ := zhG eu
  obtain ⟨v, ev, rv⟩ := r.get ew
  refine ⟨⟨vs, v, hq, ev⟩, fun x H' ⟨p, y, hp, e1, e2, e3⟩ => ?_⟩
  subst e1 e2
  have e4 := e3 vs hq
  rw [ev] at e4; cases e4
  rw [Nat.zero_add]
  exact ⟨.new hp, hS.new hp, .tup zau (.cons (.int _) (.cons (rv.ext (.new (S := S) hp)) .nil))⟩
def seqW : W → Sto → (List W → (Sto → Prop) → Prop) → Prop
  | .tup ws, _, Q => Q ws fun _ => True
  | .ref a, S, Q => lstW S a fun ws => Q ws fun S' => S' a = some (.lst ws)
  | .scr ns, _, Q => Q (ns.map W.int) fun _ => True
  | _, _, _ => False
theorem zpm {K : PySem.W.Frag} {H : Hp} {S : Sto} {w : W} {v : V} {Q : List W → (Sto → Prop) → Prop} (r : Rep K H w v) (hS : RepS K H S) (h : seqW w S Q) :
    ∃ k a ws G, v = .ref a ∧ G S ∧ (∀ S' H', Ext H S H' S' → RepS K H' S' → G S' → ∃ vs, SqK k K H' a vs ∧ Reps K H' ws vs) ∧ Q ws G := by
  cases r with
  | tup f hs => exact ⟨false, _, _, _, rfl, trivial, fun S' H' e hS' _ => ⟨_, .of (e.tup _ _ f), hs.ext e⟩, h⟩
  | ref a =>
    obtain ⟨ws, ea, h⟩ := zaZ h
    exact ⟨true, _, ws, _, rfl, ea, fun S' H' e hS' g => by
      obtain ⟨vs, f, hs⟩ := hS' a _ g
      exact ⟨vs, .of f, hs⟩, h⟩
  | scr f => exact ⟨true, _, _, _, rfl, trivial, fun S' H' e hS' _ => ⟨_, (e.fz f).sq, Reps.ofInts _⟩, h⟩
  | _ => exact h.elim
def wEnum (t : WE) : WI := fun E σ S Q => t E σ S fun w S1 => seqW w S1 fun ws G => Q (nums 0 ws) G S1
theorem zdZ {a : Expr} {ta : WE} {p pos : Pos} (hg : Gl X "enumerate") (hm : X.mg "enumerate" = none) (ha : JE X a ta) (hs : starEach [a] X.env = [(false, eval a X.env)] := by rfl) (hs2 : starEach [a] X.env = (false, eval a X.env) :: starEach [] X.env := by rfl) : JI X (.Tuple es x1 tpos) (.Call (.Name "enumerate" p) [a] [] pos) (wEnum ta) := fun E hE =>
  (znB hg hm (zci (ha E hE) zdX hs2) hs).mono fun σ H R ⟨σW, S, QW, hσ, hS, ht, hR⟩ => ⟨σW, S, _, hσ, hS, ht, fun w S1 v H1 e1 r1 hS1 h1 => by
    obtain ⟨k, a, ws, G, rfl, hG, hq, h⟩ := zpm r1 hS1 h1
    obtain ⟨vs, hv, _⟩ := hq S1 H1 .refl hS1 hG
    exact ⟨k, a, vs, rfl, hv, hR _ _ S1 _ H1 e1 hS1 hG (zoN hq) h⟩⟩
end
end L2
end

section
set_option Elab.async false
set_option linter.all false
set_option maxRecDepth 100000
set_option maxHeartbeats 4000000
namespace L2
open PySem PySem.Spec PyProof.Rows

section
variable {prog : Program} {w : World} {A : Around} {E : Value → Shared → Prop} {s : Shared}
theorem zmQ {k1 k2 : Bool} {z TI TO i1 i2 l1 l2 : Addr} {n1 n2 : Nat} {xs ys : Array Value} {x y a b : Value} {Q : Option Value → Shared → Prop} (D : ZipApart z TI TO i1 i2 l1 l2)
    (hz : IsZip s.heap z TI TO .none) (hTI : IsPair s.heap TI (.ref i1) (.ref i2)) (hTO : IsPair s.heap TO a b) (h1 : SeqIt k1 s.heap i1 l1 n1) (h2 : SeqIt k2 s.heap i2 l2 n2) (hl1 : SeqIs k1 s.heap l1 xs) (hl2 : SeqIs k2 s.heap l2 ys) (hx : xs[n1]? = some x) (hy : ys[n2]? = some y)
    (hQ : ∀ g, IsZip g z TI TO (rawInt s.heap.objs.size) → IsPair g TO x y → SeqIt k1 g i1 l1 (n1 + 1) → SeqIt k2 g i2 l2 (n2 + 1) → IsPair g s.heap.objs.size x y → g.objs.size = s.heap.objs.size + 1 →
      (∀ c o, c ≠ z → c ≠ TO → c ≠ i1 → c ≠ i2 → s.heap.get? c = some o → g.get? c = some o) → Q (some (.ref s.heap.objs.size)) { s with heap := g }) : wpAny (model prog w) A (pyNext (.ref z)) Q E s := by
  have hT : s.TypeIs (.ref z) "zip" := ⟨_, hz, rfl⟩
  unfold pyNext
  refine wpAny_bind (wpAny_attempt (wpAny_callSpecial?_slot (name := Str.ofString "__next__") hT PySem.F.slot_zip_next (wpAny_call_entry PySem.F.slot_zip_next hT PySem.F.entry_zip_next ?_ (PySem.F.args_zip_next_1 _))))
  show wpAny _ _ (field (.ref z) 2 >>= _) _ _ _
  refine wpAny_bind (wpAny_field hz rfl (x := .bool false) rfl ?_)
  show wpAny _ _ (field (.ref z) 3 >>= _) _ _ _
  refine wpAny_bind (wpAny_field hz rfl (x := .ref TI) rfl ?_)
  refine wpAny_bind (wpAny_seqItems hTI rfl ?_)
  show wpAny _ _ (Builtin.SmallTypes.ownedTupleIsFree (.ref z) >>= _) _ _ _
  refine wpAny_bind ?_
  unfold Builtin.SmallTypes.ownedTupleIsFree
  refine wpAny_bind (wpAny_field hz rfl (x := .none) rfl (wpAny_pure ?_))
  simp only [if_true]
  refine wpAny_bind (wpAny_rule ?_)
  refine wpAny_bind (wpAny_field hz rfl (x := .ref TO) rfl ?_)
  refine wpAny_bind (wpAny_setField_rec hz (by simp) fun g1 hz1 hs1 => ?_)
  replace hz1 : IsZip g1 z TI TO .ellipsis := hz1
  refine wpAny_bind ?_
  simp only [List.zipIdx_cons, List.zipIdx_nil, List.forIn_cons, List.forIn_nil]
  refine wpAny_bind (wpAny_bind (wpAny_onRaise ?_))
  show wpAny _ _ (Builtin.SmallTypes.nextOf (.ref i1) >>= _) _ _ _
  refine wpAny_bind (zcY (h1.at fun o e => hs1.extBut _ o D.i1z e) (hl1.at fun o e => hs1.extBut _ o D.l1z e) hx fun g2 h12 hs2 => wpAny_pure ?_)
  have hTO2 : IsPair g2 TO a b := hs2.extBut _ _ D.TOi1 (hs1.extBut _ _ D.TOz hTO)
  refine wpAny_bind (wpAny_seqItems hTO2 rfl ?_)
  refine wpAny_bind (wpAny_updateSeq_pair hTO2 fun g3 hTO3 hs3 => ?_)
  replace hTO3 : IsPair g3 TO x b := hTO3
  refine wpAny_bind (wpAny_letGo (wpAny_pure ?_))
  refine wpAny_bind (wpAny_bind (wpAny_onRaise ?_))
  show wpAny _ _ (Builtin.SmallTypes.nextOf (.ref i2) >>= _) _ _ _
  refine wpAny_bind (zcY (h2.at fun o e => hs3.extBut _ o D.TOi2.symm (hs2.extBut _ o D.i12.symm (hs1.extBut _ o D.i2z e))) (hl2.at fun o e => hs3.extBut _ o D.l2TO (hs2.extBut _ o D.l2i1 (hs1.extBut _ o D.l2z e))) hy fun g4 h24 hs4 => wpAny_pure ?_)
  have hTO4 : IsPair g4 TO x b := hs4.extBut _ _ D.TOi2 hTO3
  refine wpAny_bind (wpAny_seqItems hTO4 rfl ?_)
  refine wpAny_bind (wpAny_updateSeq_pair hTO4 fun g5 hTO5 hs5 => ?_)
  replace hTO5 : IsPair g5 TO x y := hTO5
  refine wpAny_bind (wpAny_letGo (wpAny_pure (wpAny_pure ?_)))
  refine wpAny_bind (wpAny_seqItems hTO5 rfl ?_)
  refine wpAny_bind (wpAny_newTuple ?_)
  have hsz : g5.objs.size = s.heap.objs.size := by rw [hs5.1, hs4.1, hs3.1, hs2.1, hs1.1]
  have hz5 : IsZip g5 z TI TO .ellipsis := hs5.extBut _ _ D.TOz.symm (hs4.extBut _ _ D.i2z.symm (hs3.extBut _ _ D.TOz.symm (hs2.extBut _ _ D.i1z.symm hz1)))
  have hk5 : ∀ c o, c ≠ z → c ≠ TO → c ≠ i1 → c ≠ i2 → s.heap.get? c = some o → g5.get? c = some o := fun c o c1 c2 c3 c4 e => hs5.extBut _ _ c2 (hs4.extBut _ _ c4 (hs3.extBut _ _ c2 (hs2.extBut _ _ c3 (hs1.extBut _ _ c1 e))))
  have h15 : SeqIt k1 g5 i1 l1 (n1 + 1) := h12.at fun o e => hs5.extBut _ o D.TOi1.symm (hs4.extBut _ o D.i12 (hs3.extBut _ o D.TOi1.symm e))
  have h25 : SeqIt k2 g5 i2 l2 (n2 + 1) := h24.at fun o e => hs5.extBut _ o D.TOi2.symm e
  have hzlt : z < g5.objs.size := Heap.lt_size hz5
  show wpAny _ _ (Builtin.SmallTypes.ownedTupleHandOut (.ref z) (.ref g5.objs.size) >>= _) _ _ _
  refine wpAny_bind ?_
  unfold Builtin.SmallTypes.ownedTupleHandOut
  have hz6 : IsZip (g5.push { cls := .type "tuple", data := .seq #[x, y] }) z TI TO .ellipsis := Heap.get?_push_of_some _ hz5
  refine wpAny_bind (wpAny_setField_rec hz6 (by simp) fun g7 hz7 hs7 => ?_)
  replace hz7 : IsZip g7 z TI TO (rawInt g5.objs.size) := hz7
  refine wpAny_setField_rec hz7 (by simp) fun g8 hz8 hs8 => ?_
  replace hz8 : IsZip g8 z TI TO (rawInt g5.objs.size) := hz8
  have up : ∀ c o, c ≠ z → g5.get? c = some o → g8.get? c = some o := fun c o c1 e => hs8.extBut _ _ c1 (hs7.extBut _ _ c1 (Heap.get?_push_of_some _ e))
  have hT8 : IsPair g8 g5.objs.size x y := hs8.extBut _ _ (Nat.ne_of_gt hzlt) (hs7.extBut _ _ (Nat.ne_of_gt hzlt) (Heap.get?_push_size _ rfl))
  have hzz : g8.objs.size = g5.objs.size + 1 := by rw [hs8.1, hs7.1, Heap.size_push]
  rw [hsz] at hz8 hT8 hzz
  refine wpAny_pure ⟨_, rfl, wpAny_pure ?_⟩
  show Q (some (.ref g5.objs.size)) _
  rw [hsz]
  exact hQ g8 hz8 (up _ _ D.TOz hTO5) (h15.at fun o e => up _ o D.i1z e) (h25.at fun o e => up _ o D.i2z e) hT8 hzz fun c o c1 c2 c3 c4 e => up c o c1 (hk5 c o c1 c2 c3 c4 e)
theorem zol {k1 k2 : Bool} {z TI TO i1 i2 l1 l2 : Addr} {n1 n2 : Nat} {xs ys : Array Value} {a b : Value} {Q : Option Value → Shared → Prop} (hh : A.handled = none) (D : ZipApart z TI TO i1 i2 l1 l2)
    (hz : IsZip s.heap z TI TO .none) (hTI : IsPair s.heap TI (.ref i1) (.ref i2)) (hTO : IsPair s.heap TO a b) (h1 : SeqIt k1 s.heap i1 l1 n1) (h2 : SeqIt k2 s.heap i2 l2 n2) (hl1 : SeqIs k1 s.heap l1 xs) (hl2 : SeqIs k2 s.heap l2 ys) (hend : xs[n1]? = none ∨ ys[n2]? = none)
    (hQ : ∀ g, (∀ c o, c ≠ z → c ≠ TO → c ≠ i1 → c ≠ i2 → s.heap.get? c = some o → g.get? c = some o) → Q none { s with heap := g }) : wpAny (model prog w) A (pyNext (.ref z)) Q E s := by
  have hT : s.TypeIs (.ref z) "zip" := ⟨_, hz, rfl⟩
  have fin : ∀ (g : Heap) (e : Addr), (∀ c o, c ≠ z → c ≠ TO → c ≠ i1 → c ≠ i2 → s.heap.get? c = some o → g.get? c = some o) → (∃ o, g.get? e = some o ∧ o.cls = .type "StopIteration") →
      wpAny (model prog w) A (do if (← isInstance (.ref e) (.type "StopIteration")) then pure none else throw (.ref e)) Q E { s with heap := g } := fun g e hk ⟨o, ho, hc⟩ =>
    wpAny_bind (wpAny_isInstance (T := "StopIteration") (b := true) ⟨o, ho, hc⟩ isSubtype_stop (wpAny_pure (hQ _ hk)))
  unfold pyNext
  refine wpAny_bind (wpAny_attempt (wpAny_callSpecial?_slot (name := Str.ofString "__next__") hT PySem.F.slot_zip_next (wpAny_call_entry PySem.F.slot_zip_next hT PySem.F.entry_zip_next ?_ (PySem.F.args_zip_next_1 _))))
  show wpAny _ _ (field (.ref z) 2 >>= _) _ _ _
  refine wpAny_bind (wpAny_field hz rfl (x := .bool false) rfl ?_)
  show wpAny _ _ (field (.ref z) 3 >>= _) _ _ _
  refine wpAny_bind (wpAny_field hz rfl (x := .ref TI) rfl ?_)
  refine wpAny_bind (wpAny_seqItems hTI rfl ?_)
  show wpAny _ _ (Builtin.SmallTypes.ownedTupleIsFree (.ref z) >>= _) _ _ _
  refine wpAny_bind ?_
  unfold Builtin.SmallTypes.ownedTupleIsFree
  refine wpAny_bind (wpAny_field hz rfl (x := .none) rfl (wpAny_pure ?_))
  simp only [if_true]
  refine wpAny_bind (wpAny_rule ?_)
  refine wpAny_bind (wpAny_field hz rfl (x := .ref TO) rfl ?_)
  refine wpAny_bind (wpAny_setField_rec hz (by simp) fun g1 hz1 hs1 => ?_)
  replace hz1 : IsZip g1 z TI TO .ellipsis := hz1
  refine wpAny_bind ?_
  simp only [List.zipIdx_cons, List.zipIdx_nil, List.forIn_cons, List.forIn_nil]
  refine wpAny_bind (wpAny_bind (wpAny_onRaise ?_))
  show wpAny _ _ (Builtin.SmallTypes.nextOf (.ref i1) >>= _) _ _ _
  cases hx : xs[n1]? with
  | none =>
    refine wpAny_bind (zfs hh (h1.at fun o e => hs1.extBut _ o D.i1z e) (hl1.at fun o e => hs1.extBut _ o D.l1z e) hx fun g2 e hs2 he => ?_)
    obtain ⟨oe, hoe, hce⟩ := he
    have hz2 : IsZip g2 z TI TO .ellipsis := hs2 _ _ D.i1z.symm hz1
    have hez : e ≠ z := fun x => by subst x; rw [hz2] at hoe; cases hoe; simp at hce
    refine wpAny_setField_rec hz2 (by simp) fun g3 _ hs3 => fin g3 e (fun c o c1 _ c3 _ x => hs3.extBut _ _ c1 (hs2 _ _ c3 (hs1.extBut _ _ c1 x))) ⟨oe, hs3.extBut _ _ hez hoe, hce⟩
  | some x =>
    have hy : ys[n2]? = none := by rcases hend with h | h; rw [hx] at h; cases h; exact h
    refine wpAny_bind (zcY (h1.at fun o e => hs1.extBut _ o D.i1z e) (hl1.at fun o e => hs1.extBut _ o D.l1z e) hx fun g2 h12 hs2 => wpAny_pure ?_)
    have hTO2 : IsPair g2 TO a b := hs2.extBut _ _ D.TOi1 (hs1.extBut _ _ D.TOz hTO)
    refine wpAny_bind (wpAny_seqItems hTO2 rfl ?_)
    refine wpAny_bind (wpAny_updateSeq_pair hTO2 fun g3 hTO3 hs3 => ?_)
    refine wpAny_bind (wpAny_letGo (wpAny_pure ?_))
    refine wpAny_bind (wpAny_bind (wpAny_onRaise ?_))
    show wpAny _ _ (Builtin.SmallTypes.nextOf (.ref i2) >>= _) _ _ _
    refine wpAny_bind (zfs hh (h2.at fun o e => hs3.extBut _ o D.TOi2.symm (hs2.extBut _ o D.i12.symm (hs1.extBut _ o D.i2z e))) (hl2.at fun o e => hs3.extBut _ o D.l2TO (hs2.extBut _ o D.l2i1 (hs1.extBut _ o D.l2z e))) hy fun g4 e hs4 he => ?_)
    obtain ⟨oe, hoe, hce⟩ := he
    have hz4 : IsZip g4 z TI TO .ellipsis := hs4 _ _ D.i2z.symm (hs3.extBut _ _ D.TOz.symm (hs2.extBut _ _ D.i1z.symm hz1))
    have hez : e ≠ z := fun x => by subst x; rw [hz4] at hoe; cases hoe; simp at hce
    refine wpAny_setField_rec hz4 (by simp) fun g5 _ hs5 => fin g5 e (fun c o c1 c2 c3 c4 x => hs5.extBut _ _ c1 (hs4 _ _ c4 (hs3.extBut _ _ c2 (hs2.extBut _ _ c3 (hs1.extBut _ _ c1 x))))) ⟨oe, hs5.extBut _ _ hez hoe, hce⟩
end
abbrev zH1 (k1 : Bool) (h : Heap) (l1 : Addr) : Heap := h.push (itObj k1 l1)
abbrev zH2 (k1 k2 : Bool) (h : Heap) (l1 l2 : Addr) : Heap := (zH1 k1 h l1).push (itObj k2 l2)
abbrev zH3 (k1 k2 : Bool) (h : Heap) (l1 l2 : Addr) : Heap := (zH2 k1 k2 h l1 l2).push { cls := .type "tuple", data := .seq #[.ref h.objs.size, .ref (zH1 k1 h l1).objs.size] }
abbrev zH4 (k1 k2 : Bool) (h : Heap) (l1 l2 : Addr) : Heap := (zH3 k1 k2 h l1 l2).push { cls := .type "tuple", data := .seq #[.none, .none] }
abbrev zH5 (k1 k2 : Bool) (h : Heap) (l1 l2 : Addr) : Heap := (zH4 k1 k2 h l1 l2).push { cls := .type "zip", data := .fields #[.none, .bool false, .bool false, .ref (zH2 k1 k2 h l1 l2).objs.size, .ref (zH3 k1 k2 h l1 l2).objs.size] }
theorem zje {k1 k2 : Bool} (l1 l2 : Addr) (xs ys : Array Value) :
    PySem.Meets (Builtin.«zip.__new__» ⟨[.type "zip", .ref l1, .ref l2], []⟩) (fun _ R s => SeqIs k1 s.heap l1 xs ∧ SeqIs k2 s.heap l2 ys ∧ R (.ok (.ret (.ref (zH4 k1 k2 s.heap l1 l2).objs.size))) { s with heap := zH5 k1 k2 s.heap l1 l2 }) :=
  .of_wp fun prog w A R s h => by
    obtain ⟨hp, g, d, tk, os⟩ := s; obtain ⟨hl1, hl2, h⟩ := h
    have hsub := sub_zip
    have f1 : ∀ {A : Around} {E : Value → Shared → Prop} {Q : Value → Shared → Prop}, Q (.ref hp.objs.size) ⟨hp.push (itObj k1 l1), g, d, tk, os⟩ → wpAny (model prog w) A (pyIter (.ref l1)) Q E ⟨hp, g, d, tk, os⟩ := fun q => zfo (s := ⟨hp, g, d, tk, os⟩) hl1 q
    have f2 : ∀ {A : Around} {E : Value → Shared → Prop} {Q : Value → Shared → Prop}, Q (.ref (hp.push (itObj k1 l1)).objs.size) ⟨(hp.push (itObj k1 l1)).push (itObj k2 l2), g, d, tk, os⟩ → wpAny (model prog w) A (pyIter (.ref l2)) Q E ⟨hp.push (itObj k1 l1), g, d, tk, os⟩ := fun q => zfo (s := ⟨hp.push (itObj k1 l1), g, d, tk, os⟩) (hl2.push _) q
    wp_walk using f1, f2
    exact ⟨_, rfl, h⟩
section
variable {prog : Program} {w : World} {A : Around} {E : Value → Shared → Prop} {s : Shared}
theorem zms {k1 k2 : Bool} {l1 l2 : Addr} {xs ys : Array Value} {Q : Value → Shared → Prop} (hl1 : SeqIs k1 s.heap l1 xs) (hl2 : SeqIs k2 s.heap l2 ys)
    (h : ∀ g, IsZip g (s.heap.objs.size + 4) (s.heap.objs.size + 2) (s.heap.objs.size + 3) .none → IsPair g (s.heap.objs.size + 2) (.ref s.heap.objs.size) (.ref (s.heap.objs.size + 1)) →
      IsPair g (s.heap.objs.size + 3) .none .none → SeqIt k1 g s.heap.objs.size l1 0 → SeqIt k2 g (s.heap.objs.size + 1) l2 0 → g.objs.size = s.heap.objs.size + 5 →
      (∀ c o, s.heap.get? c = some o → g.get? c = some o) → Q (.ref (s.heap.objs.size + 4)) { s with heap := g }) : wpAny (model prog w) A (call (.type "zip") [.ref l1, .ref l2]) Q E s := by
  refine callType_new PySem.F.called_zip (by decide) (PySem.F.typeCall_zip_2 _ _) (PySem.F.newCall_zip_2 _ _) (fun obj => PySem.F.args_object_init_3 obj _ _) PySem.F.entry_zip_new (zje (k1 := k1) (k2 := k2) l1 l2 xs ys) ⟨hl1, hl2, ?_⟩
  have z1 : (zH1 k1 s.heap l1).objs.size = s.heap.objs.size + 1 := Heap.size_push ..
  have z2 : (zH2 k1 k2 s.heap l1 l2).objs.size = s.heap.objs.size + 2 := by rw [Heap.size_push, z1]
  have z3 : (zH3 k1 k2 s.heap l1 l2).objs.size = s.heap.objs.size + 3 := by rw [Heap.size_push, z2]
  have z4 : (zH4 k1 k2 s.heap l1 l2).objs.size = s.heap.objs.size + 4 := by rw [Heap.size_push, z3]
  have z5 : (zH5 k1 k2 s.heap l1 l2).objs.size = s.heap.objs.size + 5 := by rw [Heap.size_push, z4]
  have g5 : (zH5 k1 k2 s.heap l1 l2).get? (zH4 k1 k2 s.heap l1 l2).objs.size = some _ := Heap.get?_push_size _ rfl
  have g4 : (zH5 k1 k2 s.heap l1 l2).get? (zH3 k1 k2 s.heap l1 l2).objs.size = some _ := Heap.get?_push_of_some _ (Heap.get?_push_size _ rfl)
  have g3 : (zH5 k1 k2 s.heap l1 l2).get? (zH2 k1 k2 s.heap l1 l2).objs.size = some _ := Heap.get?_push_of_some _ (Heap.get?_push_of_some _ (Heap.get?_push_size _ rfl))
  have g2 : (zH5 k1 k2 s.heap l1 l2).get? (zH1 k1 s.heap l1).objs.size = some _ := Heap.get?_push_of_some _ (Heap.get?_push_of_some _ (Heap.get?_push_of_some _ (Heap.get?_push_size _ zdp)))
  have g1 : (zH5 k1 k2 s.heap l1 l2).get? s.heap.objs.size = some _ := Heap.get?_push_of_some _ (Heap.get?_push_of_some _ (Heap.get?_push_of_some _ (Heap.get?_push_of_some _ (Heap.get?_push_size _ zdp))))
  show _ ∧ _
  rw [z2, z3, z4] at g5
  rw [z1, z2] at g3
  rw [z3] at g4
  rw [z1] at g2
  rw [z4]
  exact ⟨⟨_, g5, rfl⟩, h _ g5 g3 g4 (zfq g1) (zfq g2) z5 fun c o x => Heap.get?_push_of_some _ (Heap.get?_push_of_some _ (Heap.get?_push_of_some _ (Heap.get?_push_of_some _ (Heap.get?_push_of_some _ x))))⟩
end
end L2
end

section
set_option Elab.async false
set_option linter.all false
set_option maxRecDepth 100000
set_option maxHeartbeats 4000000
namespace L2
open PySem PySem.Spec PyProof.Rows

def SqZ (k : Bool) (K : PySem.W.Frag) (H : Hp) (a : Addr) (xs : List V) : Prop := if k = true then SqL K H a xs else H a = some (.tup xs)
theorem SqZ.sq {k : Bool} {K : PySem.W.Frag} {H : Hp} {a : Addr} {xs : List V} (h : SqZ k K H a xs) : SqK k K H a xs := by
  cases k with
  | true => exact h
  | false => exact .of h
theorem SeqIs.ob {k : Bool} {h : Heap} {a : Addr} {its : Array Value} (x : SeqIs k h a its) : ∃ o n, h.get? a = some o ∧ o.data = .seq its n ∧ (k = true → o.cls = .type "list") := by
  cases k with
  | true => obtain ⟨o, ho, hc, n, hd⟩ := (show h.IsList a its from x); exact ⟨o, n, ho, hd, fun _ => hc⟩
  | false => obtain ⟨o, ho, hc, n, hd⟩ := (show h.IsTuple a its from x); exact ⟨o, n, ho, hd, fun z => by cases z⟩
theorem SeqIs.ne_fields {k : Bool} {h : Heap} {a b : Addr} {its : Array Value} {o : Obj} {vs : Array Value} (x : SeqIs k h a its) (e : h.get? b = some o) (d : o.data = .fields vs) : a ≠ b := fun z => by
  subst z
  obtain ⟨o', n, ho, hd, _⟩ := x.ob
  rw [ho] at e; cases e
  rw [hd] at d; cases d
def Itz (k1 k2 : Bool) (K : PySem.W.Frag) (a b : Addr) : It :=
  ⟨fun i H => ∃ xs ys x y, SqZ k1 K H a xs ∧ SqZ k2 K H b ys ∧ xs[i]? = some x ∧ ys[i]? = some y,
   fun i H v H' => ∃ p x y, H p = none ∧ v = .ref p ∧ H' = upd H p (.tup [x, y]) ∧ (∀ xs, SqZ k1 K H a xs → xs[i]? = some x) ∧ ∀ ys, SqZ k2 K H b ys → ys[i]? = some y,
   fun i H => ∃ xs ys, SqZ k1 K H a xs ∧ SqZ k2 K H b ys ∧ (xs.length ≤ i ∨ ys.length ≤ i)⟩
structure ZipFar (z TI TO i1 i2 : Addr) : Prop where
  TIz : TI ≠ z
  TOz : TO ≠ z
  i1z : i1 ≠ z
  i2z : i2 ≠ z
  TITO : TI ≠ TO
  TIi1 : TI ≠ i1
  TIi2 : TI ≠ i2
  TOi1 : TO ≠ i1
  TOi2 : TO ≠ i2
  i12 : i1 ≠ i2
def ZipSt (k1 k2 : Bool) (z TI TO i1 i2 a b : Addr) (i : Nat) (h : Heap) : Prop := IsZip h z TI TO .none ∧ IsPair h TI (.ref i1) (.ref i2) ∧ (∃ u v, IsPair h TO u v) ∧ SeqIt k1 h i1 a i ∧ SeqIt k2 h i2 b i
section
variable {X : Cx} {pins : List (Addr × Obj)} {σ : St} {H : Hp} {s : Shared}
theorem zgh {k1 k2 : Bool} {z TI TO i1 i2 a b : Addr} {i : Nat} {xs ys : List V} (I : Inv X pins σ H s) (hTO : H TO = none) (D : ZipFar z TI TO i1 i2) (st : ZipSt k1 k2 z TI TO i1 i2 a b i s.heap) (ha : SqZ k1 X.K H a xs) (hb : SqZ k2 X.K H b ys) : ZipApart z TI TO i1 i2 a b := by
  obtain ⟨hz, hTI, ⟨u, v, hTOo⟩, h1, h2⟩ := st
  obtain ⟨o1, v1, e1, d1⟩ := h1.ob
  obtain ⟨o2, v2, e2, d2⟩ := h2.ob
  obtain ⟨its, _, pa, _⟩ := I.seq ha.sq
  obtain ⟨its2, _, pb, _⟩ := I.seq hb.sq
  have nTO : ∀ {k : Bool} {c : Addr} {zs : List V} {its : Array Value}, SqZ k X.K H c zs → SeqIs k s.heap c its → c ≠ TO := fun {k c zs its} hc pc e => by
    subst e
    cases k with
    | false => rw [show H c = some (.tup zs) from hc] at hTO; cases hTO
    | true =>
      obtain ⟨o, n, ho, _, hcl⟩ := pc.ob
      rw [hTOo] at ho; cases ho
      have := hcl rfl
      simp at this
  exact ⟨D.TIz, D.TOz, D.i1z, D.i2z, D.TITO, D.TIi1, D.TIi2, D.TOi1, D.TOi2, D.i12, pa.ne_fields hz rfl, nTO ha pa, pa.ne_fields e1 d1, pa.ne_fields e2 d2, pb.ne_fields hz rfl, nTO hb pb, pb.ne_fields e1 d1, pb.ne_fields e2 d2⟩
end
theorem zlJ {P : Program} {w : World} {K : PySem.W.Frag} {es : List Expr} {x1 : Nat} {pos : Pos} (k1 k2 : Bool) (a b z TI TO i1 i2 : Addr) (D : ZipFar z TI TO i1 i2) : Turn P w K (.Tuple es x1 pos) (Itz k1 k2 K a b) [z, TI, TO, i1, i2] z (ZipSt k1 k2 z TI TO i1 i2 a b) where
  mem := by simp
  obj := fun i h ⟨hz, hTI, ⟨u, v, hTO⟩, h1, h2⟩ c hc => by
    obtain ⟨o1, v1, e1, d1⟩ := h1.ob
    obtain ⟨o2, v2, e2, d2⟩ := h2.ob
    simp only [List.mem_cons, List.not_mem_nil, or_false] at hc
    rcases hc with rfl | rfl | rfl | rfl | rfl
    · exact ⟨_, hz, fun v z => by cases z⟩
    · exact ⟨_, hTI, fun v z => by cases z⟩
    · exact ⟨_, hTO, fun v z => by cases z⟩
    · exact ⟨_, e1, fun v z => by rw [d1] at z; cases z⟩
    · exact ⟨_, e2, fun v z => by rw [d2] at z; cases z⟩
  keep := fun i h h' ⟨hz, hTI, ⟨u, v, hTO⟩, h1, h2⟩ kk => ⟨kk z (by simp) _ hz, kk TI (by simp) _ hTI, ⟨u, v, kk TO (by simp) _ hTO⟩, h1.at fun o q => kk i1 (by simp) o q, h2.at fun o q => kk i2 (by simp) o q⟩
  item := by
    intro X hP hw hK hc i pins s σ H E I hf st hg
    subst hP hw hK
    obtain ⟨xs, ys, x, y, ha, hb, hx, hy⟩ := hg
    have Z := zgh I (hf TO (by simp)).1 D st ha hb
    obtain ⟨hz, hTI, ⟨c0, d0, hTO⟩, h1, h2⟩ := st
    obtain ⟨its, rv, pa, _⟩ := I.seq ha.sq
    obtain ⟨its2, rv2, pb, _⟩ := I.seq hb.sq
    obtain ⟨u, hu, ru⟩ := rv.get hx
    obtain ⟨u2, hu2, ru2⟩ := rv2.get hy
    refine zmQ Z hz hTI hTO h1 h2 pa pb (x := u) (y := u2) (by simpa using hu) (by simpa using hu2) fun g hz1 hTO1 h11 h21 hp hz' kk => ⟨_, rfl, ?_⟩
    refine wpAny_letOwnedTupleGo_zip hz1 fun g2 hz2 hs2 => ?_
    have hs2' : ∀ c o, c ≠ z → g.get? c = some o → g2.get? c = some o := fun c o hc e => (hs2.2 c hc).trans e
    have kk2 : ∀ c o, c ∉ [z, TI, TO, i1, i2] → s.heap.get? c = some o → g2.get? c = some o := fun c o hc q => by
      simp only [List.mem_cons, List.not_mem_nil, or_false, not_or] at hc
      exact hs2' c o hc.1 (kk c o hc.1 hc.2.2.1 hc.2.2.2.1 hc.2.2.2.2 q)
    have hn := I.hok.fresh (Nat.le_refl s.heap.objs.size)
    have hpz : s.heap.objs.size ≠ z := Nat.ne_of_gt (Heap.lt_size hz)
    have ht2 : g2.get? s.heap.objs.size = some { cls := .type "tuple", data := .seq #[u, u2] } := hs2' _ _ hpz hp
    refine ⟨.ref s.heap.objs.size, upd H s.heap.objs.size (.tup [x, y]), I.turnNew (fp := [z, TI, TO, i1, i2]) (t' := s.toks) (Nat.le_refl _) kk2 hf ⟨by show 2 ≤ sizeLine; rw [sizeLine_eq]; decide, [u, u2], .cons ru (.cons ru2 .nil), ⟨_, ht2, rfl, _, rfl⟩⟩, rfl,
      ⟨_, x, y, hn, rfl, rfl, fun zs hy => by rw [I.seq_inj hy.sq ha.sq]; exact hx, fun zs hy' => by rw [I.seq_inj hy'.sq hb.sq]; exact hy⟩,
      ⟨hz2, hs2' _ _ D.TIz (kk _ _ D.TIz D.TITO D.TIi1 D.TIi2 hTI), ⟨u, u2, hs2' _ _ D.TOz hTO1⟩, h11.at fun o q => hs2' _ o D.i1z q, h21.at fun o q => hs2' _ o D.i2z q⟩, fun c hc => ?_⟩
    have hlt : ∃ o, s.heap.get? c = some o := by
      obtain ⟨o1, v1, e1, d1⟩ := h1.ob
      obtain ⟨o2, v2, e2, d2⟩ := h2.ob
      simp only [List.mem_cons, List.not_mem_nil, or_false] at hc
      rcases hc with rfl | rfl | rfl | rfl | rfl
      · exact ⟨_, hz⟩
      · exact ⟨_, hTI⟩
      · exact ⟨_, hTO⟩
      · exact ⟨_, e1⟩
      · exact ⟨_, e2⟩
    obtain ⟨o, ho⟩ := hlt
    rw [zaq (Nat.ne_of_lt (Heap.lt_size ho))]
    exact (hf c hc).1
  done := by
    intro X hP hw hK hc i pins s σ H E I hf st hg
    subst hP hw hK
    obtain ⟨xs, ys, ha, hb, hx⟩ := hg
    have Z := zgh I (hf TO (by simp)).1 D st ha hb
    obtain ⟨hz, hTI, ⟨c0, d0, hTO⟩, h1, h2⟩ := st
    obtain ⟨its, rv, pa, _⟩ := I.seq ha.sq
    obtain ⟨its2, rv2, pb, _⟩ := I.seq hb.sq
    have hl := rv.length
    have hl2 := rv2.length
    refine zol (I.ok.hd hc) Z hz hTI hTO h1 h2 pa pb ?_ fun g eb => ⟨rfl, I.turnedL (fp := [z, TI, TO, i1, i2]) (t' := s.toks) (fun c o hc q => ?_) hf⟩
    · rcases hx with hx | hx
      · exact .inl (by simp; omega)
      · exact .inr (by simp; omega)
    · simp only [List.mem_cons, List.not_mem_nil, or_false, not_or] at hc
      exact eb c o hc.1 hc.2.2.1 hc.2.2.2.1 hc.2.2.2.2 q
  self := fun A i s Q E st h => wpAny_pyIter_zip st.1 h
section
variable {X : Cx} {es : List Expr} {x1 : Nat} {tpos : Pos}
def iZip (K : PySem.W.Frag) (ta : TA) : TI := fun σ H R => ta σ H fun vs H1 => ∃ k1 k2 a b xs ys, vs = [.ref a, .ref b] ∧ SqZ k1 K H1 a xs ∧ SqZ k2 K H1 b ys ∧ R (Itz k1 k2 K a b) H1
theorem zrq {a b : Expr} {ta : TA} {p pos : Pos} (hg : Gl X "zip") (hm : X.mg "zip" = none) (ha : PA X [a, b] ta) (hs : starEach [a, b] X.env = [(false, eval a X.env), (false, eval b X.env)] := by rfl) (hs2 : starEach [b] X.env = [(false, eval b X.env)] := by rfl) : PI X (.Tuple es x1 tpos) (.Call (.Name "zip" p) [a, b] [] pos) (iZip X.K ta) := by
  intro pins s σ H R I h
  refine Call_ (zet I hg hm boot_zip (PyProof.Rows.callWith_type1 (thn (ha pos pins s σ H _ I h) fun us s1 ⟨vs, H1, I1, r1, q1⟩ => ?_) (by rw [hs, hs2]) (by rw [hs2]; rfl)))
  obtain ⟨k1, k2, a, b, xs, ys, e, hq1, hq2, q⟩ := q1
  subst e
  cases r1 with
  | cons r rr =>
    cases rr with
    | cons r' rr =>
      cases rr
      cases (show _ = Value.ref a from r)
      cases (show _ = Value.ref b from r')
      obtain ⟨its, rv, pl, _⟩ := I1.seq hq1.sq
      obtain ⟨its2, rv2, pl2, _⟩ := I1.seq hq2.sq
      refine zms pl pl2 fun g hz hTI hTO h1 h2 hz' kk => wpAny_pyIter_zip hz ?_
      have I2 : Inv X pins σ H1 { s1 with heap := g } := I1.kept (t' := s1.toks) kk
      have ne : ∀ (n i j : Nat), i ≠ j → n + i ≠ n + j := fun n i j h e => h (Nat.add_left_cancel e)
      have D : ZipFar (s1.heap.objs.size + 4) (s1.heap.objs.size + 2) (s1.heap.objs.size + 3) s1.heap.objs.size (s1.heap.objs.size + 1) :=
        ⟨ne _ 2 4 (by decide), ne _ 3 4 (by decide), ne _ 0 4 (by decide), ne _ 1 4 (by decide), ne _ 2 3 (by decide), ne _ 2 0 (by decide), ne _ 2 1 (by decide), ne _ 3 0 (by decide), ne _ 3 1 (by decide), ne _ 0 1 (by decide)⟩
      refine ⟨_, _, _, _, H1, rfl, I2, zlJ k1 k2 a b _ _ _ _ _ D, ⟨hz, hTI, ⟨_, _, hTO⟩, h1, h2⟩, fun c hc => ?_, q⟩
      have hb' : s1.heap.objs.size ≤ c := by
        simp only [List.mem_cons, List.not_mem_nil, or_false] at hc
        rcases hc with rfl | rfl | rfl | rfl | rfl
        · exact Nat.le_add_right _ _
        · exact Nat.le_add_right _ _
        · exact Nat.le_add_right _ _
        · exact Nat.le_refl _
        · exact Nat.le_add_right _ _
      exact I1.fpOk hb' (I1.hok.fresh hb')
def pairs : List W → List W → List W
  | x :: xs, y :: ys => .tup [x, y] :: pairs xs ys
  | _, _ => []
theorem zfN : ∀ {xs ys : List W} {i : Nat} {u : W}, (pairs xs ys)[i]? = some u → ∃ x y, xs[i]? = some x ∧ ys[i]? = some y ∧ u = .tup [x, y]
  | [], _, _, _, h => by simp [pairs] at h
  | _ :: _, [], _, _, h => by simp [pairs] at h
  | x :: xs, y :: ys, 0, u, h => by
    simp [pairs] at h
    exact ⟨x, y, rfl, rfl, h.symm⟩
  | x :: xs, y :: ys, i + 1, u, h => by simpa using zfN (xs := xs) (ys := ys) (i := i) (u := u) (by simpa [pairs] using h)
theorem zgA : ∀ {xs ys : List W}, (pairs xs ys).length = min xs.length ys.length
  | [], _ => by simp [pairs]
  | _ :: _, [] => by simp [pairs]
  | x :: xs, y :: ys => by simp [pairs, zgA (xs := xs) (ys := ys)]
theorem zrt {K : PySem.W.Frag} {k1 k2 : Bool} {a b : Addr} {ws us : List W} {G : Sto → Prop} {H0 : Hp} {S0 : Sto} (h : ∀ S H, Ext H0 S0 H S → RepS K H S → G S → (∃ vs, SqZ k1 K H a vs ∧ Reps K H ws vs) ∧ ∃ vs, SqZ k2 K H b vs ∧ Reps K H us vs) : ItW K (Itz k1 k2 K a b) (pairs ws us) G H0 S0 := fun i S H e hS hG => by
  obtain ⟨⟨xs, hq, r⟩, ⟨ys, hq2, r2⟩⟩ := h S H e hS hG
  refine ⟨fun u eu => ?_, fun hl => ⟨xs, ys, hq, hq2, ?_⟩⟩
  · obtain ⟨x, y, ex, ey, rfl⟩ := zfN eu
    obtain ⟨v, ev, rv⟩ := r.get ex
    obtain ⟨v2, ev2, rv2⟩ := r2.get ey
    refine ⟨⟨xs, ys, v, v2, hq, hq2, ev, ev2⟩, fun x H' ⟨p, y1, y2, hp, e1, e2, e3, e4⟩ => ?_⟩
    subst e1 e2
    have f1 := e3 xs hq
    have f2 := e4 ys hq2
    rw [ev] at f1; cases f1
    rw [ev2] at f2; cases f2
    exact ⟨.new hp, hS.new hp, .tup zau (.cons (rv.ext (.new (S := S) hp)) (.cons (rv2.ext (.new (S := S) hp)) .nil))⟩
  · rw [zgA] at hl
    rw [← r.length, ← r2.length]
    omega
theorem zhF {K : PySem.W.Frag} {H : Hp} {S : Sto} {w : W} {v : V} {Q : List W → (Sto → Prop) → Prop} (r : Rep K H w v) (hS : RepS K H S) (h : seqW w S Q) :
    ∃ k a ws G, v = .ref a ∧ G S ∧ (∀ S' H', Ext H S H' S' → RepS K H' S' → G S' → ∃ vs, SqZ k K H' a vs ∧ Reps K H' ws vs) ∧ Q ws G := by
  cases r with
  | tup f hs => exact ⟨false, _, _, _, rfl, trivial, fun S' H' e hS' _ => ⟨_, e.tup _ _ f, hs.ext e⟩, h⟩
  | ref a =>
    obtain ⟨ws, ea, h⟩ := zaZ h
    exact ⟨true, _, ws, _, rfl, ea, fun S' H' e hS' g => by
      obtain ⟨vs, f, hs⟩ := hS' a _ g
      exact ⟨vs, .of f, hs⟩, h⟩
  | scr f => exact ⟨true, _, _, _, rfl, trivial, fun S' H' e hS' _ => ⟨_, (e.fz f).sq, Reps.ofInts _⟩, h⟩
  | _ => exact h.elim
def wZip (t u : WE) : WI := fun E σ S Q => t E σ S fun x S1 => u E σ S1 fun y S2 => seqW x S2 fun xs G => seqW y S2 fun ys G' => Q (pairs xs ys) (fun S' => G S' ∧ G' S') S2
theorem zif {a b : Expr} {ta tb : WE} {p pos : Pos} (hg : Gl X "zip") (hm : X.mg "zip" = none) (ha : JE X a ta) (hb : JE X b tb) (hs : starEach [a, b] X.env = [(false, eval a X.env), (false, eval b X.env)] := by rfl) (hs2 : starEach [b] X.env = [(false, eval b X.env)] := by rfl)
    (h3 : starEach [a, b] X.env = (false, eval a X.env) :: starEach [b] X.env := by rfl) (h4 : starEach [b] X.env = (false, eval b X.env) :: starEach [] X.env := by rfl) : JI X (.Tuple es x1 tpos) (.Call (.Name "zip" p) [a, b] [] pos) (wZip ta tb) := fun E hE =>
  (zrq hg hm (zci (ha E hE) (zci (hb E hE) zdX h4) h3) hs hs2).mono fun σ H R ⟨σW, S, QW, hσ, hS, ht, hR⟩ => ⟨σW, S, _, hσ, hS, ht, fun x S1 v H1 e1 r1 hS1 h1 => ⟨σW, S1, _, hσ.ext e1, hS1, h1, fun y S2 v2 H2 e2 r2 hS2 h2 => by
    obtain ⟨k1, a, ws, G, rfl, hG, hq, h⟩ := zhF (r1.ext e2) hS2 h2
    obtain ⟨k2, b, us, G', rfl, hG', hq', h⟩ := zhF r2 hS2 h
    obtain ⟨vs, hv, _⟩ := hq S2 H2 .refl hS2 hG
    obtain ⟨vs', hv', _⟩ := hq' S2 H2 .refl hS2 hG'
    exact ⟨k1, k2, a, b, vs, vs', rfl, hv, hv', hR _ _ S2 _ H2 (e1.trans e2) hS2 ⟨hG, hG'⟩ (zrt fun S' H' e hS' g => ⟨hq S' H' e hS' g.1, hq' S' H' e hS' g.2⟩) h⟩⟩⟩
end
end L2
end

section
set_option Elab.async false
set_option linter.all false
set_option maxRecDepth 100000
set_option maxHeartbeats 4000000
namespace L2
open PySem PySem.Spec PyProof.Rows

section
variable {X : Cx} {tg : Expr}
def downto (hi : Int) (n : Nat) : List W := (List.range n).map fun (i : Nat) => .int (hi - (i : Int))
def wDown (t : WA) : WI := fun E σ S Q => t E σ S fun ws S1 => match ws with
  | [.int i, .int j, .int c] => c = -1 ∧ (-(2 ^ 62) ≤ i ∧ i < 2 ^ 62 ∧ -(2 ^ 62) ≤ j ∧ j < 2 ^ 62) ∧ Q (downto i (i - j).toNat) (fun _ => True) S1
  | _ => False
end

section
variable {X : Cx} {a b c : Expr} {pos : Pos} {ta tb tc : WE}
end

section
variable {X : Cx} {e : Expr} {es : List Expr} {t : WA} {p pos : Pos}
def fInt : WF := fun ws S Q => match ws with
  | [.int i] => Q (.int i) S
  | [.bl b] => Q (.int (if b then 1 else 0)) S
  | _ => False
theorem zlx {K : PySem.W.Frag} : CallW K (fun xs H Q => (∃ i, xs = [.int i] ∧ Q (.int i) H) ∨ ∃ k, xs = [.bl k] ∧ Q (.int (if k then 1 else 0)) H) fInt := fun H vs ws S Q QW r hS h hQ => by
  cases r with
  | nil => exact h.elim
  | cons r1 r2 =>
    cases r2 with
    | cons _ _ => cases r1 <;> exact h.elim
    | nil =>
      cases r1 with
      | int i => exact .inl ⟨i, rfl, hQ _ S _ H .refl (.int _) hS h⟩
      | bl b => exact .inr ⟨b, rfl, hQ _ S _ H .refl (.int _) hS h⟩
      | _ => exact h.elim
theorem zkq (hg : Gl X "int") (hm : X.mg "int" = none) (ha : JA X (e :: es) t)
    (he : starEach (e :: es) X.env = (false, eval e X.env) :: starEach es X.env := by rfl) (hpl : (backTo pos (starEach es X.env)).any (·.1) = false := by rfl) : JE X (.Call (.Name "int" p) (e :: es) [] pos) (wB fInt t) :=
  zpx zlv zlx hg hm PyProof.Rows.boot_int ha (by decide) (by decide) he hpl
def fMax2 : WF := fun ws S Q => match ws with
  | [.int i, .int j] => Q (.int (if j > i then j else i)) S
  | _ => False
def fMin2 : WF := fun ws S Q => match ws with
  | [.int i, .int j] => Q (.int (if j < i then j else i)) S
  | _ => False
theorem ziU {K : PySem.W.Frag} : CallW K (fun xs H Q => ∃ i j, xs = [.int i, .int j] ∧ Q (.int (if j < i then j else i)) H) fMin2 := fun H vs ws S Q QW r hS h hQ => by
  unfold fMin2 at h
  split at h
  · cases r with
    | cons r1 r2 => cases r2 with
      | cons r2 r3 => cases r3; cases r1; cases r2; exact ⟨_, _, rfl, hQ _ S _ H .refl (.int _) hS h⟩
  · exact h.elim
theorem zjQ {id : String} {r : List V → Hp → VK → Prop} {f : WF} {x : Str} (hc : X.calm = true → CallR X (.builtin id) r) (hw : CallW X.K r f) (hg : Gl X x) (hm : X.mg x = none) (hv : bootBuiltins x = some (.builtin id)) (ha : JA X (e :: es) t) (hn : x ≠ "__name__" := by decide) (hdb : (x == ("__debug__" : Str)) = false := by decide)
    (he : starEach (e :: es) X.env = (false, eval e X.env) :: starEach es X.env := by rfl) (hpl : (backTo pos (starEach es X.env)).any (·.1) = false := by rfl) : JE X (.Call (.Name x p) (e :: es) [] pos) (wB f t) := fun E hE => zno (hc hE.calm) hw hg hm hv ha hn hdb he hpl E hE
theorem zkK (hg : Gl X "min") (hm : X.mg "min" = none) (ha : JA X (e :: es) t)
    (he : starEach (e :: es) X.env = (false, eval e X.env) :: starEach es X.env := by rfl) (hpl : (backTo pos (starEach es X.env)).any (·.1) = false := by rfl) : JE X (.Call (.Name "min" p) (e :: es) [] pos) (wB fMin2 t) := zjQ zlr ziU hg hm PyProof.Rows.boot_min ha (by decide) (by decide) he hpl
theorem zoH {tl : WL} (hg : Gl X "all") (hm : X.mg "all" = none) (ha : JL X e tl)
    (he : starEach [e] X.env = (false, eval e X.env) :: starEach [] X.env := by rfl) (hpl : (backTo pos (starEach [] X.env)).any (·.1) = false := by rfl) : JE X (.Call (.Name "all" p) [e] [] pos) (wBL fAllL tl) := fun E hE => zjG (zmk hE.calm) zkR hg hm PyProof.Rows.boot_all ha (by decide) (by decide) he hpl E hE
theorem zjI {tl : WL} (hg : Gl X "tuple") (hm : X.mg "tuple" = none) (ha : JL X e tl)
    (he : starEach [e] X.env = (false, eval e X.env) :: starEach [] X.env := by rfl) (hpl : (backTo pos (starEach [] X.env)).any (·.1) = false := by rfl) : JE X (.Call (.Name "tuple" p) [e] [] pos) (wBL fTupleL tl) := znt zcX zhy hg hm PyProof.Rows.boot_tuple ha (by decide) (by decide) he hpl
theorem zcZ (hg : Gl X "tuple") (hm : X.mg "tuple" = none) (ha : JA X (e :: es) t)
    (he : starEach (e :: es) X.env = (false, eval e X.env) :: starEach es X.env := by rfl) (hpl : (backTo pos (starEach es X.env)).any (·.1) = false := by rfl) : JE X (.Call (.Name "tuple" p) (e :: es) [] pos) (wB fTuple t) := zpx zcX zho hg hm PyProof.Rows.boot_tuple ha (by decide) (by decide) he hpl
end
theorem kitA {K : PySem.W.Frag} : ∀ T ∈ ["int", "bool", "str", "tuple", "list"], ∀ A ∈ ["NoneType", "bool", "int", "str", "tuple", "list"], PySem.W.kitOne K (.type A) (.type T) = some (subTy A T) := by
  intro T hT A hA
  simp only [List.mem_cons, List.not_mem_nil, or_false] at hT hA
  rcases hT with rfl | rfl | rfl | rfl | rfl <;> rcases hA with rfl | rfl | rfl | rfl | rfl | rfl <;> rfl
theorem gl0 : ∀ (ws : List W) (σ : WSt) (S : Sto) (P : WSt → Sto → Prop), wGnil ws σ S P → ws.length = 0 := fun ws σ S P h => by
  cases ws with
  | nil => rfl
  | cons _ _ => exact h.elim
theorem glS {i n : Nat} {u : WGs} (h : ∀ (ws : List W) (σ : WSt) (S : Sto) (P : WSt → Sto → Prop), u ws σ S P → ws.length = n) : ∀ (ws : List W) (σ : WSt) (S : Sto) (P : WSt → Sto → Prop), wGcons (wGN i) u ws σ S P → ws.length = n + 1 := fun ws σ S P q => by
  cases ws with
  | nil => exact q.elim
  | cons w ws => exact congrArg (· + 1) (h _ _ _ _ q)
def wOut : WSp := fun _ _ _ _ => False
theorem zax {P : Program} {w : World} {K : PySem.W.Frag} {mg : Str → Option Value} {base : Heap} {f : Addr} {fd : FuncData} {ps : List Str} {k : Nat} : FnOk P w K mg base CX0 k f fd ps (liftSp K wOut) :=
  ⟨fun vs H Q E ⟨_, _, _, _, _, h, _⟩ => h.elim, fun A outer s H args us vs Q E _ _ _ _ ⟨_, _, _, _, _, h, _⟩ => h.elim⟩
section
variable {X : Cx} {a b : Expr} {pos : Pos} {ta tb : WE} {la lb : WL}
def wIxL (t : WL) (u : WE) : WE := fun E σ S Q => t E σ S fun ws S1 => u E σ S1 fun y S2 => match y with
  | .int i => match atI ws i with
    | some w => Q w S2
    | none => False
  | _ => False
theorem zil (ha : JL X a la) (hb : JE X b tb) (hs : PlainIx b := by intro _ _; rfl) : JE X (.Subscript a b pos) (wIxL la tb) := fun E hE =>
  (zrk znc (ha E hE) (hb E hE) hs).mono fun σ H Q ⟨σW, S, QW, hσ, hS, ht, hQ⟩ => ⟨σW, S, _, hσ, hS, ht, fun ws S1 vs p H1 e1 fp ep np r1 hS1 h1 => ⟨σW, S1, _, hσ.ext e1, hS1, h1, fun y S2 v2 H2 e2 r2 hS2 h2 => by
    cases r2 with
    | int i =>
      dsimp only at h2
      split at h2
      · obtain ⟨v, ev, r⟩ := zht (r1.ext e2) ‹_›
        exact .inl ⟨p, vs, i, v, rfl, rfl, .of (e2.fr p _ ep np).1, ev, hQ _ S2 _ H2 (e1.trans e2) r hS2 h2⟩
      · exact h2.elim
    | _ => exact h2.elim⟩⟩
def wCatR (t : WE) (u : WL) : WL := fun E σ S Q => t E σ S fun x S1 => u E σ S1 fun ys S2 => match x with
  | .ref a => lstW S2 a fun xs => xs.length + ys.length ≤ sizeLine ∧ Q (xs ++ ys) S2
  | _ => False
def wCatB (t u : WL) : WL := fun E σ S Q => t E σ S fun xs S1 => u E σ S1 fun ys S2 => xs.length + ys.length ≤ sizeLine ∧ Q (xs ++ ys) S2
def wCatF (t : WL) (u : WE) : WL := fun E σ S Q => t E σ S fun xs S1 => u E σ S1 fun y S2 => match y with
  | .ref a => lstW S2 a fun ys => xs.length + ys.length ≤ sizeLine ∧ Q (xs ++ ys) S2
  | _ => False
theorem zki (ha : JE X a ta) (hb : JL X b lb) : JL X (.BinOp a .Add b pos) (wCatR ta lb) := fun E hE =>
  (zjx zin (ha E hE) (hb E hE)).mono fun σ H Q ⟨σW, S, QW, hσ, hS, ht, hQ⟩ => ⟨σW, S, _, hσ, hS, ht, fun w1 S1 v1 H1 e1 r1 hS1 h1 => ⟨σW, S1, _, hσ.ext e1, hS1, h1, fun ys S2 us q H2 e2 fq eq nq r2 hS2 h2 => by
    cases r1 with
    | ref p =>
      obtain ⟨xs, ea, h⟩ := zaZ h2
      obtain ⟨vs, f1, q1⟩ := hS2 p _ ea
      exact ⟨p, q, vs, us, rfl, rfl, f1, eq, by rw [← q1.length, ← r2.length]; exact h.1, fun p hp => hQ _ S2 _ p _ ((e1.trans e2).trans (.new hp)) ((e1.trans e2).free hp) zau (hS2.free hp) ((q1.append r2).ext (.new (S := S2) hp)) (hS2.new hp) h.2⟩
    | _ => exact h2.elim⟩⟩
theorem zhc (ha : JL X a la) (hb : JL X b lb) : JL X (.BinOp a .Add b pos) (wCatB la lb) := fun E hE =>
  (zjx zin (ha E hE) (hb E hE)).mono fun σ H Q ⟨σW, S, QW, hσ, hS, ht, hQ⟩ => ⟨σW, S, _, hσ, hS, ht, fun xs S1 vs p H1 e1 fp ep np r1 hS1 h1 => ⟨σW, S1, _, hσ.ext e1, hS1, h1, fun ys S2 us q H2 e2 fq eq nq r2 hS2 h2 =>
    ⟨p, q, vs, us, rfl, rfl, (e2.fr p _ ep np).1, eq, by rw [← r1.length, ← r2.length]; exact h2.1, fun z hz => hQ _ S2 _ z _ ((e1.trans e2).trans (.new hz)) ((e1.trans e2).free hz) zau (hS2.free hz) (((r1.ext e2).append r2).ext (.new (S := S2) hz)) (hS2.new hz) h2.2⟩⟩⟩
theorem zoK (ha : JL X a la) (hb : JE X b tb) : JL X (.BinOp a .Add b pos) (wCatF la tb) := fun E hE =>
  (zjx zin (ha E hE) (hb E hE)).mono fun σ H Q ⟨σW, S, QW, hσ, hS, ht, hQ⟩ => ⟨σW, S, _, hσ, hS, ht, fun xs S1 vs p H1 e1 fp ep np r1 hS1 h1 => ⟨σW, S1, _, hσ.ext e1, hS1, h1, fun y S2 v2 H2 e2 r2 hS2 h2 => by
    cases r2 with
    | ref q =>
      obtain ⟨ys, ea, h⟩ := zaZ h2
      obtain ⟨us, f2, q2⟩ := hS2 q _ ea
      exact ⟨p, q, vs, us, rfl, rfl, (e2.fr p _ ep np).1, f2, by rw [← r1.length, ← q2.length]; exact h.1, fun z hz => hQ _ S2 _ z _ ((e1.trans e2).trans (.new hz)) ((e1.trans e2).free hz) zau (hS2.free hz) (((r1.ext e2).append q2).ext (.new (S := S2) hz)) (hS2.new hz) h.2⟩
    | _ => exact h2.elim⟩⟩
def wRepL (t : WL) (u : WE) : WL := fun E σ S Q => t E σ S fun xs S1 => u E σ S1 fun y S2 => match y with
  | .int k => (-(2 ^ 63) ≤ k ∧ k < 2 ^ 63 ∧ xs.length * k.toNat ≤ sizeLine) ∧ Q (List.replicate k.toNat xs).flatten S2
  | _ => False
theorem Reps.rep {K : PySem.W.Frag} {H : Hp} {ws : List W} {vs : List V} (h : Reps K H ws vs) : ∀ k : Nat, Reps K H (List.replicate k ws).flatten (List.replicate k vs).flatten
  | 0 => .nil
  | k + 1 => by
    rw [List.replicate_succ, List.replicate_succ, List.flatten_cons, List.flatten_cons]
    exact h.append (Reps.rep h k)
theorem zqL (ha : JL X a la) (hb : JE X b tb) : JL X (.BinOp a .Mult b pos) (wRepL la tb) := fun E hE =>
  (zjx zpI (ha E hE) (hb E hE)).mono fun σ H Q ⟨σW, S, QW, hσ, hS, ht, hQ⟩ => ⟨σW, S, _, hσ, hS, ht, fun xs S1 vs p H1 e1 fp ep np r1 hS1 h1 => ⟨σW, S1, _, hσ.ext e1, hS1, h1, fun y S2 v2 H2 e2 r2 hS2 h2 => by
    cases r2 with
    | int k =>
      obtain ⟨⟨k1, k2, k3⟩, h⟩ := h2
      exact ⟨p, k, vs, rfl, rfl, (e2.fr p _ ep np).1, k1, k2, by rw [← r1.length]; exact k3, fun z hz => hQ _ S2 _ z _ ((e1.trans e2).trans (.new hz)) ((e1.trans e2).free hz) zau (hS2.free hz) (((r1.ext e2).rep k.toNat).ext (.new (S := S2) hz)) (hS2.new hz) h⟩
    | _ => exact h2.elim⟩⟩
end
theorem zlS {K : PySem.W.Frag} {H : Hp} {a : Addr} {ns : List Int} {c : WSp} {E : XK} (hO : Only H) (hS : SqL K H a (ns.map V.int)) (h : c [.scr ns] (fun _ => none) (fun w _ => w = .bl true) (fun _ _ => False)) : liftSp K c [.ref a] H (fun v _ => v = .bl true) E := by
  have fz : FzL K H a (ns.map V.int) := by
    rcases hS with (hS | ⟨o, hS⟩) | hS
    · rcases hO a with z | ⟨o, xs, z⟩
      · rw [hS] at z; cases z
      · rw [hS] at z; cases z
    · exact .inl ⟨o, hS⟩
    · exact .inr hS
  refine ⟨[.scr ns], fun _ => none, _, .one (.scr fz), (fun a o e => by cases e), h, fun w S v H' e r hS' q => ?_⟩
  subst q
  cases r
  rfl
end L2
end

section
set_option Elab.async false
set_option linter.all false
set_option maxRecDepth 100000
set_option maxHeartbeats 4000000
namespace L2
open PySem PySem.Spec PyProof.Rows
section
variable {X : Cx} {a b e : Expr} {p pos p2 pos2 : Pos}
def oRepT : W2
  | .tup xs, .int k, S, Q => (xs ≠ [] ∧ -(2 ^ 63) ≤ k ∧ k < 2 ^ 63 ∧ xs.length * k.toNat ≤ sizeLine) ∧ Q (.tup (List.replicate k.toNat xs).flatten) S
  | _, _, _, _ => False
def wListrange (t : WE) : WL := fun E σ S Q => t E σ S fun w S1 => match w with
  | .int j => (-(2 ^ 62) ≤ j ∧ j ≤ 16777216) ∧ Q (upto 0 j.toNat) S1
  | _ => False
end
end L2
end

section
set_option Elab.async false
set_option linter.all false
set_option maxRecDepth 100000
set_option maxHeartbeats 4000000
namespace L2
open PySem PySem.Spec PyProof.Rows
def valW (kvs : List (List Int × W)) (k : List Int) : Option W := (kvs.find? fun kv => decide (kv.1 = k)).map (·.2)
def putW (kvs : List (List Int × W)) (k : List Int) (v : W) : List (List Int × W) :=
  if (kvs.any fun kv => decide (kv.1 = k)) = true then kvs.map (fun kv => if kv.1 = k then (kv.1, v) else kv) else kvs ++ [(k, v)]
def intsOf : List W → Option (List Int)
  | [] => some []
  | .int i :: ws => (intsOf ws).map (i :: ·)
  | _ => none
def keyW : W → Option (List Int)
  | .tup ws => intsOf ws
  | _ => none
def dctW (S : Sto) (a : Addr) (P : List (List Int × W) → Prop) : Prop := match S a with
  | some (.dct kvs) => P kvs
  | _ => False
theorem zph {S : Sto} {a : Addr} {P : List (List Int × W) → Prop} (h : dctW S a P) : ∃ kvs, S a = some (.dct kvs) ∧ P kvs := by
  unfold dctW at h
  split at h
  · exact ⟨_, ‹_›, h⟩
  · exact h.elim
theorem zhn {S : Sto} {a : Addr} {kvs : List (List Int × W)} {P : List (List Int × W) → Prop} (e : S a = some (.dct kvs)) : dctW S a P = P kvs := by unfold dctW; rw [e]
section
variable {K : PySem.W.Frag} {H : Hp}
abbrev RepD (K : PySem.W.Frag) (H : Hp) : List (List Int × W) → List (List Key × V) → Prop := Paired fun q p => p.1 = q.1.map Sum.inl ∧ Rep K H q.2 p.2
theorem zeL : ∀ {a b : List Int}, a.map (Sum.inl : Int → Key) = b.map Sum.inl → a = b
  | [], [], _ => rfl
  | [], _ :: _, h => by simp at h
  | _ :: _, [], h => by simp at h
  | x :: xs, y :: ys, h => by
    simp only [List.map_cons, List.cons.injEq, Sum.inl.injEq] at h
    rw [h.1, zeL h.2]
theorem RepD.val {kvs : List (List Int × W)} {ps : List (List Key × V)} (r : RepD K H kvs ps) (k : List Int) : (∀ w, valW kvs k = some w → ∃ v, valV ps (k.map Sum.inl) = some v ∧ Rep K H w v) ∧ (valW kvs k = none → valV ps (k.map Sum.inl) = none) := by
  induction r with
  | nil => exact ⟨fun w h => by simp [valW] at h, fun _ => rfl⟩
  | @cons q p kvs ps h t ih =>
    by_cases hk : q.1 = k
    · have e : p.1 = k.map Sum.inl := by rw [h.1, hk]
      rw [zdE e]
      have ew : valW (q :: kvs) k = some q.2 := by simp [valW, List.find?_cons, hk]
      rw [ew]
      exact ⟨fun w z => by cases z; exact ⟨_, rfl, h.2⟩, fun z => by cases z⟩
    · have e : ¬ p.1 = k.map Sum.inl := by rw [h.1]; exact fun z => hk (zeL z)
      rw [zdD e]
      have ew : valW (q :: kvs) k = valW kvs k := by simp [valW, List.find?_cons, hk]
      rw [ew]
      exact ih
theorem RepD.any {kvs : List (List Int × W)} {ps : List (List Key × V)} (r : RepD K H kvs ps) (k : List Int) : (ps.any fun kv => decide (kv.1 = k.map Sum.inl)) = kvs.any fun kv => decide (kv.1 = k) := by
  induction r with
  | nil => rfl
  | @cons q p kvs ps h t ih =>
    rw [List.any_cons, List.any_cons, ih]
    congr 1
    apply decide_eq_decide.mpr
    rw [h.1]
    exact ⟨zeL, fun z => by rw [z]⟩
theorem RepD.put {kvs : List (List Int × W)} {ps : List (List Key × V)} (r : RepD K H kvs ps) (k : List Int) {w : W} {v : V} (rw' : Rep K H w v) : RepD K H (putW kvs k w) (putK ps (k.map Sum.inl) v) := by
  unfold putW putK
  rw [r.any k]
  split
  · rename_i hany
    clear hany
    induction r with
    | nil => exact .nil
    | @cons q p kvs ps h t ih =>
      rw [List.map_cons, List.map_cons]
      refine .cons ?_ ih
      by_cases hk : q.1 = k
      · rw [if_pos hk, if_pos (by rw [h.1, hk])]
        exact ⟨h.1, rw'⟩
      · rw [if_neg hk, if_neg (by rw [h.1]; exact fun z => hk (zeL z))]
        exact h
  · rename_i hany
    clear hany
    induction r with
    | nil => exact .cons ⟨rfl, rw'⟩ .nil
    | cons h t ih => exact .cons h ih
theorem RepD.length {kvs : List (List Int × W)} {ps : List (List Key × V)} (r : RepD K H kvs ps) : kvs.length = ps.length := Paired.length r
theorem zeK : ∀ {ws : List W} {vs : List V} {k : List Int}, Reps K H ws vs → intsOf ws = some k → vs = (k.map (Sum.inl : Int → Key)).map kV
  | [], _, _, .nil, e => by cases e; rfl
  | w :: ws, _, k, .cons r rs, e => by
    cases r with
    | int i =>
      cases q : intsOf ws with
      | none => simp [intsOf, q] at e
      | some ks =>
        simp only [intsOf, q, Option.map_some, Option.some.injEq] at e
        subst e
        rw [zeK rs q]
        rfl
    | _ => simp [intsOf] at e
theorem ziG {w : W} {v : V} {k : List Int} (r : Rep K H w v) (e : keyW w = some k) : ∃ b, v = .ref b ∧ H b = some (.tup ((k.map (Sum.inl : Int → Key)).map kV)) := by
  cases r with
  | tup f hs => exact ⟨_, rfl, by rw [f, zeK hs e]⟩
  | _ => simp [keyW] at e
theorem znK {S : Sto} {a : Addr} {kvs : List (List Int × W)} {y : V} {wy : W} {k : List Int} (hS : RepS K H S) (e : S a = some (.dct kvs)) (ry : Rep K H wy y) (ek : keyW wy = some k) : ∃ o, DGet H a y o ∧ (valW kvs k = none → o = none) ∧ ∀ w, valW kvs k = some w → ∃ v, o = some v ∧ Rep K H w v := by
  obtain ⟨ps, e1, r⟩ := hS a _ e
  obtain ⟨b, rfl, eb⟩ := ziG ry ek
  have rv := RepD.val r k
  exact ⟨valV ps (k.map Sum.inl), .t e1 eb, rv.2, rv.1⟩
end
def wDNew : WE := fun _ _ S Q => ∀ a, S a = none → Q (.ref a) (put S a (.dct []))
def oDIn (neg : Bool) : W2 := fun y x S Q => match x with
  | .ref a => match keyW y with
    | some k => dctW S a fun kvs => Q (.bl (if neg then !(valW kvs k).isSome else (valW kvs k).isSome)) S
    | none => False
  | _ => False
def oDGet : W2 := fun x y S Q => match x with
  | .ref a => match keyW y with
    | some k => dctW S a fun kvs => match valW kvs k with
      | some w => Q w S
      | none => False
    | none => False
  | _ => False
def wDPut (td ty tv : WE) : WS := fun E D σ S => tv E σ S fun v S1 => td E σ S1 fun x S2 => ty E σ S2 fun y S3 => match x with
  | .ref a => match keyW y with
    | some k => dctW S3 a fun kvs => kvs.length < sizeLine ∧ D.nx σ (put S3 a (.dct (putW kvs k v)))
    | none => False
  | _ => False
section
variable {X : Cx} {a b o i e value : Expr} {pos pos' p2 : Pos} {ta tb td ty tv : WE}
def rDIn (neg : Bool) : R2 := fun y x H Q => ∃ a o, x = .ref a ∧ DGet H a y o ∧ Q (.bl (if neg then !o.isSome else o.isSome)) H
theorem zqY (hu : X.A.units + 1 < cLine) : OpR X (compareOp .In) (rDIn false) := by
  intro pins s σ H x y v u Q I rx ry h
  obtain ⟨a, o, rfl, g, q⟩ := h
  cases ry
  exact d_in hu I g rx fun s3 I3 => ⟨.bl o.isSome, H, I3, rfl, q⟩
theorem zoY {K : PySem.W.Frag} {neg : Bool} : OpW K (rDIn neg) (oDIn neg) := fun H x y wx wy S Q QW rx ry hS h hQ => by
  unfold oDIn at h
  split at h
  · split at h
    · rename_i k ek
      obtain ⟨kvs, ea, h⟩ := zph h
      cases ry
      obtain ⟨o, g, g0, g1⟩ := znK hS ea rx ek
      have eo : o.isSome = (valW kvs k).isSome := by
        cases q : valW kvs k with
        | none => rw [g0 q]; rfl
        | some w => obtain ⟨v, ev, _⟩ := g1 w q; rw [ev]; rfl
      exact ⟨_, o, rfl, g, by rw [eo]; exact hQ _ S _ H .refl (.bl _) hS h⟩
    · exact h.elim
  · exact h.elim
theorem zrg {k : Nat} (hr : Room k X.A) (ha : JE X a ta) (hb : JE X b tb) (hm : behindInMarks .In b = false := by with_unfolding_all rfl) : JT X (.Compare a [.In] [b] pos) (wTb (wOp (oDIn false) ta tb)) :=
  zcJ (zqY (by have := hr.units; omega)) zoY ha hb hm
end
end L2
end

section
set_option Elab.async false
set_option linter.all false
set_option maxRecDepth 100000
set_option maxHeartbeats 4000000
namespace L2
open PySem PySem.Spec PyProof.Rows
section
variable {X : Cx} {o e : Expr} {to : WE} {tl : WL} {apos cpos p pos : Pos}
def rUpper : V → List V → Hp → VK → Prop := fun x vs H Q => ∃ z : Str, x = .str z ∧ vs = [] ∧ z.length ≤ 5592405 ∧ Q (.str (Txt.upper z)) H
theorem zlM : MtR X "str.upper" rUpper := by
  intro pins s σ H x vs v us Q I rx rv h
  obtain ⟨z, rfl, rfl, hz, q⟩ := h
  obtain ⟨t, rfl⟩ := rx
  cases rv
  exact SCL.upper hz fun _ => ⟨.str (Txt.upper z), H, I.tok _, ⟨_, rfl⟩, q⟩
def mUpper : WMf := fun w ws S Q => match w, ws with
  | .str z, [] => z.length ≤ 5592405 ∧ Q (.str (Txt.upper z)) S
  | _, _ => False
theorem zjo {K : PySem.W.Frag} : MtW K rUpper mUpper := fun H x w vs ws S Q QW r rs hS h hQ => by
  cases r with
  | str z =>
    cases rs with
    | nil => exact ⟨z, rfl, rfl, h.1, hQ _ S _ H .refl (.str _) hS h.2⟩
    | cons _ _ => exact h.elim
  | _ => exact h.elim
theorem zmv (ho : JE X o to) (hbase : attributeBase o "upper" X.env (eval o X.env) = eval o X.env := by rfl) (hline : (apos.endLine == cpos.line) = true := by rfl) : JE X (.Call (.Attribute o "upper" apos) [] [] cpos) (wM rvS mUpper to waNil) :=
  zrL PySem.F.plainAttrs_str PySem.F.slot_str_upper PySem.F.type_str_upper znr zlM zjo ho hbase hline
theorem zek : ∀ (ns : List Int) (n : Nat), n ≤ ns.length → preSum (fun i => ns.getD i 0) n = (ns.take n).sum
  | ns, 0, _ => by simp [preSum]
  | ns, n + 1, h => by
    rw [preSum, zek ns n (by omega), List.take_succ, List.sum_append]
    congr 1
    rw [List.getD_eq_getElem?_getD, List.getElem?_eq_getElem (by omega)]
    simp
theorem zkt (hc : X.calm = true) : CallR X (.builtin "sum") (fun xs H Q => ∃ (p : Addr) (ns : List Int), xs = [.ref p] ∧ SqL X.K H p (ns.map V.int) ∧ Q (.int ns.sum) H) := by
  intro pins s σ H xs us Q I r h
  obtain ⟨p, ns, rfl, hq, q⟩ := h
  obtain ⟨u, rfl, rx⟩ := vals1 r
  cases rx
  obtain ⟨its, r', pl, hz⟩ := I.list hq
  have hlen : ns.length = its.length := by have := r'.length; rw [List.length_map] at this; exact this
  have hp : p < s.heap.objs.size := by obtain ⟨o, n, e, _⟩ := pl; exact Heap.lt_size e
  have hd : X.A.in1.handled = none := I.ok.hd hc
  have get : ∀ (i : Nat) (v : Value), its.toArray[i]? = some v → ∃ t, v = .int (ns.getD i 0) t := fun i v e => by
    have e' : its[i]? = some v := by simpa using e
    have hi : i < ns.length := by rw [hlen]; exact (List.getElem?_eq_some_iff.mp e').1
    obtain ⟨u, hu, ru⟩ := r'.get (i := i) (x := .int (ns.getD i 0)) (by rw [List.getElem?_map, List.getElem?_eq_getElem hi, List.getD_eq_getElem?_getD, List.getElem?_eq_getElem hi]; rfl)
    rw [e'] at hu
    cases hu
    exact ru
  refine call_sum_walkG (wpAny_pyIter_list pl.isList ?_)
  refine ⟨s.heap.objs.size, _, _, _, _, _, fun i => ns.getD i 0, rfl, Walks.list hd _ p (Nat.ne_of_lt hp) its.toArray, ⟨⟨_, Heap.get?_push_size _ rfl, rfl, rfl⟩, pl.isList.push _⟩, ?_, fun i v hP => get i v hP, fun h' tk t' hk => ?_⟩
  · intro b hb
    have hsz : ∀ o : Obj, (s.heap.push o).objs.size = s.heap.objs.size + 1 := fun o => Heap.size_push ..
    simp only [List.mem_cons, List.not_mem_nil, or_false] at hb
    show b < (s.heap.push _).objs.size
    rw [hsz]
    rcases hb with rfl | rfl
    · exact Nat.lt_succ_self _
    · exact Nat.lt_succ_of_lt hp
  · have e : preSum (fun i => ns.getD i 0) its.toArray.size = ns.sum := by
      rw [List.size_toArray, ← hlen, zek ns _ (Nat.le_refl _), List.take_length]
    have I1 : Inv X pins σ H { s with heap := h', toks := tk } := I.kept fun b o e => hk b o (fun z => by
      have z' : b = s.heap.objs.size := by simpa using z
      rw [z'] at e
      exact absurd (Heap.lt_size e) (Nat.lt_irrefl _)) (Heap.get?_push_of_some _ e)
    exact ⟨.int _, H, I1, ⟨t', by rw [e]⟩, q⟩
def fSumL : WF := fun ws S Q => match intsOf ws with
  | some ns => Q (.int ns.sum) S
  | none => False
theorem zdW {K : PySem.W.Frag} {H : Hp} : ∀ {ws : List W} {vs : List V} {ns : List Int}, Reps K H ws vs → intsOf ws = some ns → vs = ns.map V.int
  | [], _, _, .nil, e => by cases e; rfl
  | w :: ws, _, ns, .cons r rs, e => by
    cases r with
    | int i =>
      cases q : intsOf ws with
      | none => simp [intsOf, q] at e
      | some ks =>
        simp only [intsOf, q, Option.map_some, Option.some.injEq] at e
        subst e
        rw [zdW rs q]
        rfl
    | _ => simp [intsOf] at e
theorem zjv {K : PySem.W.Frag} : CallL K (fun xs H Q => ∃ (p : Addr) (ns : List Int), xs = [.ref p] ∧ SqL K H p (ns.map V.int) ∧ Q (.int ns.sum) H) fSumL := fun H a vs ws S Q QW ea na r hS h hQ => by
  unfold fSumL at h
  split at h
  · rename_i ns e
    have := zdW r e
    subst this
    exact ⟨a, ns, rfl, .of ea, hQ _ S _ H .refl (.int _) hS h⟩
  · exact h.elim
theorem zji (hg : Gl X "sum") (hm : X.mg "sum" = none) (ha : JL X e tl)
    (he : starEach [e] X.env = (false, eval e X.env) :: starEach [] X.env := by rfl) (hpl : (backTo pos (starEach [] X.env)).any (·.1) = false := by rfl) : JE X (.Call (.Name "sum" p) [e] [] pos) (wBL fSumL tl) := fun E hE =>
  zjG (zkt hE.calm) zjv hg hm PyProof.Rows.boot_sum ha (by decide) (by decide) he hpl E hE
end
end L2
end

section
set_option Elab.async false
set_option linter.all false
set_option maxRecDepth 100000
set_option maxHeartbeats 4000000
namespace L2
open PySem PySem.Spec PyProof.Rows
theorem zkU : typeLookup (.type "list") "keys" = pure none := by rw [typeLookup_type, builtinLookup_eq_fast]; kernel_rfl
theorem zgw : entryFor table "dict.update.loop" = some Builtin.«dict.update.loop» := entryFor_of_tree (by kernel_rfl)
theorem zda : plainId "dict.update.loop" = true := by decide +kernel
section
variable {prog : Program} {w : World} {A : Around} {E : Value → Shared → Prop} {s : Shared}
theorem zfb {a : Addr} {o : Obj} {xs : Array Value} {k : Nat} {name : Str} {Q : Option Value → Shared → Prop}
    (hx : s.heap.get? a = some o) (hc : o.cls = .type "list") (hdat : o.data = .seq xs k) (hd : o.dict = none) (hmiss : typeLookup (.type "list") name = pure none) (hname : (["__module__", "__name__", "__qualname__", "__doc__", "__annotations__"] : List Str).contains name = false) (hA : A.handled = none)
    (h : ∀ h' tk, (∀ b o, s.heap.get? b = some o → h'.get? b = some o) → Q none { s with heap := h', toks := tk }) (hsz : name.length + 100 ≤ sizeLine := by size_fits) :
    wpAny (model prog w) A (getAttr? (.ref a) name) Q E s := by
  obtain ⟨c, dct, dat, sl⟩ := o
  simp only at hc hdat hd
  subst hc hdat hd
  obtain ⟨hp, g, d, tk, os⟩ := s
  have hT : ∀ tk', (⟨hp, g, d, tk', os⟩ : Shared).TypeIs (.ref a) "list" := fun _ => ⟨_, hx, rfl⟩
  have f1 := sub_AttributeError
  have f3 := F.slot_list_getattribute.lookup
  have f4 := F.slot_list_getattribute.bind (.ref a)
  have f5 := am_list_getattr_none
  unfold getAttr? getAttrBy? getAttrBy
  repeat (any_goals (first | assumption | exact hT _ | ((with_reducible show wpAny _ _ (call (Value.builtin "list.__getattribute__") _ _) _ _ _); refine call_meets F.slot_list_getattribute (hT _) am_entry_list_getattribute (F.args_list_getattribute_2 _ _) (meets_getattribute_miss_list a xs k sl name _ hmiss hname hsz) ⟨hx, hA, fun h' tk' e hx' => ?_⟩) | wp_step))
  obtain ⟨t', u', he⟩ := hx'.there
  have hTe : ∀ tk', (⟨h', g, d, tk', os⟩ : Shared).TypeIs (.ref e) "AttributeError" := fun _ => ⟨_, he, rfl⟩
  show wpAny _ _ (getattributeRaised _ _ _ _ _ _ _) _ _ _
  unfold getattributeRaised
  repeat (any_goals (first | assumption | exact hTe _ | wp_step))
  exact h h' tk' hx'.keeps
end
section
variable {prog : Program} {w : World} {A : Around} {R : Result → Shared → Prop} {I l d : Addr} {items : Array Value}
def foldS (xs : List (List Key × Addr × Value)) (ps : List (List Key × Addr)) : List (List Key × Addr × Value) := ps.foldl (fun xs p => storedH xs p.1 p.2 (.bool true)) xs
theorem zjg (hu : (tupleKind (mixKind prog w)).room A.in1) (hh : A.in1.handled = none) (hne : l ≠ I) (hdI : d ≠ I) (hdl : d ≠ l) (h0 : Heap) (hd0 : h0.get? d = none) (hI0 : h0.get? I = none) (ps : List (List Key × Addr)) (hps : ps.length = items.size)
    (hp : ∀ (i : Nat) (p : List Key × Addr) (v : Value), ps[i]? = some p → items[i]? = some v → ∃ (t : Addr) (o : Obj) (n : Nat), v = .ref t ∧ h0.get? t = some o ∧ o.cls = .type "tuple" ∧ o.data = .seq #[.ref p.2, .bool true] n)
    (hk : ∀ p ∈ ps, (tupleKind (mixKind prog w)).is h0 p.1 p.2) :
    ∀ (k i : Nat) (s : Shared) (xs : List (List Key × Addr × Value)), items.size - i = k → i ≤ items.size → s.heap.IsListIter I l i → s.heap.IsList l items → (∀ b o, h0.get? b = some o → s.heap.get? b = some o) → s.heap.DictOfH (tupleKind (mixKind prog w)) d xs → xs.length + (items.size - i) ≤ sizeLine →
    (∀ h' tk, (∀ b o, h0.get? b = some o → h'.get? b = some o) → h'.DictOfH (tupleKind (mixKind prog w)) d (foldS xs (ps.drop i)) → R (.ok (.ret .none)) { s with heap := h', toks := tk }) →
    codeAny (model prog w) A (.builtin "dict.update.loop" ⟨[.ref d, .ref I, rawInt i, .none], []⟩) R s := by
  have W := Walks.list (prog := prog) (w := w) (A := A.in1) hh I l hne items
  intro k
  induction k with
  | zero =>
    intro i s xs hki hi hit hl hold hd hsz hR
    have hin : i = items.size := by omega
    subst hin
    refine codeAny_builtin zgw ?_
    rw [Around.under_plainId zda _]
    show wpAny _ A.in1 (pyNext (.ref I) >>= _) _ _ s
    refine wpAny_bind (W.done s _ _ ⟨hit, hl⟩ fun h' tk hk' => ?_)
    have hd' : h'.DictOfH (tupleKind (mixKind prog w)) d xs := by
      obtain ⟨q, es, ep, q1, q2, q3, q4, q5, q6⟩ := hd
      refine ⟨q, es, ep, hk' d q (fun z => hdI (List.mem_singleton.mp z)) q1, q2, q3, q4, fun x hx => ?_, q6⟩
      obtain ⟨ob, its, m, k1, k2, k3, k4⟩ := q5 x hx
      refine ⟨ob, its, m, hk' _ _ (fun z => ?_) k1, k2, k3, k4⟩
      obtain ⟨oi, hi1, hi2, _⟩ := hit
      rw [List.mem_singleton.mp z, hi1] at k1
      cases k1
      rw [k2] at hi2
      exact absurd hi2 (by decide)
    show wpAny _ A.in1 (Builtin.Dict.addKeywords d [] >>= _) _ _ _
    refine wpAny_bind (wpAny_pure (wpAny_pure (hR h' tk (fun b o e => hk' b o (fun z => by rw [List.mem_singleton.mp z, hI0] at e; cases e) (hold b o e)) ?_)))
    rw [List.drop_of_length_le (by omega)]
    exact hd'
  | succ k ih =>
    intro i s xs hki hi hit hl hold hd hsz hR
    have hlt : i < items.size := by omega
    refine codeAny_builtin zgw ?_
    rw [Around.under_plainId zda _]
    show wpAny _ A.in1 (pyNext (.ref I) >>= _) _ _ s
    refine wpAny_bind (W.item i s _ _ hlt ⟨hit, hl⟩ fun v h' tk hP hst' hk' => ?_)
    obtain ⟨p, hpi⟩ : ∃ p, ps[i]? = some p := ⟨ps[i], List.getElem?_eq_getElem (by omega)⟩
    obtain ⟨t, o, n, rfl, ho, hc, hdat⟩ := hp i p v hpi hP
    have ho' := hk' t o (fun z => by rw [List.mem_singleton.mp z] at ho; rw [hI0] at ho; cases ho) (hold t o ho)
    have hkey : (tupleKind (mixKind prog w)).is h' p.1 p.2 := by
      obtain ⟨ob, its, m, k1, k2, k3, k4⟩ := hk p (List.mem_of_getElem? hpi)
      exact ⟨ob, its, m, hk' _ _ (fun z => by rw [List.mem_singleton.mp z] at k1; rw [hI0] at k1; cases k1) (hold _ _ k1), k2, k3, k4⟩
    have hd' : h'.DictOfH (tupleKind (mixKind prog w)) d xs := by
      obtain ⟨q, es, ep, q1, q2, q3, q4, q5, q6⟩ := hd
      refine ⟨q, es, ep, hk' d q (fun z => hdI (List.mem_singleton.mp z)) q1, q2, q3, q4, fun x hx => ?_, q6⟩
      obtain ⟨ob, its, m, k1, k2, k3, k4⟩ := q5 x hx
      refine ⟨ob, its, m, hk' _ _ (fun z => ?_) k1, k2, k3, k4⟩
      obtain ⟨oi, hi1, hi2, _⟩ := hit
      rw [List.mem_singleton.mp z, hi1] at k1
      cases k1
      rw [k2] at hi2
      exact absurd hi2 (by decide)
    show wpAny _ A.in1 (holding [.ref t] _ >>= _) _ _ _
    refine wpAny_bind (wpAny_holding ?_)
    refine wpAny_bind (wpAny_tryCatch ?_)
    unfold Builtin.Dict.pairItems
    refine wpAny_bind (wpAny_typeOf (T := "tuple") ⟨o, ho', hc⟩ ?_)
    rw [if_pos (by decide)]
    refine wpAny_bind (wpAny_seqItems ho' hdat ?_)
    refine wpAny_pure ?_
    show wpAny _ A.in1 (holding [.ref p.2, .bool true] (dictSet d (.ref p.2) (.bool true))) _ _ _
    refine wpAny_holding (wpAny_dictSet_heap (hsz := by omega) hu hkey hd' fun h2 hd2 hs2 => ?_)
    refine wpAny_pure ⟨plainId_quiet zda _, ?_⟩
    have ei : ((i : Int) + 1) = ((i + 1 : Nat) : Int) := by omega
    rw [ei]
    have hln : (storedH xs p.1 p.2 (Value.bool true)).length ≤ xs.length + 1 := by
      unfold storedH
      split <;> simp
    have hst2 := W.frame (i + 1) h' h2 hst' fun b hb o e => by
      have hbd : b ≠ d := by
        rcases List.mem_cons.mp hb with z | z
        · rw [z]; exact Ne.symm hdI
        · rw [List.mem_singleton.mp z]; exact Ne.symm hdl
      exact (hs2.2 b hbd).trans e
    refine ih (i + 1) _ _ (by omega) (by omega) hst2.1 hst2.2 (fun b o e => ?_) hd2 (by omega) fun h3 tk3 old3 hd3 => ?_
    · have hbd : b ≠ d := fun z => by rw [z, hd0] at e; cases e
      have hbI : b ∉ [I] := fun z => by rw [List.mem_singleton.mp z, hI0] at e; cases e
      exact (hs2.2 b hbd).trans (hk' b o hbI (hold b o e))
    · refine hR h3 tk3 old3 ?_
      have ed : ps.drop i = p :: ps.drop (i + 1) := by
        have hi' : i < ps.length := by omega
        rw [List.drop_eq_getElem_cons hi']
        rw [List.getElem?_eq_getElem hi'] at hpi
        cases hpi
        rfl
      rw [ed]
      exact hd3
end
section
variable {X : Cx} {e : Expr} {p pos : Pos} {tl : WL}
def pairIn (H : Hp) (q : List Key) (v : V) : Prop := ∃ t b, v = .ref t ∧ H t = some (.tup [.ref b, .bl true]) ∧ H b = some (.tup (q.map kV))
def foldK (qs : List (List Key)) : List (List Key × V) := qs.foldl (fun kvs q => putK kvs q (.bl true)) []
theorem zgz : ∀ (qs : List (List Key)) (kvs : List (List Key × V)), (qs.foldl (fun kvs q => putK kvs q (V.bl true)) kvs).length ≤ kvs.length + qs.length
  | [], kvs => by simp
  | q :: qs, kvs => by
    have h1 := zhh kvs q (V.bl true)
    have h2 := zgz qs (putK kvs q (.bl true))
    rw [List.foldl_cons, List.length_cons]
    omega
theorem KT.fold {H : Hp} : ∀ (ps : List (List Key × Addr)) {kvs : List (List Key × V)} {xs : List (List Key × Addr × Value)}, KT H kvs xs → (∀ p ∈ ps, H p.2 = some (.tup (p.1.map kV))) → KT H ((ps.map fun p => p.1).foldl (fun kvs q => putK kvs q (.bl true)) kvs) (foldS xs ps)
  | [], _, _, r, _ => r
  | p :: ps, kvs, xs, r, h => by
    rw [List.map_cons, List.foldl_cons]
    exact KT.fold ps (r.put p.1 (h p List.mem_cons_self) rfl) fun p' hp' => h p' (List.mem_cons_of_mem _ hp')
theorem zhX {P : Program} {w : World} {H : Hp} {h : Heap} (ok : HOk P w H h) : ∀ {qs : List (List Key)} {vs : List V} {its : List Value}, Paired (pairIn H) qs vs → Vals vs its → ∃ ps : List (List Key × Addr), (ps.map fun p => p.1) = qs ∧
    (∀ (i : Nat) (p : List Key × Addr) (v : Value), ps[i]? = some p → its[i]? = some v → ∃ (t : Addr) (o : Obj) (n : Nat), v = .ref t ∧ h.get? t = some o ∧ o.cls = .type "tuple" ∧ o.data = .seq #[.ref p.2, .bool true] n) ∧ ∀ p ∈ ps, H p.2 = some (.tup (p.1.map kV))
  | _, _, _, .nil, .nil => ⟨[], rfl, (fun i p v h => by simp at h), fun _ h => nomatch h⟩
  | _, _, _, .cons (a := q) hq hs, .cons hv hvs => by
    obtain ⟨ps, e, h1, h2⟩ := zhX ok hs hvs
    obtain ⟨t, b, rfl, ht, hb⟩ := hq
    refine ⟨(q, b) :: ps, by rw [List.map_cons, e], fun i p v hp hv' => ?_, fun p hp => ?_⟩
    · cases i with
      | zero =>
        simp only [List.getElem?_cons_zero, Option.some.injEq] at hp hv'
        subst hp hv'
        obtain ⟨_, its, r, o, g1, g2, n, g3⟩ := (show ObjOk P w H h t (.tup [.ref b, .bl true]) from ok t _ ht)
        cases r with
        | cons r1 r2 =>
          cases r2 with
          | cons r3 r4 =>
            cases r4
            cases r1
            cases r3
            exact ⟨t, o, n, hv, g1, g2, by simpa using g3⟩
      | succ i =>
        simp only [List.getElem?_cons_succ] at hp hv'
        exact h1 i p v hp hv'
    · rcases List.mem_cons.mp hp with rfl | hp
      · exact hb
      · exact h2 p hp
theorem ziQ (hc : X.calm = true) (hu : X.A.units + 2 < cLine) : CallR X (.type "dict") (fun xs H Q => ∃ (l : Addr) (vs : List V) (qs : List (List Key)), xs = [.ref l] ∧ SqL X.K H l vs ∧ Paired (pairIn H) qs vs ∧ qs.length ≤ sizeLine ∧ ∀ d, H d = none → Q (.ref d) (upd H d (.dT (foldK qs)))) := by
  intro pins s σ H xs us Q I r h
  obtain ⟨l, vs, qs, rfl, hq, hp, hlen, q⟩ := h
  obtain ⟨u, rfl, rx⟩ := vals1 r
  cases rx
  obtain ⟨its, r', pl, hz⟩ := I.list hq
  have hd : X.A.in1.handled = none := I.ok.hd hc
  have hl : l < s.heap.objs.size := by obtain ⟨o, n, e, _⟩ := pl; exact Heap.lt_size e
  refine callType_codes (Q₁ := fun obj s₁ => obj = .ref s.heap.objs.size ∧ s₁ = { s with heap := s.heap.push { cls := .type "dict", data := .dict #[] } }) F.kt_called_dict (F.kt_typeCall_dict_1 _) F.entry_dict_init (kt_code_dict_new _ ⟨rfl, rfl⟩) ?_
  rintro obj s₁ ⟨rfl, rfl⟩
  have hT : ({ s with heap := s.heap.push { cls := .type "dict", data := .dict #[] } } : Shared).TypeIs (.ref s.heap.objs.size) "dict" := ⟨_, Heap.get?_push_size _ rfl, rfl⟩
  refine ⟨hT, F.args_dict_init_2 _ _, ?_⟩
  unfold Builtin.«dict.__init__»
  refine wpAny_bind ?_
  unfold Builtin.Dict.selfAndRest
  refine wpAny_bind (wpAny_notOrdered_dict hT ?_)
  show wpAny _ _ (pure (s.heap.objs.size, [Value.ref l])) _ _ _
  refine wpAny_pure ?_
  show wpAny _ _ (Builtin.Dict.updateFrom "dict.__init__" s.heap.objs.size (.ref l) [] .none) _ _ _
  unfold Builtin.Dict.updateFrom
  obtain ⟨ol, nl, hol, hcl, hdl, hnl⟩ := pl
  have hol1 := Heap.get?_push_of_some { cls := .type "dict", data := .dict #[] } hol
  obtain ⟨ps, eqs, hps, hks⟩ := zhX I.hok hp r'
  have hplen : ps.length = its.toArray.size := by
    have h1 := congrArg List.length eqs
    have h2 := Paired.length hp
    have h3 := r'.length
    rw [List.length_map] at h1
    rw [List.size_toArray]
    omega
  refine wpAny_bind (wpAny_typeOf (T := "list") ⟨ol, hol1, hcl⟩ ?_)
  dsimp only
  rw [if_pos (by decide)]
  refine wpAny_bind (zfb hol1 hcl hnl hdl zkU (by decide +kernel) hd fun h1 tk1 kp1 => ?_)
  rw [if_pos (show (none : Option Value).isNone = true from rfl)]
  refine wpAny_bind (wpAny_rule ?_)
  have hl1 : h1.IsList l its.toArray := ⟨ol, kp1 _ _ hol1, hcl, nl, hnl⟩
  refine wpAny_bind (wpAny_pyIter_list hl1 ?_)
  refine wpAny_pure ⟨plainId_quiet zda _, ?_⟩
  have hd1 : h1.get? s.heap.objs.size = some { cls := .type "dict", data := .dict #[] } := kp1 _ _ (Heap.get?_push_size _ rfl)
  have hdlt := Heap.lt_size hd1
  have hI0 : s.heap.get? h1.objs.size = none := by
    cases z : s.heap.get? h1.objs.size with
    | none => rfl
    | some ob => exact absurd (Heap.lt_size (kp1 _ _ (Heap.get?_push_of_some _ z))) (Nat.lt_irrefl _)
  have hd0 : s.heap.get? s.heap.objs.size = none := by
    cases z : s.heap.get? s.heap.objs.size with
    | none => rfl
    | some ob => exact absurd (Heap.lt_size z) (Nat.lt_irrefl _)
  refine zjg (A := X.A.in1) (I := h1.objs.size) (l := l) (d := s.heap.objs.size) (items := its.toArray) ?_ hd (Nat.ne_of_lt (Nat.lt_trans hl hdlt)) (Nat.ne_of_lt hdlt) (Nat.ne_of_gt hl) s.heap hd0 hI0 ps hplen (fun i p v h1 h2 => hps i p v h1 (by simpa using h2)) (fun p hp => zjl I.hok (hks p hp)) _ 0 _ [] rfl (Nat.zero_le _) ?_ ?_ ?_ ?_ ?_ fun h' tk' old' hd' => ?_
  · exact tupleKind_room_in1 (A := X.A.in1) (show X.A.in1.units + 1 < cLine from by have : X.A.in1.units = X.A.units + 1 := rfl; omega)
  · exact ⟨_, Heap.get?_push_size _ rfl, rfl, rfl⟩
  · exact hl1.push _
  · exact fun b o e => Heap.get?_push_of_some _ (kp1 _ _ (Heap.get?_push_of_some _ e))
  · refine ⟨_, #[], 0, Heap.get?_push_of_some _ hd1, ?_, rfl, rfl, (fun x hx => nomatch hx), List.nodup_nil⟩
    first | exact ⟨rfl, rfl⟩ | exact rfl | exact .inl rfl | (unfold Obj.ExactDict; simp)
  · rw [List.length_nil, ← hplen]
    have h1 := congrArg List.length eqs
    rw [List.length_map] at h1
    omega
  · rw [List.drop_zero] at hd'
    obtain ⟨o', es, ep, g1, g2, g3, g4, g5, g6⟩ := hd'
    have hl0 := zgz qs []
    have kt : KT H (foldK qs) (foldS [] ps) := by
      have := KT.fold ps (show KT H [] [] from .nil) hks
      rw [eqs] at this
      exact this
    refine ⟨rfl, .ref s.heap.objs.size, _, I.laid (t' := tk') (o := .dT (foldK qs)) old' (Nat.le_refl _) ⟨?_, ?_, _, kt.keeps fun b ys eb => ?_, o', es, ep, g1, g2, g3, g4, g6⟩, rfl, q _ (I.hok.fresh (Nat.le_refl _))⟩
    · simp only [List.length_nil, Nat.zero_add] at hl0
      exact Nat.le_trans hl0 hlen
    · have := I.big
      exact beq_eq_false_iff_ne.mpr (Nat.ne_of_gt this)
    · rw [zaq (zal eb (I.hok.fresh (Nat.le_refl _)))]
      exact eb
def dkeys : List W → Option (List (List Int))
  | [] => some []
  | .tup [k, .bl true] :: ws => match keyW k, dkeys ws with
    | some q, some qs => some (q :: qs)
    | _, _ => none
  | _ => none
def foldW (qs : List (List Int)) : List (List Int × W) := qs.foldl (fun kvs k => putW kvs k (.bl true)) []
def fDictL : WF := fun ws S Q => match dkeys ws with
  | some qs => qs.length ≤ 1000000 ∧ ∀ a, S a = none → Q (.ref a) (put S a (.dct (foldW qs)))
  | none => False
theorem zgP {K : PySem.W.Frag} {H : Hp} : ∀ {ws : List W} {vs : List V} {qs : List (List Int)}, Reps K H ws vs → dkeys ws = some qs → Paired (pairIn H) (qs.map fun q => q.map Sum.inl) vs
  | [], _, _, .nil, e => by
    simp only [dkeys, Option.some.injEq] at e
    subst e
    exact .nil
  | w :: ws, _, qs, .cons r rs, e => by
    cases w with
    | tup us =>
      rcases us with _ | ⟨k, _ | ⟨b, _ | ⟨x, us⟩⟩⟩
      · simp [dkeys] at e
      · simp [dkeys] at e
      · cases b with
        | bl b =>
          cases b with
          | true =>
            simp only [dkeys] at e
            cases e1 : keyW k with
            | none => rw [e1] at e; simp at e
            | some q =>
              cases e2 : dkeys ws with
              | none => rw [e1, e2] at e; simp at e
              | some qs' =>
                rw [e1, e2] at e
                simp only [Option.some.injEq] at e
                subst e
                cases r with
                | @tup t vs' _ ft hs =>
                  cases hs with
                  | cons r1 r2 =>
                    cases r2 with
                    | cons r3 r4 =>
                      cases r4
                      cases r3
                      obtain ⟨b, rfl, eb⟩ := ziG r1 e1
                      exact .cons ⟨t, b, rfl, ft, eb⟩ (zgP rs e2)
          | false => simp [dkeys] at e
        | _ => simp [dkeys] at e
      · cases b <;> simp [dkeys] at e
    | _ => simp [dkeys] at e
theorem zfG {K : PySem.W.Frag} {H : Hp} : ∀ (qs : List (List Int)) {kvs : List (List Int × W)} {ps : List (List Key × V)}, RepD K H kvs ps → RepD K H (qs.foldl (fun kvs k => putW kvs k (.bl true)) kvs) ((qs.map fun q => q.map Sum.inl).foldl (fun kvs q => putK kvs q (.bl true)) ps)
  | [], _, _, r => r
  | q :: qs, _, _, r => by
    rw [List.map_cons, List.foldl_cons, List.foldl_cons]
    exact zfG qs (r.put q (.bl true))
theorem ziX {K : PySem.W.Frag} : CallL K (fun xs H Q => ∃ (l : Addr) (vs : List V) (qs : List (List Key)), xs = [.ref l] ∧ SqL K H l vs ∧ Paired (pairIn H) qs vs ∧ qs.length ≤ sizeLine ∧ ∀ d, H d = none → Q (.ref d) (upd H d (.dT (foldK qs)))) fDictL := fun H a vs ws S Q QW ea na r hS h hQ => by
  unfold fDictL at h
  split at h
  · rename_i qs e
    have hp := zgP r e
    refine ⟨a, vs, _, rfl, .of ea, hp, ?_, fun d hd => ?_⟩
    · rw [List.length_map, sizeLine_eq]
      omega
    · have rd : RepD K H (foldW qs) (foldK (qs.map fun q => q.map Sum.inl)) := zfG qs (show RepD K H [] [] from .nil)
      have x : Ext H S (upd H d (.dT (foldK (qs.map fun q => q.map Sum.inl)))) (put S d (.dct (foldW qs))) := .newS hd
      refine hQ (.ref d) (put S d (.dct (foldW qs))) (.ref d) _ x (.ref d) (fun b o q => ?_) (h.2 d (hS.free hd))
      by_cases hb : b = d
      · subst hb
        rw [zaf] at q
        cases q
        exact ⟨_, zau, Paired.mapP rd fun _ _ z => ⟨z.1, z.2.ext x⟩⟩
      · rw [zaH hb] at q
        exact hS.new hd b o q
  · exact h.elim
theorem zmm {k : Nat} (hr : Room k X.A) (hg : Gl X "dict") (hm : X.mg "dict" = none) (ha : JL X e tl)
    (he : starEach [e] X.env = (false, eval e X.env) :: starEach [] X.env := by rfl) (hpl : (backTo pos (starEach [] X.env)).any (·.1) = false := by rfl) : JE X (.Call (.Name "dict" p) [e] [] pos) (wBL fDictL tl) := fun E hE =>
  znt (ziQ hE.calm (by have := hr.units; omega)) ziX hg hm PyProof.Rows.boot_dict ha (by decide) (by decide) he hpl E hE
theorem zmy {ws : List W} {S : Sto} {Q : WK} : (fDictL ws S Q) = (match dkeys ws with
  | some qs => qs.length ≤ 1000000 ∧ ∀ a, S a = none → Q (.ref a) (put S a (.dct (foldW qs)))
  | none => False) := propext ⟨fun h => h, fun h => h⟩
theorem zgy : ∀ ps : List (List Int), dkeys (ps.map fun p => W.tup [.tup (p.map W.int), .bl true]) = some ps
  | [] => rfl
  | p :: ps => by
    have e : keyW (.tup (p.map W.int)) = some p := by
      show intsOf (p.map W.int) = some p
      induction p with
      | nil => rfl
      | cons i p ih => rw [List.map_cons, intsOf, ih]; rfl
    rw [List.map_cons, dkeys, e, zgy ps]
theorem zmu (kvs : List (List Int × W)) (q k : List Int) (v : W) : (valW (putW kvs q v) k).isSome = (decide (k = q) || (valW kvs k).isSome) := by
  have e : ∀ kvs : List (List Int × W), (valW kvs k).isSome = kvs.any fun kv => decide (kv.1 = k) := fun kvs => by
    unfold valW
    rw [Option.isSome_map]
    induction kvs with
    | nil => rfl
    | cons a kvs ih =>
      rw [List.find?_cons, List.any_cons]
      cases decide (a.1 = k) with
      | true => rfl
      | false => simpa using ih
  rw [e, e]
  unfold putW
  split
  · rename_i h
    have : (kvs.map fun kv => if kv.1 = q then (kv.1, v) else kv).any (fun kv => decide (kv.1 = k)) = kvs.any fun kv => decide (kv.1 = k) := by
      rw [List.any_map]
      congr 1
      funext kv
      simp only [Function.comp]
      split <;> rfl
    rw [this]
    by_cases hk : k = q
    · subst hk
      rw [h]
      simp
    · rw [decide_eq_false hk, Bool.false_or]
  · rw [List.any_append]
    simp only [List.any_cons, List.any_nil, Bool.or_false]
    rw [Bool.or_comm]
    congr 1
    apply decide_eq_decide.mpr
    exact eq_comm
theorem zhY : ∀ (qs : List (List Int)) (kvs : List (List Int × W)) (k : List Int), (valW (qs.foldl (fun kvs k => putW kvs k (.bl true)) kvs) k).isSome = (decide (k ∈ qs) || (valW kvs k).isSome)
  | [], kvs, k => by simp
  | q :: qs, kvs, k => by
    rw [List.foldl_cons, zhY qs, zmu, ← Bool.or_assoc]
    congr 1
    rw [Bool.eq_iff_iff]
    simp only [Bool.or_eq_true, decide_eq_true_eq, List.mem_cons]
    exact or_comm
theorem zgM (qs : List (List Int)) (k : List Int) : (valW (foldW qs) k).isSome = decide (k ∈ qs) := by
  unfold foldW
  rw [zhY]
  simp [valW]
end
end L2
end

section
set_option Elab.async false
set_option linter.all false
set_option maxRecDepth 100000
set_option maxHeartbeats 4000000
namespace L2
open PySem PySem.Spec PyProof.Rows
section
variable {prog : Program} {w : World} {A : Around} {E : Value → Shared → Prop} {s : Shared}
end
section
variable {X : Cx} {a : Expr} {p pos p2 pos2 : Pos}
end
section
variable {E : WX} {σ : WSt} {S : Sto} {QA : List W → Sto → Prop}
end
end L2
end

section
set_option Elab.async false
set_option linter.all false
set_option maxRecDepth 100000
set_option maxHeartbeats 4000000
namespace L2
open PySem PySem.Spec PyProof.Rows

def geI : List Int → List Int → Bool
  | [], [] => true
  | [], _ :: _ => false
  | _ :: _, [] => true
  | a :: as, b :: bs => if a = b then geI as bs else decide (b ≤ a)
section
variable {X : Cx}
def difI (is js : List Int) : Bool := (is.zip js).any fun p => p.1 != p.2
theorem zog {prog : Program} {w : World} {A : Around} {E : Value → Shared → Prop} {s : Shared} {Q : Option Fin × Unit → Shared → Prop} {is js : List Int} {us vs : List Value} (r1 : Vals (is.map V.int) us) (r2 : Vals (js.map V.int) vs)
    (h1 : difI is js = true → Q (some (.done (.ret (.bool (geI is js)))), ()) s) (h2 : difI is js = false → Q (none, ()) s) {f : Value × Value → Option Fin × Unit → Sem (ForInStep (Option Fin × Unit))}
    (hf : ∀ x y, f (x, y) (none, ()) = (do
        let e ← eqBool x y
        if (!e) = true then do
          rule "tuple.compare.by-the-first-pair-that-differs"
          let v ← richCompare .GtE x y
          let f ← ret v
          pure (ForInStep.done (some f, ()))
        else pure (ForInStep.yield (none, ())))) : wpAny (model prog w) A (forIn (us.zip vs) ((none, ()) : Option Fin × Unit) f) Q E s := by
  refine wpAny_forIn_list _ (fun l b s' => b = (none, ()) ∧ s' = s ∧ ∃ is js us vs, l = List.zip us vs ∧ Vals (is.map V.int) us ∧ Vals (js.map V.int) vs ∧ (difI is js = true → Q (some (.done (.ret (.bool (geI is js)))), ()) s) ∧ (difI is js = false → Q (none, ()) s)) Q ?_ ?_ _ _ ⟨rfl, rfl, is, js, us, vs, rfl, r1, r2, h1, h2⟩
  · rintro x rest b s' ⟨rfl, rfl, is, js, us, vs, e, r1, r2, h1, h2⟩
    cases is with
    | nil => cases r1; cases e
    | cons i is =>
      cases js with
      | nil => cases r2; rw [List.zip_nil_right] at e; cases e
      | cons j js =>
        cases r1 with
        | cons ru r1 =>
          cases r2 with
          | cons rv r2 =>
            obtain ⟨t, rfl⟩ := ru
            obtain ⟨t', rfl⟩ := rv
            cases e
            rw [hf]
            refine wpAny_bind (SeqAt.EqAt.int_int i t j t' prog w E _ ?_)
            by_cases e : i = j
            · subst e
              rw [beq_self_eq_true]
              refine wpAny_pure ⟨rfl, rfl, is, js, _, _, rfl, r1, r2, fun h => ?_, fun h => ?_⟩
              · have := h1 (by unfold difI at h ⊢; rw [List.zip_cons_cons, List.any_cons, h, Bool.or_true])
                rwa [geI, if_pos rfl] at this
              · exact h2 (by unfold difI at h ⊢; rw [List.zip_cons_cons, List.any_cons, h]; simp)
            · have e' : (i == j) = false := by simp [e]
              rw [e']
              refine wpAny_bind (wpAny_rule (wpAny_bind (PySem.P.ge_int (wpAny_bind (wpAny_pure (wpAny_pure ?_))))))
              have := h1 (by unfold difI; rw [List.zip_cons_cons, List.any_cons]; simp [e])
              rwa [geI, if_neg e] at this
  · rintro b s' ⟨rfl, rfl, is, js, us, vs, e, r1, r2, h1, h2⟩
    refine h2 ?_
    cases is with
    | nil => rfl
    | cons i is =>
      cases js with
      | nil => rfl
      | cons j js =>
        cases r1 with
        | cons _ _ => cases r2 with
          | cons _ _ => cases e
theorem zkm : ∀ {is js : List Int}, difI is js = false → geI is js = decide (js.length ≤ is.length)
  | [], [], _ => rfl
  | [], _ :: _, _ => rfl
  | _ :: _, [], _ => by simp [geI]
  | i :: is, j :: js, h => by
    unfold difI at h
    rw [List.zip_cons_cons, List.any_cons, Bool.or_eq_false_iff] at h
    have e : i = j := by simpa using h.1
    rw [geI, if_pos e, zkm h.2]
    simp
theorem zlU {prog : Program} {w : World} {A : Around} {E : Value → Shared → Prop} {s : Shared} {l b : Addr} {Q : Value → Shared → Prop} {is js : List Int} {us vs : List Value} (hl : s.heap.IsTuple l us.toArray) (hb : s.heap.IsTuple b vs.toArray) (r1 : Vals (is.map V.int) us) (r2 : Vals (js.map V.int) vs) (hu : A.units < cLine)
    (hQ : Q (.bool (geI is js)) s) : wpAny (model prog w) A (compareOp .GtE (.ref l) (.ref b)) Q E s := by
  show wpAny (model prog w) A (richCompare .GtE (.ref l) (.ref b)) Q E s
  have t1 : s.TypeIs (.ref l) "tuple" := by obtain ⟨o, h, c, _⟩ := hl; exact ⟨o, h, c⟩
  have t2 : s.TypeIs (.ref b) "tuple" := by obtain ⟨o, h, c, _⟩ := hb; exact ⟨o, h, c⟩
  refine wpAny_richCompare_same_or t1 t2 F.slot_tuple_ge ?_ (.inr hu)
  refine call_meets (S := fun _ R s' => s' = s ∧ R (.ok (.ret (.bool (geI is js)))) s) F.slot_tuple_ge t1 F.entry_tuple_ge (F.args_tuple_ge_2 _ _) ?_ ⟨rfl, (⟨(by intro z; cases z), hQ⟩ : Value.bool (geI is js) ≠ Value.notImplemented ∧ Q (Value.bool (geI is js)) s)⟩
  refine Meets.of_wp ?_
  rintro prog w A R s' ⟨rfl, hR⟩
  refine wpAny_bind (wpAny_pure ?_)
  refine wpAny_bind (wpAny_isInstance (b := true) t2 rfl ?_)
  refine wpAny_bind (tupleItemsOf_ hl (wpAny_bind (tupleItemsOf_ hb (wpAny_bind ?_))))
  refine zog r1 r2 (fun h => ?_) (fun h => ?_) ?_
  · exact wpAny_pure ⟨_, rfl, hR⟩
  · refine wpAny_pure ⟨_, rfl, ?_⟩
    have l1 : is.length = us.length := by have := r1.length; rwa [List.length_map] at this
    have l2 : js.length = vs.length := by have := r2.length; rwa [List.length_map] at this
    rw [zkm h, l1, l2] at hR
    exact hR
  · intro x y
    rfl
def tupI : List W → Option (List Int)
  | [] => some []
  | .int i :: ws => (tupI ws).map (i :: ·)
  | _ => none
theorem zhI : ∀ is : List Int, tupI (is.map W.int) = some is
  | [] => rfl
  | i :: is => by rw [List.map_cons, tupI, zhI is]; rfl
theorem zdS {K : PySem.W.Frag} {H : Hp} : ∀ {ws : List W} {vs : List V} {is : List Int}, tupI ws = some is → Reps K H ws vs → vs = is.map V.int
  | [], _, _, h, r => by cases r; cases h; rfl
  | w :: ws, vs, is, h, r => by
    cases r with
    | cons r1 r2 =>
      cases r1 with
      | int i =>
        rw [tupI] at h
        cases e : tupI ws with
        | none => rw [e] at h; cases h
        | some js =>
          rw [e] at h
          cases h
          rw [zdS e r2]
          rfl
      | _ => cases h
def oGeA : W2
  | .int i, .int j, S, Q => Q (.bl (decide (j ≤ i))) S
  | .tup xs, .tup ys, S, Q => match tupI xs, tupI ys with
    | some is, some js => Q (.bl (geI is js)) S
    | _, _ => False
  | _, _, _, _ => False
theorem zpY (hu : X.A.units < cLine) : OpR X (compareOp .GtE) (fun x y H Q => ∃ a b is js, x = .ref a ∧ y = .ref b ∧ H a = some (.tup (is.map V.int)) ∧ H b = some (.tup (js.map V.int)) ∧ Q (.bl (geI is js)) H) := by
  intro pins s σ H x y v u Q I rx ry h
  obtain ⟨a, b, is, js, rfl, rfl, ha, hb, q⟩ := h
  cases (show v = Value.ref _ from rx)
  cases (show u = Value.ref _ from ry)
  obtain ⟨us, r1, p1, _⟩ := I.tuple (.of ha)
  obtain ⟨vs, r2, p2, _⟩ := I.tuple (.of hb)
  exact zlU p1 p2 r1 r2 hu ⟨.bl (geI is js), H, I, rfl, q⟩
theorem znX {K : PySem.W.Frag} : OpW K (fun x y H Q => rI0 (fun i j => .bl (decide (j ≤ i))) x y H Q ∨ (∃ a b is js, x = .ref a ∧ y = .ref b ∧ H a = some (.tup (is.map V.int)) ∧ H b = some (.tup (js.map V.int)) ∧ Q (.bl (geI is js)) H)) oGeA := fun H x y wx wy S Q QW rx ry hS h hQ => by
  cases rx with
  | int i =>
    cases ry with
    | int j => exact .inl ⟨i, j, rfl, rfl, hQ _ S _ H .refl (.bl _) hS h⟩
    | _ => exact h.elim
  | @tup a xs ws ha ra =>
    cases ry with
    | @tup b ys zs hb rb =>
      have h' : (match tupI ws, tupI zs with
        | some is, some js => QW (.bl (geI is js)) S
        | _, _ => False) := h
      cases e1 : tupI ws with
      | none => rw [e1] at h'; exact h'.elim
      | some is =>
        cases e2 : tupI zs with
        | none => rw [e1, e2] at h'; exact h'.elim
        | some js =>
          rw [e1, e2] at h'
          cases zdS e1 ra
          cases zdS e2 rb
          exact .inr ⟨a, b, is, js, rfl, rfl, ha, hb, hQ _ S _ H .refl (.bl _) hS h'⟩
    | _ => exact h.elim
  | _ => exact h.elim
variable {a b : Expr} {pos : Pos} {ta tb : WE}
theorem zpq {k : Nat} (hr : Room k X.A) (ha : JE X a ta) (hb : JE X b tb) : JT X (.Compare a [.GtE] [b] pos) (wTb (wOp oGeA ta tb)) := zcJ (zrr.or (zpY (by have := hr.units; omega))) znX ha hb (nomark b)
end
end L2
end

section
set_option Elab.async false
set_option linter.all false
set_option maxRecDepth 100000
set_option maxHeartbeats 4000000
namespace L2
open PySem PySem.Spec PyProof.Rows
inductive Tr where
  | bl (n : Int)
  | nd (s : Str) (ts : List Tr)
def Tr.kids : Tr → List Tr
  | .bl _ => []
  | .nd _ ts => ts
mutual
def Tr.weight : Tr → Nat
  | .bl _ => 1
  | .nd _ ts => 1 + wts ts
def wts : List Tr → Nat
  | [] => 0
  | t :: ts => t.weight + wts ts
end
mutual
def Tr.depth : Tr → Nat
  | .bl _ => 1
  | .nd _ ts => 1 + dts ts
def dts : List Tr → Nat
  | [] => 0
  | t :: ts => max t.depth (dts ts)
end
theorem zoI : wts [] = 0 := by unfold wts; rfl
theorem zdh (t : Tr) (ts : List Tr) : wts (t :: ts) = t.weight + wts ts := by
  conv => lhs; unfold wts
theorem zev : ∀ (ts us : List Tr), wts (ts ++ us) = wts ts + wts us
  | [], us => by
    show wts us = wts [] + wts us
    rw [zoI]
    omega
  | t :: ts, us => by
    show wts (t :: (ts ++ us)) = _
    rw [zdh, zdh, zev ts us]
    omega
theorem zoT : dts [] = 0 := by unfold dts; rfl
theorem zmh (t : Tr) (ts : List Tr) : dts (t :: ts) = max t.depth (dts ts) := by
  conv => lhs; unfold dts
theorem zdV (t : Tr) : t.weight = 1 + wts t.kids := by
  cases t with
  | bl n =>
    show Tr.weight (.bl n) = 1 + wts []
    unfold Tr.weight wts
    rfl
  | nd s ts =>
    show Tr.weight (.nd s ts) = 1 + wts ts
    conv => lhs; unfold Tr.weight
theorem zey (t : Tr) : t.depth = 1 + dts t.kids := by
  cases t with
  | bl n =>
    show Tr.depth (.bl n) = 1 + dts []
    unfold Tr.depth dts
    rfl
  | nd s ts =>
    show Tr.depth (.nd s ts) = 1 + dts ts
    conv => lhs; unfold Tr.depth
theorem zdk (t : Tr) : 1 ≤ t.weight := by rw [zdV]; omega
theorem zbc (t : Tr) : 1 ≤ t.depth := by rw [zey]; omega
theorem zco : ∀ (ts : List Tr), ts.length ≤ wts ts
  | [] => Nat.zero_le _
  | t :: ts => by
    have := zco ts
    have := zdk t
    rw [zdh, List.length_cons]
    omega
theorem zcP {t : Tr} : ∀ {ts : List Tr}, t ∈ ts → t.weight ≤ wts ts
  | [], h => by cases h
  | u :: ts, h => by
    rw [zdh]
    rcases List.mem_cons.mp h with e | h
    · rw [e]; omega
    · have := zcP h
      omega
mutual
theorem zcw : ∀ t : Tr, t.depth ≤ t.weight
  | .bl n => by unfold Tr.depth Tr.weight; exact Nat.le_refl _
  | .nd s ts => by
    have := zer ts
    rw [zey, zdV]
    show 1 + dts ts ≤ 1 + wts ts
    omega
theorem zer : ∀ ts : List Tr, dts ts ≤ wts ts
  | [] => by rw [zoT]; exact Nat.zero_le _
  | t :: ts => by
    have := zcw t
    have := zer ts
    rw [zmh, zdh]
    omega
end
mutual
def enc : Tr → W
  | .bl n => .int n
  | .nd s ts => .tup (.str s :: encs ts)
def encs : List Tr → List W
  | [] => []
  | t :: ts => enc t :: encs ts
end
theorem zaN : ∀ ts : List Tr, encs ts = ts.map enc
  | [] => by simp [encs]
  | t :: ts => by simp [encs, zaN ts]
theorem zbd (ts : List Tr) : (encs ts).length = ts.length := by rw [zaN, List.length_map]
def encP (p : List Int) : W := .tup (p.map W.int)
end L2
end

section
set_option Elab.async false
set_option linter.all false
set_option maxRecDepth 100000
set_option maxHeartbeats 4000000
namespace L2
open PySem PySem.Spec PyProof.Rows
theorem zgY : subTy "int" "int" = true := by decide +kernel
theorem zfX : subTy "int" "bool" = false := by decide +kernel
theorem zhd : subTy "int" "str" = false := by decide +kernel
theorem zfe : subTy "int" "tuple" = false := by decide +kernel
theorem zgn : subTy "int" "list" = false := by decide +kernel
theorem zfI : subTy "bool" "int" = true := by decide +kernel
theorem zfv : subTy "bool" "bool" = true := by decide +kernel
theorem zfK : subTy "bool" "str" = false := by decide +kernel
theorem zep : subTy "bool" "tuple" = false := by decide +kernel
theorem zfh : subTy "bool" "list" = false := by decide +kernel
theorem zhz : subTy "str" "int" = false := by decide +kernel
theorem zfY : subTy "str" "bool" = false := by decide +kernel
theorem zhm : subTy "str" "str" = true := by decide +kernel
theorem zfg : subTy "str" "tuple" = false := by decide +kernel
theorem zgB : subTy "str" "list" = false := by decide +kernel
theorem zeV : subTy "tuple" "int" = false := by decide +kernel
theorem zel : subTy "tuple" "bool" = false := by decide +kernel
theorem zfn : subTy "tuple" "str" = false := by decide +kernel
theorem zdK : subTy "tuple" "tuple" = true := by decide +kernel
theorem zen : subTy "tuple" "list" = false := by decide +kernel
theorem zgN : subTy "list" "int" = false := by decide +kernel
theorem zfz : subTy "list" "bool" = false := by decide +kernel
theorem zfU : subTy "list" "str" = false := by decide +kernel
theorem zem : subTy "list" "tuple" = false := by decide +kernel
theorem zeS : subTy "list" "list" = true := by decide +kernel
section
variable {α : Type} {x : α} {xs : List α}
theorem zid (n : Nat) : cutA xs (some (n : Int)) none = xs.drop n := by
  unfold cutA
  rw [HT.sIx_nat, HT.sIx_none]
  by_cases h : n ≤ xs.length
  · rw [Nat.min_eq_left h, List.take_of_length_le (by rw [List.length_drop]; omega)]
  · rw [Nat.min_eq_right (by omega), List.drop_of_length_le (Nat.le_refl _), List.drop_of_length_le (by omega), List.take_nil]
theorem zhZ (n : Nat) : cutA xs none (some (n : Int)) = xs.take n := by
  unfold cutA
  rw [HT.sIx_nat, HT.sIx_none, List.drop_zero, Nat.sub_zero]
  by_cases h : n ≤ xs.length
  · rw [Nat.min_eq_left h]
  · rw [Nat.min_eq_right (by omega), List.take_length, List.take_of_length_le (by omega)]
theorem zpe : cutA (x :: xs) (some 1) none = xs := by rw [show (1 : Int) = ((1 : Nat) : Int) from rfl, zid]; rfl
theorem zkO {n d k : Nat} (h : 0 < k) : HT.sIx n d (some (-(k : Int))) = n - k := by
  show (if (-(k : Int)) < 0 then (-(k : Int) + (n : Int)).toNat else min (-(k : Int)).toNat n) = n - k
  rw [if_pos (by omega)]
  omega
theorem zgW (k : Nat) (h : 0 < k) : cutA xs none (some (-(k : Int))) = xs.take (xs.length - k) := by
  unfold cutA
  rw [zkO h, HT.sIx_none, List.drop_zero, Nat.sub_zero]
theorem zkE (k : Nat) (h : 0 < k) : cutA xs (some (-(k : Int))) none = xs.drop (xs.length - k) := by
  unfold cutA
  rw [zkO h, HT.sIx_none, List.take_of_length_le (by rw [List.length_drop]; omega)]
theorem zbu {n : Nat} : atI xs (n : Int) = xs[n]? := by
  unfold atI ixN
  rw [if_pos (by omega)]
  by_cases h : n < xs.length
  · rw [if_pos (by omega)]; simp
  · rw [if_neg (by omega)]; simp; omega
theorem zfl : atI (x :: xs) 0 = some x := zbu (n := 0)
end
section
variable {S S' : Sto} {a b : Addr} {o : Ob} {Q : List W → Prop} {ws : List W}
theorem zfa {u : Ob} (h : b ≠ a) : put (put S a o) b u = put (put S b u) a o := by
  funext c
  unfold put
  by_cases h1 : c = b
  · rw [if_pos h1, if_pos h1, if_neg (by rw [h1]; exact h)]
  · rw [if_neg h1, if_neg h1]
theorem zhV {u o' : Ob} (h : b ≠ a) : put (put (put S a o) b u) a o' = put (put S a o') b u := by rw [zfa h, zaE, zfa h]
theorem zdc : lstW (put S a (.lst ws)) a Q = Q ws := zai zaf
theorem zcH (h : put S a o b = none) : S b = none ∧ b ≠ a := by
  have hb : b ≠ a := by rintro rfl; rw [zaf] at h; cases h
  rw [zaH hb] at h
  exact ⟨h, hb⟩
theorem zrx {u : Ob} (h : S a = some u) (n : S b = none) : a ≠ b := by rintro rfl; rw [h] at n; cases n
theorem Sub.put (h : Sub S S') (n : S a = none) : Sub S (L2.put S' a o) := fun b u e => by rw [zaH (zrx e n)]; exact h b u e
theorem Sub.put2 {u : Ob} (h : Sub S S') : Sub (L2.put S a u) (L2.put S' a u) := fun b w e => by
  by_cases hb : b = a
  · subst hb; rw [zaf] at e ⊢; exact e
  · rw [zaH hb] at e ⊢; exact h b w e
end
theorem zqh (S : Sto) (a b : Int) : eqF S 60 (.int a) (.int b) = some (a == b) := by have h : eqF S 60 (.int a) (.int b) = some (a == b) := rfl; exact h
theorem zrC (S : Sto) (a b : Str) : eqF S 60 (.str a) (.str b) = some (a == b) := by have h : eqF S 60 (.str a) (.str b) = some (a == b) := rfl; exact h
theorem zrH (S : Sto) (a b : Bool) : eqF S 60 (.bl a) (.bl b) = some (a == b) := by have h : eqF S 60 (.bl a) (.bl b) = some (a == b) := rfl; exact h
theorem zah {n : Nat} (h : n ≤ 16777216) : n ≤ sizeLine := by rw [sizeLine_eq]; exact h
theorem zbG {n : Nat} (h : n < 16777216) : n < sizeLine := by rw [sizeLine_eq]; exact h
section
variable {S : Sto} {Q : WK} {QB : Bool → Sto → Prop} {QS : List W → (Sto → Prop) → Prop} {QT : String → Prop}
theorem zcv {a : Addr} {o : Ob} (h : S a = some o) : put S a o = S := by
  funext b
  unfold put
  split
  · rename_i e; rw [e, h]
  · rfl
theorem zlG {b : Bool} : truW (.bl b) S QB = QB b S := propext ⟨fun h => h, fun h => h⟩
theorem zjC {i : Int} : truW (.int i) S QB = QB (i != 0) S := propext ⟨fun h => h, fun h => h⟩
theorem zjh {ws : List W} : truW (.tup ws) S QB = QB (!ws.isEmpty) S := propext ⟨fun h => h, fun h => h⟩
theorem zjN {a : Addr} : truW (.ref a) S QB = lstW S a fun ws => QB (!ws.isEmpty) S := propext ⟨fun h => h, fun h => h⟩
theorem zkQ : truW .non S QB = QB false S := propext ⟨fun h => h, fun h => h⟩
theorem zky {ws : List W} : seqW (.tup ws) S QS = QS ws fun _ => True := propext ⟨fun h => h, fun h => h⟩
theorem zdI {a : Addr} : seqW (.ref a) S QS = lstW S a fun ws => QS ws fun S' => S' a = some (.lst ws) := propext ⟨fun h => h, fun h => h⟩
theorem zox {b : Bool} : tyW (.bl b) S QT = QT "bool" := propext ⟨fun h => h, fun h => h⟩
theorem zlT {i : Int} : tyW (.int i) S QT = QT "int" := propext ⟨fun h => h, fun h => h⟩
theorem zmC {i : Str} : tyW (.str i) S QT = QT "str" := propext ⟨fun h => h, fun h => h⟩
theorem zlF {i : List W} : tyW (.tup i) S QT = QT "tuple" := propext ⟨fun h => h, fun h => h⟩
theorem zmD : tyW .non S QT = QT "NoneType" := propext ⟨fun h => h, fun h => h⟩
theorem zlH {a : Addr} : tyW (.ref a) S QT = lstW S a fun _ => QT "list" := propext ⟨fun h => h, fun h => h⟩
theorem zjp {i j : Int} : oAdd (.int i) (.int j) S Q = Q (.int (i + j)) S := propext ⟨fun h => h, fun h => h⟩
theorem zjj {i j : Str} : oAdd (.str i) (.str j) S Q = (i.length + j.length ≤ sizeLine ∧ Q (.str (i ++ j)) S) := propext ⟨fun h => h, fun h => h⟩
theorem zdR {i j : List W} : oAdd (.tup i) (.tup j) S Q = (i.length + j.length ≤ sizeLine ∧ Q (.tup (i ++ j)) S) := propext ⟨fun h => h, fun h => h⟩
theorem zkz {a b : Addr} : oAdd (.ref a) (.ref b) S Q = lstW S a fun xs => lstW S b fun ys => xs.length + ys.length ≤ sizeLine ∧ ∀ p, S p = none → Q (.ref p) (put S p (.lst (xs ++ ys))) := propext ⟨fun h => h, fun h => h⟩
theorem zrJ {C : Int → Int → Prop} {g : Int → Int → W} {i j : Int} : oInt C g (.int i) (.int j) S Q = (C i j ∧ Q (g i j) S) := propext ⟨fun h => h, fun h => h⟩
theorem zqI {g : Int → Int → W} {i j : Int} : oInt0 g (.int i) (.int j) S Q = Q (g i j) S := propext ⟨fun h => h, fun h => h⟩
theorem zmq {i j : Int} : oLe (.int i) (.int j) S Q = Q (.bl (decide (i ≤ j))) S := propext ⟨fun h => h, fun h => h⟩
theorem zmf {i j : Str} : oLe (.str i) (.str j) S Q = Q (.bl (!decide (j.cps.toList < i.cps.toList))) S := propext ⟨fun h => h, fun h => h⟩
theorem zkl {us : List W} : fLen [.tup us] S Q = Q (.int us.length) S := propext ⟨fun h => h, fun h => h⟩
theorem zjW {a : Addr} : fLen [.ref a] S Q = lstW S a fun us => Q (.int us.length) S := propext ⟨fun h => h, fun h => h⟩
theorem zkv {ns : List Int} : fLen [.scr ns] S Q = Q (.int ns.length) S := propext ⟨fun h => h, fun h => h⟩
theorem zkG {z : Str} : fLen [.str z] S Q = (z.length ≤ sizeLine ∧ Q (.int z.length) S) := propext ⟨fun h => h, fun h => h⟩
theorem zlL {ws : List W} {i : Int} : oIx (.tup ws) (.int i) S Q = match atI ws i with
  | some w => Q w S
  | none => False := propext ⟨fun h => h, fun h => h⟩
theorem zmM {a : Addr} {i : Int} : oIx (.ref a) (.int i) S Q = lstW S a fun ws => match atI ws i with
  | some w => Q w S
  | none => False := propext ⟨fun h => h, fun h => h⟩
theorem zmG {ns : List Int} {i : Int} : oIx (.scr ns) (.int i) S Q = match atI ns i with
  | some n => Q (.int n) S
  | none => False := propext ⟨fun h => h, fun h => h⟩
theorem zmL {x : Str} {i : Int} : oIx (.str x) (.int i) S Q = (x.length ≤ sizeLine ∧ match atI x.cps.toList i with
  | some c => Q (.str ⟨#[c]⟩) S
  | none => False) := propext ⟨fun h => h, fun h => h⟩
theorem zmJ {ws : List W} {lo hi : Option Int} : oSl (.tup ws) lo hi S Q = Q (.tup (cutA ws lo hi)) S := propext ⟨fun h => h, fun h => h⟩
theorem zmc {z : Str} {lo hi : Option Int} : oSl (.str z) lo hi S Q = (z.length ≤ sizeLine ∧ Q (.str (Txt.slice z lo hi)) S) := propext ⟨fun h => h, fun h => h⟩
theorem zlE {a : Addr} {lo hi : Option Int} : oSl (.ref a) lo hi S Q = lstW S a fun ws => ∀ p, S p = none → Q (.ref p) (put S p (.lst (cutA ws lo hi))) := propext ⟨fun h => h, fun h => h⟩
theorem zmg {ns : List Int} {lo hi : Option Int} : oSl (.scr ns) lo hi S Q = ∀ p, S p = none → Q (.ref p) (put S p (.lst ((cutA ns lo hi).map W.int))) := propext ⟨fun h => h, fun h => h⟩
theorem zgT {us : List W} : fTuple [.tup us] S Q = Q (.tup us) S := propext ⟨fun h => h, fun h => h⟩
theorem zhi {a : Addr} : fTuple [.ref a] S Q = lstW S a fun us => Q (.tup us) S := propext ⟨fun h => h, fun h => h⟩
theorem zmO {a : Addr} {y : W} : mAppend (.ref a) [y] S Q = lstW S a fun xs => xs.length < sizeLine ∧ Q .non (put S a (.lst (xs ++ [y]))) := propext ⟨fun h => h, fun h => h⟩
theorem zsz {a : Addr} : mPop (.ref a) [] S Q = lstW S a fun xs => match xs[xs.length - 1]? with
  | some y => Q y (put S a (.lst xs.dropLast))
  | none => False := propext ⟨fun h => h, fun h => h⟩
theorem zgG {a : Addr} {ys : List W} : mExtend (.ref a) [.tup ys] S Q = lstW S a fun xs => xs.length + ys.length ≤ sizeLine ∧ Q .non (put S a (.lst (xs ++ ys))) := propext ⟨fun h => h, fun h => h⟩
theorem zgv {a b : Addr} : mExtend (.ref a) [.ref b] S Q = lstW S a fun xs => lstW S b fun ys => xs.length + ys.length ≤ sizeLine ∧ Q .non (put S a (.lst (xs ++ ys))) := propext ⟨fun h => h, fun h => h⟩
theorem zkp {a : Addr} {ws : List W} : mExtendL (.ref a) ws S Q = lstW S a fun xs => xs.length + ws.length ≤ sizeLine ∧ Q .non (put S a (.lst (xs ++ ws))) := propext ⟨fun h => h, fun h => h⟩
theorem zsp {a : Addr} : rvL (.ref a) S = lstW S a fun _ => True := propext ⟨fun h => h, fun h => h⟩
theorem zsk {x : Str} : rvS (.str x) S = True := propext ⟨fun h => h, fun h => h⟩
theorem zlY {b : Bool} : fInt [.bl b] S Q = Q (.int (if b then 1 else 0)) S := propext ⟨fun h => h, fun h => h⟩
theorem zjB {i : Int} : fInt [.int i] S Q = Q (.int i) S := propext ⟨fun h => h, fun h => h⟩
theorem zrp {i j : Int} : fMax2 [.int i, .int j] S Q = Q (.int (if j > i then j else i)) S := propext ⟨fun h => h, fun h => h⟩
theorem zpK {i j : Int} : fMin2 [.int i, .int j] S Q = Q (.int (if j < i then j else i)) S := propext ⟨fun h => h, fun h => h⟩
theorem zpW {z : Str} {ws : List W} : mJoinL (.str z) ws S Q = match strsOf ws with
  | some ys => (ys.map (·.length)).sum + ys.length * z.length ≤ 16777216 ∧ Q (.str (Str.join z ys)) S
  | none => False := propext ⟨fun h => h, fun h => h⟩
theorem zoF {z y : Str} : mIndex (.str z) [.str y] S Q = match Builtin.Str.occurrences z y 0 z.length 1 with
  | i :: _ => Q (.int i) S
  | [] => False := propext ⟨fun h => h, fun h => h⟩
theorem zlR {neg : Bool} : oIs neg .non .non S Q = Q (.bl (!neg)) S := propext ⟨fun h => h, fun h => h⟩
theorem zoZ {neg a b : Bool} : oIs neg (.bl a) (.bl b) S Q = Q (.bl (if neg then a != b else a == b)) S := propext ⟨fun h => h, fun h => h⟩
theorem znA {neg a : Bool} : oIs neg (.bl a) .non S Q = Q (.bl neg) S := propext ⟨fun h => h, fun h => h⟩
theorem zpc {neg : Bool} {ws : List W} : oIs neg (.tup ws) .non S Q = Q (.bl neg) S := propext ⟨fun h => h, fun h => h⟩
theorem zop {neg : Bool} {a : Addr} : oIs neg (.ref a) .non S Q = Q (.bl neg) S := propext ⟨fun h => h, fun h => h⟩
theorem znJ {neg : Bool} {a : Int} : oIs neg (.int a) .non S Q = Q (.bl neg) S := propext ⟨fun h => h, fun h => h⟩
theorem zlI {neg : Bool} {x : W} {ws : List W} : oIn neg x (.tup ws) S Q = match inF S x ws with
  | some b => Q (.bl (if neg then !b else b)) S
  | none => False := propext ⟨fun h => h, fun h => h⟩
theorem zlO {neg : Bool} {x : W} {a : Addr} : oIn neg x (.ref a) S Q = lstW S a fun ws => match inF S x ws with
  | some b => Q (.bl (if neg then !b else b)) S
  | none => False := propext ⟨fun h => h, fun h => h⟩
theorem zmd {neg : Bool} {i j : Str} : oIn neg (.str i) (.str j) S Q = Q (.bl (if neg then !(!(Builtin.Str.occurrences j i 0 j.length 1).isEmpty) else !(Builtin.Str.occurrences j i 0 j.length 1).isEmpty)) S := propext ⟨fun h => h, fun h => h⟩
end
theorem zhb {g : WG} {b : WS} {E : WX} {D : WEnds} {G : Sto → Prop} (I : List W → WSt → Sto → Prop)
    (step : ∀ w ws σ S (N : WSt → Sto → Prop), I (w :: ws) σ S → (∀ σ' S' S'', Sub S'' S' → G S'' → I ws σ' S'' → N σ' S') → g w σ S fun σ1 S1 => b E { D with nx := N, ct := N, bk := D.nx } σ1 S1)
    (done : ∀ σ S, I [] σ S → D.nx σ S) : ∀ (ws : List W) (σ : WSt) (S : Sto), I ws σ S → forL g b E D G ws σ S
  | [], σ, S, h => done σ S h
  | w :: ws, σ, S, h => step w ws σ S _ h fun σ' S' S'' sb hG hI => ⟨S'', sb, hG, zhb I step done ws σ' S'' hI⟩
section
variable {E : WX} {σ : WSt} {S : Sto} {Q : WK} {QB : Bool → Sto → Prop} {QA : List W → Sto → Prop} {QI : List W → (Sto → Prop) → Sto → Prop} {QO : Option Int → Sto → Prop} {P : WSt → Sto → Prop} {D : WEnds} {w x y : W} {ws : List W} {EX : Str → Sto → Prop}
theorem zrb {i : Nat} : (wVar i E σ S Q) = (match σ[i]? with
  | some (some w) => Q w S
  | _ => False) := propext ⟨fun h => h, fun h => h⟩
theorem u_wC {w : W} : (wC w E σ S Q) = (Q w S) := propext ⟨fun h => h, fun h => h⟩
theorem zsA {r : W2} {a b : WE} : (wOp r a b E σ S Q) = (a E σ S fun x S1 => b E σ S1 fun y S2 => r x y S2 Q) := propext ⟨fun h => h, fun h => h⟩
theorem zpv {t : WE} : (wTru t E σ S QB) = (t E σ S fun w S' => truW w S' QB) := propext ⟨fun h => h, fun h => h⟩
theorem zsx {t : WE} : (wTb t E σ S QB) = (t E σ S fun w S' => match w with
  | .bl b => QB b S'
  | _ => False) := propext ⟨fun h => h, fun h => h⟩
theorem zqe {t u : WT} : (wAnd t u E σ S QB) = (t E σ S fun c S1 => if c = true then u E σ S1 QB else QB false S1) := propext ⟨fun h => h, fun h => h⟩
theorem zrX {t u : WT} : (wOr t u E σ S QB) = (t E σ S fun c S1 => if c = true then QB true S1 else u E σ S1 QB) := propext ⟨fun h => h, fun h => h⟩
theorem zqB {t : WT} : (wNot t E σ S QB) = (t E σ S fun c S1 => QB (!c) S1) := propext ⟨fun h => h, fun h => h⟩
theorem znx {t u : WE} : (wAndV t u E σ S Q) = (t E σ S fun w S1 => match w with
  | .bl true => u E σ S1 Q
  | .bl false => Q (.bl false) S1
  | _ => False) := propext ⟨fun h => h, fun h => h⟩
theorem zpT {t u : WE} : (wOrV t u E σ S Q) = (t E σ S fun w S1 => match w with
  | .bl false => u E σ S1 Q
  | .bl true => Q (.bl true) S1
  | _ => False) := propext ⟨fun h => h, fun h => h⟩
theorem zpa {t : WE} : (wNotV t E σ S Q) = (t E σ S fun w S1 => match w with
  | .bl b => Q (.bl !b) S1
  | _ => False) := propext ⟨fun h => h, fun h => h⟩
theorem zss {c : WT} {t u : WE} : (wIf c t u E σ S Q) = (c E σ S fun b S1 => if b = true then t E σ S1 Q else u E σ S1 Q) := propext ⟨fun h => h, fun h => h⟩
theorem zqT {c : WT} {t u : WS} : (wIfS c t u E D σ S) = (c E σ S fun b S1 => if b = true then t E D σ S1 else u E D σ S1) := propext ⟨fun h => h, fun h => h⟩
theorem zob : (wNext  E D σ S) = (D.nx σ S) := propext ⟨fun h => h, fun h => h⟩
theorem zpu {t u : WS} : (wSeq t u E D σ S) = (t E { D with nx := u E D } σ S) := propext ⟨fun h => h, fun h => h⟩
theorem zpG {e : WE} : (wRet e E D σ S) = (e E σ S D.rt) := propext ⟨fun h => h, fun h => h⟩
theorem zoh : (wRetN  E D σ S) = (D.rt .non S) := propext ⟨fun h => h, fun h => h⟩
theorem zoo {e : WE} : (wDrop e E D σ S) = (e E σ S fun _ S1 => D.nx σ S1) := propext ⟨fun h => h, fun h => h⟩
theorem zom {i : Nat} : (wGN i w σ S P) = (P (σ.set i (some w)) S) := propext ⟨fun h => h, fun h => h⟩
theorem zqn {e : WE} {g : WG} : (wAsg e g E D σ S) = (e E σ S fun w S1 => g w σ S1 D.nx) := propext ⟨fun h => h, fun h => h⟩
theorem zku : (wGnil  ws σ S P) = (match ws with
  | [] => P σ S
  | _ => False) := propext ⟨fun h => h, fun h => h⟩
theorem zeR {g : WG} {u : WGs} : (wGcons g u ws σ S P) = (match ws with
  | [] => False
  | w :: r => g w σ S fun σ' S' => u r σ' S' P) := propext ⟨fun h => h, fun h => h⟩
theorem zqm {u : WGs} : (wGT u w σ S P) = (match w with
  | .tup ws => u ws σ S P
  | _ => False) := propext ⟨fun h => h, fun h => h⟩
theorem zpj : (waNil  E σ S QA) = (QA [] S) := propext ⟨fun h => h, fun h => h⟩
theorem zma {t : WE} {u : WA} : (waCons t u E σ S QA) = (t E σ S fun w S1 => u E σ S1 fun ws S2 => QA (w :: ws) S2) := propext ⟨fun h => h, fun h => h⟩
theorem zqH {t : WA} : (wTup t E σ S Q) = (t E σ S fun ws S1 => ws.length ≤ sizeLine ∧ Q (.tup ws) S1) := propext ⟨fun h => h, fun h => h⟩
theorem zry {t : WA} : (wLst t E σ S QA) = (t E σ S fun ws S1 => ws.length ≤ sizeLine ∧ QA ws S1) := propext ⟨fun h => h, fun h => h⟩
theorem zpJ {t : WL} : (wNew t E σ S Q) = (t E σ S fun ws S1 => ∀ a, S1 a = none → Q (.ref a) (put S1 a (.lst ws))) := propext ⟨fun h => h, fun h => h⟩
theorem znU {c : WSp} {t : WA} : (wCall c t E σ S Q) = (t E σ S fun ws S1 => c ws S1 Q fun cl S2 => E cl σ S2) := propext ⟨fun h => h, fun h => h⟩
theorem zmU {n k : Nat} {body : WS} : (wDef n k body ws S Q EX) = (ws.length = k ∧ body (fun c _ S' => EX c S') { nx := fun _ S' => ∃ S'', Sub S'' S' ∧ Q .non S'', rt := fun w S' => ∃ S'', Sub S'' S' ∧ Q w S'' } (ws.map some ++ List.replicate (n - k) none) S) := propext ⟨fun h => h, fun h => h⟩
theorem zqC {t : WE} : (wNeg t E σ S Q) = (t E σ S fun w S1 => match w with
  | .int i => Q (.int (-i)) S1
  | _ => False) := propext ⟨fun h => h, fun h => h⟩
theorem zsd {t u : WE} : (wCatL t u E σ S QA) = (t E σ S fun x S1 => u E σ S1 fun y S2 => match x, y with
  | .ref a, .ref b => lstW S2 a fun xs => lstW S2 b fun ys => xs.length + ys.length ≤ sizeLine ∧ QA (xs ++ ys) S2
  | _, _ => False) := propext ⟨fun h => h, fun h => h⟩
theorem zrI {neg : Bool} : (oEq neg x y S Q) = (match eqF S 60 x y with
  | some b => Q (.bl (if neg then !b else b)) S
  | none => False) := propext ⟨fun h => h, fun h => h⟩
theorem zmK {r r' : W2} {a b c : WE} : (wChain r r' a b c E σ S Q) = (a E σ S fun x S1 => b E σ S1 fun y S2 => r x y S2 fun z S3 => match z with
  | .bl true => c E σ S3 fun u S4 => r' y u S4 Q
  | .bl false => Q (.bl false) S3
  | _ => False) := propext ⟨fun h => h, fun h => h⟩
theorem zrS : (woN  E σ S QO) = (QO none S) := propext ⟨fun h => h, fun h => h⟩
theorem zsv {t : WE} : (woS t E σ S QO) = (t E σ S fun w S1 => match w with
  | .int i => QO (some i) S1
  | _ => False) := propext ⟨fun h => h, fun h => h⟩
theorem zsn {t : WE} {l h : WO} : (wSl t l h E σ S Q) = (t E σ S fun x S1 => l E σ S1 fun lo S2 => h E σ S2 fun hi S3 => oSl x lo hi S3 Q) := propext ⟨fun h => h, fun h => h⟩
theorem u_wB {f : WF} {t : WA} : (wB f t E σ S Q) = (t E σ S fun ws S1 => f ws S1 Q) := propext ⟨fun h => h, fun h => h⟩
theorem zrN {f : WF} {t : WL} : (wBL f t E σ S Q) = (t E σ S fun ws S1 => f ws S1 Q) := propext ⟨fun h => h, fun h => h⟩
theorem zlu : (fTupleL  ws S Q) = (Q (.tup ws) S) := propext ⟨fun h => h, fun h => h⟩
theorem zkX {t : WE} : (wListOf t E σ S QA) = (t E σ S fun w S1 => match w with
  | .tup ws => QA ws S1
  | .ref a => lstW S1 a fun ws => QA ws S1
  | .scr ns => QA (ns.map W.int) S1
  | _ => False) := propext ⟨fun h => h, fun h => h⟩
theorem znV : (fAllL  ws S Q) = (match blsOf ws with
  | some bs => Q (.bl (bs.all _root_.id)) S
  | none => False) := propext ⟨fun h => h, fun h => h⟩
theorem zpQ {T : String} {t : WE} : (wIsi T t E σ S Q) = (t E σ S fun w S1 => tyW w S1 fun A => Q (.bl (subTy A T)) S1) := propext ⟨fun h => h, fun h => h⟩
theorem u_wM {rv : W → Sto → Prop} {f : WMf} {to : WE} {t : WA} : (wM rv f to t E σ S Q) = (to E σ S fun w S1 => rv w S1 ∧ t E σ S1 fun ws S2 => f w ws S2 Q) := propext ⟨fun h => h, fun h => h⟩
theorem zsb {rv : W → Sto → Prop} {f : WMf} {to : WE} {t : WL} : (wML rv f to t E σ S Q) = (to E σ S fun w S1 => rv w S1 ∧ t E σ S1 fun ws S2 => f w ws S2 Q) := propext ⟨fun h => h, fun h => h⟩
theorem zrs {i : Nat} {g : Int → Int → Int} {e : WE} : (wAug i g e E D σ S) = (match σ[i]? with
  | some (some (.int a)) => e E σ S fun w S1 => match w with
    | .int b => D.nx (σ.set i (some (.int (g a b)))) S1
    | _ => False
  | _ => False) := propext ⟨fun h => h, fun h => h⟩
theorem zpO {q : WI} {g : WG} {b : WS} : (wFor q g b E D σ S) = (q E σ S fun ws G S1 => forL g b E D G ws σ S1) := propext ⟨fun h => h, fun h => h⟩
theorem zrV {t : WE} : (wIv t E σ S QI) = (t E σ S fun w S1 => match w with
  | .tup ws => QI ws (fun _ => True) S1
  | .ref a => lstW S1 a fun ws => QI ws (fun S' => S' a = some (.lst ws)) S1
  | .scr ns => QI (ns.map W.int) (fun _ => True) S1
  | .str z => QI (signs z) (fun _ => True) S1
  | _ => False) := propext ⟨fun h => h, fun h => h⟩
theorem zsq {t : WL} : (wIl t E σ S QI) = (t E σ S fun ws S1 => QI ws (fun _ => True) S1) := propext ⟨fun h => h, fun h => h⟩
theorem zpp {t : WA} : (wRng t E σ S QI) = (t E σ S fun ws S1 => match ws with
  | [.int j] => (-(2 ^ 62) ≤ j ∧ j < 2 ^ 62) ∧ QI (upto 0 j.toNat) (fun _ => True) S1
  | _ => False) := propext ⟨fun h => h, fun h => h⟩
theorem zqv : (wYes  E σ S QB) = (QB true S) := propext ⟨fun h => h, fun h => h⟩
theorem zoE {k : Nat} {fr : List Nat} {q : WI} {g : WG} {c : WT} {e : WE} : (wComp k fr q g c e E σ S QA) = (q E σ S fun ws G S1 => compL g c e E G QA ws [] (List.replicate k none ++ fr.map fun j => (σ[j]?).join) S1) := propext ⟨fun h => h, fun h => h⟩
theorem znD {t : WE} : (wEnum t E σ S QI) = (t E σ S fun w S1 => seqW w S1 fun ws G => QI (nums 0 ws) G S1) := propext ⟨fun h => h, fun h => h⟩
theorem zrB {t u : WE} : (wZip t u E σ S QI) = (t E σ S fun x S1 => u E σ S1 fun y S2 => seqW x S2 fun xs G => seqW y S2 fun ys G' => QI (pairs xs ys) (fun S' => G S' ∧ G' S') S2) := propext ⟨fun h => h, fun h => h⟩
theorem znO {t : WA} : (wDown t E σ S QI) = (t E σ S fun ws S1 => match ws with
  | [.int i, .int j, .int c] => c = -1 ∧ (-(2 ^ 62) ≤ i ∧ i < 2 ^ 62 ∧ -(2 ^ 62) ≤ j ∧ j < 2 ^ 62) ∧ QI (downto i (i - j).toNat) (fun _ => True) S1
  | _ => False) := propext ⟨fun h => h, fun h => h⟩
theorem zpb {t : WE} {l h : WO} : (wSlL t l h E σ S QA) = (t E σ S fun x S1 => l E σ S1 fun lo S2 => h E σ S2 fun hi S3 => match x with
  | .ref a => lstW S3 a fun ws => QA (cutA ws lo hi) S3
  | .scr ns => QA ((cutA ns lo hi).map W.int) S3
  | _ => False) := propext ⟨fun h => h, fun h => h⟩
theorem zqq {t : WL} {u : WE} : (wIxL t u E σ S Q) = (t E σ S fun ws S1 => u E σ S1 fun y S2 => match y with
  | .int i => match atI ws i with
    | some w => Q w S2
    | none => False
  | _ => False) := propext ⟨fun h => h, fun h => h⟩
theorem zoz {t : WE} {u : WL} : (wCatR t u E σ S QA) = (t E σ S fun x S1 => u E σ S1 fun ys S2 => match x with
  | .ref a => lstW S2 a fun xs => xs.length + ys.length ≤ sizeLine ∧ QA (xs ++ ys) S2
  | _ => False) := propext ⟨fun h => h, fun h => h⟩
theorem zpg {t u : WL} : (wCatB t u E σ S QA) = (t E σ S fun xs S1 => u E σ S1 fun ys S2 => xs.length + ys.length ≤ sizeLine ∧ QA (xs ++ ys) S2) := propext ⟨fun h => h, fun h => h⟩
theorem zoS {t : WL} {u : WE} : (wCatF t u E σ S QA) = (t E σ S fun xs S1 => u E σ S1 fun y S2 => match y with
  | .ref a => lstW S2 a fun ys => xs.length + ys.length ≤ sizeLine ∧ QA (xs ++ ys) S2
  | _ => False) := propext ⟨fun h => h, fun h => h⟩
theorem zoV {t : WL} {u : WE} : (wRepL t u E σ S QA) = (t E σ S fun xs S1 => u E σ S1 fun y S2 => match y with
  | .int k => (-(2 ^ 63) ≤ k ∧ k < 2 ^ 63 ∧ xs.length * k.toNat ≤ sizeLine) ∧ QA (List.replicate k.toNat xs).flatten S2
  | _ => False) := propext ⟨fun h => h, fun h => h⟩
end
end L2
end

section
set_option Elab.async false
set_option linter.all false
set_option maxRecDepth 100000
set_option maxHeartbeats 4000000
namespace L2
open PySem PySem.Spec PyProof.Rows
section
variable {E : WX} {σ : WSt} {S : Sto} {Q : WK} {QA : List W → Sto → Prop}
theorem zqK {xs : List W} {k : Int} : oRepT (.tup xs) (.int k) S Q = ((xs ≠ [] ∧ -(2 ^ 63) ≤ k ∧ k < 2 ^ 63 ∧ xs.length * k.toNat ≤ sizeLine) ∧ Q (.tup (List.replicate k.toNat xs).flatten) S) := propext ⟨fun h => h, fun h => h⟩
theorem zfV {t : WE} : (wListrange t E σ S QA) = (t E σ S fun w S1 => match w with
  | .int j => (-(2 ^ 62) ≤ j ∧ j ≤ 16777216) ∧ QA (upto 0 j.toNat) S1
  | _ => False) := propext ⟨fun h => h, fun h => h⟩
theorem znE : (wDNew E σ S Q) = (∀ a, S a = none → Q (.ref a) (put S a (.dct []))) := propext ⟨fun h => h, fun h => h⟩
theorem zsB {neg : Bool} {y : W} {a : Addr} : oDIn neg y (.ref a) S Q = (match keyW y with
  | some k => dctW S a fun kvs => Q (.bl (if neg then !(valW kvs k).isSome else (valW kvs k).isSome)) S
  | none => False) := propext ⟨fun h => h, fun h => h⟩
theorem zra {y : W} {a : Addr} : oDGet (.ref a) y S Q = (match keyW y with
  | some k => dctW S a fun kvs => match valW kvs k with
    | some w => Q w S
    | none => False
  | none => False) := propext ⟨fun h => h, fun h => h⟩
theorem zpf {td ty tv : WE} {D : WEnds} : (wDPut td ty tv E D σ S) = (tv E σ S fun v S1 => td E σ S1 fun x S2 => ty E σ S2 fun y S3 => match x with
  | .ref a => match keyW y with
    | some k => dctW S3 a fun kvs => kvs.length < sizeLine ∧ D.nx σ (put S3 a (.dct (putW kvs k v)))
    | none => False
  | _ => False) := propext ⟨fun h => h, fun h => h⟩
theorem znw {ws : List W} : (fSumL ws S Q) = (match intsOf ws with
  | some ns => Q (.int ns.sum) S
  | none => False) := propext ⟨fun h => h, fun h => h⟩
theorem znR {z : Str} : mUpper (.str z) [] S Q = (z.length ≤ 5592405 ∧ Q (.str (Txt.upper z)) S) := propext ⟨fun h => h, fun h => h⟩
theorem zcF : ∀ p : List Int, intsOf (p.map W.int) = some p
  | [] => rfl
  | i :: p => by rw [List.map_cons, intsOf, zcF p]; rfl
theorem zrO (p : List Int) : keyW (encP p) = some p := zcF p
theorem zmB {a : Addr} {kvs : List (List Int × W)} {P : List (List Int × W) → Prop} : dctW (put S a (.dct kvs)) a P = P kvs := zhn zaf
end
end L2
end

section
local macro_rules | `(tactic| walk_at "wp") => `(tactic| simp only [L2.zrb, L2.u_wC, L2.zsA, L2.zpv, L2.zsx, L2.zqe, L2.zrX, L2.zqB, L2.znx, L2.zpT, L2.zpa, L2.zss, L2.zqT, L2.zob, L2.zpu, L2.zpG, L2.zoh, L2.zoo, L2.zom, L2.zqn, L2.zku, L2.zeR, L2.zqm, L2.zpj, L2.zma, L2.zqH, L2.zry, L2.zpJ, L2.znU, L2.zmU, L2.zqC, L2.zrI, L2.zmK, L2.zrS, L2.zsv, L2.zsn, L2.u_wB, L2.zrN, L2.zlu, L2.zkX, L2.znV, L2.zpQ, L2.u_wM, L2.zsb, L2.zrs, L2.zpO, L2.zrV, L2.zsq, L2.zpp, L2.zqv, L2.zoE, L2.znD, L2.zrB, L2.znO, L2.zpb, L2.zqq, L2.zoz, L2.zpg, L2.zoS, L2.zoV, L2.zfV, L2.zqK, L2.znE, L2.zsB, L2.zra, L2.zpf, L2.znw, L2.zmy, L2.znR, L2.zrO, L2.zmB, L2.zdc, L2.zaE, L2.zqh, L2.zrC, L2.zrH, L2.zpe, L2.zfl, L2.zgY, L2.zfX, L2.zhd, L2.zfe, L2.zgn, L2.zfI, L2.zfv, L2.zfK, L2.zep, L2.zfh, L2.zhz, L2.zfY, L2.zhm, L2.zfg, L2.zgB, L2.zeV, L2.zel, L2.zfn, L2.zdK, L2.zen, L2.zgN, L2.zfz, L2.zfU, L2.zem, L2.zeS, L2.zlG, L2.zjC, L2.zjh, L2.zjN, L2.zkQ, L2.zky, L2.zdI, L2.zox, L2.zlT, L2.zmC, L2.zlF, L2.zmD, L2.zlH, L2.zjp, L2.zjj, L2.zdR, L2.zkz, L2.zrJ, L2.zqI, L2.zmq, L2.zmf, L2.zkl, L2.zjW, L2.zkv, L2.zkG, L2.zlL, L2.zmM, L2.zmG, L2.zmL, L2.zmJ, L2.zmc, L2.zlE, L2.zmg, L2.zgT, L2.zhi, L2.zmO, L2.zsz, L2.zgG, L2.zgv, L2.zkp, L2.zsp, L2.zsk, L2.zlY, L2.zjB, L2.zrp, L2.zpK, L2.zpW, L2.zoF, L2.zlR, L2.zoZ, L2.znA, L2.zpc, L2.zop, L2.znJ, L2.zlI, L2.zlO, L2.zmd, List.map_cons, List.map_nil, List.length_cons, List.length_nil, List.cons_append, List.nil_append, List.append_nil, List.replicate, List.getElem?_cons_zero, List.getElem?_cons_succ, List.getElem?_nil, List.set_cons_zero, List.set_cons_succ, Nat.reduceAdd, Nat.reduceSub, true_and, and_true, if_true, if_false, Bool.false_eq_true, reduceIte, Bool.not_true, Bool.not_false, Option.join_some, Option.join_none, decide_eq_true_eq, and_self])

section
set_option Elab.async false
set_option linter.all false
set_option maxRecDepth 100000
set_option maxHeartbeats 4000000
namespace L2
open PySem PySem.Spec PyProof.Rows
def zbm : Nat → WSp
  | 0 => wOut
  | r + 1 => wDef 1 1 (wSeq (wIfS (wTru (wIsi "int" (wVar 0))) (wRet (wTup waNil)) wNext)
    (wRet (wSl (wVar 0) (woS (wC (.int 1))) woN)))

def zby (r : Nat) (self : WSp) : WS := (wDrop (wCall self (waCons (wVar 4) (waCons (wOp oAdd (wVar 1) (wTup (waCons (wVar 3) waNil))) (waCons (wVar 2) waNil)))))
def zaw : Nat → WSp
  | 0 => wOut
  | r + 1 => wDef 5 3 (wSeq (wDrop (wM rvL mAppend (wVar 2) (waCons (wVar 1) waNil)))
    (wFor (wEnum (wCall (zbm r) (waCons (wVar 0) waNil))) (wGT (wGcons (wGN 3) (wGcons (wGN 4) wGnil))) (zby r (zaw r))))

def zcC : Nat → WSp
  | 0 => wOut
  | r + 1 => wDef 2 1 (wSeq (wAsg (wNew (wLst waNil)) (wGN 1))
    (wSeq (wDrop (wCall (zaw r) (waCons (wVar 0) (waCons (wTup waNil) (waCons (wVar 1) waNil)))))
    (wRet (wVar 1))))

def zaO : Nat → WSp
  | 0 => wOut
  | r + 1 => wDef 3 2 (wSeq (wAsg (wCall (zbm r) (waCons (wVar 0) waNil)) (wGN 2))
    (wSeq (wIfS (wOr (wTb (wOp oLt (wVar 1) (wC (.int 0)))) (wTb (wOp oGe (wVar 1) (wB fLen (waCons (wVar 2) waNil))))) wNever wNext)
    (wRet (wOp oIx (wVar 2) (wVar 1)))))

def zeM (r : Nat) (self : WSp) : WS := (wAsg (wCall (zaO r) (waCons (wVar 2) (waCons (wVar 3) waNil))) (wGN 2))
def zeE : Nat → WSp
  | 0 => wOut
  | r + 1 => wDef 4 2 (wSeq (wAsg (wVar 0) (wGN 2))
    (wSeq (wFor (wIv (wVar 1)) (wGN 3) (zeM r wOut))
    (wRet (wVar 2))))

def zdy (r : Nat) (self : WSp) : WE := (wVar 0)
def zaV : Nat → WSp
  | 0 => wOut
  | r + 1 => wDef 1 1 (wRet (wNew (wComp 1 [0] (wIv (wCall (zcC r) (waCons (wVar 0) waNil))) (wGN 0) (wTru (wIsi "int" (wCall (zeE r) (waCons (wVar 1) (waCons (wVar 0) waNil))))) (zdy r wOut))))

def zaX : Nat → WSp
  | 0 => wOut
  | r + 1 => wDef 2 2 (wRet (wAndV (wOp (oEq false) (wOp oIx (wVar 0) (wC (.int 0))) (wOp oIx (wVar 1) (wC (.int 0)))) (wOp (oEq false) (wB fLen (waCons (wVar 0) waNil)) (wB fLen (waCons (wVar 1) waNil)))))

def zbr (r : Nat) (self : WSp) : WS := (wIfS (wNot (wTru (wCall self (waCons (wVar 3) (waCons (wVar 4) (waCons (wVar 2) waNil)))))) (wRet (wC (.bl false))) wNext)
def zar : Nat → WSp
  | 0 => wOut
  | r + 1 => wDef 5 3 (wSeq (wIfS (wTru (wIsi "int" (wVar 0))) (wSeq (wDrop (wM rvL mAppend (wVar 2) (waCons (wVar 1) waNil)))
    (wRet (wC (.bl true)))) wNext)
    (wSeq (wIfS (wNot (wTru (wCall (zaX r) (waCons (wVar 0) (waCons (wVar 1) waNil))))) (wRet (wC (.bl false))) wNext)
    (wSeq (wFor (wZip (wSl (wVar 0) (woS (wC (.int 1))) woN) (wSl (wVar 1) (woS (wC (.int 1))) woN)) (wGT (wGcons (wGN 3) (wGcons (wGN 4) wGnil))) (zbr r (zar r)))
    (wRet (wC (.bl true))))))

def zbF : Nat → WSp
  | 0 => wOut
  | r + 1 => wDef 3 2 (wSeq (wAsg (wNew (wLst waNil)) (wGN 2))
    (wSeq (wIfS (wTru (wCall (zar r) (waCons (wVar 0) (waCons (wVar 1) (waCons (wVar 2) waNil))))) (wRet (wVar 2)) wNext)
    (wRet (wC .non))))

def zcL (r : Nat) (self : WSp) : WS := (wIfS (wTb (wOp (oEq false) (wOp oIx (wVar 2) (wC (.int 0))) (wVar 1))) (wRet (wVar 2)) wNext)
def zaS : Nat → WSp
  | 0 => wOut
  | r + 1 => wDef 3 2 (wSeq (wFor (wIv (wVar 0)) (wGN 2) (zcL r wOut))
    (wRet (wC .non)))

def zcz (r : Nat) (self : WSp) : WE := (wTup (waCons (wVar 0) waNil))
def zaB : Nat → WSp
  | 0 => wOut
  | r + 1 => wDef 3 2 (wSeq (wAsg (wCall (zaS r) (waCons (wVar 0) (waCons (wOp oIx (wVar 1) (wC (.int 0))) waNil))) (wGN 2))
    (wSeq (wIfS (wTb (wOp (oIs false) (wVar 2) (wC .non))) (wRet (wNew (wComp 1 [] (wRng (waCons (wOp (oInt0 fun i j => .int (i - j)) (wB fLen (waCons (wVar 1) waNil)) (wC (.int 1))) waNil)) (wGN 0) wYes (zcz r wOut)))) wNext)
    (wRet (wCall (zaV r) (waCons (wOp oIx (wVar 2) (wC (.int 1))) waNil)))))

def zcu (r : Nat) (self : WSp) : WS := (wIfS (wTb (wOp (oIs true) (wCall (zbF r) (waCons (wOp oIx (wVar 2) (wC (.int 1))) (waCons (wVar 1) waNil))) (wC .non))) (wRet (wVar 2)) wNext)
def zaG : Nat → WSp
  | 0 => wOut
  | r + 1 => wDef 3 2 (wSeq (wFor (wIv (wVar 0)) (wGN 2) (zcu r wOut))
    (wRet (wC .non)))

def zbP (r : Nat) (self : WSp) : WS := (wDrop (wCall self (waCons (wVar 0) (waCons (wVar 6) (waCons (wOp oAdd (wVar 2) (wTup (waCons (wVar 5) waNil))) (waCons (wVar 3) waNil))))))
def zaL : Nat → WSp
  | 0 => wOut
  | r + 1 => wDef 7 4 (wSeq (wAsg (wCall (zaG r) (waCons (wVar 0) (waCons (wVar 1) waNil))) (wGN 4))
    (wSeq (wIfS (wTb (wOp (oIs true) (wVar 4) (wC .non))) (wDrop (wM rvL mAppend (wVar 3) (waCons (wTup (waCons (wVar 2) (waCons (wOp oIx (wVar 4) (wC (.int 0))) waNil))) waNil))) wNext)
    (wFor (wEnum (wSl (wVar 1) (woS (wC (.int 1))) woN)) (wGT (wGcons (wGN 5) (wGcons (wGN 6) wGnil))) (zbP r (zaL r)))))

def zbx : Nat → WSp
  | 0 => wOut
  | r + 1 => wDef 3 2 (wSeq (wAsg (wNew (wLst waNil)) (wGN 2))
    (wSeq (wDrop (wCall (zaL r) (waCons (wVar 0) (waCons (wVar 1) (waCons (wTup waNil) (waCons (wVar 2) waNil))))))
    (wRet (wVar 2))))

def zbv (r : Nat) (self : WSp) : WS := (wDrop (wCall self (waCons (wVar 0) (waCons (wVar 5) (waCons (wOp oAdd (wVar 2) (wVar 4)) (waCons (wVar 3) waNil))))))
def zaF : Nat → WSp
  | 0 => wOut
  | r + 1 => wDef 6 4 (wSeq (wIfS (wTb (wOp (oIs true) (wCall (zaS r) (waCons (wVar 0) (waCons (wOp oIx (wVar 1) (wC (.int 0))) waNil))) (wC .non))) (wDrop (wM rvL mAppend (wVar 3) (waCons (wTup (waCons (wVar 2) (waCons (wOp oIx (wVar 1) (wC (.int 0))) waNil))) waNil))) wNext)
    (wFor (wZip (wCall (zaB r) (waCons (wVar 0) (waCons (wVar 1) waNil))) (wSl (wVar 1) (woS (wC (.int 1))) woN)) (wGT (wGcons (wGN 4) (wGcons (wGN 5) wGnil))) (zbv r (zaF r))))

def zed : Nat → WSp
  | 0 => wOut
  | r + 1 => wDef 3 2 (wSeq (wAsg (wNew (wLst waNil)) (wGN 2))
    (wSeq (wDrop (wCall (zaF r) (waCons (wVar 0) (waCons (wVar 1) (waCons (wTup waNil) (waCons (wVar 2) waNil))))))
    (wRet (wVar 2))))

def zcU (r : Nat) (self : WSp) : WE := (wOp oIx (wVar 0) (wC (.int 0)))
def zbA : Nat → WSp
  | 0 => wOut
  | r + 1 => wDef 1 1 (wRet (wNew (wComp 1 [] (wIv (wVar 0)) (wGN 0) wYes (zcU r wOut))))

def zbp : Nat → WSp
  | 0 => wOut
  | r + 1 => wDef 3 2 (wSeq (wAsg (wCall (zaG r) (waCons (wVar 0) (waCons (wVar 1) waNil))) (wGN 2))
    (wRet (wOp oAdd (wTup (waCons (wOp oIx (wVar 2) (wC (.int 0))) waNil)) (wB fTuple (waCons (wCall (zbF r) (waCons (wOp oIx (wVar 2) (wC (.int 1))) (waCons (wVar 1) waNil))) waNil)))))

def zbE (r : Nat) (self : WSp) : WS := (wDrop (wM rvL mAppend (wVar 5) (waCons (wCall self (waCons (wVar 0) (waCons (wVar 7) (waCons (wOp oAdd (wVar 2) (wVar 6)) (waCons (wVar 3) waNil))))) waNil)))
def zaC : Nat → WSp
  | 0 => wOut
  | r + 1 => wDef 8 4 (wSeq (wAsg (wIf (wTb (wOp (oDIn false) (wVar 2) (wVar 3))) (wCall (zbp r) (waCons (wVar 0) (waCons (wVar 1) waNil))) (wVar 1)) (wGN 4))
    (wSeq (wAsg (wNew (wLst waNil)) (wGN 5))
    (wSeq (wFor (wZip (wCall (zaB r) (waCons (wVar 0) (waCons (wVar 4) waNil))) (wSl (wVar 4) (woS (wC (.int 1))) woN)) (wGT (wGcons (wGN 6) (wGcons (wGN 7) wGnil))) (zbE r (zaC r)))
    (wRet (wOp oAdd (wTup (waCons (wOp oIx (wVar 4) (wC (.int 0))) waNil)) (wB fTuple (waCons (wVar 5) waNil)))))))

def zdw (r : Nat) (self : WSp) : WE := (wTup (waCons (wVar 0) (waCons (wC (.bl true)) waNil)))
def zbK : Nat → WSp
  | 0 => wOut
  | r + 1 => wDef 3 3 (wRet (wCall (zaC r) (waCons (wVar 0) (waCons (wVar 1) (waCons (wTup waNil) (waCons (wBL fDictL (wComp 1 [] (wIv (wVar 2)) (wGN 0) wYes (zdw r wOut))) waNil))))))

def zeI (r : Nat) (self : WSp) : WS := (wIfS (wTb (wOp (oIn true) (wVar 4) (wVar 3))) wNever wNext)
def zck : Nat → WSp
  | 0 => wOut
  | r + 1 => wDef 5 3 (wSeq (wAsg (wCall (zbA r) (waCons (wCall (zbx r) (waCons (wVar 0) (waCons (wVar 1) waNil))) waNil)) (wGN 3))
    (wSeq (wFor (wIv (wVar 2)) (wGN 4) (zeI r wOut))
    (wRet (wCall (zbK r) (waCons (wVar 0) (waCons (wVar 1) (waCons (wVar 2) waNil)))))))

def zas : Nat → WSp
  | 0 => wOut
  | r + 1 => wDef 2 2 (wSeq (wIfS (wTb (wOp oLt (wVar 1) (wB fLen (waCons (wVar 0) waNil)))) (wRet (wOp oIx (wVar 0) (wVar 1))) wNext)
    (wRet (wC (.int 0))))

def zcN (r : Nat) (self : WSp) : WE := (wOp oIx (wVar 1) (wOp (oInt (fun _ j => 0 < j) fun i j => .int (i % j)) (wOp oAdd (wOp oIx (wVar 2) (wVar 0)) (wOp (oInt CMul fun i j => .int (i * j)) (wVar 3) (wB fInt (waCons (wOp (oEq false) (wVar 0) (wVar 4)) waNil)))) (wC (.int 26))))
def zcM (r : Nat) (self : WSp) : WS := (wSeq (wAsg (wML rvS mJoinL (wC (.str "")) (wComp 1 [3, 5, 6, 7] (wRng (waCons (wB fLen (waCons (wVar 5) waNil)) waNil)) (wGN 0) wYes (zcN r wOut))) (wGN 9))
    (wSeq (wIfS (wTru (wVar 2)) (wAsg (wOp oAdd (wM rvS mUpper (wOp oIx (wVar 9) (wC (.int 0))) waNil) (wSl (wVar 9) (woS (wC (.int 1))) woN)) (wGN 9)) wNext)
    (wDrop (wM rvL mAppend (wVar 8) (waCons (wVar 9) waNil)))))
def zbY (r : Nat) (self : WSp) : WS := (wSeq (wDrop (wM rvL mAppend (wVar 5) (waCons (wOp (oInt (fun _ j => 0 < j) fun i j => .int (i % j)) (wVar 4) (wC (.int 26))) waNil)))
    (wAsg (wOp (oInt CDiv fun i j => .int (i / j)) (wVar 4) (wC (.int 26))) (wGN 4)))
def zaK : Nat → WSp
  | 0 => wOut
  | r + 1 => wDef 10 3 (wSeq (wAsg (wC (.str "abcdefghijklmnopqrstuvwxyz")) (wGN 3))
    (wSeq (wAsg (wOp (oInt (fun _ j => 0 < j) fun i j => .int (i % j)) (wVar 1) (wOp (oInt CPow fun i j => .int (i ^ j.toNat)) (wC (.int 26)) (wC (.int 8)))) (wGN 4))
    (wSeq (wAsg (wNew (wLst waNil)) (wGN 5))
    (wSeq (wFor (wRng (waCons (wOp oAdd (wC (.int 1)) (wOp (oInt (fun _ j => 0 < j) fun i j => .int (i % j)) (wVar 0) (wC (.int 8)))) waNil)) (wGN 6) (zbY r wOut))
    (wSeq (wAsg (wOp (oInt (fun _ j => 0 < j) fun i j => .int (i % j)) (wOp (oInt CDiv fun i j => .int (i / j)) (wVar 0) (wC (.int 8))) (wB fLen (waCons (wVar 5) waNil))) (wGN 7))
    (wSeq (wAsg (wNew (wLst waNil)) (wGN 8))
    (wSeq (wFor (wRng (waCons (wC (.int 6)) waNil)) (wGN 6) (zcM r wOut))
    (wSeq (wIfS (wAnd (wTb (wOp (oEq false) (wOp (oInt (fun _ j => 0 < j) fun i j => .int (i % j)) (wOp (oInt CDiv fun i j => .int (i / j)) (wVar 0) (wC (.int 64))) (wC (.int 2))) (wC (.int 1)))) (wNot (wTru (wVar 2)))) (wAsg (wNew (wCatB (wSlL (wVar 8) woN (woS (wC (.int 3)))) (wLst (waCons (wOp oIx (wVar 8) (wC (.int 2))) (waCons (wOp oIx (wVar 8) (wC (.int 2))) (waCons (wOp oIx (wVar 8) (wC (.int 5))) waNil)))))) (wGN 8)) wNext)
    (wRet (wVar 8))))))))))

def zbW (r : Nat) (self : WSp) : WE := (wCall self (waCons (wVar 0) waNil))
def zan : Nat → WSp
  | 0 => wOut
  | r + 1 => wDef 1 1 (wSeq (wIfS (wTru (wIsi "int" (wVar 0))) (wRet (wC (.int 1))) wNext)
    (wRet (wBL fSumL (wComp 1 [] (wIv (wSl (wVar 0) (woS (wC (.int 1))) woN)) (wGN 0) wYes (zbW r (zan r))))))

def zcy (r : Nat) (self : WSp) : WE := (wCall self (waCons (wVar 0) (waCons (wVar 1) waNil)))
def zaA : Nat → WSp
  | 0 => wOut
  | r + 1 => wDef 2 2 (wSeq (wIfS (wTru (wIsi "int" (wVar 0))) (wRet (wOp oIx (wVar 1) (wVar 0))) wNext)
    (wRet (wOp oAdd (wSl (wVar 0) woN (woS (wC (.int 1)))) (wBL fTupleL (wComp 1 [1] (wIv (wSl (wVar 0) (woS (wC (.int 1))) woN)) (wGN 0) wYes (zcy r (zaA r)))))))

def zbf : Nat → WSp
  | 0 => wOut
  | r + 1 => wDef 3 3 (wSeq (wIfS (wAnd (wTb (wOp oGt (wVar 1) (wC (.int 0)))) (wTb (wOp oGt (wOp (oInt (fun _ j => 0 < j) fun i j => .int (i % j)) (wVar 0) (wC (.int 4))) (wC (.int 0))))) (wRet (wOp (oInt (fun _ j => 0 < j) fun i j => .int (i % j)) (wOp (oInt CDiv fun i j => .int (i / j)) (wVar 0) (wC (.int 4))) (wVar 1))) wNext)
    (wRet (wTup (waCons (wOp oIx (wVar 2) (wIxL (wLst (waCons (wC (.int 2)) (waCons (wC (.int 5)) waNil))) (wOp (oInt (fun _ j => 0 < j) fun i j => .int (i % j)) (wOp (oInt CDiv fun i j => .int (i / j)) (wVar 0) (wC (.int 4))) (wC (.int 2))))) waNil))))

def zbk : Nat → WSp
  | 0 => wOut
  | r + 1 => wDef 6 3 (wSeq (wAsg (wCall (zbf r) (waCons (wOp (oInt CDiv fun i j => .int (i / j)) (wVar 0) (wC (.int 7))) (waCons (wVar 1) (waCons (wVar 2) waNil)))) (wGN 3))
    (wSeq (wAsg (wCall (zbf r) (waCons (wOp (oInt CDiv fun i j => .int (i / j)) (wVar 0) (wC (.int 700))) (waCons (wVar 1) (waCons (wVar 2) waNil)))) (wGN 4))
    (wSeq (wAsg (wOp (oInt (fun _ j => 0 < j) fun i j => .int (i % j)) (wVar 0) (wC (.int 7))) (wGN 5))
    (wSeq (wIfS (wTb (wOp (oEq false) (wVar 5) (wC (.int 0)))) (wRet (wVar 3)) wNext)
    (wSeq (wIfS (wOr (wTb (wOp (oEq false) (wVar 5) (wC (.int 1)))) (wTb (wOp (oEq false) (wVar 1) (wC (.int 0))))) (wRet (wTup (waCons (wOp oIx (wVar 2) (wC (.int 3))) (waCons (wVar 3) waNil)))) wNext)
    (wSeq (wIfS (wTb (wOp (oEq false) (wVar 5) (wC (.int 2)))) (wRet (wTup (waCons (wOp oIx (wVar 2) (wC (.int 4))) (waCons (wVar 3) (waCons (wVar 4) waNil))))) wNext)
    (wSeq (wIfS (wTb (wOp (oEq false) (wVar 5) (wC (.int 3)))) (wRet (wTup (waCons (wOp oIx (wVar 2) (wC (.int 4))) (waCons (wVar 3) (waCons (wVar 3) waNil))))) wNext)
    (wSeq (wIfS (wTb (wOp (oEq false) (wVar 5) (wC (.int 4)))) (wRet (wTup (waCons (wOp oIx (wVar 2) (wC (.int 4))) (waCons (wTup (waCons (wOp oIx (wVar 2) (wC (.int 3))) (waCons (wVar 3) waNil))) (waCons (wVar 4) waNil))))) wNext)
    (wSeq (wIfS (wTb (wOp (oEq false) (wVar 5) (wC (.int 5)))) (wRet (wTup (waCons (wOp oIx (wVar 2) (wC (.int 0))) (waCons (wVar 3) waNil)))) wNext)
    (wRet (wTup (waCons (wOp oIx (wVar 2) (wC (.int 1))) (waCons (wVar 3) (waCons (wVar 4) waNil))))))))))))))

def zbo : Nat → WSp
  | 0 => wOut
  | r + 1 => wDef 4 4 (wSeq (wIfS (wTb (wOp (oEq false) (wVar 0) (wC (.int 0)))) (wRet (wNew (wLst (waCons (wTup (waCons (wVar 1) (waCons (wC (.int 0)) waNil))) waNil)))) wNext)
    (wSeq (wIfS (wTb (wOp (oEq false) (wVar 0) (wC (.int 1)))) (wRet (wNew (wLst (waCons (wTup (waCons (wVar 1) (waCons (wC (.int 0)) (waCons (wC (.int 1)) waNil)))) waNil)))) wNext)
    (wSeq (wIfS (wTb (wOp (oEq false) (wVar 0) (wC (.int 2)))) (wRet (wNew (wLst (waCons (wTup (waCons (wVar 1) (waCons (wTup (waCons (wVar 2) waNil)) waNil))) (waCons (wTup (waCons (wVar 1) (waCons (wTup (waCons (wVar 3) (waCons (wC (.int 0)) waNil))) waNil))) waNil))))) wNext)
    (wSeq (wIfS (wTb (wOp (oEq false) (wVar 0) (wC (.int 3)))) (wRet (wNew (wLst (waCons (wTup (waCons (wVar 1) (waCons (wTup (waCons (wVar 2) waNil)) (waCons (wC (.int 0)) waNil)))) (waCons (wTup (waCons (wVar 1) (waCons (wTup (waCons (wVar 3) (waCons (wC (.int 0)) waNil))) (waCons (wC (.int 1)) waNil)))) waNil))))) wNext)
    (wSeq (wIfS (wTb (wOp (oEq false) (wVar 0) (wC (.int 4)))) (wRet (wNew (wLst (waCons (wTup (waCons (wVar 1) (waCons (wTup (waCons (wVar 3) (waCons (wTup (waCons (wVar 3) (waCons (wC (.int 0)) waNil))) waNil))) (waCons (wC (.int 1)) (waCons (wC (.int 2)) waNil))))) (waCons (wTup (waCons (wVar 1) (waCons (wTup (waCons (wVar 3) (waCons (wTup (waCons (wVar 2) waNil)) waNil))) (waCons (wC (.int 0)) (waCons (wC (.int 1)) waNil))))) waNil))))) wNext)
    (wRet (wNew (wLst (waCons (wTup (waCons (wVar 1) waNil)) waNil)))))))))

def zcg (r : Nat) (self : WSp) : WS := (wSeq (wAsg (wCall (zbk r) (waCons (wCall (zas r) (waCons (wVar 0) (waCons (wOp oAdd (wOp oAdd (wOp oAdd (wVar 1) (wC (.int 2))) (wOp (oInt CMul fun i j => .int (i * j)) (wC (.int 2)) (wVar 5))) (wVar 7)) waNil))) (waCons (wCall (zan r) (waCons (wVar 8) waNil)) (waCons (wVar 2) waNil)))) (wGN 9))
    (wDrop (wM rvL mAppend (wVar 4) (waCons (wTup (waCons (wOp oIx (wVar 3) (wB fLen (waCons (wVar 4) waNil))) (waCons (wVar 8) (waCons (wVar 9) waNil)))) waNil))))
def zdf (r : Nat) (self : WSp) : WS := (wSeq (wAsg (wCall (zbo r) (waCons (wOp (oInt (fun _ j => 0 < j) fun i j => .int (i % j)) (wCall (zas r) (waCons (wVar 0) (waCons (wOp oAdd (wVar 1) (wVar 5)) waNil))) (wC (.int 6))) (waCons (wOp oIx (wVar 2) (wVar 5)) (waCons (wOp oIx (wVar 2) (wC (.int 2))) (waCons (wOp oIx (wVar 2) (wC (.int 3))) waNil))))) (wGN 6))
    (wFor (wEnum (wVar 6)) (wGT (wGcons (wGN 7) (wGcons (wGN 8) wGnil))) (zcg r wOut)))
def zbe : Nat → WSp
  | 0 => wOut
  | r + 1 => wDef 10 4 (wSeq (wAsg (wNew (wLst waNil)) (wGN 4))
    (wSeq (wFor (wRng (waCons (wC (.int 2)) waNil)) (wGN 5) (zdf r wOut))
    (wRet (wVar 4))))

def zcV (r : Nat) (self : WSp) : WS := (wAsg (wNew (wCatB (wSlL (wVar 4) woN (woS (wNeg (wC (.int 2))))) (wLst (waCons (wTup (waCons (wNeg (wC (.int 1))) (waCons (wC (.int 0)) (waCons (wOp oIx (wVar 2) (wC (.int 4))) (waCons (wSl (wVar 4) (woS (wNeg (wC (.int 2)))) woN) waNil))))) waNil)))) (wGN 4))
def zcT (r : Nat) (self : WSp) : WS := (wSeq (wAsg (wOp (oInt (fun _ j => 0 < j) fun i j => .int (i % j)) (wVar 6) (wC (.int 8))) (wGN 7))
    (wSeq (wAsg (wIxL (wLst (waCons (wC (.int 0)) (waCons (wC (.int 0)) (waCons (wC (.int 1)) (waCons (wC (.int 2)) waNil))))) (wB fMin2 (waCons (wVar 7) (waCons (wC (.int 3)) waNil)))) (wGN 8))
    (wSeq (wAsg (wTup (waCons (wNeg (wC (.int 1))) (waCons (wC (.int 0)) (waCons (wOp oIx (wVar 2) (wIxL (wLst (waCons (wC (.int 2)) (waCons (wC (.int 5)) (waCons (wC (.int 3)) (waCons (wC (.int 4)) waNil))))) (wB fMin2 (waCons (wVar 7) (waCons (wC (.int 3)) waNil))))) waNil)))) (wGN 9))
    (wSeq (wIfS (wTb (wOp oGt (wVar 7) (wC (.int 3)))) (wSeq (wAsg (wOp (oInt (fun _ j => 0 < j) fun i j => .int (i % j)) (wOp (oInt CDiv fun i j => .int (i / j)) (wVar 6) (wC (.int 8))) (wB fLen (waCons (wVar 1) waNil))) (wGN 10))
    (wSeq (wAsg (wCall (zan r) (waCons (wOp oIx (wOp oIx (wVar 1) (wVar 10)) (wC (.int 1))) waNil)) (wGN 8))
    (wSeq (wAsg (wTup (waCons (wVar 10) (waCons (wOp (oInt (fun _ j => 0 < j) fun i j => .int (i % j)) (wOp (oInt CDiv fun i j => .int (i / j)) (wVar 6) (wC (.int 64))) (wC (.int 8))) (waCons (wC (.str "")) waNil)))) (wGN 9))
    (wAsg (wOp oAdd (wVar 5) (wC (.int 1))) (wGN 5))))) wNext)
    (wIfS (wAnd (wTb (wOp oGt (wVar 3) (wC (.int 0)))) (wTb (wOp oLt (wVar 5) (wC (.int 5))))) (wSeq (wAsg (wOp (oInt0 fun i j => .int (i - j)) (wVar 3) (wC (.int 1))) (wGN 3))
    (wSeq (wAsg (wNew (wCatF (wRepL (wLst (waCons (wTup (waCons (wNeg (wC (.int 1))) (waCons (wC (.int 0)) (waCons (wOp oIx (wVar 2) (wC (.int 2))) (waCons (wNew (wLst waNil)) waNil))))) waNil)) (wOp (oInt0 fun i j => .int (i - j)) (wVar 8) (wB fLen (waCons (wVar 4) waNil)))) (wVar 4))) (wGN 4))
    (wSeq (wAsg (wOp (oInt0 fun i j => .int (i - j)) (wB fLen (waCons (wVar 4) waNil)) (wVar 8)) (wGN 11))
    (wAsg (wNew (wCatB (wSlL (wVar 4) woN (woS (wVar 11))) (wLst (waCons (wOp oAdd (wVar 9) (wTup (waCons (wSl (wVar 4) (woS (wVar 11)) woN) waNil))) waNil)))) (wGN 4))))) wNext)))))
def zbh : Nat → WSp
  | 0 => wOut
  | r + 1 => wDef 12 4 (wSeq (wAsg (wNew (wLst waNil)) (wGN 4))
    (wSeq (wAsg (wC (.int 0)) (wGN 5))
    (wSeq (wFor (wIv (wVar 0)) (wGN 6) (zcT r wOut))
    (wSeq (wWhile (wTb (wOp oGt (wB fLen (waCons (wVar 4) waNil)) (wC (.int 1)))) (zcV r wOut))
    (wRet (wIxL (wCatR (wVar 4) (wLst (waCons (wTup (waCons (wNeg (wC (.int 1))) (waCons (wC (.int 0)) (waCons (wOp oIx (wVar 2) (wC (.int 5))) (waCons (wNew (wLst waNil)) waNil))))) waNil))) (wC (.int 0))))))))

def zdx (r : Nat) (self : WSp) : WE := (wCall self (waCons (wVar 0) (waCons (wVar 1) (waCons (wVar 2) waNil))))
def zbn : Nat → WSp
  | 0 => wOut
  | r + 1 => wDef 8 3 (wSeq (wAsg (wVar 0) (wGT (wGcons (wGN 3) (wGcons (wGN 4) (wGcons (wGN 5) (wGcons (wGN 6) wGnil))))))
    (wSeq (wAsg (wNew (wComp 1 [1, 2] (wIv (wVar 6)) (wGN 0) wYes (zdx r (zbn r)))) (wGN 7))
    (wSeq (wIfS (wTb (wOp oLt (wVar 3) (wC (.int 0)))) (wRet (wOp oAdd (wTup (waCons (wVar 5) waNil)) (wB fTuple (waCons (wVar 7) waNil)))) wNext)
    (wSeq (wIfS (wTb (wOp (oEq false) (wOp (oInt (fun _ j => 0 < j) fun i j => .int (i % j)) (wOp (oInt CDiv fun i j => .int (i / j)) (wVar 4) (wVar 2)) (wC (.int 2))) (wC (.int 1)))) (wRet (wOp oAdd (wTup (waCons (wOp oIx (wOp oIx (wVar 1) (wVar 3)) (wC (.int 0))) waNil)) (wB fTuple (waCons (wVar 7) waNil)))) wNext)
    (wRet (wCall (zaA r) (waCons (wOp oIx (wOp oIx (wVar 1) (wVar 3)) (wC (.int 1))) (waCons (wVar 7) waNil))))))))

def zdg (r : Nat) (self : WSp) : WS := (wIfS (wTb (wOp (oEq false) (wOp oIx (wVar 4) (wC (.int 0))) (wOp oIx (wVar 1) (wC (.int 0))))) (wRet (wCall (zaA r) (waCons (wOp oIx (wVar 4) (wVar 2)) (waCons (wVar 3) waNil)))) wNext)
def zdd (r : Nat) (self : WSp) : WE := (wCall self (waCons (wVar 1) (waCons (wVar 0) (waCons (wVar 2) waNil))))
def zaY : Nat → WSp
  | 0 => wOut
  | r + 1 => wDef 5 3 (wSeq (wAsg (wNew (wComp 1 [0, 2] (wIv (wSl (wVar 1) (woS (wC (.int 1))) woN)) (wGN 0) wYes (zdd r (zaY r)))) (wGN 3))
    (wSeq (wFor (wIv (wVar 0)) (wGN 4) (zdg r wOut))
    (wRet (wOp oAdd (wSl (wVar 1) woN (woS (wC (.int 1)))) (wB fTuple (waCons (wVar 3) waNil))))))

def zbR (r : Nat) (self : WSp) : WE := (wOp oAdd (wTup (waCons (wVar 1) waNil)) (wVar 0))
def zbi (r : Nat) (self : WSp) : WS := (wAsg (wNew (wCatR (wVar 1) (wComp 1 [2] (wIv (wCall self (waCons (wVar 3) waNil))) (wGN 0) wYes (zbR r wOut)))) (wGN 1))
def zao : Nat → WSp
  | 0 => wOut
  | r + 1 => wDef 4 1 (wSeq (wAsg (wNew (wLst (waCons (wTup waNil) waNil))) (wGN 1))
    (wSeq (wIfS (wNot (wTru (wIsi "int" (wVar 0)))) (wFor (wEnum (wSl (wVar 0) (woS (wC (.int 1))) woN)) (wGT (wGcons (wGN 2) (wGcons (wGN 3) wGnil))) (zbi r (zao r))) wNext)
    (wRet (wVar 1))))

def zbO (r : Nat) (self : WSp) : WS := (wAsg (wOp oIx (wVar 0) (wOp oAdd (wVar 2) (wC (.int 1)))) (wGN 0))
def zba : Nat → WSp
  | 0 => wOut
  | r + 1 => wDef 3 2 (wSeq (wFor (wIv (wVar 1)) (wGN 2) (zbO r wOut))
    (wRet (wVar 0)))

def zbS (r : Nat) (self : WSp) : WE := (wCall self (waCons (wVar 0) (waCons (wVar 1) waNil)))
def zat : Nat → WSp
  | 0 => wOut
  | r + 1 => wDef 2 2 (wSeq (wIfS (wTru (wIsi "int" (wVar 0))) (wRet (wC (.bl true))) wNext)
    (wSeq (wIfS (wOr (wTb (wOp (oEq true) (wOp oIx (wVar 0) (wC (.int 0))) (wOp oIx (wVar 1) (wC (.int 0))))) (wTb (wOp (oEq true) (wB fLen (waCons (wVar 0) waNil)) (wB fLen (waCons (wVar 1) waNil))))) (wRet (wC (.bl false))) wNext)
    (wRet (wBL fAllL (wComp 2 [] (wZip (wSl (wVar 0) (woS (wC (.int 1))) woN) (wSl (wVar 1) (woS (wC (.int 1))) woN)) (wGT (wGcons (wGN 0) (wGcons (wGN 1) wGnil))) wYes (zbS r (zat r)))))))

def zcl (r : Nat) (self : WSp) : WS := (wIfS (wTru (wCall (zat r) (waCons (wOp oIx (wVar 4) (wC (.int 1))) (waCons (wCall (zba r) (waCons (wVar 1) (waCons (wVar 3) waNil))) waNil)))) (wDrop (wM rvL mAppend (wVar 2) (waCons (wTup (waCons (wVar 3) (waCons (wOp oIx (wVar 4) (wC (.int 0))) waNil))) waNil))) wNext)
def zcs (r : Nat) (self : WSp) : WS := (wFor (wIv (wVar 0)) (wGN 4) (zcl r wOut))
def zbg : Nat → WSp
  | 0 => wOut
  | r + 1 => wDef 5 2 (wSeq (wAsg (wNew (wLst waNil)) (wGN 2))
    (wSeq (wFor (wIv (wCall (zao r) (waCons (wVar 1) waNil))) (wGN 3) (zcs r wOut))
    (wRet (wVar 2))))

def zbX (r : Nat) (self : WSp) : WE := (wCall self (waCons (wVar 0) (waCons (wVar 1) waNil)))
def zaD : Nat → WSp
  | 0 => wOut
  | r + 1 => wDef 2 2 (wRet (wOp oAdd (wB fInt (waCons (wOp (oIn false) (wOp oIx (wVar 0) (wC (.int 0))) (wVar 1)) waNil)) (wBL fSumL (wComp 1 [1] (wIv (wSl (wVar 0) (woS (wC (.int 1))) woN)) (wGN 0) wYes (zbX r (zaD r))))))

def zdF (r : Nat) (self : WSp) : WE := (wOp oIx (wVar 0) (wC (.int 0)))
def zbT (r : Nat) : WS := (wRet (wOp (oEq false) (wCall (zck r) (waCons (wVar 3) (waCons (wVar 5) (waCons (wNew (wComp 1 [] (wIv (wVar 6)) (wGN 0) wYes (zdF r wOut))) waNil)))) (wVar 4)))
def zcp (r : Nat) (self : WSp) : WS := (wIfS (wOr (wTb (wOp (oIn true) (wVar 9) (wVar 7))) (wAnd (wTb (wOp oGt (wVar 8) (wC (.int 0)))) (wTb (wOp oGeA (wOp oIx (wOp oIx (wVar 6) (wOp (oInt0 fun i j => .int (i - j)) (wVar 8) (wC (.int 1)))) (wC (.int 0))) (wOp oIx (wVar 9) (wC (.int 0))))))) (wRet (wC (.bl false))) wNext)
def zcm (r : Nat) (T : WS) : WS := (wSeq (wFor (wEnum (wVar 6)) (wGT (wGcons (wGN 8) (wGcons (wGN 9) wGnil))) (zcp r wOut)) T)
def zch (r : Nat) (T : WS) : WS := (wSeq (wAsg (wCall (zbg r) (waCons (wVar 3) (waCons (wVar 5) waNil))) (wGN 7)) T)
def zcf (r : Nat) (T : WS) : WS := (wSeq (wIfS (wOr (wNot (wTru (wIsi "list" (wVar 6)))) (wTb (wOp (oEq true) (wB fLen (waCons (wVar 6) waNil)) (wCall (zaD r) (waCons (wVar 4) (waCons (wVar 2) waNil)))))) (wRet (wC (.bl false))) wNext) T)
def zcq (r : Nat) (T : WS) : WS := (wSeq (wAsg (wCall (zed r) (waCons (wVar 3) (waCons (wVar 4) waNil))) (wGN 6)) T)
def zcn (r : Nat) (T : WS) : WS := (wSeq (wAsg (wCall (zaY r) (waCons (wVar 3) (waCons (wVar 4) (waCons (wC (.int 1)) waNil)))) (wGN 5)) T)
def zct (r : Nat) (T : WS) : WS := (wSeq (wAsg (wCall (zbn r) (waCons (wCall (zbh r) (waCons (wSl (wVar 0) (woS (wC (.int 10))) woN) (waCons (wVar 3) (waCons (wVar 1) (waCons (wC (.int 9)) waNil))))) (waCons (wVar 3) (waCons (wC (.int 1)) waNil)))) (wGN 4)) T)
def zcO (r : Nat) (T : WS) : WS := (wSeq (wAsg (wCall (zbe r) (waCons (wVar 0) (waCons (wC (.int 4)) (waCons (wVar 1) (waCons (wVar 2) waNil))))) (wGN 3)) T)
def zcQ (r : Nat) (T : WS) : WS := (wSeq (wAsg (wCall (zaK r) (waCons (wCall (zas r) (waCons (wVar 0) (waCons (wC (.int 2)) waNil))) (waCons (wCall (zas r) (waCons (wVar 0) (waCons (wC (.int 3)) waNil))) (waCons (wC (.bl true)) waNil)))) (wGN 2)) T)
def zcS (r : Nat) (T : WS) : WS := (wSeq (wAsg (wCall (zaK r) (waCons (wCall (zas r) (waCons (wVar 0) (waCons (wC (.int 0)) waNil))) (waCons (wCall (zas r) (waCons (wVar 0) (waCons (wC (.int 1)) waNil))) (waCons (wC (.bl false)) waNil)))) (wGN 1)) T)
def zcc : Nat → WSp
  | 0 => wOut
  | r + 1 => wDef 10 1 (zcS r (zcQ r (zcO r (zct r (zcn r (zcq r (zcf r (zch r (zcm r (zbT r))))))))))

end L2
end

section
set_option Elab.async false
set_option linter.all false
set_option maxRecDepth 100000
set_option maxHeartbeats 4000000
namespace L2
open PySem PySem.Spec PyProof.Rows
theorem zfr {r : Nat} {t : Tr} {S : Sto} {Q : WK} {E : Str → Sto → Prop} (h : Q (.tup (encs t.kids)) S) : zbm (r + 1) [enc t] S Q E := by
  rw [zbm]
  cases t with
  | bl n =>
    simp only [enc]
    walk_at "wp"
    exact ⟨Nat.zero_le _, S, .refl, h⟩
  | nd s ts =>
    simp only [enc]
    walk_at "wp"
    exact ⟨S, .refl, h⟩
mutual
def Tr.pl (p : List Int) : Tr → List (List Int)
  | .bl _ => [p]
  | .nd _ ts => p :: pls p 0 ts
def pls (p : List Int) (i : Nat) : List Tr → List (List Int)
  | [] => []
  | t :: ts => t.pl (p ++ [(i : Int)]) ++ pls p (i + 1) ts
end
mutual
theorem zmX : ∀ (t : Tr) (p : List Int), (t.pl p).length = t.weight
  | .bl _, p => by simp [Tr.pl, Tr.weight]
  | .nd _ ts, p => by simp [Tr.pl, Tr.weight, zjz ts p 0]; omega
theorem zjz : ∀ (ts : List Tr) (p : List Int) (i : Nat), (pls p i ts).length = wts ts
  | [], p, i => by simp [pls, wts]
  | t :: ts, p, i => by simp [pls, wts, zmX t, zjz ts p (i + 1)]
end
theorem zik {p : List Int} {i : Int} {S : Sto} {Q : WK} : oAdd (encP p) (.tup [.int i]) S Q = (p.length + 1 ≤ sizeLine ∧ Q (encP (p ++ [i])) S) := by
  unfold encP
  rw [zdR]
  simp
mutual
theorem zgI : ∀ (t : Tr) {r : Nat} {p : List Int} {a : Addr} {xs : List W} {S : Sto} {Q : WK} {E : Str → Sto → Prop}, t.depth ≤ r → S a = some (.lst xs) → xs.length + t.weight ≤ 1000000 → p.length + t.depth ≤ 1000000 →
    Q .non (put S a (.lst (xs ++ (t.pl p).map encP))) → zaw (r + 1) [enc t, encP p, .ref a] S Q E
  | .bl n, r, p, a, xs, S, Q, E, hr, ha, hx, hp, h => by
    obtain ⟨r, rfl⟩ : ∃ r', r = r' + 1 := ⟨r - 1, by simp [Tr.depth] at hr; omega⟩
    rw [zaw]
    walk_at "wp"
    simp only [zai ha, true_and]
    simp [Tr.weight] at hx
    refine ⟨zbG (by omega), ?_⟩
    refine zfr ?_
    simp only [Tr.kids, encs, nums, forL]
    simp only [Tr.pl, List.map_cons, List.map_nil] at h
    exact ⟨_, .refl, h⟩
  | .nd s ts, r, p, a, xs, S, Q, E, hr, ha, hx, hp, h => by
    simp only [Tr.depth] at hr hp
    simp only [Tr.weight] at hx
    obtain ⟨r, rfl⟩ : ∃ r', r = r' + 1 := ⟨r - 1, by omega⟩
    rw [zaw]
    walk_at "wp"
    simp only [zai ha, true_and]
    refine ⟨zbG (by omega), ?_⟩
    refine zfr ?_
    dsimp only [Tr.kids]
    refine zeJ ts (xs := xs ++ [encP p]) (by omega) zaf (by simp; omega) (by omega) fun x y => ?_
    rw [zaE]
    refine ⟨_, .refl, ?_⟩
    simpa [Tr.pl, List.append_assoc] using h
theorem zeJ : ∀ (ts : List Tr) {r : Nat} {p : List Int} {i : Nat} {a : Addr} {xs : List W} {S : Sto} {E : WX} {D : WEnds} {t0 x y : Option W}, dts ts ≤ r → S a = some (.lst xs) → xs.length + wts ts ≤ 1000000 → p.length + 1 + dts ts ≤ 1000000 →
    (∀ x y, D.nx [t0, some (encP p), some (.ref a), x, y] (put S a (.lst (xs ++ (pls p i ts).map encP)))) →
    forL (wGT (wGcons (wGN 3) (wGcons (wGN 4) wGnil))) (zby (r + 1) (zaw (r + 1))) E D (fun _ => True) (nums i (encs ts)) [t0, some (encP p), some (.ref a), x, y] S
  | [], r, p, i, a, xs, S, E, D, t0, x, y, hr, ha, hx, hp, h => by
    simp only [encs, nums, forL]
    have := h x y
    simp only [pls, List.map_nil, List.append_nil, zcv ha] at this
    exact this
  | t :: ts, r, p, i, a, xs, S, E, D, t0, x, y, hr, ha, hx, hp, h => by
    simp only [dts] at hr hp
    simp only [wts] at hx
    simp only [encs, nums, forL, zby]
    walk_at "wp"
    rw [zik]
    refine ⟨zah (by omega), zah (by omega), zgI t (p := p ++ [(i : Int)]) (by omega) ha (by omega) (by simp; omega) ?_⟩
    refine ⟨_, .refl, zeJ ts (by omega) zaf (by simp [zmX]; omega) (by omega) fun x y => ?_⟩
    rw [zaE]
    simpa [pls, List.append_assoc] using h x y
end
theorem zlf {t : Tr} {r : Nat} {S : Sto} {Q : WK} {E : Str → Sto → Prop} (hr : t.depth + 1 ≤ r) (hw : t.weight ≤ 100000) (hd : t.depth ≤ 100000) (h : ∀ a, S a = none → Q (.ref a) (put S a (.lst ((t.pl []).map encP)))) : zcC (r + 1) [enc t] S Q E := by
  obtain ⟨r, rfl⟩ : ∃ r', r = r' + 1 := ⟨r - 1, by omega⟩
  rw [zcC]
  walk_at "wp"
  refine ⟨Nat.zero_le _, fun a ha => ⟨Nat.zero_le _, zgI t (p := []) (xs := []) (by omega) zaf (by simp; omega) (by simp; omega) ?_⟩⟩
  rw [zaE, List.nil_append]
  exact ⟨_, .refl, h a ha⟩
def Tr.at : Tr → List Int → Option Tr
  | t, [] => some t
  | .bl _, _ :: _ => none
  | .nd _ ts, i :: p => if i < 0 then none else match ts[i.toNat]? with
    | some u => u.at p
    | none => none
theorem zhq {t u : Tr} {i : Int} {r : Nat} {S : Sto} {Q : WK} {E : Str → Sto → Prop} (hi : 0 ≤ i) (hu : t.kids[i.toNat]? = some u) (h : Q (enc u) S) : zaO (r + 2) [enc t, .int i] S Q E := by
  rw [zaO]
  walk_at "wp"
  refine zfr ?_
  have hl : i.toNat < t.kids.length := (List.getElem?_eq_some_iff.mp hu).1
  walk_at "wp"
  rw [zbd]
  rw [if_neg (by omega), if_neg (by omega)]
  have e : atI (encs t.kids) i = some (enc u) := by
    have q := zbu (xs := encs t.kids) (n := i.toNat)
    rw [Int.toNat_of_nonneg hi] at q
    rw [q, zaN, List.getElem?_map, hu]; rfl
  rw [e]
  exact ⟨S, .refl, h⟩
theorem zhe {p : List Int} : ∀ {t u : Tr} {r : Nat} {S : Sto} {E : WX} {D : WEnds} {x y z : Option W}, t.at p = some u → (∀ z, D.nx [x, y, some (enc u), z] S) →
    forL (wGN 3) (zeM (r + 2) wOut) E D (fun _ => True) (p.map W.int) [x, y, some (enc t), z] S := by
  induction p with
  | nil =>
    intro t u r S E D x y z e h
    unfold Tr.at at e
    cases e
    exact h z
  | cons i p ih =>
    intro t u r S E D x y z e h
    cases t with
    | bl n => cases e
    | nd s ts =>
      unfold Tr.at at e
      split at e
      · cases e
      · rename_i hi
        split at e
        · rename_i v ev
          simp only [List.map_cons, forL, zeM]
          walk_at "wp"
          refine zhq (t := .nd s ts) (u := v) (by omega) ev ⟨S, .refl, ?_⟩
          exact ih e h
        · cases e
theorem zoD {t u : Tr} {p : List Int} {r : Nat} {S : Sto} {Q : WK} {E : Str → Sto → Prop} (e : t.at p = some u) (h : Q (enc u) S) : zeE (r + 3) [enc t, encP p] S Q E := by
  rw [zeE]
  walk_at "wp"
  unfold encP
  dsimp only
  exact zhe e fun z => ⟨S, .refl, h⟩
end L2
end

section
set_option Elab.async false
set_option linter.all false
set_option maxRecDepth 100000
set_option maxHeartbeats 4000000
namespace L2
open PySem PySem.Spec PyProof.Rows
def Low (c : Nat) : Prop := 97 ≤ c ∧ c ≤ 122
def SignW (x : Str) : Prop := 1 ≤ x.cps.toList.length ∧ x.cps.toList.length ≤ 8 ∧ ∀ c ∈ x.cps.toList, Low c
def TitleW (x : Str) : Prop := ∃ c r, x.cps.toList = c :: r ∧ 65 ≤ c ∧ c ≤ 90 ∧ r.length ≤ 7 ∧ ∀ d ∈ r, Low d
theorem zoc : (Str.ofString "abcdefghijklmnopqrstuvwxyz").cps.toList = List.range' 97 26 := by decide +kernel
theorem zpV : (Str.ofString "abcdefghijklmnopqrstuvwxyz").length = 26 := by decide +kernel
theorem zfE : ∀ cs : List Nat, (Str.join (Str.ofString "") (cs.map fun c => (⟨#[c]⟩ : Str))).cps.toList = cs
  | [] => rfl
  | [c] => rfl
  | c :: d :: r => by
    have ih := zfE (d :: r)
    show ((⟨#[c]⟩ : Str) ++ Str.ofString "" ++ Str.join (Str.ofString "") ((d :: r).map fun c => (⟨#[c]⟩ : Str))).cps.toList = _
    show (#[c] ++ (Str.ofString "").cps ++ (Str.join (Str.ofString "") ((d :: r).map fun c => (⟨#[c]⟩ : Str))).cps).toList = _
    rw [Array.toList_append, Array.toList_append, ih]
    rfl
theorem zmi (cs : List Nat) : ((cs.map fun c => (⟨#[c]⟩ : Str)).map (·.length)).sum = cs.length := by
  induction cs with
  | nil => rfl
  | cons c r ih =>
    rw [List.map_cons, List.map_cons, List.sum_cons, ih, List.length_cons]
    show 1 + r.length = r.length + 1
    omega
theorem zeh : ∀ cs : List Nat, strsOf (cs.map fun c => W.str ⟨#[c]⟩) = some (cs.map fun c => (⟨#[c]⟩ : Str))
  | [] => rfl
  | c :: cs => by rw [List.map_cons, strsOf, zeh cs]; rfl
theorem zjk (cs : List Nat) (h : cs.length ≤ 1000) : (List.map (fun x => x.length) (cs.map fun c => (⟨#[c]⟩ : Str))).sum + (cs.map fun c => (⟨#[c]⟩ : Str)).length * (Str.ofString "").length ≤ 16777216 := by
  have e := zmi cs
  have z : (Str.ofString "").length = 0 := by decide +kernel
  rw [e, z]
  omega
theorem zir {lo : Int} {n : Nat} : (upto lo n).length = n := by simp [upto]
theorem zqP {α : Type} {xs : List α} (n : Int) (h : xs ≠ []) : ∃ (i : Nat) (x : α), xs[i]? = some x ∧ atI xs (n % (xs.length : Int)) = some x := by
  have hp : 0 < xs.length := List.length_pos_iff.mpr h
  have h0 : 0 ≤ n % (xs.length : Int) := Int.emod_nonneg _ (by omega)
  have h1 : n % (xs.length : Int) < (xs.length : Int) := Int.emod_lt_of_pos _ (by omega)
  have hlt : (n % (xs.length : Int)).toNat < xs.length := by omega
  refine ⟨(n % (xs.length : Int)).toNat, xs[(n % (xs.length : Int)).toNat], List.getElem?_eq_getElem hlt, ?_⟩
  have e := zor (xs := xs) (j := (n % (xs.length : Int)).toNat) (v := xs[(n % (xs.length : Int)).toNat]) (List.getElem?_eq_getElem hlt)
  rw [Int.toNat_of_nonneg h0] at e
  exact e
end L2
end

section
set_option Elab.async false
set_option linter.all false
set_option maxRecDepth 100000
set_option maxHeartbeats 4000000
namespace L2
open PySem PySem.Spec PyProof.Rows
theorem zhf (ts us : List Tr) : encs (ts ++ us) = encs ts ++ encs us := by rw [zaN, zaN, zaN, List.map_append]
end L2
end

section
set_option Elab.async false
set_option linter.all false
set_option maxRecDepth 100000
set_option maxHeartbeats 4000000
namespace L2
open PySem PySem.Spec PyProof.Rows
mutual
def Tr.plt (p : List Int) : Tr → List (List Int × Tr)
  | .bl n => [(p, .bl n)]
  | .nd s ts => (p, .nd s ts) :: plts p 0 ts
def plts (p : List Int) (i : Nat) : List Tr → List (List Int × Tr)
  | [] => []
  | t :: ts => t.plt (p ++ [(i : Int)]) ++ plts p (i + 1) ts
end
mutual
theorem zdn : ∀ (t : Tr) (p : List Int), (t.plt p).map (·.1) = t.pl p
  | .bl _, p => by simp [Tr.plt, Tr.pl]
  | .nd _ ts, p => by simp [Tr.plt, Tr.pl, zhB ts p 0]
theorem zhB : ∀ (ts : List Tr) (p : List Int) (i : Nat), (plts p i ts).map (·.1) = pls p i ts
  | [], p, i => by simp [plts, pls]
  | t :: ts, p, i => by simp [plts, pls, zdn t, zhB ts p (i + 1)]
end
mutual
theorem zdl : ∀ (t : Tr) (p : List Int), (t.plt p).length = t.weight
  | .bl _, p => by simp [Tr.plt, Tr.weight]
  | .nd _ ts, p => by simp [Tr.plt, Tr.weight, zix ts p 0]; omega
theorem zix : ∀ (ts : List Tr) (p : List Int) (i : Nat), (plts p i ts).length = wts ts
  | [], p, i => by simp [plts, wts]
  | t :: ts, p, i => by simp [plts, wts, zdl t, zix ts p (i + 1)]
end
theorem zlg {s : Str} {ts : List Tr} {i : Nat} {q : List Int} {u : Tr} (h : ts[i]? = some u) : (Tr.nd s ts).at ((i : Int) :: q) = u.at q := by
  rw [Tr.at, if_neg (by omega)]
  simp [h]
mutual
theorem zdT : ∀ (t : Tr) (p q : List Int) (u : Tr), (q, u) ∈ t.plt p → ∃ r, q = p ++ r ∧ t.at r = some u ∧ r.length < t.depth
  | .bl n, p, q, u, h => by
    simp only [Tr.plt, List.mem_singleton, Prod.mk.injEq] at h
    obtain ⟨rfl, rfl⟩ := h
    exact ⟨[], by simp, by simp [Tr.at], by simp [Tr.depth]⟩
  | .nd s ts, p, q, u, h => by
    simp only [Tr.plt, List.mem_cons, Prod.mk.injEq] at h
    rcases h with ⟨rfl, rfl⟩ | h
    · exact ⟨[], by simp, by simp [Tr.at], by simp [Tr.depth]; omega⟩
    · obtain ⟨j, v, r, h1, h2, h3, h4⟩ := zlh ts p 0 q u h
      refine ⟨(j : Int) :: r, by rw [h2]; simp, by rw [zlg h1]; exact h3, by simp [Tr.depth]; omega⟩
theorem zlh : ∀ (ts : List Tr) (p : List Int) (i : Nat) (q : List Int) (u : Tr), (q, u) ∈ plts p i ts → ∃ (j : Nat) (v : Tr) (r : List Int), ts[j]? = some v ∧ q = p ++ [((i + j : Nat) : Int)] ++ r ∧ v.at r = some u ∧ r.length < dts ts
  | [], p, i, q, u, h => by simp [plts] at h
  | t :: ts, p, i, q, u, h => by
    simp only [plts, List.mem_append] at h
    rcases h with h | h
    · obtain ⟨r, h1, h2, h3⟩ := zdT t _ q u h
      exact ⟨0, t, r, rfl, by simpa using h1, h2, by simp [dts]; omega⟩
    · obtain ⟨j, v, r, h1, h2, h3, h4⟩ := zlh ts p (i + 1) q u h
      refine ⟨j + 1, v, r, by simpa using h1, ?_, h3, by simp [dts]; omega⟩
      rw [h2, show i + 1 + j = i + (j + 1) by omega]
end
end L2
end

section
set_option Elab.async false
set_option linter.all false
set_option maxRecDepth 100000
set_option maxHeartbeats 4000000
namespace L2
open PySem PySem.Spec PyProof.Rows
theorem keep {S : Sto} {a p : Addr} {o x : Ob} (f : S a = some o) (h : S p = none) : put S p x a = some o := by rw [zaH (zrx f h)]; exact f
theorem zcr {u : Tr} : ∀ {ts : List Tr}, u ∈ ts → u.depth ≤ dts ts
  | t :: ts, h => by
    rcases List.mem_cons.mp h with rfl | h
    · simp [dts]; omega
    · have := zcr h; simp [dts]; omega
end L2
end

section
set_option Elab.async false
set_option linter.all false
set_option maxRecDepth 100000
set_option maxHeartbeats 4000000
namespace L2
open PySem PySem.Spec PyProof.Rows
theorem zaQ {α : Type} {g : WG} {e : WE} {E : WX} {G : Sto → Prop} {Q : List W → Sto → Prop} {S : Sto} (I : WSt → Prop) (k f : α → W) (hG : G S) : ∀ (xs : List α) (acc : List W) (σ : WSt), I σ → acc.length + xs.length ≤ 1000000 →
    (∀ x ∈ xs, ∀ σ (R : WSt → W → Sto → Prop), I σ → (∀ σ1 S3, I σ1 → Sub S S3 → R σ1 (f x) S3) → g (k x) σ S fun σ1 S1 => e E σ1 S1 fun y S3 => R σ1 y S3) →
    Q (acc ++ xs.map f) S → compL g wYes e E G Q (xs.map k) acc σ S
  | [], acc, σ, hI, hl, step, hQ => by simpa [compL] using hQ
  | x :: xs, acc, σ, hI, hl, step, hQ => by
    simp only [List.map_cons, compL, wYes, if_true]
    simp only [List.length_cons] at hl
    refine step x List.mem_cons_self σ _ hI fun σ1 S3 hI1 sb => ⟨zbG (by omega), S, sb, hG, zaQ I k f hG xs (acc ++ [f x]) σ1 hI1 (by simp; omega) (fun y hy => step y (List.mem_cons_of_mem _ hy)) ?_⟩
    simpa using hQ
theorem zdJ {α : Type} {g : WG} {c : WT} {e : WE} {E : WX} {G : Sto → Prop} {Q : List W → Sto → Prop} {S : Sto} (I : WSt → Prop) (k f : α → W) (P : α → Bool) (hG : G S) : ∀ (xs : List α) (acc : List W) (σ : WSt), I σ → acc.length + xs.length ≤ 1000000 →
    (∀ x ∈ xs, ∀ σ (R1 : WSt → W → Sto → Prop) (R0 : WSt → Sto → Prop), I σ → (P x = true → ∀ σ1 S3, I σ1 → Sub S S3 → R1 σ1 (f x) S3) → (P x = false → ∀ σ1 S3, I σ1 → Sub S S3 → R0 σ1 S3) →
      g (k x) σ S fun σ1 S1 => c E σ1 S1 fun b S2 => if b = true then e E σ1 S2 fun y S3 => R1 σ1 y S3 else R0 σ1 S2) →
    Q (acc ++ (xs.filter P).map f) S → compL g c e E G Q (xs.map k) acc σ S
  | [], acc, σ, hI, hl, step, hQ => by simpa [compL] using hQ
  | x :: xs, acc, σ, hI, hl, step, hQ => by
    simp only [List.map_cons, compL]
    simp only [List.length_cons] at hl
    refine step x List.mem_cons_self σ _ _ hI (fun hp σ1 S3 hI1 sb => ⟨zbG (by omega), S, sb, hG, zdJ I k f P hG xs (acc ++ [f x]) σ1 hI1 (by simp; omega) (fun y hy => step y (List.mem_cons_of_mem _ hy)) ?_⟩)
      fun hp σ1 S3 hI1 sb => ⟨S, sb, hG, zdJ I k f P hG xs acc σ1 hI1 (by omega) (fun y hy => step y (List.mem_cons_of_mem _ hy)) ?_⟩
    · rw [List.filter_cons_of_pos hp] at hQ
      simpa using hQ
    · rw [List.filter_cons_of_neg (by rw [hp]; simp)] at hQ
      exact hQ
def Tr.isBl : Tr → Bool
  | .bl _ => true
  | .nd _ _ => false
def Tr.num : Tr → Int
  | .bl n => n
  | .nd _ _ => 0
def Tr.bls (t : Tr) : List (List Int × Tr) := (t.plt []).filter fun x => x.2.isBl
theorem zfC {t : Tr} {x : List Int × Tr} (h : x ∈ t.bls) : t.at x.1 = some x.2 ∧ x.2 = .bl x.2.num ∧ x.1.length < t.depth := by
  obtain ⟨h1, h2⟩ := List.mem_filter.mp h
  obtain ⟨r, h3, h4, h5⟩ := zdT t [] x.1 x.2 h1
  simp at h3
  subst h3
  refine ⟨h4, ?_, h5⟩
  obtain ⟨p, u⟩ := x
  cases u with
  | bl n => rfl
  | nd s ts => simp [Tr.isBl] at h2
theorem zjf {t : Tr} {r : Nat} {S : Sto} {Q : WK} {E : Str → Sto → Prop} (hr : t.depth + 4 ≤ r) (hw : t.weight ≤ 90000) (h : ∀ a, S a = none → Q (.ref a) (put S a (.lst (t.bls.map fun x => encP x.1)))) : zaV (r + 1) [enc t] S Q E := by
  have hd := zcw t
  obtain ⟨r, rfl⟩ : ∃ r', r = r' + 3 := ⟨r - 3, by omega⟩
  rw [zaV]
  walk_at "wp"
  refine zlf (by omega) (by omega) (by omega) fun a ha => ?_
  walk_at "wp"
  rw [← zdn, List.map_map]
  refine zdJ (fun σ => ∃ x, σ = [x, some (enc t)]) (fun x => encP x.1) (fun x => encP x.1) (fun x => x.2.isBl) ?_ (t.plt []) [] _ ⟨none, rfl⟩ (by simp [zdl]; omega) (fun x hx σ R1 R0 hI h1 h0 => ?_) ?_
  · exact zaf
  · obtain ⟨y, rfl⟩ := hI
    obtain ⟨q, h3, h4, h5⟩ := zdT t [] x.1 x.2 hx
    simp at h3
    subst h3
    walk_at "wp"
    refine zoD h4 ?_
    obtain ⟨p, u⟩ := x
    cases u with
    | bl n =>
      simp only [enc]
      walk_at "wp"
      exact h1 rfl _ _ ⟨_, rfl⟩ .refl
    | nd s ts =>
      simp only [enc]
      walk_at "wp"
      exact h0 rfl _ _ ⟨_, rfl⟩ .refl
  · rw [List.nil_append]
    intro b hb
    obtain ⟨hb1, hb2⟩ := zcH hb
    exact ⟨_, .put2 (.put .refl ha), h b hb1⟩
mutual
def Tr.fill (us : List Tr) : Tr → Tr
  | .bl n => us.getD n.toNat (.bl n)
  | .nd s ts => .nd s (fills us ts)
def fills (us : List Tr) : List Tr → List Tr
  | [] => []
  | t :: ts => t.fill us :: fills us ts
end
mutual
def Tr.fits (m : Nat) : Tr → Prop
  | .bl n => 0 ≤ n ∧ n < m
  | .nd _ ts => fitss m ts
def fitss (m : Nat) : List Tr → Prop
  | [] => True
  | t :: ts => t.fits m ∧ fitss m ts
end
theorem zgk (us : List Tr) : ∀ ts : List Tr, fills us ts = ts.map (Tr.fill us)
  | [] => by simp [fills]
  | t :: ts => by simp [fills, zgk us ts]
theorem zei {m : Nat} {t : Tr} : ∀ {ts : List Tr}, fitss m ts → t ∈ ts → t.fits m
  | u :: ts, h, hm => by
    simp only [fitss] at h
    rcases List.mem_cons.mp hm with rfl | hm
    · exact h.1
    · exact zei h.2 hm
end L2
end

section
set_option Elab.async false
set_option linter.all false
set_option maxRecDepth 100000
set_option maxHeartbeats 4000000
namespace L2
open PySem PySem.Spec PyProof.Rows
theorem zpX (t : Tr) : t.at [] = some t := by cases t <;> rfl
theorem zrc {s : Str} {ts : List Tr} {i : Int} {p : List Int} {u : Tr} (h : (Tr.nd s ts).at (i :: p) = some u) : ∃ v, 0 ≤ i ∧ ts[i.toNat]? = some v ∧ v.at p = some u := by
  unfold Tr.at at h
  split at h
  · cases h
  · split at h
    · exact ⟨_, by omega, ‹_›, h⟩
    · cases h
theorem znq : ∀ (q : List Int) {D t : Tr} (r : List Int), D.at q = some t → D.at (q ++ r) = t.at r
  | [], D, t, r, h => by rw [zpX] at h; cases h; rfl
  | i :: q, .bl n, t, r, h => by cases h
  | i :: q, .nd s ts, t, r, h => by
    obtain ⟨v, h0, h1, h2⟩ := zrc h
    rw [List.cons_append]
    have e : (i : Int) = ((i.toNat : Nat) : Int) := (Int.toNat_of_nonneg h0).symm
    rw [e, zlg h1]
    exact znq q r h2
end L2
end

section
set_option Elab.async false
set_option linter.all false
set_option maxRecDepth 100000
set_option maxHeartbeats 4000000
namespace L2
open PySem PySem.Spec PyProof.Rows
mutual
def Tr.same : Tr → Tr → Bool
  | .bl n, .bl m => n == m
  | .nd s ts, .nd z us => s == z && sames ts us
  | _, _ => false
def sames : List Tr → List Tr → Bool
  | [], [] => true
  | t :: ts, u :: us => t.same u && sames ts us
  | _, _ => false
end
mutual
theorem ziF : ∀ (t u : Tr), t.same u = true ↔ t = u
  | .bl n, .bl m => by simp [Tr.same]
  | .nd s ts, .nd z us => by simp [Tr.same, zgt ts us]
  | .bl n, .nd z us => by simp [Tr.same]
  | .nd s ts, .bl m => by simp [Tr.same]
theorem zgt : ∀ (ts us : List Tr), sames ts us = true ↔ ts = us
  | [], [] => by simp [sames]
  | t :: ts, u :: us => by simp [sames, ziF t u, zgt ts us]
  | [], u :: us => by simp [sames]
  | t :: ts, [] => by simp [sames]
end
theorem zks (t : Tr) : t.same t = true := (ziF t t).mpr rfl
theorem zkn {S : Sto} {n : Nat} {xs ys : List W} : eqF S (n + 1) (.tup xs) (.tup ys) = eqFs (eqF S n) xs ys := by rw [eqF]
theorem zlw {S : Sto} {n : Nat} {x y : Str} : eqF S (n + 1) (.str x) (.str y) = some (x == y) := by rw [eqF]
theorem zni {S : Sto} {n : Nat} {x y : Int} : eqF S (n + 1) (.int x) (.int y) = some (x == y) := by rw [eqF]
theorem zqV {S : Sto} {n : Nat} {x : Int} {ys : List W} : eqF S (n + 1) (.int x) (.tup ys) = some false := by rw [eqF]
theorem zrf {S : Sto} {n : Nat} {x : Int} {ys : List W} : eqF S (n + 1) (.tup ys) (.int x) = some false := by rw [eqF]
mutual
theorem zqN {S : Sto} : ∀ (n : Nat) (t u : Tr), t.depth < n → eqF S n (enc t) (enc u) = some (t.same u)
  | 0, t, u, h => by omega
  | n + 1, .bl k, .bl m, h => by simp only [enc, zni, Tr.same]
  | n + 1, .nd s ts, .nd z us, h => by
    simp only [Tr.depth] at h
    obtain ⟨n, rfl⟩ : ∃ m, n = m + 1 := ⟨n - 1, by omega⟩
    simp only [enc, zkn, eqFs, zlw, Tr.same]
    rw [znd (n + 1) ts us (by omega)]
  | n + 1, .bl k, .nd z us, h => by simp only [enc, zqV, Tr.same]
  | n + 1, .nd s ts, .bl m, h => by simp only [enc, zrf, Tr.same]
theorem znd {S : Sto} : ∀ (n : Nat) (ts us : List Tr), dts ts < n → eqFs (eqF S n) (encs ts) (encs us) = some (sames ts us)
  | n, [], [], h => by simp only [encs, eqFs, sames]
  | n, [], u :: us, h => by simp only [encs, eqFs, sames]
  | n, t :: ts, [], h => by simp only [encs, eqFs, sames]
  | n, t :: ts, u :: us, h => by
    simp only [dts] at h
    simp only [encs, eqFs, sames, zqN n t u (by omega), znd n ts us (by omega)]
end
theorem ziL (n : Int) : n % 2 = 0 ∨ n % 2 = 1 := by omega
theorem zgu (j : Int) (m : Nat) : upto j (m + 1) = .int j :: upto (j + 1) m := by
  unfold upto
  rw [List.range_succ_eq_map, List.map_cons, List.map_map]
  congr 1
  · simp
  · apply List.map_congr_left
    intro i _
    simp only [Function.comp, W.int.injEq]
    omega
theorem zfP {α : Type} {xs : List α} {i : Int} (h0 : 0 ≤ i) (h1 : i < xs.length) : ∃ x, atI xs i = some x ∧ x ∈ xs := by
  have q := zbu (xs := xs) (n := i.toNat)
  rw [Int.toNat_of_nonneg h0, List.getElem?_eq_getElem (by omega)] at q
  exact ⟨_, q, List.getElem_mem ..⟩
theorem zpd {ss : List Str} {i : Int} (h0 : 0 ≤ i) (h1 : i < ss.length) : ∃ x, atI (ss.map W.str) i = some (.str x) ∧ x ∈ ss := by
  obtain ⟨w, h, m⟩ := zfP (xs := ss.map W.str) h0 (by simpa using h1)
  obtain ⟨x, hx, rfl⟩ := List.mem_map.mp m
  exact ⟨x, h, hx⟩
theorem zlm {g : WG} {b : WS} {E : WX} {D : WEnds} (I : Nat → WSt → Sto → Prop) (n : Nat)
    (step : ∀ i, i < n → ∀ σ S (N : WSt → Sto → Prop), I i σ S → (∀ σ' S' S'', Sub S'' S' → I (i + 1) σ' S'' → N σ' S') → g (.int i) σ S fun σ1 S1 => b E { D with nx := N, ct := N, bk := D.nx } σ1 S1)
    (done : ∀ σ S, I n σ S → D.nx σ S) {σ : WSt} {S : Sto} (h : I 0 σ S) : forL g b E D (fun _ => True) (upto 0 n) σ S := by
  refine zhb (fun ws σ S => ∃ i, i ≤ n ∧ ws = upto (i : Int) (n - i) ∧ I i σ S) ?_ ?_ _ _ _ ⟨0, Nat.zero_le _, rfl, h⟩
  · rintro w ws σ S N ⟨i, hi, e, hI⟩ hN
    obtain ⟨m, hm⟩ : ∃ m, n - i = m + 1 := by
      rcases Nat.eq_zero_or_pos (n - i) with z | z
      · rw [z] at e; cases e
      · exact ⟨n - i - 1, by omega⟩
    rw [hm, zgu] at e
    cases e
    exact step i (by omega) σ S N hI fun σ' S' S'' sb h' => hN σ' S' S'' sb trivial ⟨i + 1, by omega, by rw [show n - (i + 1) = m by omega]; push_cast; rfl, h'⟩
  · rintro σ S ⟨i, hi, e, hI⟩
    have : n - i = 0 := by
      rcases Nat.eq_zero_or_pos (n - i) with z | z
      · exact z
      · obtain ⟨m, hm⟩ : ∃ m, n - i = m + 1 := ⟨n - i - 1, by omega⟩
        rw [hm, zgu] at e
        cases e
    rw [show i = n by omega] at hI
    exact done σ S hI
mutual
theorem zeu {us : List Tr} {k : Nat} (hk : 1 ≤ k) (hu : ∀ u ∈ us, u.depth ≤ k) : ∀ t : Tr, (t.fill us).depth ≤ t.depth + k
  | .bl n => by
    simp only [Tr.fill, Tr.depth]
    rw [List.getD_eq_getElem?_getD]
    cases e : us[n.toNat]? with
    | none => simp [Tr.depth]
    | some u =>
      have := hu u (List.mem_of_getElem? e)
      simp only [Option.getD_some]
      omega
  | .nd s ts => by
    have := zee hk hu ts
    simp only [Tr.fill, Tr.depth]
    omega
theorem zee {us : List Tr} {k : Nat} (hk : 1 ≤ k) (hu : ∀ u ∈ us, u.depth ≤ k) : ∀ ts : List Tr, dts (fills us ts) ≤ dts ts + k
  | [] => by simp [fills, dts]
  | t :: ts => by
    have := zeu hk hu t
    have := zee hk hu ts
    simp only [fills, dts]
    omega
end
theorem zkh {k : Nat} : ∀ {ts : List Tr}, (∀ t ∈ ts, t.depth ≤ k) → dts ts ≤ k
  | [], _ => by simp [dts]
  | t :: ts, h => by
    have := h t List.mem_cons_self
    have := zkh (ts := ts) fun u hu => h u (List.mem_cons_of_mem _ hu)
    simp only [dts]
    omega
end L2
end

section
set_option Elab.async false
set_option linter.all false
set_option maxRecDepth 100000
set_option maxHeartbeats 4000000
namespace L2
open PySem PySem.Spec PyProof.Rows
theorem zbw {g : WG} {b : WS} {E : WX} {D : WEnds} {G : Sto → Prop} {w : W} {ws : List W} {σ : WSt} {S : Sto} (h : ∀ N : WSt → Sto → Prop, (∀ σ S S', Sub S' S → G S' → forL g b E D G ws σ S' → N σ S) → g w σ S fun σ1 S1 => b E { D with nx := N, ct := N, bk := D.nx } σ1 S1) : forL g b E D G (w :: ws) σ S := h _ fun σ S S' a c d => ⟨S', a, c, d⟩
mutual
def Tr.mt : Tr → Tr → Option (List Tr)
  | .bl _, t => some [t]
  | .nd s ls, .nd z us => if s == z && ls.length == us.length then mts ls us else none
  | .nd _ _, .bl _ => none
def mts : List Tr → List Tr → Option (List Tr)
  | [], _ => some []
  | _ :: _, [] => some []
  | l :: ls, u :: us => match l.mt u with
    | none => none
    | some xs => match mts ls us with
      | none => none
      | some ys => some (xs ++ ys)
end
theorem zrF {s z : Str} {ls us : List Tr} {r : Nat} {S : Sto} {Q : WK} {E : Str → Sto → Prop} (h : Q (.bl (s == z && ls.length == us.length)) S) : zaX (r + 1) [enc (.nd s ls), enc (.nd z us)] S Q E := by
  rw [zaX]
  simp only [enc]
  walk_at "wp"
  cases e : s == z with
  | false =>
    rw [e] at h
    exact ⟨_, .refl, h⟩
  | true =>
    rw [e] at h
    walk_at "wp"
    refine ⟨_, .refl, ?_⟩
    have : (((encs ls).length + 1 : Nat) : Int) = ((encs us).length + 1 : Nat) ↔ ls.length = us.length := by rw [zbd, zbd]; omega
    have e2 : ((((encs ls).length + 1 : Nat) : Int) == ((encs us).length + 1 : Nat)) = (ls.length == us.length) := by
      rw [Bool.eq_iff_iff, beq_iff_eq, beq_iff_eq]
      exact this
    rw [e2]
    simpa using h
mutual
theorem znb : ∀ (l t : Tr) (ys : List Tr), l.mt t = some ys → ys.length ≤ l.weight
  | .bl _, t, ys, h => by simp only [Tr.mt, Option.some.injEq] at h; subst h; simp [Tr.weight]
  | .nd s ls, .nd z us, ys, h => by
    simp only [Tr.mt] at h
    split at h
    · have := zln ls us ys h
      simp only [Tr.weight]
      omega
    · cases h
  | .nd _ _, .bl _, ys, h => by simp [Tr.mt] at h
theorem zln : ∀ (ls us ys : List Tr), mts ls us = some ys → ys.length ≤ wts ls
  | [], us, ys, h => by simp only [mts, Option.some.injEq] at h; subst h; simp
  | l :: ls, [], ys, h => by simp only [mts, Option.some.injEq] at h; subst h; simp
  | l :: ls, u :: us, ys, h => by
    simp only [mts] at h
    split at h
    · cases h
    · rename_i xs e1
      split at h
      · cases h
      · rename_i zs e2
        cases h
        have := znb l u xs e1
        have := zln ls us zs e2
        simp only [List.length_append, wts]
        omega
end
theorem zdN {r : Nat} {a : Addr} {E : WX} {D : WEnds} {x0 x1 : Option W} : ∀ (ls us : List Tr)
    (one : ∀ l ∈ ls, ∀ {t : Tr} {S : Sto} {xs : List W} {Q : WK} {E : Str → Sto → Prop}, t.fits 0 → S a = some (.lst xs) → xs.length + l.weight ≤ 100000 → (∀ ys, l.mt t = some ys → Q (.bl true) (put S a (.lst (xs ++ encs ys)))) → (l.mt t = none → ∀ ys, Q (.bl false) (put S a (.lst (xs ++ ys)))) → zar r [enc l, enc t, .ref a] S Q E)
    {S : Sto} {xs : List W} {x3 x4 : Option W}, fitss 0 us → S a = some (.lst xs) → xs.length + wts ls ≤ 100000 →
    (∀ ys x3 x4, mts ls us = some ys → D.nx [x0, x1, some (.ref a), x3, x4] (put S a (.lst (xs ++ encs ys)))) → (mts ls us = none → ∀ ys, D.rt (.bl false) (put S a (.lst (xs ++ ys)))) →
    forL (wGT (wGcons (wGN 3) (wGcons (wGN 4) wGnil))) (zbr r (zar r)) E D (fun _ => True) (pairs (encs ls) (encs us)) [x0, x1, some (.ref a), x3, x4] S
  | [], us, one, S, xs, x3, x4, hf, ha, hl, h1, h0 => by
    have q := h1 [] x3 x4 (by simp [mts])
    simp only [encs, List.append_nil, zcv ha] at q
    simpa [encs, pairs, forL] using q
  | l :: ls, [], one, S, xs, x3, x4, hf, ha, hl, h1, h0 => by
    have q := h1 [] x3 x4 (by simp [mts])
    simp only [encs, List.append_nil, zcv ha] at q
    simpa [encs, pairs, forL] using q
  | l :: ls, u :: us, one, S, xs, x3, x4, hf, ha, hl, h1, h0 => by
    simp only [fitss] at hf
    simp only [wts] at hl
    simp only [encs, pairs]
    refine zbw fun N hN => ?_
    simp only [zbr]
    walk_at "wp"
    refine one l List.mem_cons_self hf.1 ha (by omega) (fun ys e => ?_) fun e ys => ?_
    · walk_at "wp"
      have hyl := znb l u ys e
      refine hN _ _ _ .refl trivial (zdN ls us (fun l' hl' => one l' (List.mem_cons_of_mem _ hl')) hf.2 zaf (by rw [List.length_append, zbd]; omega) (fun zs x3 x4 e2 => ?_) fun e2 zs => ?_)
      · rw [zaE, List.append_assoc, ← zhf]
        exact h1 _ _ _ (by simp only [mts, e, e2])
      · rw [zaE, List.append_assoc]
        exact h0 (by simp only [mts, e, e2]) _
    · walk_at "wp"
      exact h0 (by simp only [mts, e]) ys
theorem ziA {a : Addr} : ∀ (d : Nat) {l t : Tr} {r : Nat} {S : Sto} {xs : List W} {Q : WK} {E : Str → Sto → Prop}, l.depth ≤ d → d ≤ r → t.fits 0 → S a = some (.lst xs) → xs.length + l.weight ≤ 100000 →
    (∀ ys, l.mt t = some ys → Q (.bl true) (put S a (.lst (xs ++ encs ys)))) → (l.mt t = none → ∀ ys, Q (.bl false) (put S a (.lst (xs ++ ys)))) → zar (r + 1) [enc l, enc t, .ref a] S Q E
  | 0, l, t, r, S, xs, Q, E, hd, hr, hf, ha, hl, h1, h0 => by have := zbc l; omega
  | d + 1, .bl n, t, r, S, xs, Q, E, hd, hr, hf, ha, hl, h1, h0 => by
    have hw := zdk (.bl n)
    rw [zar]
    simp only [enc]
    walk_at "wp"
    simp only [zai ha, true_and]
    refine ⟨zbG (by omega), _, .refl, ?_⟩
    have := h1 [t] (by simp [Tr.mt])
    simpa only [encs] using this
  | d + 1, .nd s ls, .bl n, r, S, xs, Q, E, hd, hr, hf, ha, hl, h1, h0 => by
    simp only [Tr.fits] at hf
    omega
  | d + 1, .nd s ls, .nd z us, r, S, xs, Q, E, hd, hr, hf, ha, hl, h1, h0 => by
    simp only [Tr.fits] at hf
    simp only [Tr.depth] at hd
    simp only [Tr.weight] at hl
    obtain ⟨r, rfl⟩ : ∃ r', r = r' + 1 := ⟨r - 1, by omega⟩
    have en : ∀ s ts, enc (.nd s ts) = .tup (.str s :: encs ts) := fun s ts => by simp [enc]
    rw [zar]
    walk_at "wp"
    rw [en, en]
    walk_at "wp"
    rw [← en, ← en]
    refine zrF ?_
    rw [en, en]
    walk_at "wp"
    simp only [Tr.mt] at h1 h0
    cases e : (s == z && ls.length == us.length) with
    | false =>
      rw [e] at h0
      have := h0 (by simp) []
      rw [List.append_nil, zcv ha] at this
      exact ⟨_, .refl, this⟩
    | true =>
      rw [e] at h0 h1
      simp only [if_true] at h0 h1
      walk_at "wp"
      refine zdN ls us (fun l hl' {t S xs Q E} f1 f2 f3 f4 f5 => ziA d (by have := zcr hl'; omega) (by omega) f1 f2 f3 f4 f5) hf ha (by omega) (fun ys x3 x4 e => ?_) fun e ys => ?_
      · walk_at "wp"
        exact ⟨_, .refl, h1 ys e⟩
      · exact ⟨_, .refl, h0 e ys⟩
theorem zeF {l t : Tr} {r : Nat} {S : Sto} {Q : WK} {E : Str → Sto → Prop} (hr : l.depth < r) (hf : t.fits 0) (hw : l.weight ≤ 90000) (h1 : ∀ ys, l.mt t = some ys → ∀ a, S a = none → Q (.ref a) (put S a (.lst (encs ys)))) (h0 : l.mt t = none → Q .non S) : zbF (r + 1) [enc l, enc t] S Q E := by
  obtain ⟨r, rfl⟩ : ∃ r', r = r' + 1 := ⟨r - 1, by omega⟩
  rw [zbF]
  walk_at "wp"
  refine ⟨Nat.zero_le _, fun a ha => ziA l.depth (Nat.le_refl _) (by omega) hf zaf (by simpa using (by omega : l.weight ≤ 100000)) (fun ys e => ?_) fun e ys => ?_⟩
  · walk_at "wp"
    exact ⟨_, .refl, h1 ys e a ha⟩
  · walk_at "wp"
    exact ⟨_, .put .refl ha, h0 e⟩
end L2
end

section
set_option Elab.async false
set_option linter.all false
set_option maxRecDepth 100000
set_option maxHeartbeats 4000000
namespace L2
open PySem PySem.Spec PyProof.Rows
end L2
end

section
set_option Elab.async false
set_option linter.all false
set_option maxRecDepth 100000
set_option maxHeartbeats 4000000
namespace L2
open PySem PySem.Spec PyProof.Rows
end L2
end

section
set_option Elab.async false
set_option linter.all false
set_option maxRecDepth 100000
set_option maxHeartbeats 4000000
namespace L2
open PySem PySem.Spec PyProof.Rows
end L2
end

section
set_option Elab.async false
set_option linter.all false
set_option maxRecDepth 100000
set_option maxHeartbeats 4000000
namespace L2
open PySem PySem.Spec PyProof.Rows
def smallC (c : Nat) : Bool := decide (97 ≤ c) && decide (c ≤ 122)
def small (xs : List Nat) : Bool := xs.all smallC
theorem zhA (x : Str) : (Txt.slice x (some 1) none).cps.toList = x.cps.toList.drop 1 := by
  rw [zkI]
  unfold cutN
  rw [HT.sIx_none]
  have ez : HT.sIx x.cps.toList.length 0 (some 1) = min 1 x.cps.toList.length := HT.sIx_nat x.cps.toList.length 0 1
  rw [ez]
  by_cases h : 1 ≤ x.cps.toList.length
  · rw [Nat.min_eq_left h, List.take_of_length_le (by rw [List.length_drop]; exact Nat.le_refl _)]
  · have : x.cps.toList = [] := List.eq_nil_of_length_eq_zero (by omega)
    rw [this]; rfl
theorem zdO (x : Str) : x.length = x.cps.toList.length := by simp [Str.length]
end L2
end

section
set_option Elab.async false
set_option linter.all false
set_option maxRecDepth 100000
set_option maxHeartbeats 4000000
namespace L2
open PySem PySem.Spec PyProof.Rows
end L2
end

section
set_option Elab.async false
set_option linter.all false
set_option maxRecDepth 100000
set_option maxHeartbeats 4000000
namespace L2
open PySem PySem.Spec PyProof.Rows
end L2
end

section
set_option Elab.async false
set_option linter.all false
set_option maxRecDepth 100000
set_option maxHeartbeats 4000000
namespace L2
open PySem PySem.Spec PyProof.Rows
theorem zpk {t : Tr} {x : List Int × Tr} (h : x ∈ t.plt []) : t.at x.1 = some x.2 ∧ x.1.length < t.depth := by
  obtain ⟨q, h3, h4, h5⟩ := zdT t [] x.1 x.2 h
  simp at h3
  subst h3
  exact ⟨h4, h5⟩
end L2
end

section
set_option Elab.async false
set_option linter.all false
set_option maxRecDepth 100000
set_option maxHeartbeats 4000000
namespace L2
open PySem PySem.Spec PyProof.Rows
theorem zdi {α : Type} {g : WG} {b : WS} {E : WX} {D : WEnds} {G : Sto → Prop} {S : Sto} (hG : G S) (I : WSt → Prop) (key : α → W) (f : α → Option W) : ∀ (xs : List α) (σ : WSt), I σ →
    (∀ x ∈ xs, ∀ σ (N : WSt → Sto → Prop), I σ → (f x = none → ∀ σ' S', I σ' → Sub S S' → N σ' S') → (∀ w, f x = some w → ∀ S', Sub S S' → D.rt w S') → g (key x) σ S fun σ1 S1 => b E { D with nx := N, ct := N, bk := D.nx } σ1 S1) →
    (xs.findSome? f = none → ∀ σ, I σ → D.nx σ S) → (∀ w, xs.findSome? f = some w → ∀ S', Sub S S' → D.rt w S') → forL g b E D G (xs.map key) σ S
  | [], σ, hI, step, done, ret => by
    have := done rfl σ hI
    simpa [forL] using this
  | x :: xs, σ, hI, step, done, ret => by
    rw [List.map_cons]
    refine zbw fun N hN => ?_
    refine step x List.mem_cons_self σ N hI (fun e σ' S' hI' sb => ?_) fun w e S' sb => ret w (by rw [List.findSome?_cons, e]) S' sb
    refine hN _ _ S sb hG (zdi hG I key f xs σ' hI' (fun y hy => step y (List.mem_cons_of_mem _ hy)) (fun e2 => done (by rw [List.findSome?_cons, e]; exact e2)) fun w e2 => ret w (by rw [List.findSome?_cons, e]; exact e2))
abbrev Tn := Str × Tr × Tr
def encT (t : Tn) : W := .tup [.str t.1, enc t.2.1, enc t.2.2]
def Tn0 : Tn := ("", .bl 0, .bl 0)
def lf (ts : List Tn) (j : Nat) : Tr := (ts.getD j Tn0).2.1
theorem ziZ (n : Nat) : upto 0 n = (List.range n).map fun (i : Nat) => W.int i := by
  unfold upto
  apply List.map_congr_left
  intro i _
  simp
end L2
end

section
set_option Elab.async false
set_option linter.all false
set_option maxRecDepth 100000
set_option maxHeartbeats 4000000
namespace L2
open PySem PySem.Spec PyProof.Rows
end L2
end

section
set_option Elab.async false
set_option linter.all false
set_option maxRecDepth 100000
set_option maxHeartbeats 4000000
namespace L2
open PySem PySem.Spec PyProof.Rows
end L2
end

section
set_option Elab.async false
set_option linter.all false
set_option maxRecDepth 100000
set_option maxHeartbeats 4000000
namespace L2
open PySem PySem.Spec PyProof.Rows

end L2
end

section
set_option Elab.async false
set_option linter.all false
set_option maxRecDepth 100000
set_option maxHeartbeats 4000000
namespace L2
open PySem PySem.Spec PyProof.Rows
theorem zdq {ns : List Int} {k : Int} {r : Nat} {S : Sto} {Q : WK} {E : Str → Sto → Prop} (h0 : 0 ≤ k) (h : ∀ n : Int, Q (.int n) S) : zas (r + 1) [.scr ns, .int k] S Q E := by
  rw [zas]
  walk_at "wp"
  split
  · obtain ⟨x, e, _⟩ := zfP (xs := ns) (i := k) h0 (by omega)
    rw [e]
    exact ⟨S, .refl, h _⟩
  · exact ⟨S, .refl, h _⟩
def lt (rs : List Int) (pos : Int) (k j : Nat) : Nat := 97 + ((rs.getD j 0 + (k : Int) * (if (0 + (j : Int) == pos) = true then 1 else 0)) % 26).toNat
def wcode (rs : List Int) (pos : Int) (k : Nat) : List Nat := (List.range rs.length).map (lt rs pos k)
def wd0 (rs : List Int) (pos : Int) (k : Nat) : Str := Str.join (Str.ofString "") ((wcode rs pos k).map fun c => (⟨#[c]⟩ : Str))
def wd1 (rs : List Int) (pos : Int) (k : Nat) : Str := Txt.upper ⟨#[lt rs pos k 0]⟩ ++ Txt.slice (wd0 rs pos k) (some 1) none
def wd (great : Bool) (rs : List Int) (pos : Int) (k : Nat) : Str := if great then wd1 rs pos k else wd0 rs pos k
theorem zex (rs : List Int) (pos : Int) (k j : Nat) : Low (lt rs pos k j) := by
  have h0 := Int.emod_nonneg (rs.getD j 0 + (k : Int) * (if (0 + (j : Int) == pos) = true then 1 else 0)) (show (26 : Int) ≠ 0 by decide)
  have h1 := Int.emod_lt_of_pos (rs.getD j 0 + (k : Int) * (if (0 + (j : Int) == pos) = true then 1 else 0)) (show (0 : Int) < 26 by decide)
  unfold lt Low
  omega
theorem zri {n : Int} (h0 : 0 ≤ n) (h1 : n < 26) : atI (Str.ofString "abcdefghijklmnopqrstuvwxyz").cps.toList n = some (97 + n.toNat) := by
  have e := zbu (xs := (Str.ofString "abcdefghijklmnopqrstuvwxyz").cps.toList) (n := n.toNat)
  rw [Int.toNat_of_nonneg h0] at e
  rw [e, zoc, List.getElem?_range' (by omega)]
  simp
theorem zdC (rs : List Int) (pos : Int) (k : Nat) : (wd0 rs pos k).cps.toList = wcode rs pos k := zfE _
theorem zdU (rs : List Int) (pos : Int) (k : Nat) : (wcode rs pos k).length = rs.length := by simp [wcode]
theorem zgi {rs : List Int} {pos : Int} {k c : Nat} (h : c ∈ wcode rs pos k) : Low c := by
  obtain ⟨j, _, rfl⟩ := List.mem_map.mp h
  exact zex rs pos k j
theorem ziY {rs : List Int} (pos : Int) (k : Nat) (h : 1 ≤ rs.length) : wcode rs pos k = lt rs pos k 0 :: (wcode rs pos k).drop 1 := by
  unfold wcode
  obtain ⟨n, hn⟩ : ∃ n, rs.length = n + 1 := ⟨rs.length - 1, by omega⟩
  rw [hn, List.range_succ_eq_map]
  simp
theorem zgj {c : Nat} (h : Low c) : Txt.upper ⟨#[c]⟩ = ⟨#[c - 32]⟩ := by
  unfold Low at h
  rw [PySem.W.KOpn.upper_one (by omega), if_pos h]
theorem zhJ {rs : List Int} (pos : Int) (k : Nat) : (wd1 rs pos k).cps.toList = (lt rs pos k 0 - 32) :: (wcode rs pos k).drop 1 := by
  unfold wd1
  rw [zgj (zex _ _ _ _)]
  show ((#[lt rs pos k 0 - 32] : Array Nat) ++ (Txt.slice (wd0 rs pos k) (some 1) none).cps).toList = _
  rw [Array.toList_append, zhA, zdC]
  rfl
structure Base (rs : List Int) (pos : Int) : Prop where
  l1 : 1 ≤ rs.length
  l8 : rs.length ≤ 8
  p0 : 0 ≤ pos
  p1 : pos < rs.length
theorem zhT {rs : List Int} {pos : Int} (b : Base rs pos) (k : Nat) : SignW (wd0 rs pos k) := by
  unfold SignW
  rw [zdC, zdU]
  exact ⟨b.l1, b.l8, fun c hc => zgi hc⟩
theorem zkd {rs : List Int} {pos : Int} (b : Base rs pos) (k : Nat) : TitleW (wd1 rs pos k) := by
  have := zex rs pos k 0
  have hl := b.l8
  unfold Low at this
  refine ⟨_, _, zhJ pos k, by omega, by omega, by rw [List.length_drop, zdU]; omega, fun d hd => zgi (List.mem_of_mem_drop hd)⟩
theorem zsj {rs : List Int} {pos : Int} (b : Base rs pos) {k m : Nat} (hk : k < 26) (hm : m < 26) (h : k ≠ m) : lt rs pos k pos.toNat ≠ lt rs pos m pos.toNat := by
  have p0 := b.p0
  have e : (0 + ((pos.toNat : Nat) : Int) == pos) = true := by rw [beq_iff_eq]; omega
  unfold lt
  rw [e, if_pos rfl]
  omega
theorem zqG {great : Bool} {rs : List Int} {pos : Int} (b : Base rs pos) {k m : Nat} (hk : k < 26) (hm : m < 26) (h : k ≠ m) : wd great rs pos k ≠ wd great rs pos m := by
  have hn := zsj b hk hm h
  have p0 := b.p0
  have p1 := b.p1
  intro e
  have e' := congrArg (fun x : Str => x.cps.toList) e
  cases great with
  | false =>
    simp only [wd, Bool.false_eq_true, if_false, zdC] at e'
    have e2 := congrArg (fun l => l[pos.toNat]?) e'
    simp only [wcode, List.getElem?_map, List.getElem?_range (show pos.toNat < rs.length by omega), Option.map_some, Option.some.injEq] at e2
    exact hn e2
  | true =>
    simp only [wd, if_true, zhJ] at e'
    have e2 := congrArg (fun l => l[pos.toNat]?) e'
    cases hp : pos.toNat with
    | zero =>
      rw [hp] at hn
      have h1 := zex rs pos k 0
      have h2 := zex rs pos m 0
      unfold Low at h1 h2
      simp only [hp, List.getElem?_cons_zero, Option.some.injEq] at e2
      omega
    | succ n =>
      rw [hp] at hn
      simp only [hp, List.getElem?_cons_succ, List.getElem?_drop, wcode, List.getElem?_map] at e2
      rw [show 1 + n = n + 1 by omega, List.getElem?_range (show n + 1 < rs.length by omega)] at e2
      simp only [Option.map_some, Option.some.injEq] at e2
      exact hn e2
def WordsOk (great : Bool) (ws : List Str) : Prop := ∃ rs pos, Base rs pos ∧ (ws = (List.range 6).map (wd great rs pos) ∨ (great = false ∧ ws = [wd0 rs pos 0, wd0 rs pos 1, wd0 rs pos 2, wd0 rs pos 2, wd0 rs pos 2, wd0 rs pos 5]))
structure Signs (w0 w1 w2 w3 w4 w5 : Str) : Prop where
  ok : ∀ x ∈ [w0, w1, w2, w3, w4, w5], SignW x
  n0 : ∀ x ∈ [w1, w2, w3, w4, w5], w0 ≠ x
  n1 : ∀ x ∈ [w2, w3, w4, w5], w1 ≠ x
  n5 : ∀ x ∈ [w2, w3, w4], w5 ≠ x
theorem zhj {ws : List Str} (h : WordsOk false ws) : ∃ w0 w1 w2 w3 w4 w5, ws = [w0, w1, w2, w3, w4, w5] ∧ Signs w0 w1 w2 w3 w4 w5 := by
  obtain ⟨rs, pos, b, h⟩ := h
  have hs := fun k => zhT b k
  have hn : ∀ k m : Nat, k < 26 → m < 26 → k ≠ m → wd0 rs pos k ≠ wd0 rs pos m := fun k m h1 h2 h3 => zqG (great := false) b h1 h2 h3
  rcases h with rfl | ⟨_, rfl⟩
  · refine ⟨_, _, _, _, _, _, rfl, ⟨?_, ?_, ?_, ?_⟩⟩
    · simp only [List.mem_cons, List.not_mem_nil, or_false, forall_eq_or_imp, forall_eq]
      exact ⟨hs 0, hs 1, hs 2, hs 3, hs 4, hs 5⟩
    · simp only [List.mem_cons, List.not_mem_nil, or_false, forall_eq_or_imp, forall_eq]
      exact ⟨hn 0 1 (by decide) (by decide) (by decide), hn 0 2 (by decide) (by decide) (by decide), hn 0 3 (by decide) (by decide) (by decide), hn 0 4 (by decide) (by decide) (by decide), hn 0 5 (by decide) (by decide) (by decide)⟩
    · simp only [List.mem_cons, List.not_mem_nil, or_false, forall_eq_or_imp, forall_eq]
      exact ⟨hn 1 2 (by decide) (by decide) (by decide), hn 1 3 (by decide) (by decide) (by decide), hn 1 4 (by decide) (by decide) (by decide), hn 1 5 (by decide) (by decide) (by decide)⟩
    · simp only [List.mem_cons, List.not_mem_nil, or_false, forall_eq_or_imp, forall_eq]
      exact ⟨hn 5 2 (by decide) (by decide) (by decide), hn 5 3 (by decide) (by decide) (by decide), hn 5 4 (by decide) (by decide) (by decide)⟩
  · refine ⟨_, _, _, _, _, _, rfl, ⟨?_, ?_, ?_, ?_⟩⟩
    · simp only [List.mem_cons, List.not_mem_nil, or_false, forall_eq_or_imp, forall_eq]
      exact ⟨hs 0, hs 1, hs 2, hs 2, hs 2, hs 5⟩
    · simp only [List.mem_cons, List.not_mem_nil, or_false, forall_eq_or_imp, forall_eq]
      exact ⟨hn 0 1 (by decide) (by decide) (by decide), hn 0 2 (by decide) (by decide) (by decide), hn 0 2 (by decide) (by decide) (by decide), hn 0 2 (by decide) (by decide) (by decide), hn 0 5 (by decide) (by decide) (by decide)⟩
    · simp only [List.mem_cons, List.not_mem_nil, or_false, forall_eq_or_imp, forall_eq]
      exact ⟨hn 1 2 (by decide) (by decide) (by decide), hn 1 2 (by decide) (by decide) (by decide), hn 1 2 (by decide) (by decide) (by decide), hn 1 5 (by decide) (by decide) (by decide)⟩
    · simp only [List.mem_cons, List.not_mem_nil, or_false, forall_eq_or_imp, forall_eq]
      exact ⟨hn 5 2 (by decide) (by decide) (by decide), hn 5 2 (by decide) (by decide) (by decide), hn 5 2 (by decide) (by decide) (by decide)⟩
structure Titles (ts : List Str) : Prop where
  len : ts.length = 6
  ok : ∀ x ∈ ts, TitleW x
  nd : ts.Nodup
theorem zdr {ws : List Str} (h : WordsOk true ws) : Titles ws := by
  obtain ⟨rs, pos, b, h⟩ := h
  rcases h with rfl | ⟨e, _⟩
  · refine ⟨by simp, fun x hx => ?_, ?_⟩
    · obtain ⟨k, _, rfl⟩ := List.mem_map.mp hx
      exact zkd b k
    · rw [List.Nodup, List.pairwise_map]
      refine List.Pairwise.imp_of_mem (fun {a c} ha hc hne => ?_) (List.nodup_range (n := 6))
      have ha := List.mem_range.mp ha
      have hc := List.mem_range.mp hc
      exact zqG b (by omega) (by omega) hne
  · cases e
theorem zfJ : ∀ (ws : List W) {rs : List Int} {sp : Int} {a : Addr} {r : Nat} {S : Sto} {E : WX} {D : WEnds} {x0 x1 x2 x3 x6 x7 x8 x9 : Option W}, S a = some (.lst (rs.map W.int)) → rs.length + ws.length ≤ 1000 →
    (∀ (rs' : List Int) sp' x6', rs'.length = rs.length + ws.length → D.nx [x0, x1, x2, x3, some (.int sp'), some (.ref a), x6', x7, x8, x9] (put S a (.lst (rs'.map W.int)))) →
    forL (wGN 6) (zbY r wOut) E D (fun _ => True) ws [x0, x1, x2, x3, some (.int sp), some (.ref a), x6, x7, x8, x9] S
  | [], rs, sp, a, r, S, E, D, x0, x1, x2, x3, x6, x7, x8, x9, ha, hl, h => by
    simp only [forL]
    have := h rs sp x6 (by simp)
    rw [zcv ha] at this
    exact this
  | w :: ws, rs, sp, a, r, S, E, D, x0, x1, x2, x3, x6, x7, x8, x9, ha, hl, h => by
    simp only [forL, zbY]
    walk_at "wp"
    simp only [List.length_cons] at hl h
    simp only [zai ha, true_and]
    refine ⟨by decide, zbG (by simp; omega), ⟨by decide, by decide⟩, _, .refl, ?_⟩
    refine zfJ (r := r) ws (rs := rs ++ [sp % 26]) (by rw [zaf]; simp) (by simp; omega) fun rs' sp' x6' h1 => ?_
    rw [zaE]
    exact h rs' sp' x6' (by simp at h1; omega)
theorem zhO {one two : Int} {great : Bool} {r : Nat} {S : Sto} {Q : WK} {E : Str → Sto → Prop} (h : ∀ (a : Addr) (ws : List Str), S a = none → WordsOk great ws → Q (.ref a) (put S a (.lst (ws.map W.str)))) : zaK (r + 1) [.int one, .int two, .bl great] S Q E := by
  rw [zaK]
  walk_at "wp"
  have o0 : 0 ≤ one % 8 := Int.emod_nonneg _ (by decide)
  have o1 : one % 8 < 8 := Int.emod_lt_of_pos _ (by decide)
  refine ⟨⟨by decide, by decide, by decide⟩, by decide, Nat.zero_le _, fun a ha => ⟨by decide, ⟨by omega, by omega⟩, ?_⟩⟩
  refine zfJ _ (rs := []) zaf (by simp [zir]; omega) fun rs sp x6 hl => ?_
  rw [zaE]
  simp only [List.length_nil, zir, Nat.zero_add] at hl
  have hl' : (rs.length : Int) = 1 + one % 8 := by rw [hl]; omega
  have p0 : 0 ≤ one / 8 % (rs.length : Int) := Int.emod_nonneg _ (by omega)
  have p1 : one / 8 % (rs.length : Int) < (rs.length : Int) := Int.emod_lt_of_pos _ (by omega)
  have B : Base rs (one / 8 % (rs.length : Int)) := ⟨by omega, by omega, p0, p1⟩
  walk_at "wp"
  simp only [List.length_map]
  refine ⟨⟨by decide, by decide⟩, by omega, Nat.zero_le _, fun b hb => ⟨⟨by decide, by decide⟩, ?_⟩⟩
  obtain ⟨hb1, hb2⟩ := zcH hb
  generalize hpos : one / 8 % (rs.length : Int) = pos at B p0 p1 ⊢
  refine zlm (fun i σ S' => ∃ x6 x9, S' = put (put S a (.lst (rs.map W.int))) b (.lst (((List.range i).map (wd great rs pos)).map W.str)) ∧ σ = [some (.int one), some (.int two), some (.bl great), some (.str (Str.ofString "abcdefghijklmnopqrstuvwxyz")), some (.int sp), some (.ref a), x6, some (.int pos), some (.ref b), x9]) 6 ?_ ?_ ⟨x6, none, rfl, rfl⟩
  · rintro k hk σ S' N ⟨x6, x9, rfl, rfl⟩ hN
    have ea : put (put S a (Ob.lst (rs.map W.int))) b (Ob.lst (((List.range k).map (wd great rs pos)).map W.str)) a = some (.lst (rs.map W.int)) := by rw [zaH (Ne.symm hb2), zaf]
    simp only [zcM]
    walk_at "wp"
    rw [zai ea]
    simp only [List.length_map]
    refine ⟨⟨by omega, by omega⟩, ?_⟩
    rw [Int.toNat_natCast]
    refine zaQ (fun σ => ∃ x, σ = [x, some (.str (Str.ofString "abcdefghijklmnopqrstuvwxyz")), some (.ref a), some (.int (k : Int)), some (.int pos)]) (fun i : Nat => W.int (0 + (i : Int))) (fun i => W.str ⟨#[lt rs pos k i]⟩) trivial (List.range rs.length) [] _ ⟨none, rfl⟩ (by simp; omega) (fun i hi σ R hI hR => ?_) ?_
    · obtain ⟨x, rfl⟩ := hI
      have hi := List.mem_range.mp hi
      simp only [zcN]
      walk_at "wp"
      have e := zbu (xs := rs.map W.int) (n := i)
      rw [show (i : Int) = 0 + (i : Int) by omega, List.getElem?_map, List.getElem?_eq_getElem hi] at e
      rw [zai ea, e]
      dsimp only [Option.map]
      walk_at "wp"
      have ec := zri (n := (rs[i] + (k : Int) * (if (0 + (i : Int) == pos) = true then 1 else 0)) % 26) (Int.emod_nonneg _ (by decide)) (Int.emod_lt_of_pos _ (by decide))
      rw [ec]
      have el : lt rs pos k i = 97 + ((rs[i] + (k : Int) * (if (0 + (i : Int) == pos) = true then 1 else 0)) % 26).toNat := by
        unfold lt
        rw [List.getD_eq_getElem?_getD, List.getElem?_eq_getElem hi]
        rfl
      rw [← el]
      exact ⟨.inl ⟨by omega, by omega⟩, by decide, zah (by rw [zpV]; decide), hR _ _ ⟨_, rfl⟩ .refl⟩
    · have es : (List.range rs.length).map (fun i => W.str ⟨#[lt rs pos k i]⟩) = (wcode rs pos k).map fun c => W.str ⟨#[c]⟩ := by
        unfold wcode
        rw [List.map_map]
        rfl
      have hw := zhT B k
      rw [List.nil_append, es, zeh]
      refine ⟨zjk _ (by rw [zdU]; omega), ?_⟩
      show _
      have ew : Str.join (Str.ofString "") ((wcode rs pos k).map fun c => (⟨#[c]⟩ : Str)) = wd0 rs pos k := rfl
      rw [ew]
      have hl8 : (wd0 rs pos k).length ≤ 8 := by rw [zdO]; exact hw.2.1
      have fin : ∀ z : Str, z = wd great rs pos k → ∀ x9 : Option W, N [some (.int one), some (.int two), some (.bl great), some (.str (Str.ofString "abcdefghijklmnopqrstuvwxyz")), some (.int sp), some (.ref a), some (.int (k : Int)), some (.int pos), some (.ref b), x9] (put (put S a (.lst (rs.map W.int))) b (.lst (((List.range k).map (wd great rs pos)).map W.str ++ [.str z]))) := fun z hz x9 => by
        subst hz
        refine hN _ _ _ .refl ⟨_, _, ?_, rfl⟩
        rw [List.range_succ, List.map_append, List.map_append]
        rfl
      have hxl : (((List.range k).map (wd great rs pos)).map W.str).length < sizeLine := zbG (by simp; omega)
      cases great with
      | false =>
        try walk_at "wp"
        try simp only [zdc, zaE, true_and]
        exact ⟨hxl, fin _ rfl _⟩
      | true =>
        walk_at "wp"
        rw [zdC, ziY pos k B.l1, zfl]
        dsimp only
        try walk_at "wp"
        try simp only [zdc, zaE, true_and]
        refine ⟨zah (by omega), ?_⟩
        have h1 : (⟨#[lt rs pos k 0]⟩ : Str).length = 1 := rfl
        have h2 : (Txt.upper ⟨#[lt rs pos k 0]⟩).length = 1 := by rw [zgj (zex _ _ _ _)]; rfl
        have h3 : (Txt.slice (wd0 rs pos k) (some 1) none).length ≤ 8 := by
          rw [zdO, zhA, List.length_drop, ← zdO]
          omega
        exact ⟨by omega, zah (by omega), zah (by omega), hxl, fin _ rfl _⟩
  · rintro σ S' ⟨x6, x9, rfl, rfl⟩
    have eb : put (put S a (Ob.lst (rs.map W.int))) b (Ob.lst (((List.range 6).map (wd great rs pos)).map W.str)) b = some (.lst (((List.range 6).map (wd great rs pos)).map W.str)) := zaf
    walk_at "wp"
    cases great with
    | true =>
      walk_at "wp"
      refine ⟨⟨by decide, by decide⟩, by decide, ?_⟩
      split
      · exact ⟨_, .put2 (.put .refl ha), h b _ hb1 ⟨rs, pos, B, .inl rfl⟩⟩
      · exact ⟨_, .put2 (.put .refl ha), h b _ hb1 ⟨rs, pos, B, .inl rfl⟩⟩
    | false =>
      walk_at "wp"
      refine ⟨⟨by decide, by decide⟩, by decide, ?_⟩
      split
      · have e6 : ((List.range 6).map (wd false rs pos)).map W.str = [.str (wd0 rs pos 0), .str (wd0 rs pos 1), .str (wd0 rs pos 2), .str (wd0 rs pos 3), .str (wd0 rs pos 4), .str (wd0 rs pos 5)] := rfl
        simp only [e6]
        try walk_at "wp"
        have c3 : cutA [W.str (wd0 rs pos 0), .str (wd0 rs pos 1), .str (wd0 rs pos 2), .str (wd0 rs pos 3), .str (wd0 rs pos 4), .str (wd0 rs pos 5)] none (some 3) = [.str (wd0 rs pos 0), .str (wd0 rs pos 1), .str (wd0 rs pos 2)] := rfl
        have a2 : atI [W.str (wd0 rs pos 0), .str (wd0 rs pos 1), .str (wd0 rs pos 2), .str (wd0 rs pos 3), .str (wd0 rs pos 4), .str (wd0 rs pos 5)] 2 = some (.str (wd0 rs pos 2)) := rfl
        have a5 : atI [W.str (wd0 rs pos 0), .str (wd0 rs pos 1), .str (wd0 rs pos 2), .str (wd0 rs pos 3), .str (wd0 rs pos 4), .str (wd0 rs pos 5)] 5 = some (.str (wd0 rs pos 5)) := rfl
        simp only [c3, a2, a5]
        try walk_at "wp"
        refine ⟨zah (by decide), zah (by decide), fun c hc => ?_⟩
        obtain ⟨hc1, hc2⟩ := zcH hc
        obtain ⟨hc1, hc3⟩ := zcH hc1
        exact ⟨_, .put2 (.put (.put .refl ha) hb1), h c _ hc1 ⟨rs, pos, B, .inr ⟨rfl, rfl⟩⟩⟩
      · exact ⟨_, .put2 (.put .refl ha), h b _ hb1 ⟨rs, pos, B, .inl rfl⟩⟩
end L2
end

section
set_option Elab.async false
set_option linter.all false
set_option maxRecDepth 100000
set_option maxHeartbeats 4000000
namespace L2
open PySem PySem.Spec PyProof.Rows
mutual
def Tr.nb : Tr → Nat
  | .bl _ => 1
  | .nd _ ts => nbs ts
def nbs : List Tr → Nat
  | [] => 0
  | t :: ts => t.nb + nbs ts
end
mutual
theorem zmT : ∀ (t : Tr) (p : List Int), ((t.plt p).filter fun x => x.2.isBl).length = t.nb
  | .bl n, p => by simp [Tr.plt, Tr.isBl, Tr.nb]
  | .nd s ts, p => by
    have := zjw ts p 0
    simpa [Tr.plt, Tr.isBl, Tr.nb] using this
theorem zjw : ∀ (ts : List Tr) (p : List Int) (i : Nat), ((plts p i ts).filter fun x => x.2.isBl).length = nbs ts
  | [], p, i => by simp [plts, nbs]
  | t :: ts, p, i => by
    have h1 := zmT t (p ++ [(i : Int)])
    have h2 := zjw ts p (i + 1)
    rw [plts, List.filter_append, List.length_append, h1, h2, nbs]
end
theorem zpZ (t : Tr) : t.bls.length = t.nb := zmT t []
theorem zjm : ∀ ts : List Tr, (ts.map fun t => (t.nb : Int)).sum = (nbs ts : Int)
  | [] => by simp [nbs]
  | t :: ts => by
    rw [List.map_cons, List.sum_cons, zjm ts, nbs]
    omega
theorem znW (ts : List Tr) : intsOf (ts.map fun t => W.int (t.nb : Int)) = some (ts.map fun t => (t.nb : Int)) := by
  have := zcF (ts.map fun t => (t.nb : Int))
  rw [List.map_map] at this
  exact this
theorem zfA : ∀ (d : Nat) {t : Tr} {r : Nat} {S : Sto} {Q : WK} {E : Str → Sto → Prop}, t.depth ≤ d → d ≤ r + 1 → t.weight ≤ 90000 → Q (.int t.nb) S → zan (r + 1) [enc t] S Q E
  | 0, t, r, S, Q, E, hd, hr, hw, h => by have := zbc t; omega
  | d + 1, .bl n, r, S, Q, E, hd, hr, hw, h => by
    rw [zan]
    simp only [enc]
    walk_at "wp"
    simp only [Tr.nb] at h
    exact ⟨S, .refl, h⟩
  | d + 1, .nd s ts, r, S, Q, E, hd, hr, hw, h => by
    simp only [Tr.depth] at hd
    simp only [Tr.weight] at hw
    have hk := zco ts
    rw [zan]
    simp only [enc]
    walk_at "wp"
    rw [zaN]
    refine zaQ (fun σ => ∃ x, σ = [x]) enc (fun t => .int (t.nb : Int)) trivial ts [] _ ⟨none, rfl⟩ (by simp; omega) (fun x hx σ R hI hR => ?_) ?_
    · obtain ⟨y, rfl⟩ := hI
      have hdx := zcr hx
      have hwx := zcP hx
      have := zbc x
      obtain ⟨r, rfl⟩ : ∃ r', r = r' + 1 := ⟨r - 1, by omega⟩
      simp only [zbW]
      walk_at "wp"
      exact zfA d (t := x) (r := r) (by omega) (by omega) (by omega) (hR _ _ ⟨_, rfl⟩ .refl)
    · rw [List.nil_append, znW]
      dsimp only
      rw [zjm]
      simp only [Tr.nb] at h
      exact ⟨S, .refl, h⟩
theorem zhL {w : W} {ws : List W} : cutA (w :: ws) none (some 1) = [w] := by
  rw [show (1 : Int) = ((1 : Nat) : Int) from rfl, zhZ]
  rfl
theorem zdm {us : List Tr} {a : Addr} : ∀ (d : Nat) {t : Tr} {r : Nat} {S : Sto} {Q : WK} {E : Str → Sto → Prop}, t.depth ≤ d → d ≤ r + 1 → S a = some (.lst (encs us)) → t.fits us.length → t.weight ≤ 90000 → Q (enc (t.fill us)) S → zaA (r + 1) [enc t, .ref a] S Q E
  | 0, t, r, S, Q, E, hd, hr, ha, hf, hw, h => by have := zbc t; omega
  | d + 1, .bl n, r, S, Q, E, hd, hr, ha, hf, hw, h => by
    simp only [Tr.fits] at hf
    simp only [Tr.fill] at h
    rw [zaA]
    simp only [enc]
    walk_at "wp"
    have e : atI (encs us) n = some (enc (us.getD n.toNat (.bl n))) := by
      have q := zbu (xs := encs us) (n := n.toNat)
      rw [Int.toNat_of_nonneg hf.1] at q
      rw [q, zaN, List.getElem?_map, List.getD_eq_getElem?_getD, List.getElem?_eq_getElem (by omega)]; rfl
    rw [zai ha, e]
    exact ⟨S, .refl, h⟩
  | d + 1, .nd s ts, r, S, Q, E, hd, hr, ha, hf, hw, h => by
    simp only [Tr.fits] at hf
    simp only [Tr.fill] at h
    simp only [Tr.depth] at hd
    simp only [Tr.weight] at hw
    have hk := zco ts
    rw [zaA]
    simp only [enc] at h ⊢
    walk_at "wp"
    rw [zhL]
    rw [zaN]
    refine zaQ (fun σ => ∃ x, σ = [x, some (.ref a)]) enc (fun t => enc (t.fill us)) trivial ts [] _ ⟨none, rfl⟩ (by simp; omega) (fun x hx σ R hI hR => ?_) ?_
    · obtain ⟨y, rfl⟩ := hI
      have hdx := zcr hx
      have hwx := zcP hx
      have := zbc x
      obtain ⟨r, rfl⟩ : ∃ r', r = r' + 1 := ⟨r - 1, by omega⟩
      simp only [zcy]
      walk_at "wp"
      exact zdm d (t := x) (r := r) (by omega) (by omega) ha (zei hf hx) (by omega) (hR _ _ ⟨_, rfl⟩ .refl)
    · rw [List.nil_append]
      walk_at "wp"
      refine ⟨zah (by simp; omega), S, .refl, ?_⟩
      have e : encs (fills us ts) = ts.map fun t => enc (t.fill us) := by rw [zaN, zgk, List.map_map]; rfl
      rw [e] at h
      exact h
inductive Item (ws : List Str) (m : Nat) : Tr → Prop
  | bl {n : Int} : 0 ≤ n → n < m → Item ws m (.bl n)
  | nd {s : Str} : s ∈ ws → Item ws m (.nd s [])
inductive RightT (ws : List Str) (m : Nat) : Tr → Prop
  | one {t : Tr} : Item ws m t → RightT ws m t
  | un {s : Str} {t : Tr} : s ∈ ws → Item ws m t → RightT ws m (.nd s [t])
  | two {s : Str} {t u : Tr} : s ∈ ws → 0 < m → Item ws m t → Item ws m u → RightT ws m (.nd s [t, u])
  | deep {s z : Str} {t u : Tr} : s ∈ ws → z ∈ ws → 0 < m → Item ws m t → Item ws m u → RightT ws m (.nd s [.nd z [t], u])
def leftsL (n : Nat) (h c d : Str) : List Tr :=
  match n with
  | 0 => [.nd h [.bl 0]]
  | 1 => [.nd h [.bl 0, .bl 1]]
  | 2 => [.nd h [.nd c []], .nd h [.nd d [.bl 0]]]
  | 3 => [.nd h [.nd c [], .bl 0], .nd h [.nd d [.bl 0], .bl 1]]
  | 4 => [.nd h [.nd d [.nd d [.bl 0]], .bl 1, .bl 2], .nd h [.nd d [.nd c []], .bl 0, .bl 1]]
  | _ => [.nd h []]
section
variable {w0 w1 w2 w3 w4 w5 : Str} {r : Nat} {S : Sto} {Q : WK} {E : Str → Sto → Prop} {a : Addr}
abbrev six (w0 w1 w2 w3 w4 w5 : Str) : List W := [.str w0, .str w1, .str w2, .str w3, .str w4, .str w5]
theorem six0 : atI (six w0 w1 w2 w3 w4 w5) 0 = some (.str w0) := rfl
theorem six1 : atI (six w0 w1 w2 w3 w4 w5) 1 = some (.str w1) := rfl
theorem six2 : atI (six w0 w1 w2 w3 w4 w5) 2 = some (.str w2) := rfl
theorem six3 : atI (six w0 w1 w2 w3 w4 w5) 3 = some (.str w3) := rfl
theorem six4 : atI (six w0 w1 w2 w3 w4 w5) 4 = some (.str w4) := rfl
theorem six5 : atI (six w0 w1 w2 w3 w4 w5) 5 = some (.str w5) := rfl
theorem zkM {draw : Int} {m : Nat} (ha : S a = some (.lst (six w0 w1 w2 w3 w4 w5))) (h : ∀ t, Item [w0, w1, w2, w3, w4, w5] m t → Q (enc t) S) : zbf (r + 1) [.int draw, .int m, .ref a] S Q E := by
  rw [zbf]
  walk_at "wp"
  have fin : ∀ w : Str, w ∈ [w0, w1, w2, w3, w4, w5] → ∃ S'', Sub S'' S ∧ Q (.tup [.str w]) S'' := fun w hw => ⟨S, .refl, by
    have := h _ (.nd hw)
    simpa only [enc, encs] using this⟩
  have pick : ∃ x : Str, x ∈ [w0, w1, w2, w3, w4, w5] ∧ ∃ i : Int, atI [W.int 2, W.int 5] (draw / 4 % 2) = some (.int i) ∧ atI (six w0 w1 w2 w3 w4 w5) i = some (.str x) := by
    rcases ziL (draw / 4) with e | e
    · exact ⟨w2, by simp, 2, by rw [e]; rfl, rfl⟩
    · exact ⟨w5, by simp, 5, by rw [e]; rfl, rfl⟩
  obtain ⟨x, hx, i, e1, e2⟩ := pick
  simp only [e1]
  walk_at "wp"
  simp only [zai ha, e2]
  have tail : 2 ≤ sizeLine ∧ CDiv draw 4 ∧ (0 : Int) < 2 ∧ 1 ≤ sizeLine ∧ ∃ S'', Sub S'' S ∧ Q (.tup [.str x]) S'' := ⟨zah (by decide), ⟨by decide, by decide⟩, by decide, zah (by decide), fin x hx⟩
  split
  · rename_i hm
    refine ⟨by decide, ?_⟩
    split
    · refine ⟨⟨by decide, by decide⟩, hm, S, .refl, ?_⟩
      have := h (.bl (draw / 4 % (m : Int))) (.bl (Int.emod_nonneg _ (by omega)) (Int.emod_lt_of_pos _ hm))
      simpa only [enc] using this
    · exact tail
  · exact tail
theorem zlQ {draw : Int} {m : Nat} (ha : S a = some (.lst (six w0 w1 w2 w3 w4 w5))) (h : ∀ t, RightT [w0, w1, w2, w3, w4, w5] m t → Q (enc t) S) : zbk (r + 2) [.int draw, .int m, .ref a] S Q E := by
  rw [zbk]
  walk_at "wp"
  refine ⟨⟨by decide, by decide⟩, zkM ha fun t ht => ⟨⟨by decide, by decide⟩, zkM ha fun u hu => ?_⟩⟩
  simp only [zai ha, six0, six1, six3, six4]
  have q1 := h _ (.one ht)
  have q2 := fun (s : Str) (hs : s ∈ [w0, w1, w2, w3, w4, w5]) => h _ (.un hs ht)
  have q3 := fun (s : Str) (hs : s ∈ [w0, w1, w2, w3, w4, w5]) (h0 : 0 < m) => h _ (.two hs h0 ht hu)
  have q4 := fun (s : Str) (hs : s ∈ [w0, w1, w2, w3, w4, w5]) (h0 : 0 < m) => h _ (.two hs h0 ht ht)
  have q5 := fun (s z : Str) (hs : s ∈ [w0, w1, w2, w3, w4, w5]) (hz : z ∈ [w0, w1, w2, w3, w4, w5]) (h0 : 0 < m) => h _ (.deep hs hz h0 ht hu)
  simp only [enc, encs] at q2 q3 q4 q5
  have l2 : 2 ≤ sizeLine := zah (by decide)
  have l3 : 3 ≤ sizeLine := zah (by decide)
  refine ⟨by decide, ?_⟩
  split
  · exact ⟨S, .refl, q1⟩
  split
  · exact ⟨l2, S, .refl, q2 _ (by simp)⟩
  split
  · exact ⟨l2, S, .refl, q2 _ (by simp)⟩
  rename_i hm
  have h0 : 0 < m := by
    rcases Nat.eq_zero_or_pos m with z | z
    · rw [z] at hm; exact absurd rfl hm
    · exact z
  split
  · exact ⟨l3, S, .refl, q3 _ (by simp) h0⟩
  split
  · exact ⟨l3, S, .refl, q4 _ (by simp) h0⟩
  split
  · exact ⟨l2, l3, S, .refl, q5 _ _ (by simp) (by simp) h0⟩
  split
  · exact ⟨l2, S, .refl, q2 _ (by simp)⟩
  · exact ⟨l3, S, .refl, q3 _ (by simp) h0⟩
theorem zmt {n : Int} {h c d : Str} (H : ∀ (p : Addr) (k : Nat), S p = none → Q (.ref p) (put S p (.lst (encs (leftsL k h c d))))) : zbo (r + 1) [.int n, .str h, .str c, .str d] S Q E := by
  rw [zbo]
  walk_at "wp"
  have l1 : 1 ≤ sizeLine := zah (by decide)
  have l2 : 2 ≤ sizeLine := zah (by decide)
  have l3 : 3 ≤ sizeLine := zah (by decide)
  have l4 : 4 ≤ sizeLine := zah (by decide)
  split
  · exact ⟨l2, l1, fun p hp => ⟨_, .refl, by simpa only [leftsL, enc, encs] using H p 0 hp⟩⟩
  split
  · exact ⟨l3, l1, fun p hp => ⟨_, .refl, by simpa only [leftsL, enc, encs] using H p 1 hp⟩⟩
  split
  · exact ⟨l1, l2, l2, l2, l2, fun p hp => ⟨_, .refl, by simpa only [leftsL, enc, encs] using H p 2 hp⟩⟩
  split
  · exact ⟨l1, l3, l2, l3, l2, fun p hp => ⟨_, .refl, by simpa only [leftsL, enc, encs] using H p 3 hp⟩⟩
  split
  · exact ⟨l2, l2, l4, l1, l2, l4, l2, fun p hp => ⟨_, .refl, by simpa only [leftsL, enc, encs] using H p 4 hp⟩⟩
  · exact ⟨l1, l1, fun p hp => ⟨_, .refl, by simpa only [leftsL, enc, encs] using H p 5 hp⟩⟩
end
section
variable {w0 w1 w2 w3 w4 w5 : Str} {tt : List Str} {ns : List Int} {aw at' ab al : Addr} {r : Nat} {E : WX} {D : WEnds} {k j : Int}
theorem zhM (h6 : tt.length = 6) (k0 : 0 ≤ k) (j0 : 0 ≤ j) : ∀ (ls : List Tr) {i : Nat} {C : List Tn} {S : Sto} {G : Sto → Prop} {x7 x8 x9 : Option W}, (∀ L ∈ ls, L.depth ≤ 4 ∧ L.weight ≤ 7) → C.length + ls.length ≤ 6 → S ab = some (.lst (C.map encT)) → S aw = some (.lst (six w0 w1 w2 w3 w4 w5)) → S at' = some (.lst (tt.map W.str)) → ab ≠ aw → ab ≠ at' →
    (∀ o, G (put S ab o)) →
    (∀ (C' : List Tn) (x7 x8 x9 : Option W), C'.map (fun t => t.2.1) = ls → (C.map (fun t => t.1) = tt.take C.length → (C ++ C').map (fun t => t.1) = tt.take (C ++ C').length) → (∀ t ∈ C', RightT [w0, w1, w2, w3, w4, w5] t.2.1.nb t.2.2) → D.nx [some (.scr ns), some (.int k), some (.ref aw), some (.ref at'), some (.ref ab), some (.int j), some (.ref al), x7, x8, x9] (put S ab (.lst ((C ++ C').map encT)))) →
    forL (wGT (wGcons (wGN 7) (wGcons (wGN 8) wGnil))) (zcg (r + 6) wOut) E D G (nums i (encs ls)) [some (.scr ns), some (.int k), some (.ref aw), some (.ref at'), some (.ref ab), some (.int j), some (.ref al), x7, x8, x9] S
  | [], i, C, S, G, x7, x8, x9, hL, hl, hb, hw, ht, n1, n2, hG, h => by
    simp only [encs, nums, forL]
    have := h [] x7 x8 x9 rfl (fun z => by simpa using z) (fun _ h => nomatch h)
    rw [List.append_nil, zcv hb] at this
    exact this
  | L :: ls, i, C, S, G, x7, x8, x9, hL, hl, hb, hw, ht, n1, n2, hG, h => by
    have hLd := hL L List.mem_cons_self
    simp only [List.length_cons] at hl
    simp only [encs, nums]
    refine zbw fun N hN => ?_
    simp only [zcg]
    walk_at "wp"
    refine ⟨.inl ⟨by decide, by decide⟩, zdq (by omega) fun draw => zfA 4 hLd.1 (by omega) (by omega) (zlQ hw fun R hR => ?_)⟩
    try walk_at "wp"
    obtain ⟨ti, eti, _⟩ := zpd (ss := tt) (i := (C.length : Int)) (by omega) (by omega)
    simp only [zai hb, zai ht, List.length_map, eti, true_and]
    refine ⟨zah (by decide), zbG (by omega), ?_⟩
    refine hN _ _ (put S ab (.lst ((C ++ [(ti, L, R)]).map encT))) (by rw [List.map_append]; exact .refl) (hG _) ?_
    refine zhM h6 k0 j0 ls (C := C ++ [(ti, L, R)]) (fun M hM => hL M (List.mem_cons_of_mem _ hM)) (by simp; omega) zaf (by rw [zaH (Ne.symm n1)]; exact hw) (by rw [zaH (Ne.symm n2)]; exact ht) n1 n2 (fun o => by rw [zaE]; exact hG o) fun C' x7 x8 x9 e1 e2 e3 => ?_
    rw [zaE]
    have := h ((ti, L, R) :: C') x7 x8 x9 (by rw [List.map_cons, e1]) (fun z => ?_) (fun t ht' => ?_)
    · simpa using this
    · have e : C ++ [(ti, L, R)] ++ C' = C ++ (ti, L, R) :: C' := by simp
      rw [e] at e2
      refine e2 ?_
      rw [List.map_append, z, List.length_append, List.length_singleton, List.take_succ]
      congr 1
      have e4 : (tt.map W.str)[C.length]? = some (.str ti) := by rw [← zbu]; exact eti
      rw [List.getElem?_map] at e4
      cases q : tt[C.length]? with
      | none => rw [q] at e4; cases e4
      | some y => rw [q] at e4; cases e4; rfl
    · rcases List.mem_cons.mp ht' with rfl | z
      · exact hR
      · exact e3 t z
theorem zhk (n : Nat) (h c d : Str) : ∀ L ∈ leftsL n h c d, L.depth ≤ 4 ∧ L.weight ≤ 7 := by
  intro L hL
  unfold leftsL at hL
  split at hL <;> simp only [List.mem_cons, List.not_mem_nil, or_false] at hL
  all_goals first
    | (subst hL; simp [Tr.depth, dts, Tr.weight, wts])
    | (rcases hL with rfl | rfl <;> simp [Tr.depth, dts, Tr.weight, wts])
theorem zdb (n : Nat) (h c d : Str) : 1 ≤ (leftsL n h c d).length ∧ (leftsL n h c d).length ≤ 2 := by
  unfold leftsL
  split <;> simp
def hdOf (w0 w1 : Str) (j : Nat) : Str := if j = 0 then w0 else w1
theorem zpi {S : Sto} {Q : WK} {E : Str → Sto → Prop} (h6 : tt.length = 6) (k0 : 0 ≤ k) (hw : S aw = some (.lst (six w0 w1 w2 w3 w4 w5))) (ht : S at' = some (.lst (tt.map W.str)))
    (h : ∀ (p : Addr) (B : List Tn) (n m : Nat), S p = none → B.map (fun t => t.2.1) = leftsL n w0 w2 w3 ++ leftsL m w1 w2 w3 → B.map (fun t => t.1) = tt.take B.length → (∀ t ∈ B, RightT [w0, w1, w2, w3, w4, w5] t.2.1.nb t.2.2) → Q (.ref p) (put S p (.lst (B.map encT)))) : zbe (r + 7) [.scr ns, .int k, .ref aw, .ref at'] S Q E := by
  rw [show r + 7 = r + 6 + 1 from rfl, zbe]
  walk_at "wp"
  refine ⟨Nat.zero_le _, fun ab hb => ⟨⟨by decide, by decide⟩, ?_⟩⟩
  refine zlm (fun i σ S' => ∃ (B : List Tn) (f : Nat → Nat) (x5 x6 x7 x8 x9 : Option W), B.map (fun t => t.2.1) = (List.range i).flatMap (fun j => leftsL (f j) (hdOf w0 w1 j) w2 w3) ∧ B.map (fun t => t.1) = tt.take B.length ∧ (∀ t ∈ B, RightT [w0, w1, w2, w3, w4, w5] t.2.1.nb t.2.2) ∧ S' = put S ab (.lst (B.map encT)) ∧
    σ = [some (.scr ns), some (.int k), some (.ref aw), some (.ref at'), some (.ref ab), x5, x6, x7, x8, x9]) 2 ?_ ?_ ⟨[], fun _ => 0, none, none, none, none, none, rfl, rfl, (fun _ h => nomatch h), rfl, rfl⟩
  · rintro j hj σ S' N ⟨B, f, x5, x6, x7, x8, x9, e1, e2, e3, rfl, rfl⟩ hN
    have fw : put S ab (Ob.lst (B.map encT)) aw = some (.lst (six w0 w1 w2 w3 w4 w5)) := keep hw hb
    have ft : put S ab (Ob.lst (B.map encT)) at' = some (.lst (tt.map W.str)) := keep ht hb
    have fb : put S ab (Ob.lst (B.map encT)) ab = some (.lst (B.map encT)) := zaf
    have n1 : ab ≠ aw := fun z => by rw [z, hw] at hb; cases hb
    have n2 : ab ≠ at' := fun z => by rw [z, ht] at hb; cases hb
    have eh : atI (six w0 w1 w2 w3 w4 w5) (j : Int) = some (.str (hdOf w0 w1 j)) := by
      rcases (show j = 0 ∨ j = 1 by omega) with rfl | rfl <;> rfl
    simp only [zdf]
    walk_at "wp"
    refine zdq (by omega) fun draw => ?_
    walk_at "wp"
    simp only [zai fw, eh, six2, six3]
    refine ⟨by decide, zmt fun al n hal => ?_⟩
    have hl := zdb n (hdOf w0 w1 j) w2 w3
    have hB : B.length ≤ 4 := by
      have := congrArg List.length e1
      rw [List.length_map] at this
      rcases (show j = 0 ∨ j = 1 by omega) with rfl | rfl
      · simp at this
        rw [this]
        simp
      · simp at this
        have := zdb (f 0) (hdOf w0 w1 0) w2 w3
        omega
    have nal : al ≠ ab := fun z => by rw [z, fb] at hal; cases hal
    try walk_at "wp"
    refine zhM h6 k0 (by omega) (leftsL n (hdOf w0 w1 j) w2 w3) (zhk _ _ _ _) (by omega) (keep fb hal) (keep fw hal) (keep ft hal) n1 n2 (fun o => ?_) fun C' x7 x8 x9 g1 g2 g3 => ?_
    · rw [zaH nal, zaf]
    · refine hN _ _ (put S ab (.lst ((B ++ C').map encT))) ?_ ⟨B ++ C', fun i => if i = j then n else f i, _, _, _, _, _, ?_, g2 e2, fun t ht' => ?_, rfl, rfl⟩
      · rw [zhV nal]
        exact .put .refl (by rw [zaH nal]; exact (zcH hal).1)
      · rw [List.map_append, e1, g1, List.range_succ, List.flatMap_append]
        congr 1
        · rw [List.flatMap_def, List.flatMap_def]
          congr 1
          refine List.map_congr_left fun i hi => ?_
          have := List.mem_range.mp hi
          dsimp only
          rw [if_neg (by omega)]
        · simp
      · rcases List.mem_append.mp ht' with z | z
        · exact e3 t z
        · exact g3 t z
  · rintro σ S' ⟨B, f, x5, x6, x7, x8, x9, e1, e2, e3, rfl, rfl⟩
    walk_at "wp"
    refine ⟨_, .refl, h ab B (f 0) (f 1) hb ?_ e2 e3⟩
    rw [e1]
    simp [List.range_succ, hdOf]
end
end L2
end

section
set_option Elab.async false
set_option linter.all false
set_option maxRecDepth 100000
set_option maxHeartbeats 4000000
namespace L2
open PySem PySem.Spec PyProof.Rows
def signB (x : Str) : Bool := decide (1 ≤ x.cps.toList.length) && (decide (x.cps.toList.length ≤ 8) && small x.cps.toList)
theorem zkD (xs : List Nat) : small xs = true ↔ ∀ c ∈ xs, Low c := by
  unfold small
  rw [List.all_eq_true]
  simp only [smallC, Low, Bool.and_eq_true, decide_eq_true_eq]
theorem zfH (x : Str) : signB x = true ↔ SignW x := by
  unfold signB SignW
  rw [Bool.and_eq_true, Bool.and_eq_true, decide_eq_true_eq, decide_eq_true_eq, zkD]
theorem zcD {x y : Str} (h : SignW x) (g : TitleW y) : x ≠ y := by
  rintro rfl
  obtain ⟨c, r, e, h1, h2, _⟩ := g
  have := h.2.2 c (by rw [e]; exact List.mem_cons_self)
  unfold Low at this
  omega
theorem zju {y : Str} (g : TitleW y) : 1 ≤ y.cps.toList.length ∧ y.cps.toList.length ≤ 8 := by
  obtain ⟨c, r, e, h1, h2, h3, _⟩ := g
  rw [e, List.length_cons]
  omega
mutual
def Tr.hd (P : Str → Prop) : Tr → Prop
  | .bl _ => False
  | .nd s ts => P s ∧ hds P ts
def hds (P : Str → Prop) : List Tr → Prop
  | [] => True
  | t :: ts => t.hd P ∧ hds P ts
end
mutual
def Tr.hb (P : Str → Prop) : Tr → Prop
  | .bl _ => True
  | .nd s ts => P s ∧ hbs P ts
def hbs (P : Str → Prop) : List Tr → Prop
  | [] => True
  | t :: ts => t.hb P ∧ hbs P ts
end
theorem zfu {P : Str → Prop} : ∀ {ts : List Tr}, hds P ts ↔ ∀ t ∈ ts, t.hd P
  | [] => by simp [hds]
  | t :: ts => by simp [hds, zfu (ts := ts)]
mutual
theorem zhx {P P' : Str → Prop} (h : ∀ s, P s → P' s) : ∀ (t : Tr), t.hb P → t.hb P'
  | .bl _, q => by simp [Tr.hb]
  | .nd s ts, q => by
    simp only [Tr.hb] at q ⊢
    exact ⟨h s q.1, zhK h ts q.2⟩
theorem zhK {P P' : Str → Prop} (h : ∀ s, P s → P' s) : ∀ (ts : List Tr), hbs P ts → hbs P' ts
  | [], _ => by simp [hbs]
  | t :: ts, q => by
    simp only [hbs] at q ⊢
    exact ⟨zhx h t q.1, zhK h ts q.2⟩
end
mutual
theorem zha {P : Str → Prop} {us : List Tr} (hu : ∀ u ∈ us, u.hd P) : ∀ (t : Tr), t.hb P → t.fits us.length → (t.fill us).hd P
  | .bl n, h, f => by
    simp only [Tr.fits] at f
    simp only [Tr.fill]
    rw [List.getD_eq_getElem?_getD, List.getElem?_eq_getElem (show n.toNat < us.length by omega)]
    exact hu _ (List.getElem_mem ..)
  | .nd s ts, h, f => by
    simp only [Tr.fits] at f
    simp only [Tr.hb] at h
    simp only [Tr.fill, Tr.hd]
    exact ⟨h.1, ziy hu ts h.2 f⟩
theorem ziy {P : Str → Prop} {us : List Tr} (hu : ∀ u ∈ us, u.hd P) : ∀ (ts : List Tr), hbs P ts → fitss us.length ts → hds P (fills us ts)
  | [], h, f => by simp [fills, hds]
  | t :: ts, h, f => by
    simp only [fitss] at f
    simp only [hbs] at h
    simp only [fills, hds]
    exact ⟨zha hu t h.1 f.1, ziy hu ts h.2 f.2⟩
end
structure BookOk (w0 w1 w2 w3 w4 w5 : Str) (tt : List Str) (B : List Tn) : Prop where
  lf : ∃ n m : Nat, B.map (fun t => t.2.1) = leftsL n w0 w2 w3 ++ leftsL m w1 w2 w3
  ti : B.map (fun t => t.1) = tt.take B.length
  ri : ∀ t ∈ B, RightT [w0, w1, w2, w3, w4, w5] t.2.1.nb t.2.2
structure LeftT (P : Str → Prop) (L : Tr) : Prop where
  hb : L.hb P
  fits : L.fits L.nb
  wt : L.weight ≤ L.nb + 3
  dp : L.depth ≤ 4
  nb : L.nb ≤ 3
  nd : ∃ s ts, L = .nd s ts
  fw : ∀ us : List Tr, us.length = L.nb → (L.fill us).weight ≤ 3 + wts us
  fw0 : L.nb = 0 → (L.fill []).weight ≤ 2
theorem ziD {P : Str → Prop} {n : Nat} {h c d : Str} (hh : P h) (hc : P c) (hd : P d) : ∀ L ∈ leftsL n h c d, LeftT P L := by
  unfold leftsL
  intro L hL
  split at hL <;> simp only [List.mem_cons, List.not_mem_nil, or_false] at hL
  all_goals first
    | (subst hL; exact ⟨by simp [Tr.hb, hbs, hh, hc, hd], by simp [Tr.fits, fitss, Tr.nb, nbs], by simp [Tr.weight, wts, Tr.nb, nbs], by simp [Tr.depth, dts], by simp [Tr.nb, nbs], ⟨_, _, rfl⟩, fun us hu => by rcases us with _ | ⟨u, _ | ⟨v, _ | ⟨x, _ | ⟨y, us⟩⟩⟩⟩ <;> simp [Tr.nb, nbs, Tr.fill, fills, Tr.weight, wts] at hu ⊢ <;> omega, fun h0 => by simp [Tr.nb, nbs, Tr.fill, fills, Tr.weight, wts] at h0 ⊢⟩)
    | (rcases hL with rfl | rfl <;> exact ⟨by simp [Tr.hb, hbs, hh, hc, hd], by simp [Tr.fits, fitss, Tr.nb, nbs], by simp [Tr.weight, wts, Tr.nb, nbs], by simp [Tr.depth, dts], by simp [Tr.nb, nbs], ⟨_, _, rfl⟩, fun us hu => by rcases us with _ | ⟨u, _ | ⟨v, _ | ⟨x, _ | ⟨y, us⟩⟩⟩⟩ <;> simp [Tr.nb, nbs, Tr.fill, fills, Tr.weight, wts] at hu ⊢ <;> omega, fun h0 => by simp [Tr.nb, nbs, Tr.fill, fills, Tr.weight, wts] at h0 ⊢⟩)
section
variable {w0 w1 w2 w3 w4 w5 : Str} {tt : List Str} {B : List Tn}
theorem BookOk.len (b : BookOk w0 w1 w2 w3 w4 w5 tt B) : 2 ≤ B.length ∧ B.length ≤ 4 := by
  obtain ⟨n, m, e⟩ := b.lf
  have h1 := zdb n w0 w2 w3
  have h2 := zdb m w1 w2 w3
  have e' := congrArg List.length e
  rw [List.length_map, List.length_append] at e'
  omega
theorem BookOk.left (b : BookOk w0 w1 w2 w3 w4 w5 tt B) {P : Str → Prop} (h0 : P w0) (h1 : P w1) (h2 : P w2) (h3 : P w3) {t : Tn} (ht : t ∈ B) : LeftT P t.2.1 := by
  obtain ⟨n, m, e⟩ := b.lf
  have : t.2.1 ∈ leftsL n w0 w2 w3 ++ leftsL m w1 w2 w3 := by rw [← e]; exact List.mem_map.mpr ⟨t, ht, rfl⟩
  rcases List.mem_append.mp this with z | z
  · exact ziD h0 h2 h3 _ z
  · exact ziD h1 h2 h3 _ z
theorem BookOk.nodup (b : BookOk w0 w1 w2 w3 w4 w5 tt B) (T : Titles tt) : (B.map fun t => t.1).Nodup := by
  rw [b.ti]
  exact List.Nodup.sublist (List.take_sublist ..) T.nd
theorem BookOk.mem (b : BookOk w0 w1 w2 w3 w4 w5 tt B) {t : Tn} (ht : t ∈ B) : t.1 ∈ tt := by
  have : t.1 ∈ B.map fun t => t.1 := List.mem_map.mpr ⟨t, ht, rfl⟩
  rw [b.ti] at this
  exact List.mem_of_mem_take this
end
def turnB (B : List Tn) (s : Str) : Option Tn := B.find? fun t => t.1 == s
theorem zcj : ∀ {B : List Tn} {t : Tn}, (B.map fun t => t.1).Nodup → t ∈ B → turnB B t.1 = some t
  | u :: B, t, hn, ht => by
    unfold turnB
    rw [List.map_cons, List.nodup_cons] at hn
    rw [List.find?_cons]
    rcases List.mem_cons.mp ht with rfl | ht
    · simp
    · have hne : u.1 ≠ t.1 := fun z => hn.1 (by rw [z]; exact List.mem_map.mpr ⟨t, ht, rfl⟩)
      have : (u.1 == t.1) = false := by simpa using hne
      rw [this]
      exact zcj hn.2 ht
theorem zea {B : List Tn} {s : Str} (h : ∀ t ∈ B, t.1 ≠ s) : turnB B s = none := by
  unfold turnB
  rw [List.find?_eq_none]
  intro t ht
  simpa using h t ht
def topB (B : List Tn) (s : Str) (n : Nat) : Bool := match turnB B s with
  | none => signB s
  | some t => n == t.2.1.nb
mutual
def Tr.way (B : List Tn) : Tr → Bool
  | .bl _ => false
  | .nd s ts => topB B s ts.length && ways B ts
def ways (B : List Tn) : List Tr → Bool
  | [] => true
  | t :: ts => t.way B && ways B ts
end
mutual
def Tr.tin (tt : List Str) : Tr → Nat
  | .bl _ => 0
  | .nd s ts => (if s ∈ tt then 1 else 0) + tins tt ts
def tins (tt : List Str) : List Tr → Nat
  | [] => 0
  | t :: ts => t.tin tt + tins tt ts
end
theorem zeY (B : List Tn) : ∀ ts : List Tr, ways B ts = ts.all (Tr.way B)
  | [] => by simp [ways]
  | t :: ts => by simp [ways, zeY B ts]
mutual
theorem zfB {B : List Tn} (hB : ∀ t ∈ B, TitleW t.1) {us : List Tr} (hu : ∀ u ∈ us, u.way B = true) : ∀ (t : Tr), t.hb SignW → t.fits us.length → (t.fill us).way B = true
  | .bl n, h, f => by
    simp only [Tr.fits] at f
    simp only [Tr.fill]
    rw [List.getD_eq_getElem?_getD, List.getElem?_eq_getElem (show n.toNat < us.length by omega)]
    exact hu _ (List.getElem_mem ..)
  | .nd s ts, h, f => by
    simp only [Tr.fits] at f
    simp only [Tr.hb] at h
    simp only [Tr.fill, Tr.way]
    rw [zgO hB hu ts h.2 f, topB, zea fun t ht => (zcD h.1 (hB t ht)).symm, (zfH s).mpr h.1]
    rfl
theorem zgO {B : List Tn} (hB : ∀ t ∈ B, TitleW t.1) {us : List Tr} (hu : ∀ u ∈ us, u.way B = true) : ∀ (ts : List Tr), hbs SignW ts → fitss us.length ts → ways B (fills us ts) = true
  | [], h, f => by simp [fills, ways]
  | t :: ts, h, f => by
    simp only [fitss] at f
    simp only [hbs] at h
    rw [fills, ways, zfB hB hu t h.1 f.1, zgO hB hu ts h.2 f.2]
    rfl
end
inductive Pl where
  | nd (k bits : Int) (head : Str) (ps : List Pl)
mutual
def Pl.wt : Pl → Nat
  | .nd _ _ _ ps => 1 + pwts ps
def pwts : List Pl → Nat
  | [] => 0
  | p :: ps => p.wt + pwts ps
end
mutual
def Pl.dp : Pl → Nat
  | .nd _ _ _ ps => 1 + pdps ps
def pdps : List Pl → Nat
  | [] => 0
  | p :: ps => max p.dp (pdps ps)
end
mutual
def Pl.nt : Pl → Nat
  | .nd k _ _ ps => (if k < 0 then 0 else 1) + pnts ps
def pnts : List Pl → Nat
  | [] => 0
  | p :: ps => p.nt + pnts ps
end
inductive PlOk (ws : List Str) (B : List Tn) : Pl → Prop
  | sign {b : Int} {h : Str} {ps : List Pl} : h ∈ ws → (∀ p ∈ ps, PlOk ws B p) → PlOk ws B (.nd (-1) b h ps)
  | turn {k : Nat} {b : Int} {h : Str} {ps : List Pl} {t : Tn} : B[k]? = some t → ps.length = t.2.1.nb → 0 ≤ b → b < 8 → (∀ p ∈ ps, PlOk ws B p) → PlOk ws B (.nd k b h ps)
mutual
def Pl.ev (B : List Tn) (c : Int → Nat) : Pl → Tr
  | .nd k b h ps => if k < 0 then .nd h (evs B c ps) else match c b with
    | 0 => (B.getD k.toNat (h, .bl 0, .bl 0)).2.1.fill (evs B c ps)
    | 1 => .nd (B.getD k.toNat (h, .bl 0, .bl 0)).1 (evs B c ps)
    | _ => (B.getD k.toNat (h, .bl 0, .bl 0)).2.2.fill (evs B c ps)
def evs (B : List Tn) (c : Int → Nat) : List Pl → List Tr
  | [] => []
  | p :: ps => p.ev B c :: evs B c ps
end
theorem zhv (B : List Tn) (c : Int → Nat) : ∀ ps : List Pl, evs B c ps = ps.map (Pl.ev B c)
  | [] => by simp [evs]
  | p :: ps => by simp [evs, zhv B c ps]
theorem zbD : ∀ ps qs : List Pl, pwts (ps ++ qs) = pwts ps + pwts qs
  | [], qs => by simp [pwts]
  | p :: ps, qs => by simp [pwts, zbD ps qs]; omega
theorem zbz : ∀ ps qs : List Pl, pnts (ps ++ qs) = pnts ps + pnts qs
  | [], qs => by simp [pnts]
  | p :: ps, qs => by simp [pnts, zbz ps qs]; omega
theorem zcG {p : Pl} : ∀ {ps : List Pl}, p ∈ ps → p.dp ≤ pdps ps
  | q :: ps, h => by
    rcases List.mem_cons.mp h with rfl | h
    · simp [pdps]; omega
    · have := zcG h; simp [pdps]; omega
mutual
theorem zfd : ∀ p : Pl, p.dp ≤ p.wt
  | .nd k b h ps => by have := zkV ps; simp [Pl.dp, Pl.wt]; omega
theorem zkV : ∀ ps : List Pl, pdps ps ≤ pwts ps
  | [] => by simp [pdps]
  | p :: ps => by have := zfd p; have := zkV ps; simp [pdps, pwts]; omega
end
theorem zkr (p : Pl) : 1 ≤ p.dp := by cases p; simp [Pl.dp]
theorem zkk (p : Pl) : 1 ≤ p.wt := by cases p; simp [Pl.wt]
theorem zbC {B : List Tn} {c : Int → Nat} {b : Int} {h : Str} {ps : List Pl} : (Pl.nd (-1) b h ps).ev B c = .nd h (ps.map (Pl.ev B c)) := by
  rw [Pl.ev, if_pos (by decide), zhv]
def evT (t : Tn) (n : Nat) (us : List Tr) : Tr := match n with
  | 0 => t.2.1.fill us
  | 1 => .nd t.1 us
  | _ => t.2.2.fill us
theorem zbB {B : List Tn} {c : Int → Nat} {b : Int} {h : Str} {ps : List Pl} {k : Nat} {t : Tn} (e : B[k]? = some t) : (Pl.nd k b h ps).ev B c = evT t (c b) (ps.map (Pl.ev B c)) := by
  rw [Pl.ev, if_neg (by omega), zhv, Int.toNat_natCast, List.getD_eq_getElem?_getD, e]
  rfl
section
variable {ws : List Str} {m : Nat} {t : Tr}
theorem zbJ (h : Item ws m t) : t.depth = 1 := by
  cases h <;> simp [Tr.depth, dts]
theorem zgZ (h : RightT ws m t) : t.depth ≤ 3 := by
  cases h with
  | one h => rw [zbJ h]; decide
  | un hs h => simp [Tr.depth, dts, zbJ h]
  | two hs h0 h h' => simp [Tr.depth, dts, zbJ h, zbJ h']
  | deep hs hz h0 h h' => simp [Tr.depth, dts, zbJ h, zbJ h']
theorem zcb (h : Item ws m t) : t.fits m := by
  cases h with
  | bl h0 h1 => exact ⟨h0, h1⟩
  | nd hs => simp [Tr.fits, fitss]
theorem zdo (h : RightT ws m t) : t.fits m := by
  cases h with
  | one h => exact zcb h
  | un hs h => simp [Tr.fits, fitss, zcb h]
  | two hs h0 h h' => simp [Tr.fits, fitss, zcb h, zcb h']
  | deep hs hz h0 h h' => simp [Tr.fits, fitss, zcb h, zcb h']
theorem zdj {P : Str → Prop} (hP : ∀ x ∈ ws, P x) (h : Item ws m t) : t.hb P := by
  cases h with
  | bl h0 h1 => simp [Tr.hb]
  | nd hs => simp [Tr.hb, hbs, hP _ hs]
theorem zeQ {P : Str → Prop} (hP : ∀ x ∈ ws, P x) (h : RightT ws m t) : t.hb P := by
  cases h with
  | one h => exact zdj hP h
  | un hs h => simp [Tr.hb, hbs, zdj hP h, hP _ hs]
  | two hs h0 h h' => simp [Tr.hb, hbs, zdj hP h, zdj hP h', hP _ hs]
  | deep hs hz h0 h h' => simp [Tr.hb, hbs, zdj hP h, zdj hP h', hP _ hs, hP _ hz]
theorem zcd (h : Item ws m t) {us : List Tr} {M : Nat} (hl : us.length = m) (hM : 1 ≤ M) (hu : ∀ u ∈ us, u.weight ≤ M) : (t.fill us).weight ≤ M := by
  cases h with
  | @bl n h0 h1 =>
    simp only [Tr.fill]
    rw [List.getD_eq_getElem?_getD, List.getElem?_eq_getElem (show n.toNat < us.length by omega)]
    exact hu _ (List.getElem_mem ..)
  | nd hs => simp [Tr.fill, fills, Tr.weight, wts]; omega
theorem zeq (h : RightT ws m t) {us : List Tr} {M : Nat} (hl : us.length = m) (hM : 1 ≤ M) (hu : ∀ u ∈ us, u.weight ≤ M) : (t.fill us).weight ≤ 2 + 2 * M ∧ (m = 0 → (t.fill us).weight ≤ 1 + M) := by
  cases h with
  | one h =>
    have := zcd h hl hM hu
    omega
  | un hs h =>
    have := zcd h hl hM hu
    simp only [Tr.fill, fills, Tr.weight, wts]
    omega
  | two hs h0 h h' =>
    have := zcd h hl hM hu
    have := zcd h' hl hM hu
    simp only [Tr.fill, fills, Tr.weight, wts]
    omega
  | deep hs hz h0 h h' =>
    have := zcd h hl hM hu
    have := zcd h' hl hM hu
    simp only [Tr.fill, fills, Tr.weight, wts]
    omega
end
structure BkOk (ws hs : List Str) (B : List Tn) : Prop where
  ti : ∀ t ∈ B, TitleW t.1
  nd : (B.map fun t => t.1).Nodup
  sg : ∀ x ∈ ws, SignW x
  sb : ∀ x ∈ hs, x ∈ ws
  lf : ∀ t ∈ B, LeftT SignW t.2.1
  ri : ∀ t ∈ B, RightT ws t.2.1.nb t.2.2
theorem BookOk.bk {w0 w1 w2 w3 w4 w5 : Str} {tt : List Str} {B : List Tn} (b : BookOk w0 w1 w2 w3 w4 w5 tt B) (T : Titles tt) (G : Signs w0 w1 w2 w3 w4 w5) : BkOk [w0, w1, w2, w3, w4, w5] [w2, w3, w4, w5] B :=
  ⟨fun t ht => T.ok _ (b.mem ht), b.nodup T, G.ok, fun x hx => List.mem_cons_of_mem _ (List.mem_cons_of_mem _ hx), fun t ht => b.left (G.ok _ (by simp)) (G.ok _ (by simp)) (G.ok _ (by simp)) (G.ok _ (by simp)) ht, b.ri⟩
section
variable {ws hs : List Str} {B : List Tn} {tt : List Str} {c : Int → Nat}
theorem zqi (b : BkOk ws hs B) {p : Pl} (h : PlOk hs B p) : (p.ev B c).way B = true := by
  induction h with
  | @sign b' h ps hh hp ih =>
    rw [zbC, Tr.way, topB, zea fun t ht => (zcD (b.sg h (b.sb h hh)) (b.ti t ht)).symm, zeY, (zfH h).mpr (b.sg h (b.sb h hh))]
    simp only [List.all_map, Bool.true_and, List.all_eq_true]
    exact fun p hp => ih p hp
  | @turn k b' h ps t e hl b0 b1 hp ih =>
    have ht : t ∈ B := List.mem_of_getElem? e
    have hu : ∀ u ∈ ps.map (Pl.ev B c), u.way B = true := fun u hu => by
      obtain ⟨p, hp, rfl⟩ := List.mem_map.mp hu
      exact ih p hp
    rw [zbB e]
    unfold evT
    split
    · exact zfB b.ti hu _ (b.lf t ht).hb (by rw [List.length_map, hl]; exact (b.lf t ht).fits)
    · rw [Tr.way, topB, zcj b.nd ht, zeY]
      simp only [List.length_map, hl, beq_self_eq_true, Bool.true_and, List.all_eq_true]
      exact hu
    · exact zfB b.ti hu _ (zeQ b.sg (b.ri t ht)) (by rw [List.length_map, hl]; exact zdo (b.ri t ht))
theorem zof (b : BkOk ws hs B) {P : Str → Prop} (hP : ∀ s, SignW s → P s) (hc : (∃ b, 0 ≤ b ∧ b < 8 ∧ c b = 1) → ∀ t ∈ B, P t.1) {p : Pl} (h : PlOk hs B p) : (p.ev B c).hd P := by
  induction h with
  | @sign b' h ps hh hp ih =>
    rw [zbC, Tr.hd, zfu]
    refine ⟨hP _ (b.sg h (b.sb h hh)), fun t ht => ?_⟩
    obtain ⟨p, hp, rfl⟩ := List.mem_map.mp ht
    exact ih p hp
  | @turn k b' h ps t e hl b0 b1 hp ih =>
    have ht : t ∈ B := List.mem_of_getElem? e
    have hu : ∀ u ∈ ps.map (Pl.ev B c), u.hd P := fun u hu => by
      obtain ⟨p, hp, rfl⟩ := List.mem_map.mp hu
      exact ih p hp
    rw [zbB e]
    unfold evT
    split
    · exact zha hu _ (zhx hP _ (b.lf t ht).hb) (by rw [List.length_map, hl]; exact (b.lf t ht).fits)
    · rename_i ec
      rw [Tr.hd, zfu]
      exact ⟨hc ⟨b', b0, b1, ec⟩ t ht, hu⟩
    · exact zha hu _ (zhx hP _ (zeQ b.sg (b.ri t ht))) (by rw [List.length_map, hl]; exact zdo (b.ri t ht))
theorem zcB {p : Pl} : ∀ {ps : List Pl}, p ∈ ps → p.nt ≤ pnts ps
  | q :: ps, h => by
    rcases List.mem_cons.mp h with rfl | h
    · simp [pnts]
    · have := zcB h; simp [pnts]; omega
theorem zeW {p : Pl} : ∀ {ps : List Pl}, p ∈ ps → p.wt ≤ pwts ps
  | q :: ps, h => by
    rcases List.mem_cons.mp h with rfl | h
    · simp [pwts]
    · have := zeW h; simp [pwts]; omega
theorem zdP (n : Nat) : 1 ≤ 2 ^ n := Nat.one_le_two_pow
theorem zld : ∀ (ps : List Pl), (∀ p ∈ ps, (p.ev B c).weight ≤ 2 ^ p.nt * p.wt) → wts (ps.map (Pl.ev B c)) ≤ 2 ^ pnts ps * pwts ps
  | [], _ => by simp [wts]
  | p :: ps, h => by
    have h1 := h p List.mem_cons_self
    have h2 := zld ps fun q hq => h q (List.mem_cons_of_mem _ hq)
    simp only [List.map_cons, wts, pwts, pnts]
    have e1 : 2 ^ p.nt ≤ 2 ^ (p.nt + pnts ps) := Nat.pow_le_pow_right (by decide) (by omega)
    have e2 : 2 ^ pnts ps ≤ 2 ^ (p.nt + pnts ps) := Nat.pow_le_pow_right (by decide) (by omega)
    have e3 := Nat.mul_le_mul_right p.wt e1
    have e4 := Nat.mul_le_mul_right (pwts ps) e2
    rw [Nat.mul_add]
    omega
theorem zkj (b : BkOk ws hs B) {p : Pl} (h : PlOk hs B p) : (p.ev B c).weight ≤ 2 ^ p.nt * p.wt := by
  induction h with
  | @sign b' h ps hh hp ih =>
    have := zld ps ih
    rw [zbC, Tr.weight, Pl.wt, Pl.nt, if_pos (by decide), Nat.zero_add, Nat.mul_add]
    have := zdP (pnts ps)
    omega
  | @turn k b' h ps t e hl b0 b1 hp ih =>
    have ht : t ∈ B := List.mem_of_getElem? e
    have hsw := zld ps ih
    have en : (Pl.nd k b' h ps).nt = 1 + pnts ps := by rw [Pl.nt, if_neg (by omega)]
    have hpow : 2 ^ (1 + pnts ps) = 2 * 2 ^ pnts ps := by rw [Nat.pow_add]
    have hp1 := zdP (pnts ps)
    have hm : 2 ^ (1 + pnts ps) * (1 + pwts ps) = 2 * 2 ^ pnts ps + 2 * (2 ^ pnts ps * pwts ps) := by rw [hpow, Nat.mul_add, Nat.mul_one, Nat.mul_assoc]
    have hlen : (ps.map (Pl.ev B c)).length = t.2.1.nb := by rw [List.length_map, hl]
    rw [zbB e, Pl.wt, en, hm]
    unfold evT
    cases hps : ps with
    | nil =>
      subst hps
      have h0 : t.2.1.nb = 0 := by simpa using hl.symm
      split
      · have := (b.lf t ht).fw0 h0
        simp [pnts, pwts] at *
        omega
      · simp [Tr.weight, wts, pnts, pwts]
      · have := (zeq (b.ri t ht) hlen (M := 1) (by decide) (fun u hu => by simp at hu)).2 h0
        simp [pnts, pwts] at *
        omega
    | cons q qs =>
      rw [← hps]
      have hw1 : 1 ≤ pwts ps := by rw [hps]; have := zkk q; simp [pwts]; omega
      have hX : 1 ≤ 2 ^ pnts ps * pwts ps := Nat.le_trans hw1 (Nat.le_mul_of_pos_left _ hp1)
      split
      · have := (b.lf t ht).fw _ hlen
        omega
      · rw [Tr.weight]
        omega
      · have := (zeq (b.ri t ht) hlen (M := 2 ^ pnts ps * pwts ps) hX fun u hu => by
          obtain ⟨p, hp, rfl⟩ := List.mem_map.mp hu
          have h1 := ih p hp
          have h2 : 2 ^ p.nt ≤ 2 ^ pnts ps := Nat.pow_le_pow_right (by decide) (zcB hp)
          have h3 := zeW hp
          exact Nat.le_trans h1 (Nat.mul_le_mul h2 h3)).1
        omega
mutual
theorem zej : ∀ t : Tr, (t.fill []).depth = t.depth
  | .bl n => by simp [Tr.fill]
  | .nd s ts => by simp [Tr.fill, Tr.depth, zdv ts]
theorem zdv : ∀ ts : List Tr, dts (fills [] ts) = dts ts
  | [] => by simp [fills]
  | t :: ts => by simp [fills, dts, zej t, zdv ts]
end
theorem zlC (b : BkOk ws hs B) {p : Pl} (h : PlOk hs B p) : (p.ev B c).depth ≤ p.dp + 3 * p.nt := by
  induction h with
  | @sign b' h ps hh hp ih =>
    rw [zbC, Tr.depth, Pl.dp, Pl.nt, if_pos (by decide)]
    have : dts (ps.map (Pl.ev B c)) ≤ pdps ps + 3 * pnts ps := zkh fun t ht => by
      obtain ⟨p, hp, rfl⟩ := List.mem_map.mp ht
      have := ih p hp
      have := zcG hp
      have := zcB hp
      omega
    omega
  | @turn k b' h ps t e hl b0 b1 hp ih =>
    have ht : t ∈ B := List.mem_of_getElem? e
    have hk : ∀ u ∈ ps.map (Pl.ev B c), u.depth ≤ pdps ps + 3 * pnts ps := fun t ht => by
      obtain ⟨p, hp, rfl⟩ := List.mem_map.mp ht
      have := ih p hp
      have := zcG hp
      have := zcB hp
      omega
    have en : (Pl.nd k b' h ps).nt = 1 + pnts ps := by rw [Pl.nt, if_neg (by omega)]
    have fd : ∀ L : Tr, L.depth ≤ 4 → (L.fill (ps.map (Pl.ev B c))).depth ≤ 1 + pdps ps + 3 * (1 + pnts ps) := fun L hL => by
      cases ps with
      | nil =>
        have := zej L
        simp only [List.map_nil] at *
        omega
      | cons q qs =>
        have h1 := zkr q
        have := zeu (k := pdps (q :: qs) + 3 * pnts (q :: qs)) (by simp [pdps]; omega) hk L
        omega
    rw [zbB e, Pl.dp, en]
    unfold evT
    split
    · exact fd _ (b.lf t ht).dp
    · rw [Tr.depth]
      have := zkh hk
      omega
    · have := zgZ (b.ri t ht)
      exact fd _ (by omega)
end
mutual
def Tr.mk (B : List Tn) (g : Tn → Tr) : Tr → Tr
  | .bl n => .bl n
  | .nd s ts => match turnB B s with
    | none => .nd s (mks B g ts)
    | some t => (g t).fill (mks B g ts)
def mks (B : List Tn) (g : Tn → Tr) : List Tr → List Tr
  | [] => []
  | t :: ts => t.mk B g :: mks B g ts
end
theorem zgV (B : List Tn) (g : Tn → Tr) : ∀ ts : List Tr, mks B g ts = ts.map (Tr.mk B g)
  | [] => by simp [mks]
  | t :: ts => by simp [mks, zgV B g ts]
theorem zkH {B : List Tn} {g : Tn → Tr} {s : Str} {ts : List Tr} (h : turnB B s = none) : (Tr.nd s ts).mk B g = .nd s (ts.map (Tr.mk B g)) := by
  rw [Tr.mk, h, zgV]
theorem zkS {B : List Tn} {g : Tn → Tr} {s : Str} {ts : List Tr} {t : Tn} (h : turnB B s = some t) : (Tr.nd s ts).mk B g = (g t).fill (ts.map (Tr.mk B g)) := by
  rw [Tr.mk, h, zgV]
theorem zbM {B : List Tn} (hB : ∀ t ∈ B, TitleW t.1) {s : Str} (h : SignW s) : turnB B s = none := zea fun t ht => (zcD h (hB t ht)).symm
mutual
theorem zhp {B : List Tn} {g : Tn → Tr} (hB : ∀ t ∈ B, TitleW t.1) {us : List Tr} : ∀ t : Tr, t.hb SignW → t.fits us.length → (t.fill us).mk B g = t.fill (us.map (Tr.mk B g))
  | .bl n, h, f => by
    simp only [Tr.fits] at f
    simp only [Tr.fill]
    rw [List.getD_eq_getElem?_getD, List.getD_eq_getElem?_getD, List.getElem?_map, List.getElem?_eq_getElem (show n.toNat < us.length by omega)]
    rfl
  | .nd s ts, h, f => by
    simp only [Tr.hb] at h
    simp only [Tr.fits] at f
    simp only [Tr.fill]
    rw [Tr.mk, zbM hB h.1]
    simp only []
    rw [zio hB ts h.2 f]
theorem zio {B : List Tn} {g : Tn → Tr} (hB : ∀ t ∈ B, TitleW t.1) {us : List Tr} : ∀ ts : List Tr, hbs SignW ts → fitss us.length ts → mks B g (fills us ts) = fills (us.map (Tr.mk B g)) ts
  | [], h, f => by simp [fills, mks]
  | t :: ts, h, f => by
    simp only [hbs] at h
    simp only [fitss] at f
    rw [fills, mks, fills, zhp hB t h.1 f.1, zio hB ts h.2 f.2]
end
section
variable {ws hs : List Str} {B : List Tn} {c d : Int → Nat}
theorem zse (b : BkOk ws hs B) {g : Tn → Tr} (hg : ∀ t ∈ B, ∀ x : Int, 0 ≤ x → x < 8 → c x = 1 → ∀ us, (g t).fill us = evT t (d x) us) (h0 : ∀ x : Int, 0 ≤ x → x < 8 → c x ≠ 1 → d x = c x) {p : Pl} (h : PlOk hs B p) : (p.ev B c).mk B g = p.ev B d := by
  induction h with
  | @sign b' h ps hh hp ih =>
    rw [zbC, zbC, zkH (zbM b.ti (b.sg h (b.sb h hh))), List.map_map]
    congr 1
    exact List.map_congr_left fun p hp => ih p hp
  | @turn k b' h ps t e hl b0 b1 hp ih =>
    have ht : t ∈ B := List.mem_of_getElem? e
    have em : (ps.map (Pl.ev B c)).map (Tr.mk B g) = ps.map (Pl.ev B d) := by
      rw [List.map_map]
      exact List.map_congr_left fun p hp => ih p hp
    rw [zbB e, zbB e]
    by_cases hc : c b' = 1
    · rw [← hg t ht b' b0 b1 hc, hc]
      show (Tr.nd t.1 _).mk B g = _
      rw [zkS (zcj b.nd ht), em]
    · rw [h0 b' b0 b1 hc]
      unfold evT
      split
      · rw [zhp b.ti _ (b.lf t ht).hb (by rw [List.length_map, hl]; exact (b.lf t ht).fits), em]
      · rename_i z
        exact absurd z hc
      · rw [zhp b.ti _ (zeQ b.sg (b.ri t ht)) (by rw [List.length_map, hl]; exact zdo (b.ri t ht)), em]
def toSrc (c : Int → Nat) : Int → Nat := fun x => if c x = 1 then 0 else c x
theorem zpw (b : BkOk ws hs B) {p : Pl} (h : PlOk hs B p) : (p.ev B c).mk B (fun t => t.2.1) = p.ev B (toSrc c) :=
  zse b (fun t ht x _ _ hx us => by rw [toSrc, if_pos hx]; rfl) (fun x _ _ hx => by rw [toSrc, if_neg hx]) h
theorem zod {p : Pl} (h : PlOk hs B p) (hc : ∀ x : Int, 0 ≤ x → x < 8 → c x = d x) : p.ev B c = p.ev B d := by
  induction h with
  | @sign b' h ps hh hp ih =>
    rw [zbC, zbC]
    congr 1
    exact List.map_congr_left fun p hp => ih p hp
  | @turn k b' h ps t e hl b0 b1 hp ih =>
    rw [zbB e, zbB e, hc b' b0 b1]
    congr 1
    exact List.map_congr_left fun p hp => ih p hp
end
theorem zhP {n : Nat} {h c d : Str} {L : Tr} (hL : L ∈ leftsL n h c d) {us : List Tr} (hu : us.length = L.nb) : L.mt (L.fill us) = some us := by
  unfold leftsL at hL
  split at hL <;> simp only [List.mem_cons, List.not_mem_nil, or_false] at hL
  all_goals first
    | (subst hL; rcases us with _ | ⟨u, _ | ⟨v, _ | ⟨x, _ | ⟨y, us⟩⟩⟩⟩ <;> simp [Tr.nb, nbs, Tr.fill, fills, Tr.mt, mts] at hu ⊢ <;> omega)
    | (rcases hL with rfl | rfl <;> rcases us with _ | ⟨u, _ | ⟨v, _ | ⟨x, _ | ⟨y, us⟩⟩⟩⟩ <;> simp [Tr.nb, nbs, Tr.fill, fills, Tr.mt, mts] at hu ⊢ <;> omega)
def MtOk (B : List Tn) : Prop := ∀ t ∈ B, ∀ us : List Tr, us.length = t.2.1.nb → t.2.1.mt (t.2.1.fill us) = some us
theorem BookOk.mt {w0 w1 w2 w3 w4 w5 : Str} {tt : List Str} {B : List Tn} (b : BookOk w0 w1 w2 w3 w4 w5 tt B) : MtOk B := fun t ht us hu => by
  obtain ⟨n, m, e⟩ := b.lf
  have : t.2.1 ∈ leftsL n w0 w2 w3 ++ leftsL m w1 w2 w3 := by rw [← e]; exact List.mem_map.mpr ⟨t, ht, rfl⟩
  rcases List.mem_append.mp this with z | z
  · exact zhP z hu
  · exact zhP z hu
mutual
inductive Mv (B : List Tn) : Nat → Tr → Tr → Tr → Prop
  | nn {n : Nat} {s z : Str} {ts us cs : List Tr} : turnB B s = none → turnB B z = none → Mvs B n ts us cs → Mv B (n + 1) (.nd s ts) (.nd z us) (.nd s cs)
  | ns {n : Nat} {s z : Str} {ts us cs ms : List Tr} {t : Tn} : turnB B s = none → turnB B z = some t → t.2.1.mt (.nd s ts) = some ms → cs.length = t.2.1.nb → Mvs B n ms us cs → Mv B (n + 1) (.nd s ts) (.nd z us) (t.2.2.fill cs)
  | sn {n : Nat} {s z : Str} {ts us cs ms : List Tr} {t : Tn} : turnB B s = some t → turnB B z = none → t.2.1.mt (.nd z us) = some ms → Mvs B n ts ms cs → Mv B (n + 1) (.nd s ts) (.nd z us) (.nd s cs)
  | ss {n : Nat} {s z : Str} {ts us cs : List Tr} {t t' : Tn} : turnB B s = some t' → turnB B z = some t → cs.length = t.2.1.nb → Mvs B n ts us cs → Mv B (n + 1) (.nd s ts) (.nd z us) (t.2.2.fill cs)
inductive Mvs (B : List Tn) : Nat → List Tr → List Tr → List Tr → Prop
  | nil {n : Nat} : Mvs B n [] [] []
  | cons {n : Nat} {a b c : Tr} {as bs cs : List Tr} : Mv B n a b c → Mvs B n as bs cs → Mvs B n (a :: as) (b :: bs) (c :: cs)
end
theorem zjK {P : Str → Prop} : ∀ {ts us : List Tr}, hds P ts → hds P us → hds P (ts ++ us)
  | [], us, _, h => h
  | t :: ts, us, h, g => by
    simp only [hds, List.cons_append] at h ⊢
    exact ⟨h.1, zjK h.2 g⟩
end L2
end

section
set_option Elab.async false
set_option linter.all false
set_option maxRecDepth 100000
set_option maxHeartbeats 4000000
namespace L2
open PySem PySem.Spec PyProof.Rows
mutual
inductive PlAt (S : Sto) : Pl → W → Prop
  | nd {k b : Int} {h : Str} {ps : List Pl} {a : Addr} {vs : List W} : S a = some (.lst vs) → PlsAt S ps vs → PlAt S (.nd k b h ps) (.tup [.int k, .int b, .str h, .ref a])
inductive PlsAt (S : Sto) : List Pl → List W → Prop
  | nil : PlsAt S [] []
  | cons {p : Pl} {v : W} {ps : List Pl} {vs : List W} : PlAt S p v → PlsAt S ps vs → PlsAt S (p :: ps) (v :: vs)
end
mutual
theorem PlAt.sub {S S' : Sto} (h : Sub S S') : ∀ {p : Pl} {v : W}, PlAt S p v → PlAt S' p v
  | _, _, .nd e q => .nd (h _ _ e) (PlsAt.sub h q)
theorem PlsAt.sub {S S' : Sto} (h : Sub S S') : ∀ {ps : List Pl} {vs : List W}, PlsAt S ps vs → PlsAt S' ps vs
  | _, _, .nil => .nil
  | _, _, .cons a b => .cons (PlAt.sub h a) (PlsAt.sub h b)
end
section
variable {S : Sto}
theorem PlsAt.len : ∀ {ps : List Pl} {vs : List W}, PlsAt S ps vs → ps.length = vs.length
  | _, _, .nil => rfl
  | _, _, .cons _ h => congrArg (· + 1) (PlsAt.len h)
theorem PlsAt.app : ∀ {ps qs : List Pl} {vs us : List W}, PlsAt S ps vs → PlsAt S qs us → PlsAt S (ps ++ qs) (vs ++ us)
  | _, _, _, _, .nil, h => h
  | _, _, _, _, .cons a b, h => .cons a (PlsAt.app b h)
theorem PlsAt.take : ∀ (n : Nat) {ps : List Pl} {vs : List W}, PlsAt S ps vs → PlsAt S (ps.take n) (vs.take n)
  | 0, _, _, _ => .nil
  | _ + 1, _, _, .nil => .nil
  | n + 1, _, _, .cons a b => .cons a (PlsAt.take n b)
theorem PlsAt.drop : ∀ (n : Nat) {ps : List Pl} {vs : List W}, PlsAt S ps vs → PlsAt S (ps.drop n) (vs.drop n)
  | 0, _, _, h => h
  | _ + 1, _, _, .nil => .nil
  | n + 1, _, _, .cons _ b => PlsAt.drop n b
theorem PlsAt.rep {p : Pl} {v : W} (h : PlAt S p v) : ∀ n : Nat, PlsAt S (List.replicate n p) (List.replicate n [v]).flatten
  | 0 => .nil
  | n + 1 => by
    rw [List.replicate_succ, List.replicate_succ, List.flatten_cons]
    exact .cons h (PlsAt.rep h n)
end
def pad (w : Str) : Pl := .nd (-1) 0 w []
def padded (need : Nat) (w : Str) (ps : List Pl) : List Pl := List.replicate (need - ps.length) (pad w) ++ ps
def push (need : Nat) (w : Str) (k b : Int) (h : Str) (ps : List Pl) : List Pl :=
  (padded need w ps).take ((padded need w ps).length - need) ++ [.nd k b h ((padded need w ps).drop ((padded need w ps).length - need))]
theorem zhW (w : Str) : ∀ n : Nat, pwts (List.replicate n (pad w)) = n
  | 0 => by simp [pwts]
  | n + 1 => by rw [List.replicate_succ, pwts, zhW w n]; simp [pad, Pl.wt, pwts]; omega
theorem zit (w : Str) : ∀ n : Nat, pnts (List.replicate n (pad w)) = 0
  | 0 => by simp [pnts]
  | n + 1 => by rw [List.replicate_succ, pnts, zit w n]; simp [pad, Pl.nt, pnts]
theorem zdz : ∀ ps : List Pl, ps.length ≤ pwts ps
  | [] => by simp
  | p :: ps => by have := zdz ps; have := zkk p; simp [pwts]; omega
theorem zcE (need : Nat) (w : Str) (ps : List Pl) : (padded need w ps).length = need - ps.length + ps.length := by simp [padded]
theorem zlb {need : Nat} {w : Str} {k b : Int} {h : Str} {ps : List Pl} : pwts (push need w k b h ps) = need - ps.length + pwts ps + 1 ∧ pnts (push need w k b h ps) = pnts ps + (if k < 0 then 0 else 1) ∧ (push need w k b h ps).length = need - ps.length + ps.length - need + 1 := by
  have hl := zcE need w ps
  have h1 : pwts (padded need w ps) = need - ps.length + pwts ps := by rw [padded, zbD, zhW]
  have h2 : pnts (padded need w ps) = pnts ps := by rw [padded, zbz, zit]; omega
  have h3 := zbD ((padded need w ps).take ((padded need w ps).length - need)) ((padded need w ps).drop ((padded need w ps).length - need))
  have h4 := zbz ((padded need w ps).take ((padded need w ps).length - need)) ((padded need w ps).drop ((padded need w ps).length - need))
  rw [List.take_append_drop] at h3 h4
  unfold push
  refine ⟨?_, ?_, ?_⟩
  · rw [zbD, pwts, pwts, Pl.wt]
    omega
  · rw [zbz, pnts, pnts, Pl.nt]
    omega
  · rw [List.length_append, List.length_take, List.length_singleton, hl]
    omega
theorem ziO {need : Nat} {w : Str} (ps : List Pl) : ((padded need w ps).drop ((padded need w ps).length - need)).length = need := by
  have hl := zcE need w ps
  rw [List.length_drop, hl]
  omega
theorem zgq {ws : List Str} {B : List Tn} {need : Nat} {w : Str} {ps : List Pl} (hw : w ∈ ws) (h : ∀ p ∈ ps, PlOk ws B p) : ∀ p ∈ padded need w ps, PlOk ws B p := fun p hp => by
  rcases List.mem_append.mp hp with z | z
  · rw [(List.mem_replicate.mp z).2]
    exact .sign hw fun q hq => by cases hq
  · exact h p z
theorem zot {ws : List Str} {B : List Tn} {need : Nat} {w : Str} {k b : Int} {h : Str} {ps : List Pl} (hw : w ∈ ws) (hp : ∀ p ∈ ps, PlOk ws B p) (hn : ∀ qs : List Pl, qs.length = need → (∀ q ∈ qs, PlOk ws B q) → PlOk ws B (.nd k b h qs)) : ∀ p ∈ push need w k b h ps, PlOk ws B p := fun p hq => by
  rcases List.mem_append.mp hq with z | z
  · exact zgq hw hp p (List.mem_of_mem_take z)
  · rw [List.mem_singleton.mp z]
    exact hn _ (ziO ps) fun q hq => zgq hw hp q (List.mem_of_mem_drop hq)
def planT : WS := (wIfS (wAnd (wTb (wOp oGt (wVar 3) (wC (.int 0)))) (wTb (wOp oLt (wVar 5) (wC (.int 5))))) (wSeq (wAsg (wOp (oInt0 fun i j => .int (i - j)) (wVar 3) (wC (.int 1))) (wGN 3))
    (wSeq (wAsg (wNew (wCatF (wRepL (wLst (waCons (wTup (waCons (wNeg (wC (.int 1))) (waCons (wC (.int 0)) (waCons (wOp oIx (wVar 2) (wC (.int 2))) (waCons (wNew (wLst waNil)) waNil))))) waNil)) (wOp (oInt0 fun i j => .int (i - j)) (wVar 8) (wB fLen (waCons (wVar 4) waNil)))) (wVar 4))) (wGN 4))
    (wSeq (wAsg (wOp (oInt0 fun i j => .int (i - j)) (wB fLen (waCons (wVar 4) waNil)) (wVar 8)) (wGN 11))
    (wAsg (wNew (wCatB (wSlL (wVar 4) woN (woS (wVar 11))) (wLst (waCons (wOp oAdd (wVar 9) (wTup (waCons (wSl (wVar 4) (woS (wVar 11)) woN) waNil))) waNil)))) (wGN 4))))) wNext)
theorem zlj {r : Nat} : zcT r wOut = (wSeq (wAsg (wOp (oInt (fun _ j => 0 < j) fun i j => .int (i % j)) (wVar 6) (wC (.int 8))) (wGN 7))
    (wSeq (wAsg (wIxL (wLst (waCons (wC (.int 0)) (waCons (wC (.int 0)) (waCons (wC (.int 1)) (waCons (wC (.int 2)) waNil))))) (wB fMin2 (waCons (wVar 7) (waCons (wC (.int 3)) waNil)))) (wGN 8))
    (wSeq (wAsg (wTup (waCons (wNeg (wC (.int 1))) (waCons (wC (.int 0)) (waCons (wOp oIx (wVar 2) (wIxL (wLst (waCons (wC (.int 2)) (waCons (wC (.int 5)) (waCons (wC (.int 3)) (waCons (wC (.int 4)) waNil))))) (wB fMin2 (waCons (wVar 7) (waCons (wC (.int 3)) waNil))))) waNil)))) (wGN 9))
    (wSeq (wIfS (wTb (wOp oGt (wVar 7) (wC (.int 3)))) (wSeq (wAsg (wOp (oInt (fun _ j => 0 < j) fun i j => .int (i % j)) (wOp (oInt CDiv fun i j => .int (i / j)) (wVar 6) (wC (.int 8))) (wB fLen (waCons (wVar 1) waNil))) (wGN 10))
    (wSeq (wAsg (wCall (zan r) (waCons (wOp oIx (wOp oIx (wVar 1) (wVar 10)) (wC (.int 1))) waNil)) (wGN 8))
    (wSeq (wAsg (wTup (waCons (wVar 10) (waCons (wOp (oInt (fun _ j => 0 < j) fun i j => .int (i % j)) (wOp (oInt CDiv fun i j => .int (i / j)) (wVar 6) (wC (.int 64))) (wC (.int 8))) (waCons (wC (.str "")) waNil)))) (wGN 9))
    (wAsg (wOp oAdd (wVar 5) (wC (.int 1))) (wGN 5))))) wNext)
    planT)))) := rfl
section
variable {w0 w1 w2 w3 w4 w5 : Str} {r : Nat} {S : Sto} {aw st : Addr} {E : WX} {D : WEnds}
theorem zkZ {need : Nat} {k b room spent : Int} {h : Str} {ps : List Pl} {vs : List W} {x0 x1 x6 x7 x10 x11 : Option W} (hw : S aw = some (.lst (six w0 w1 w2 w3 w4 w5))) (hst : S st = some (.lst vs)) (hp : PlsAt S ps vs) (hn : need ≤ 3) (hl : ps.length ≤ 100)
    (h1 : D.nx [x0, x1, some (.ref aw), some (.int room), some (.ref st), some (.int spent), x6, x7, some (.int need), some (.tup [.int k, .int b, .str h]), x10, x11] S)
    (h2 : 0 < room → spent < 5 → ∀ (st' : Addr) (S' : Sto) (vs' : List W) (x11 : Option W), Sub S S' → S' st' = some (.lst vs') → PlsAt S' (push need w2 k b h ps) vs' → D.nx [x0, x1, some (.ref aw), some (.int (room - 1)), some (.ref st'), some (.int spent), x6, x7, some (.int need), some (.tup [.int k, .int b, .str h]), x10, x11] S') :
    planT E D [x0, x1, some (.ref aw), some (.int room), some (.ref st), some (.int spent), x6, x7, some (.int need), some (.tup [.int k, .int b, .str h]), x10, x11] S := by
  unfold planT
  walk_at "wp"
  split
  · rename_i c1
    split
    · rename_i c2
      simp only [zai hw, six2]
      have f1 := fun (a : Addr) (ha : S a = none) => keep (x := Ob.lst []) hst ha
      refine ⟨Nat.zero_le _, fun a ha => ⟨zah (by decide), zah (by decide), ?_⟩⟩
      rw [zai (f1 a ha), zai (f1 a ha)]
      have hlen := hp.len
      have en : ((need : Int) - (vs.length : Int)).toNat = need - ps.length := by omega
      rw [en]
      have pa : PlAt (put S a (Ob.lst [])) (pad w2) (.tup [.int (-1), .int 0, .str w2, .ref a]) := .nd zaf .nil
      have pp : PlsAt (put S a (Ob.lst [])) (padded need w2 ps) ((List.replicate (need - ps.length) [W.tup [.int (-1), .int 0, .str w2, .ref a]]).flatten ++ vs) := (PlsAt.rep pa _).app (hp.sub (.put .refl ha))
      have pl := pp.len
      have sub1 : Sub S (put S a (Ob.lst [])) := .put .refl ha
      have hfl : ((List.replicate (need - ps.length) [W.tup [.int (-1), .int 0, .str w2, .ref a]]).flatten).length ≤ 3 := by
        rw [List.length_append, zcE] at pl
        omega
      have e0 : (1 * (need - ps.length)) ≤ sizeLine := zah (by omega)
      refine ⟨⟨by omega, by omega, e0⟩, zah (by omega), ?_⟩
      generalize (List.replicate (need - ps.length) [W.tup [.int (-1), .int 0, .str w2, .ref a]]).flatten ++ vs = ys at pp pl ⊢
      generalize put S a (Ob.lst []) = S1 at pp sub1 ⊢
      intro b2 hb2
      have sub2 : Sub S1 (put S1 b2 (.lst ys)) := .put .refl hb2
      generalize put S1 b2 (Ob.lst ys) = S2 at sub2 ⊢
      have hpl := zcE need w2 ps
      have ea : ((ys.length : Nat) : Int) - (need : Int) = ((ys.length - need : Nat) : Int) := by omega
      rw [ea, zhZ, zid]
      intro p hp3
      have sub3 : Sub S2 (put S2 p (.lst (ys.drop (ys.length - need)))) := .put .refl hp3
      have fp : put S2 p (Ob.lst (ys.drop (ys.length - need))) p = some (.lst (ys.drop (ys.length - need))) := zaf
      generalize put S2 p (Ob.lst (ys.drop (ys.length - need))) = S3 at sub3 fp ⊢
      refine ⟨zah (by decide), zah (by decide), zah (by decide), zah (by rw [List.length_take]; omega), fun q hq => ?_⟩
      have sub4 : Sub S3 (put S3 q (.lst (ys.take (ys.length - need) ++ [.tup [.int k, .int b, .str h, .ref p]]))) := .put .refl hq
      refine h2 c1 c2 q _ _ _ (((sub1.trans sub2).trans sub3).trans sub4) zaf ?_
      unfold push
      have pp3 := pp.sub ((sub2.trans sub3).trans sub4)
      rw [← pl] at *
      exact (pp3.take _).app (.cons (.nd (sub4 _ _ fp) (pp3.drop _)) .nil)
    · exact h1
  · exact h1
theorem zoj (n : Int) (h0 : 0 ≤ n) (h1 : n < 8) : ∃ m : Nat, m ≤ 2 ∧ atI [W.int 0, W.int 0, W.int 1, W.int 2] (if 3 < n then 3 else n) = some (.int (m : Int)) := by
  rcases (show n = 0 ∨ n = 1 ∨ n = 2 ∨ (3 ≤ n) by omega) with rfl | rfl | rfl | h
  · exact ⟨0, by decide, rfl⟩
  · exact ⟨0, by decide, rfl⟩
  · exact ⟨1, by decide, rfl⟩
  · have : (if 3 < n then 3 else n) = 3 := by split <;> omega
    rw [this]
    exact ⟨2, by decide, rfl⟩
theorem znQ (n : Int) (h0 : 0 ≤ n) (h1 : n < 8) : ∃ (i : Int) (x : Str), x ∈ [w2, w3, w4, w5] ∧ atI [W.int 2, W.int 5, W.int 3, W.int 4] (if 3 < n then 3 else n) = some (.int i) ∧ atI (six w0 w1 w2 w3 w4 w5) i = some (.str x) := by
  rcases (show n = 0 ∨ n = 1 ∨ n = 2 ∨ (3 ≤ n) by omega) with rfl | rfl | rfl | h
  · exact ⟨2, w2, by simp, rfl, rfl⟩
  · exact ⟨5, w5, by simp, rfl, rfl⟩
  · exact ⟨3, w3, by simp, rfl, rfl⟩
  · have : (if 3 < n then 3 else n) = 3 := by split <;> omega
    rw [this]
    exact ⟨4, w4, by simp, rfl, rfl⟩
theorem ok_plan {Q : WK} {X : Str → Sto → Prop} {ac ab : Addr} {cells : List Int} {B : List Tn} (hc : S ac = some (.lst (cells.map W.int))) (hb : S ab = some (.lst (B.map encT))) (hw : S aw = some (.lst (six w0 w1 w2 w3 w4 w5))) (bk : BkOk [w0, w1, w2, w3, w4, w5] [w2, w3, w4, w5] B) (hB : B ≠ [])
    (h : ∀ (p : Pl) (v : W) (S' : Sto), Sub S S' → PlAt S' p v → PlOk [w2, w3, w4, w5] B p → p.wt ≤ 23 → p.nt ≤ 4 → Q v S') : zbh (r + 10) [.ref ac, .ref ab, .ref aw, .int 9] S Q X := by
  rw [show r + 10 = r + 9 + 1 from rfl, zbh]
  walk_at "wp"
  refine ⟨Nat.zero_le _, fun st0 hst0 => ?_⟩
  rw [zai (keep hc hst0)]
  refine zhb (fun ws σ S' => ∃ (ns : List Int) (ps : List Pl) (vs : List W) (st : Addr) (room spent : Int) (x6 x7 x8 x9 x10 x11 : Option W), ws = ns.map W.int ∧ Sub S S' ∧ S' st = some (.lst vs) ∧ PlsAt S' ps vs ∧ (∀ p ∈ ps, PlOk [w2, w3, w4, w5] B p) ∧ 0 ≤ room ∧ room ≤ 9 ∧ (pnts ps : Int) ≤ spent ∧ pnts ps ≤ 4 ∧ (pwts ps : Int) + ps.length ≤ 2 * (9 - room) + pnts ps + 2 ∧
    σ = [some (.ref ac), some (.ref ab), some (.ref aw), some (.int room), some (.ref st), some (.int spent), x6, x7, x8, x9, x10, x11]) ?_ ?_ _ _ _ ⟨cells, [], [], st0, 9, 0, none, none, none, none, none, none, rfl, .put .refl hst0, zaf, .nil, (fun _ h => nomatch h), by decide, by decide, by simp [pnts], by simp [pnts], by simp [pnts, pwts], rfl⟩
  · rintro w ws σ S' N ⟨ns, ps, vs, st, room, spent, x6, x7, x8, x9, x10, x11, ew, sub, hst, hp, ok, r0, r1, p0, p1, p2, rfl⟩ hN
    cases ns with
    | nil => cases ew
    | cons n ns =>
    cases ew
    have fw := sub _ _ hw
    have fb := sub _ _ hb
    have fc := sub _ _ hc
    have m0 : 0 ≤ n % 8 := Int.emod_nonneg _ (by decide)
    have m1 : n % 8 < 8 := Int.emod_lt_of_pos _ (by decide)
    have hpl := zdz ps
    obtain ⟨need, hneed, en⟩ := zoj (n % 8) m0 m1
    obtain ⟨i, hd, hhd, e1, e2⟩ := znQ (w0 := w0) (w1 := w1) (w2 := w2) (w3 := w3) (w4 := w4) (w5 := w5) (n % 8) m0 m1
    -- what is done with a node
    have go : ∀ (need : Nat) (k b : Int) (hh : Str) (sp : Int) (x10 : Option W), need ≤ 3 → (∀ qs : List Pl, qs.length = need → (∀ q ∈ qs, PlOk [w2, w3, w4, w5] B q) → PlOk [w2, w3, w4, w5] B (.nd k b hh qs)) → (k < 0 ∧ need ≤ 2 ∧ sp = spent ∨ ¬ k < 0 ∧ sp = spent + 1) →
        ∀ (E : WX) (D : WEnds), D.nx = N → planT E D [some (.ref ac), some (.ref ab), some (.ref aw), some (.int room), some (.ref st), some (.int sp), some (.int n), some (.int (n % 8)), some (.int need), some (.tup [.int k, .int b, .str hh]), x10, x11] S' := fun need k b hh sp x10 hn hok hk E D hD => by
      subst hD
      refine zkZ fw hst hp hn (by omega) ?_ fun c1 c2 st' S2 vs' x11 sub2 hst2 hp2 => ?_
      · refine hN _ _ S' .refl fc ⟨ns, ps, vs, st, room, sp, _, _, _, _, _, _, rfl, sub, hst, hp, ok, r0, r1, by omega, p1, p2, rfl⟩
      · obtain ⟨s1, s2, s3⟩ := zlb (need := need) (w := w2) (k := k) (b := b) (h := hh) (ps := ps)
        have hz : ps.length = 0 → pwts ps = 0 ∧ pnts ps = 0 := fun z => by
          cases ps with
          | nil => exact ⟨rfl, rfl⟩
          | cons _ _ => simp at z
        have fin : (pnts (push need w2 k b hh ps) : Int) ≤ sp → pnts (push need w2 k b hh ps) ≤ 4 → (pwts (push need w2 k b hh ps) : Int) + (push need w2 k b hh ps).length ≤ 2 * (9 - (room - 1)) + pnts (push need w2 k b hh ps) + 2 → D.nx [some (.ref ac), some (.ref ab), some (.ref aw), some (.int (room - 1)), some (.ref st'), some (.int sp), some (.int n), some (.int (n % 8)), some (.int need), some (.tup [.int k, .int b, .str hh]), x10, x11] S2 := fun f1 f2 f3 =>
          hN _ _ S2 .refl (sub2 _ _ fc) ⟨ns, _, vs', st', room - 1, sp, _, _, _, _, _, _, rfl, sub.trans sub2, hst2, hp2, zot (by simp) ok hok, by omega, by omega, f1, f2, f3, rfl⟩
        rcases hk with ⟨kn, n2, es⟩ | ⟨kp, es⟩
        · rw [if_pos kn] at s2
          refine fin (by omega) (by omega) ?_
          rcases Nat.eq_zero_or_pos ps.length with z | z
          · have := hz z; omega
          · omega
        · rw [if_neg kp] at s2
          refine fin (by omega) (by omega) ?_
          rcases Nat.eq_zero_or_pos ps.length with z | z
          · have := hz z; omega
          · omega
    rw [zlj]
    walk_at "wp"
    simp only [en, e1]
    walk_at "wp"
    simp only [zai fw, e2]
    refine ⟨by decide, zah (by decide), zah (by decide), zah (by decide), ?_⟩
    split
    · have hbl : (B.map encT) ≠ [] := by simpa using hB
      obtain ⟨j, x, ej, ex⟩ := zqP (n / 8) hbl
      have hlt : 0 < (B.map encT).length := List.length_pos_iff.mpr hbl
      have ek : n / 8 % ((B.map encT).length : Int) = (((n / 8 % ((B.map encT).length : Int)).toNat : Nat) : Int) := by
        have := Int.emod_nonneg (n / 8) (show ((B.map encT).length : Int) ≠ 0 by omega)
        omega
      have ek2 := zbu (xs := B.map encT) (n := (n / 8 % ((B.map encT).length : Int)).toNat)
      rw [← ek, ex, List.getElem?_map] at ek2
      cases et : B[(n / 8 % ((B.map encT).length : Int)).toNat]? with
      | none => rw [et] at ek2; cases ek2
      | some t =>
        rw [et] at ek2
        have ext : x = .tup [.str t.1, enc t.2.1, enc t.2.2] := by cases ek2; rfl
        have ht : t ∈ B := List.mem_of_getElem? et
        have LT := bk.lf t ht
        have hLd := LT.dp
        have hLw := LT.wt
        have hLn := LT.nb
        simp only [zai fb, ex, ext]
        walk_at "wp"
        rw [show atI [W.str t.1, enc t.2.1, enc t.2.2] 1 = some (enc t.2.1) from rfl]
        refine ⟨⟨by decide, by decide⟩, by omega, ?_⟩
        refine zfA 4 hLd (by omega) (by omega) ⟨⟨by decide, by decide⟩, by decide, zah (by decide), ?_⟩
        have b0 : 0 ≤ n / 64 % 8 := Int.emod_nonneg _ (by decide)
        have b1 : n / 64 % 8 < 8 := Int.emod_lt_of_pos _ (by decide)
        refine go t.2.1.nb _ _ _ _ _ hLn (fun qs hq hqs => ?_) (.inr ⟨by omega, rfl⟩) _ _ rfl
        rw [ek]
        exact .turn et hq b0 b1 hqs
    · exact go need (-1) 0 hd spent _ (by omega) (fun qs hq hqs => .sign hhd hqs) (.inl ⟨by decide, hneed, rfl⟩) _ _ rfl
  · rintro σ S' ⟨ns, ps, vs, st, room, spent, x6, x7, x8, x9, x10, x11, ew, sub, hst, hp, ok, r0, r1, p0, p1, p2, rfl⟩
    have hpl := zdz ps
    refine ⟨fun m σ S2 => ∃ (ps : List Pl) (vs : List W) (st : Addr), m = ps.length ∧ Sub S S2 ∧ S2 st = some (.lst vs) ∧ PlsAt S2 ps vs ∧ (∀ p ∈ ps, PlOk [w2, w3, w4, w5] B p) ∧ pnts ps ≤ 4 ∧ pwts ps + ps.length ≤ 24 ∧
      σ = [some (.ref ac), some (.ref ab), some (.ref aw), some (.int room), some (.ref st), some (.int spent), x6, x7, x8, x9, x10, x11], ⟨_, ps, vs, st, rfl, sub, hst, hp, ok, p1, by omega, rfl⟩, ?_⟩
    rintro m σ S2 ⟨ps, vs, st, rfl, sub, hst, hp, ok, p1, p2, rfl⟩
    have hlen := hp.len
    have fw := sub _ _ hw
    walk_at "wp"
    rw [zai hst]
    split
    · rename_i hgt
      simp only [zcV]
      walk_at "wp"
      simp only [zai hst, zai fw, six4]
      have c1 : cutA vs none (some (-2)) = vs.take (vs.length - 2) := zgW 2 (by decide)
      have c2 : cutA vs (some (-2)) none = vs.drop (vs.length - 2) := zkE 2 (by decide)
      rw [c1, c2]
      intro p hp3
      have sub3 : Sub S2 (put S2 p (.lst (vs.drop (vs.length - 2)))) := .put .refl hp3
      have fp : put S2 p (Ob.lst (vs.drop (vs.length - 2))) p = some (.lst (vs.drop (vs.length - 2))) := zaf
      generalize put S2 p (Ob.lst (vs.drop (vs.length - 2))) = S3 at sub3 fp ⊢
      refine ⟨zah (by decide), zah (by decide), zah (by rw [List.length_take]; omega), fun q hq => ?_⟩
      have sub4 : Sub S3 (put S3 q (.lst (vs.take (vs.length - 2) ++ [.tup [.int (-1), .int 0, .str w4, .ref p]]))) := .put .refl hq
      have hp4 := hp.sub (sub3.trans sub4)
      have hw3 := zbD (ps.take (vs.length - 2)) (ps.drop (vs.length - 2))
      have hn3 := zbz (ps.take (vs.length - 2)) (ps.drop (vs.length - 2))
      rw [List.take_append_drop] at hw3 hn3
      refine ⟨_, _, ?_, .refl, ps.take (vs.length - 2) ++ [.nd (-1) 0 w4 (ps.drop (vs.length - 2))], _, q, rfl, (sub.trans sub3).trans sub4, zaf, (hp4.take _).app (.cons (.nd (sub4 _ _ fp) (hp4.drop _)) .nil), fun x hx => ?_, ?_, ?_, rfl⟩
      · rw [List.length_append, List.length_take, List.length_singleton]
        omega
      · rcases List.mem_append.mp hx with z | z
        · exact ok x (List.mem_of_mem_take z)
        · rw [List.mem_singleton.mp z]
          exact .sign (by simp) fun y hy => ok y (List.mem_of_mem_drop hy)
      · rw [zbz, pnts, pnts, Pl.nt, if_pos (by decide)]
        omega
      · rw [zbD, pwts, pwts, Pl.wt, List.length_append, List.length_take, List.length_singleton]
        omega
    · rename_i hle
      try walk_at "wp"
      simp only [zai fw, six5]
      refine ⟨Nat.zero_le _, fun a ha => ⟨zah (by decide), zah (by decide), ?_⟩⟩
      rw [zai (keep hst ha)]
      refine ⟨zah (by omega), ?_⟩
      cases hp with
      | nil =>
        exact ⟨_, .refl, h (pad w5) _ _ (sub.trans (.put .refl ha)) (.nd zaf .nil) (.sign (by simp) fun _ z => nomatch z) (by simp [pad, Pl.wt, pwts]) (by simp [pad, Pl.nt, pnts])⟩
      | @cons p v ps vs h1 h2 =>
        rw [List.cons_append, zfl]
        have e0 : ps = [] := by
          cases ps with
          | nil => rfl
          | cons q qs =>
            have := h2.len
            simp only [List.length_cons] at this hle
            omega
        subst e0
        simp only [pwts, pnts, List.length_cons, List.length_nil] at p1 p2
        exact ⟨_, .refl, h p v _ (sub.trans (.put .refl ha)) (h1.sub (.put .refl ha)) (ok p List.mem_cons_self) (by omega) (by omega)⟩
end
end L2
end

section
set_option Elab.async false
set_option linter.all false
set_option maxRecDepth 100000
set_option maxHeartbeats 4000000
namespace L2
open PySem PySem.Spec PyProof.Rows
section
variable {r : Nat} {S : Sto} {Q : WK} {E : Str → Sto → Prop} {a : Addr} {B : List Tn}
def encU : Option Tn → W
  | some t => encT t
  | none => .non
theorem zgf (B : List Tn) (s : Str) : B.findSome? (fun t => if t.1 == s then some (encT t) else none) = (turnB B s).map encT := by
  unfold turnB
  induction B with
  | nil => rfl
  | cons t B ih =>
    rw [List.findSome?_cons, List.find?_cons]
    cases e : t.1 == s with
    | true => rfl
    | false => simpa using ih
theorem zfO {s : Str} (ha : S a = some (.lst (B.map encT))) (h : Q (encU (turnB B s)) S) : zaS (r + 1) [.ref a, .str s] S Q E := by
  rw [zaS]
  walk_at "wp"
  rw [zai ha]
  refine zdi (S := S) ?_ (fun σ => ∃ x, σ = [some (.ref a), some (.str s), x]) encT (fun t => if t.1 == s then some (encT t) else none) B _ ⟨_, rfl⟩ (fun t ht σ N hI hno hret => ?_) (fun e σ hI => ?_) fun w e S' sb => ?_
  · exact ha
  · obtain ⟨x, rfl⟩ := hI
    simp only [zcL]
    have ee : encT t = .tup [.str t.1, enc t.2.1, enc t.2.2] := rfl
    rw [ee]
    walk_at "wp"
    cases e : t.1 == s with
    | true =>
      rw [e] at hret
      exact hret _ rfl _ .refl
    | false =>
      rw [e] at hno
      exact hno rfl _ _ ⟨_, rfl⟩ .refl
  · obtain ⟨x, rfl⟩ := hI
    walk_at "wp"
    rw [zgf] at e
    have : turnB B s = none := by
      cases q : turnB B s with
      | none => rfl
      | some t => rw [q] at e; cases e
    rw [this] at h
    exact ⟨_, .refl, h⟩
  · rw [zgf] at e
    cases q : turnB B s with
    | none => rw [q] at e; cases e
    | some t =>
      rw [q] at e h
      cases e
      exact ⟨_, sb, h⟩
theorem zhN {S : Sto} {x : Str} : ∀ ys : List Str, inF S (.str x) (ys.map W.str) = some (decide (x ∈ ys))
  | [] => by simp [inF]
  | y :: ys => by
    rw [List.map_cons, inF, zlw (n := 58), zhN ys]
    simp only [Option.some.injEq]
    rw [Bool.eq_iff_iff]
    simp only [Bool.or_eq_true, beq_iff_eq, decide_eq_true_eq, List.mem_cons]
    exact ⟨fun h => h.elim (fun e => .inl e.symm) .inr, fun h => h.elim (fun e => .inl e.symm) .inr⟩
theorem zhH (tt : List Str) : ∀ ts : List Tr, (ts.map fun t => (t.tin tt : Int)).sum = (tins tt ts : Int)
  | [] => by simp [tins]
  | t :: ts => by
    rw [List.map_cons, List.sum_cons, zhH tt ts, tins]
    omega
theorem zlB (tt : List Str) (ts : List Tr) : intsOf (ts.map fun t => W.int (t.tin tt : Int)) = some (ts.map fun t => (t.tin tt : Int)) := by
  have := zcF (ts.map fun t => (t.tin tt : Int))
  rw [List.map_map] at this
  exact this
theorem zng {tt : List Str} (ha : S a = some (.lst (tt.map W.str))) : ∀ (d : Nat) {t : Tr} {r : Nat} {Q : WK} {E : Str → Sto → Prop}, t.depth ≤ d → d ≤ r + 1 → t.hd (fun s => s.length ≤ 1000) → t.weight ≤ 90000 → Q (.int (t.tin tt)) S → zaD (r + 1) [enc t, .ref a] S Q E
  | 0, t, r, Q, E, hd, hr, hh, hw, h => by have := zbc t; omega
  | d + 1, .bl n, r, Q, E, hd, hr, hh, hw, h => by simp [Tr.hd] at hh
  | d + 1, .nd s ts, r, Q, E, hd, hr, hh, hw, h => by
    simp only [Tr.depth] at hd
    simp only [Tr.weight] at hw
    simp only [Tr.hd] at hh
    have hk := zco ts
    rw [zaD]
    simp only [enc]
    walk_at "wp"
    rw [zai ha, zhN]
    walk_at "wp"
    rw [zaN]
    refine zaQ (fun σ => ∃ x, σ = [x, some (.ref a)]) enc (fun t => .int (t.tin tt : Int)) trivial ts [] _ ⟨none, rfl⟩ (by simp; omega) (fun x hx σ R hI hR => ?_) ?_
    · obtain ⟨y, rfl⟩ := hI
      have hdx := zcr hx
      have hwx := zcP hx
      have := zbc x
      obtain ⟨r, rfl⟩ : ∃ r', r = r' + 1 := ⟨r - 1, by omega⟩
      simp only [zbX]
      walk_at "wp"
      exact zng ha d (t := x) (r := r) (by omega) (by omega) (zfu.mp hh.2 x hx) (by omega) (hR _ _ ⟨_, rfl⟩ .refl)
    · rw [List.nil_append, zlB]
      dsimp only
      rw [zhH]
      try walk_at "wp"
      have e : (if s ∈ tt then (1 : Int) else 0) + (tins tt ts : Int) = ((Tr.nd s ts).tin tt : Int) := by
        rw [Tr.tin]
        by_cases hs : s ∈ tt
        · simp [hs]
        · simp [hs]
      rw [e]
      exact ⟨S, .refl, h⟩
end
end L2
end

section
set_option Elab.async false
set_option linter.all false
set_option maxRecDepth 100000
set_option maxHeartbeats 4000000
namespace L2
open PySem PySem.Spec PyProof.Rows
def byC (f : Int) : Int → Nat := fun b => if b / f % 2 = 1 then 1 else 0
theorem PlsAt.zip {S : Sto} : ∀ {ps : List Pl} {vs : List W}, PlsAt S ps vs → ∀ x ∈ ps.zip vs, PlAt S x.1 x.2 ∧ x.1 ∈ ps
  | _, _, .nil, x, h => by simp at h
  | _, _, .cons a b, x, h => by
    rw [List.zip_cons_cons] at h
    rcases List.mem_cons.mp h with rfl | h
    · exact ⟨a, List.mem_cons_self⟩
    · have := PlsAt.zip b x h
      exact ⟨this.1, List.mem_cons_of_mem _ this.2⟩
theorem PlsAt.snd {S : Sto} {ps : List Pl} {vs : List W} (h : PlsAt S ps vs) : (ps.zip vs).map Prod.snd = vs := List.map_snd_zip (by rw [h.len]; exact Nat.le_refl _)
theorem PlsAt.fst {S : Sto} {ps : List Pl} {vs : List W} (h : PlsAt S ps vs) {α : Type} (f : Pl → α) : (ps.zip vs).map (fun x => f x.1) = ps.map f := by
  have : (ps.zip vs).map Prod.fst = ps := List.map_fst_zip (by rw [h.len]; exact Nat.le_refl _)
  conv => rhs; rw [← this, List.map_map]
  rfl
section
variable {S : Sto} {a : Addr} {ws hs : List Str} {B : List Tn}
theorem ok_way {f : Int} (hf : f = 1 ∨ f = 2 ∨ f = 4 ∨ f = 8) (ha : S a = some (.lst (B.map encT))) (b : BkOk ws hs B) : ∀ (d : Nat) {p : Pl} {v : W} {r : Nat} {Q : WK} {E : Str → Sto → Prop}, p.dp ≤ d → d + 8 ≤ r → PlAt S p v → PlOk hs B p → p.wt ≤ 1000 → Q (enc (p.ev B (byC f))) S → zbn (r + 1) [v, .ref a, .int f] S Q E
  | 0, p, v, r, Q, E, hd, hr, hp, ok, hw, h => by have := zkr p; omega
  | d + 1, .nd k b' hh ps, v, r, Q, E, hd, hr, hp, ok, hw, h => by
    cases hp with
    | @nd _ _ _ _ c vs hc hps =>
    simp only [Pl.dp] at hd
    simp only [Pl.wt] at hw
    have hlen := zdz ps
    obtain ⟨r, rfl⟩ : ∃ r', r = r' + 1 := ⟨r - 1, by omega⟩
    rw [zbn]
    walk_at "wp"
    rw [zai hc]
    rw [← hps.snd]
    have okp : ∀ x ∈ ps, PlOk hs B x := by
      cases ok with
      | sign _ h => exact h
      | turn _ _ _ _ h => exact h
    refine zaQ (fun σ => ∃ x, σ = [x, some (.ref a), some (.int f)]) Prod.snd (fun x => enc (x.1.ev B (byC f))) ?_ (ps.zip vs) [] _ ⟨none, rfl⟩ (by simp; omega) (fun x hx σ R hI hR => ?_) ?_
    · rw [hps.snd]; exact hc
    · obtain ⟨y, rfl⟩ := hI
      obtain ⟨h1, h2⟩ := hps.zip x hx
      have := zcG h2
      have := zeW h2
      simp only [zdx]
      walk_at "wp"
      exact ok_way hf ha b d (by omega) (by omega) h1 (okp _ h2) (by omega) (hR _ _ ⟨_, rfl⟩ .refl)
    · rw [List.nil_append, hps.fst fun p => enc (p.ev B (byC f))]
      intro q hq
      have eu : (ps.map fun p => enc (p.ev B (byC f))) = encs (ps.map (Pl.ev B (byC f))) := by rw [zaN, List.map_map]; rfl
      rw [eu]
      have fq : put S q (Ob.lst (encs (ps.map (Pl.ev B (byC f))))) q = some (.lst (encs (ps.map (Pl.ev B (byC f))))) := zaf
      have fa := keep (x := Ob.lst (encs (ps.map (Pl.ev B (byC f))))) ha hq
      have sub : Sub S (put S q (Ob.lst (encs (ps.map (Pl.ev B (byC f)))))) := .put .refl hq
      generalize put S q (Ob.lst (encs (ps.map (Pl.ev B (byC f))))) = S1 at fq fa sub ⊢
      try walk_at "wp"
      cases ok with
      | sign hs' _ =>
        rw [if_pos (by decide)]
        try rw [zai fq]
        rw [zbC] at h
        rw [zbd, List.length_map]
        simp only [enc] at h
        exact ⟨zah (by decide), zah (by omega), _, sub, h⟩
      | @turn k _ _ _ t e hl b0 b1 _ =>
        have ek : atI (B.map encT) (k : Int) = some (.tup [.str t.1, enc t.2.1, enc t.2.2]) := by
          rw [zbu, List.getElem?_map, e]; rfl
        have hdiv : CDiv b' f := by rcases hf with rfl | rfl | rfl | rfl <;> exact ⟨by decide, by decide⟩
        have ht : t ∈ B := List.mem_of_getElem? e
        rw [zbB e] at h
        rw [if_neg (by omega)]
        refine ⟨hdiv, by decide, ?_⟩
        simp only [zai fa, ek]
        by_cases e1 : b' / f % 2 = 1
        · rw [e1]
          have : byC f b' = 1 := by unfold byC; rw [if_pos e1]
          rw [this] at h
          simp only [evT, enc] at h
          try walk_at "wp"
          try rw [zai fq]
          rw [zbd, List.length_map]
          exact ⟨zah (by decide), zah (by omega), _, sub, h⟩
        · have e2 : (b' / f % 2 == 1) = false := by simpa using e1
          rw [e2]
          have : byC f b' = 0 := by unfold byC; rw [if_neg e1]
          rw [this] at h
          simp only [evT] at h
          walk_at "wp"
          rw [show atI [W.str t.1, enc t.2.1, enc t.2.2] 1 = some (enc t.2.1) from rfl]
          dsimp only
          have hLd := (b.lf t ht).dp
          have hLw := (b.lf t ht).wt
          have hLn := (b.lf t ht).nb
          exact zdm 4 hLd (by omega) fq (by rw [List.length_map, hl]; exact (b.lf t ht).fits) (by omega) ⟨_, sub, h⟩
end
end L2
end

section
set_option Elab.async false
set_option linter.all false
set_option maxRecDepth 100000
set_option maxHeartbeats 4000000
namespace L2
open PySem PySem.Spec PyProof.Rows
section
variable {S : Sto} {B : List Tn} {P : Str → Prop} {bs : Str} {bps : List Tr}
end
section
variable {S : Sto} {B : List Tn} {w0 w1 w2 w3 w4 w5 : Str} {ah aw : Addr} {r : Nat} {Q : WK} {E : Str → Sto → Prop}
end
end L2
end

section
set_option Elab.async false
set_option linter.all false
set_option maxRecDepth 100000
set_option maxHeartbeats 4000000
namespace L2
open PySem PySem.Spec PyProof.Rows
theorem zmR {x : Str} (h : SignW x) : x.length ≤ 1000 := by rw [zdO]; have := h.2.1; omega
theorem ziM {x : Str} (h : TitleW x) : x.length ≤ 1000 := by rw [zdO]; have := (zju h).2; omega
theorem Pl.nat_bounds {p : Pl} (h1 : p.wt ≤ 23) (h2 : p.nt ≤ 4) : p.dp + 3 * p.nt ≤ 35 ∧ 2 ^ p.nt * p.wt ≤ 368 := by
  have := zfd p
  have h3 : 2 ^ p.nt ≤ 2 ^ 4 := Nat.pow_le_pow_right (by decide) h2
  have := Nat.mul_le_mul h3 h1
  exact ⟨by omega, by omega⟩
end L2
end

section
set_option Elab.async false
set_option linter.all false
set_option maxRecDepth 100000
set_option maxHeartbeats 4000000
namespace L2
open PySem PySem.Spec PyProof.Rows
def sideOf (n : Int) (t : Tn) : Tr := if n = 1 then t.2.1 else t.2.2
structure Sides (g : Tn → Tr) (B : List Tn) : Prop where
  fits : ∀ t ∈ B, (g t).fits t.2.1.nb
  dp : ∀ t ∈ B, (g t).depth ≤ 4
  wt : ∀ t ∈ B, (g t).weight ≤ 10
mutual
def Tr.ar (B : List Tn) : Tr → Prop
  | .bl _ => False
  | .nd s ts => (∀ t, turnB B s = some t → ts.length = t.2.1.nb) ∧ ars B ts
def ars (B : List Tn) : List Tr → Prop
  | [] => True
  | t :: ts => t.ar B ∧ ars B ts
end
theorem zjs {B : List Tn} : ∀ {ts : List Tr}, ars B ts ↔ ∀ t ∈ ts, t.ar B
  | [] => by simp [ars]
  | t :: ts => by simp [ars, zjs (ts := ts)]
mutual
theorem zqZ {B : List Tn} : ∀ t : Tr, t.way B = true → t.ar B
  | .bl n, h => by simp [Tr.way] at h
  | .nd s ts, h => by
    simp only [Tr.way, Bool.and_eq_true] at h
    simp only [Tr.ar]
    refine ⟨fun t ht => ?_, znk ts h.2⟩
    have := h.1
    rw [topB, ht] at this
    simpa using this
theorem znk {B : List Tn} : ∀ ts : List Tr, ways B ts = true → ars B ts
  | [], h => by simp [ars]
  | t :: ts, h => by
    simp only [ways, Bool.and_eq_true] at h
    simp only [ars]
    exact ⟨zqZ t h.1, znk ts h.2⟩
end
section
variable {S : Sto} {a : Addr} {B : List Tn} {g : Tn → Tr} {n : Int}
theorem znH (t : Tn) (h : n = 1 ∨ n = 2) : atI [W.str t.1, enc t.2.1, enc t.2.2] n = some (enc (sideOf n t)) := by
  rcases h with rfl | rfl <;> rfl
end
end L2
end

section
set_option Elab.async false
set_option linter.all false
set_option maxRecDepth 100000
set_option maxHeartbeats 4000000
namespace L2
open PySem PySem.Spec PyProof.Rows
mutual
theorem znI {P : Str → Prop} : ∀ (l t : Tr) (ys : List Tr), l.mt t = some ys → t.hd P → hds P ys ∧ wts ys ≤ t.weight
  | .bl _, t, ys, h, q => by
    simp only [Tr.mt, Option.some.injEq] at h
    subst h
    simp only [hds, wts]
    exact ⟨⟨q, trivial⟩, by omega⟩
  | .nd s ls, .nd z us, ys, h, q => by
    simp only [Tr.mt] at h
    simp only [Tr.hd] at q
    split at h
    · have := znv ls us ys h q.2
      simp only [Tr.weight]
      exact ⟨this.1, by omega⟩
    · cases h
  | .nd _ _, .bl _, ys, h, q => by simp [Tr.mt] at h
theorem znv {P : Str → Prop} : ∀ (ls us ys : List Tr), mts ls us = some ys → hds P us → hds P ys ∧ wts ys ≤ wts us
  | [], us, ys, h, q => by simp only [mts, Option.some.injEq] at h; subst h; simp [hds, wts]
  | l :: ls, [], ys, h, q => by simp only [mts, Option.some.injEq] at h; subst h; simp [hds, wts]
  | l :: ls, u :: us, ys, h, q => by
    simp only [mts] at h
    simp only [hds] at q
    split at h
    · cases h
    · rename_i xs ex
      split at h
      · cases h
      · rename_i zs ez
        simp only [Option.some.injEq] at h
        subst h
        have h1 := znI l u xs ex q.1
        have h2 := znv ls us zs ez q.2
        rw [zev, wts]
        exact ⟨zjK h1.1 h2.1, by omega⟩
end
mutual
theorem zeN {P : Str → Prop} {m : Nat} : ∀ t : Tr, t.hd P → t.fits m
  | .bl n, h => by simp [Tr.hd] at h
  | .nd s ts, h => by
    simp only [Tr.hd] at h
    simp only [Tr.fits]
    exact zhR ts h.2
theorem zhR {P : Str → Prop} {m : Nat} : ∀ ts : List Tr, hds P ts → fitss m ts
  | [], h => by simp [fitss]
  | t :: ts, h => by
    simp only [hds] at h
    simp only [fitss]
    exact ⟨zeN t h.1, zhR ts h.2⟩
end
section
variable {S : Sto} {a : Addr} {B : List Tn}
theorem Mv.nd {n : Nat} {x y z : Tr} : Mv B n x y z → ∃ s ts z' us, x = .nd s ts ∧ y = .nd z' us
  | .nn _ _ _ => ⟨_, _, _, _, rfl, rfl⟩
  | .ns _ _ _ _ _ => ⟨_, _, _, _, rfl, rfl⟩
  | .sn _ _ _ _ => ⟨_, _, _, _, rfl, rfl⟩
  | .ss _ _ _ _ => ⟨_, _, _, _, rfl, rfl⟩
end
end L2
end

section
set_option Elab.async false
set_option linter.all false
set_option maxRecDepth 100000
set_option maxHeartbeats 4000000
namespace L2
open PySem PySem.Spec PyProof.Rows
theorem side1 : sideOf 1 = fun t => t.2.1 := by funext t; exact if_pos rfl
section
variable {S : Sto} {a : Addr} {ws hs : List Str} {B : List Tn} {c d : Int → Nat} {p : Pl} {r : Nat} {Q : WK} {E : Str → Sto → Prop}
theorem BkOk.s1 (b : BkOk ws hs B) : Sides (sideOf 1) B := by
  rw [side1]
  refine ⟨fun t ht => (b.lf t ht).fits, fun t ht => (b.lf t ht).dp, fun t ht => ?_⟩
  have h1 := (b.lf t ht).wt
  have h2 := (b.lf t ht).nb
  show t.2.1.weight ≤ 10
  omega
structure Pk (ws hs : List Str) (B : List Tn) (p : Pl) : Prop where
  b : BkOk ws hs B
  m : MtOk B
  o : PlOk hs B p
  w : p.wt ≤ 23
  n : p.nt ≤ 4
theorem Pk.bd (k : Pk ws hs B p) : p.dp + 3 * p.nt ≤ 35 ∧ 2 ^ p.nt * p.wt ≤ 368 := p.nat_bounds k.w k.n
theorem Pk.dp (k : Pk ws hs B p) : (p.ev B c).depth ≤ 35 := Nat.le_trans (zlC k.b k.o) k.bd.1
theorem Pk.wt (k : Pk ws hs B p) : (p.ev B c).weight ≤ 368 := Nat.le_trans (zkj k.b k.o) k.bd.2
theorem Pk.ar (k : Pk ws hs B p) : (p.ev B c).ar B := zqZ _ (zqi k.b k.o)
theorem Pk.hd (k : Pk ws hs B p) : (p.ev B c).hd fun _ => True := zof k.b (fun _ _ => trivial) (fun _ _ _ => trivial) k.o
theorem Pk.src (k : Pk ws hs B p) : (p.ev B c).mk B (sideOf 1) = p.ev B (toSrc c) := by rw [side1]; exact zpw k.b k.o
theorem Pk.eq (k : Pk ws hs B p) (hc : ∀ x : Int, 0 ≤ x → x < 8 → c x = d x) : eqF S 60 (enc (p.ev B c)) (enc (p.ev B d)) = some true := by
  have h2 := k.dp (c := c)
  rw [zqN 60 _ _ (by omega), ← zod k.o hc, zks]
end
section
variable {S : Sto} {a : Addr} {ws hs : List Str} {B : List Tn}
end
end L2
end

section
set_option Elab.async false
set_option linter.all false
set_option maxRecDepth 100000
set_option maxHeartbeats 4000000
namespace L2
open PySem PySem.Spec PyProof.Rows
theorem zsg (f x : Int) : byC f x ≤ 1 := by unfold byC; split <;> omega
end L2
end

section
set_option Elab.async false
set_option linter.all false
set_option maxRecDepth 100000
set_option maxHeartbeats 4000000
namespace L2
open PySem PySem.Spec PyProof.Rows
section
variable {S : Sto} {a : Addr} {B : List Tn} {n : Int}
theorem zgs (B : List Tn) (s : Str) (g : Tn → W) : B.findSome? (fun t => if t.1 == s then some (g t) else none) = (turnB B s).map g := by
  unfold turnB
  induction B with
  | nil => rfl
  | cons t B ih =>
    rw [List.findSome?_cons, List.find?_cons]
    cases e : t.1 == s with
    | true => rfl
    | false => simpa using ih
theorem zkP (hnd : (B.map fun t => t.1).Nodup) (ha : S a = some (.lst (B.map encT))) (hn : n = 1 ∨ n = 2) (hg : Sides (sideOf n) B) : ∀ (d : Nat) {t : Tr} {r : Nat} {Q : WK} {E : Str → Sto → Prop}, t.depth ≤ d → d + 10 ≤ r → t.ar B → t.weight ≤ 1000 → Q (enc (t.mk B (sideOf n))) S → zaY (r + 1) [.ref a, enc t, .int n] S Q E
  | 0, t, r, Q, E, hd, hr, hh, hw, h => by have := zbc t; omega
  | d + 1, .bl k, r, Q, E, hd, hr, hh, hw, h => by simp [Tr.ar] at hh
  | d + 1, .nd s ts, r, Q, E, hd, hr, hh, hw, h => by
    simp only [Tr.depth] at hd
    simp only [Tr.weight] at hw
    simp only [Tr.ar] at hh
    have hk := zco ts
    obtain ⟨r, rfl⟩ : ∃ r', r = r' + 1 := ⟨r - 1, by omega⟩
    rw [zaY]
    simp only [enc]
    walk_at "wp"
    rw [zaN]
    refine zaQ (fun σ => ∃ x, σ = [x, some (.ref a), some (.int n)]) enc (fun t => enc (t.mk B (sideOf n))) trivial ts [] _ ⟨none, rfl⟩ (by simp; omega) (fun x hx σ R hI hR => ?_) ?_
    · obtain ⟨y, rfl⟩ := hI
      have hdx := zcr hx
      have hwx := zcP hx
      simp only [zdd]
      walk_at "wp"
      exact zkP hnd ha hn hg d (by omega) (by omega) (zjs.mp hh.2 x hx) (by omega) (hR _ _ ⟨_, rfl⟩ .refl)
    · rw [List.nil_append]
      intro q hq
      have eu : (ts.map fun t => enc (t.mk B (sideOf n))) = encs (ts.map (Tr.mk B (sideOf n))) := by rw [zaN, List.map_map]; rfl
      rw [eu, ← zaN]
      have fq : put S q (Ob.lst (encs (ts.map (Tr.mk B (sideOf n))))) q = some (.lst (encs (ts.map (Tr.mk B (sideOf n))))) := zaf
      have fa := keep (x := Ob.lst (encs (ts.map (Tr.mk B (sideOf n))))) ha hq
      have sub : Sub S (put S q (Ob.lst (encs (ts.map (Tr.mk B (sideOf n)))))) := .put .refl hq
      generalize put S q (Ob.lst (encs (ts.map (Tr.mk B (sideOf n))))) = S1 at fq fa sub ⊢
      try walk_at "wp"
      rw [zai fa]
      refine zdi (S := S1) ?_ (fun σ => ∃ x, σ = [some (.ref a), some (.tup (.str s :: encs ts)), some (.int n), some (.ref q), x]) encT (fun t => if t.1 == s then some (enc ((sideOf n t).fill (ts.map (Tr.mk B (sideOf n))))) else none) B _ ⟨_, rfl⟩ (fun t ht σ N hI hno hret => ?_) (fun e σ hI => ?_) fun w e S' sb => ?_
      · exact fa
      · obtain ⟨x, rfl⟩ := hI
        simp only [zdg]
        have ee : encT t = .tup [.str t.1, enc t.2.1, enc t.2.2] := rfl
        rw [ee]
        walk_at "wp"
        cases e : t.1 == s with
        | true =>
          rw [e] at hret
          try walk_at "wp"
          rw [znH t hn]
          dsimp only
          have et : t.1 = s := by simpa using e
          have hgw := hg.wt t ht
          refine zdm 4 (hg.dp t ht) (by omega) fq ?_ (by omega) (hret _ rfl _ .refl)
          rw [List.length_map, hh.1 t (by rw [← et]; exact zcj hnd ht)]
          exact hg.fits t ht
        | false =>
          rw [e] at hno
          exact hno rfl _ _ ⟨_, rfl⟩ .refl
      · obtain ⟨x, rfl⟩ := hI
        rw [zgs] at e
        have e0 : turnB B s = none := by
          cases z : turnB B s with
          | none => rfl
          | some t => rw [z] at e; cases e
        rw [zkH e0] at h
        try walk_at "wp"
        rw [zhL]
        try rw [zai fq]
        try walk_at "wp"
        simp only [enc] at h
        refine ⟨zah ?_, _, sub, h⟩
        rw [zbd, List.length_map]
        omega
      · rw [zgs] at e
        cases z : turnB B s with
        | none => rw [z] at e; cases e
        | some t =>
          rw [z] at e
          rw [zkS z] at h
          cases e
          exact ⟨_, sub.trans sb, h⟩
end
section
variable {S : Sto} {a : Addr} {ws hs : List Str} {B : List Tn} {c : Int → Nat} {p : Pl} {r : Nat} {Q : WK} {E : Str → Sto → Prop}
theorem Pk.ok_made1 (k : Pk ws hs B p) (ha : S a = some (.lst (B.map encT))) (hr : 60 ≤ r) (h : Q (enc (p.ev B (toSrc c))) S) : zaY (r + 1) [.ref a, enc (p.ev B c), .int 1] S Q E := by
  have h1 := k.wt (c := c)
  have h2 := k.dp (c := c)
  exact zkP k.b.nd ha (.inl rfl) k.b.s1 35 h2 (by omega) k.ar (by omega) (by rw [k.src]; exact h)
end
end L2
end

section
set_option Elab.async false
set_option linter.all false
set_option maxRecDepth 100000
set_option maxHeartbeats 4000000
namespace L2
open PySem PySem.Spec PyProof.Rows
end L2
end

section
set_option Elab.async false
set_option linter.all false
set_option maxRecDepth 100000
set_option maxHeartbeats 4000000
namespace L2
open PySem PySem.Spec PyProof.Rows
def pps (B : List Tn) (s : Str) (n : Nat) : List (List Int) := match turnB B s with
  | none => (List.range n).map fun (i : Nat) => [(i : Int)]
  | some t => t.2.1.bls.map fun x => x.1
mutual
def Tr.us (B : List Tn) (p : List Int) : Tr → List (List Int × Str)
  | .bl _ => []
  | .nd s ts => (match turnB B s with
    | none => []
    | some _ => [(p, s)]) ++ usz B p (pps B s ts.length) ts
def usz (B : List Tn) (p : List Int) : List (List Int) → List Tr → List (List Int × Str)
  | q :: qs, t :: ts => t.us B (p ++ q) ++ usz B p qs ts
  | _, _ => []
end
def ppl (B : List Tn) (k : Int) (n : Nat) : List (List Int) := if k < 0 then (List.range n).map fun (i : Nat) => [(i : Int)] else (B.getD k.toNat (⟨#[]⟩, .bl 0, .bl 0)).2.1.bls.map fun x => x.1
mutual
def Pl.ns (B : List Tn) (p : List Int) : Pl → List (List Int × Int × Str)
  | .nd k b h ps => (if k < 0 then [] else [(p, b, (B.getD k.toNat (⟨#[]⟩, .bl 0, .bl 0)).1)]) ++ nsz B p (ppl B k ps.length) ps
def nsz (B : List Tn) (p : List Int) : List (List Int) → List Pl → List (List Int × Int × Str)
  | q :: qs, t :: ts => t.ns B (p ++ q) ++ nsz B p qs ts
  | _, _ => []
end
theorem zfw {B : List Tn} {p : List Int} {b : Int} {h : Str} {ps : List Pl} : (Pl.nd (-1) b h ps).ns B p = nsz B p ((List.range ps.length).map fun (i : Nat) => [(i : Int)]) ps := by
  rw [Pl.ns, ppl, if_pos (by decide), if_pos (by decide), List.nil_append]
theorem zfm {B : List Tn} {p : List Int} {b : Int} {h : Str} {ps : List Pl} {k : Nat} {t : Tn} (e : B[k]? = some t) : (Pl.nd k b h ps).ns B p = (p, b, t.1) :: nsz B p (t.2.1.bls.map fun x => x.1) ps := by
  rw [Pl.ns, ppl, if_neg (by omega), if_neg (by omega), Int.toNat_natCast, List.getD_eq_getElem?_getD, e]
  rfl
theorem zhs {B : List Tn} {p : List Int} {s : Str} {ts : List Tr} (h : turnB B s = none) : (Tr.nd s ts).us B p = usz B p ((List.range ts.length).map fun (i : Nat) => [(i : Int)]) ts := by
  rw [Tr.us, pps, h]
  rfl
theorem zoq {B : List Tn} {p : List Int} {s : Str} {ts : List Tr} {t : Tn} (h : turnB B s = some t) : (Tr.nd s ts).us B p = (p, s) :: usz B p (t.2.1.bls.map fun x => x.1) ts := by
  rw [Tr.us, pps, h]
  rfl
theorem zhE {B : List Tn} {n : Nat} {h c d : Str} {L : Tr} (hL : L ∈ leftsL n h c d) (h1 : turnB B h = none) (h2 : turnB B c = none) (h3 : turnB B d = none) {us : List Tr} (hu : us.length = L.nb) (p : List Int) : (L.fill us).us B p = usz B p (L.bls.map fun x => x.1) us := by
  have r1 : List.range 1 = [0] := rfl
  have r2 : List.range 2 = [0, 1] := rfl
  have r3 : List.range 3 = [0, 1, 2] := rfl
  unfold leftsL at hL
  split at hL <;> simp only [List.mem_cons, List.not_mem_nil, or_false] at hL
  all_goals first
    | (subst hL; rcases us with _ | ⟨u, _ | ⟨v, _ | ⟨x, _ | ⟨y, us⟩⟩⟩⟩ <;> simp [Tr.nb, nbs, Tr.fill, fills, zhs, h1, h2, h3, r1, r2, r3, usz, Tr.bls, Tr.plt, plts, Tr.isBl, List.filter_cons] at hu ⊢ <;> omega)
    | (rcases hL with rfl | rfl <;> rcases us with _ | ⟨u, _ | ⟨v, _ | ⟨x, _ | ⟨y, us⟩⟩⟩⟩ <;> simp [Tr.nb, nbs, Tr.fill, fills, zhs, h1, h2, h3, r1, r2, r3, usz, Tr.bls, Tr.plt, plts, Tr.isBl, List.filter_cons] at hu ⊢ <;> omega)
def UsOk (B : List Tn) : Prop := ∀ t ∈ B, ∀ us : List Tr, us.length = t.2.1.nb → ∀ p, (t.2.1.fill us).us B p = usz B p (t.2.1.bls.map fun x => x.1) us
def used (c : Int → Nat) (xs : List (List Int × Int × Str)) : List (List Int × Str) := (xs.filter fun x => c x.2.1 == 1).map fun x => (x.1, x.2.2)
theorem zeP (c : Int → Nat) (xs ys : List (List Int × Int × Str)) : used c (xs ++ ys) = used c xs ++ used c ys := by
  unfold used
  rw [List.filter_append, List.map_append]
theorem zkw {B : List Tn} {c : Int → Nat} {p : List Int} : ∀ (qs : List (List Int)) (ps : List Pl), (∀ x ∈ ps, ∀ q, (x.ev B c).us B q = used c (x.ns B q)) → usz B p qs (ps.map (Pl.ev B c)) = used c (nsz B p qs ps)
  | [], ps, h => by cases ps <;> rfl
  | q :: qs, [], h => rfl
  | q :: qs, x :: ps, h => by
    rw [List.map_cons, usz, nsz, zeP, h x List.mem_cons_self, zkw qs ps fun y hy => h y (List.mem_cons_of_mem _ hy)]
theorem zrM {ws hs : List Str} {B : List Tn} {c : Int → Nat} (b : BkOk ws hs B) (hU : UsOk B) (hc : ∀ x : Int, 0 ≤ x → x < 8 → c x ≤ 1) {p : Pl} (h : PlOk hs B p) : ∀ q, (p.ev B c).us B q = used c (p.ns B q) := by
  induction h with
  | @sign b' h ps hh hp ih =>
    intro q
    rw [zbC, zhs (zbM b.ti (b.sg h (b.sb h hh))), zfw, List.length_map]
    exact zkw _ _ ih
  | @turn k b' h ps t e hl b0 b1 hp ih =>
    intro q
    have ht : t ∈ B := List.mem_of_getElem? e
    have := zkw (p := q) (t.2.1.bls.map fun x => x.1) ps ih
    have hcx := hc b' b0 b1
    rw [zbB e, zfm e]
    by_cases c1 : c b' = 1
    · rw [c1]
      show (Tr.nd t.1 _).us B q = _
      rw [zoq (zcj b.nd ht), this]
      simp [used, c1]
    · rw [show c b' = 0 by omega]
      show (t.2.1.fill _).us B q = _
      rw [hU t ht _ (by rw [List.length_map, hl]), this]
      simp [used, c1]
def openT (B : List Tn) (t : Tr) : Option Tn := B.find? fun u => (u.2.1.mt t).isSome
mutual
def Tr.op (B : List Tn) (p : List Int) : Tr → List (List Int × Str)
  | .bl _ => []
  | .nd s ts => (match openT B (.nd s ts) with
    | none => []
    | some t => [(p, t.1)]) ++ ops B p 0 ts
def ops (B : List Tn) (p : List Int) (i : Nat) : List Tr → List (List Int × Str)
  | [] => []
  | t :: ts => t.op B (p ++ [(i : Int)]) ++ ops B p (i + 1) ts
end
theorem zaW {n : Nat} {h c d : Str} {L : Tr} (hL : L ∈ leftsL n h c d) : ∃ ts, L = .nd h ts := by
  unfold leftsL at hL
  split at hL <;> simp only [List.mem_cons, List.not_mem_nil, or_false] at hL
  all_goals first
    | (subst hL; exact ⟨_, rfl⟩)
    | (rcases hL with rfl | rfl <;> exact ⟨_, rfl⟩)
theorem zff {s z : Str} {ls us : List Tr} (h : ((Tr.nd s ls).mt (.nd z us)).isSome = true) : s = z := by
  simp only [Tr.mt] at h
  split at h
  · rename_i q
    simp only [Bool.and_eq_true, beq_iff_eq] at q
    exact q.1
  · cases h
theorem zgo {n : Nat} {h c d : Str} {L M x : Tr} (hL : L ∈ leftsL n h c d) (hM : M ∈ leftsL n h c d) (h1 : (L.mt x).isSome = true) (h2 : (M.mt x).isSome = true) : L = M := by
  cases x with
  | bl k =>
    obtain ⟨ts, rfl⟩ := zaW hL
    simp [Tr.mt] at h1
  | nd s ts =>
    unfold leftsL at hL hM
    split at hL <;> simp only [List.mem_cons, List.not_mem_nil, or_false] at hL hM
    all_goals first
      | (rw [hL, hM])
      | (rcases hL with rfl | rfl <;> rcases hM with rfl | rfl <;> first
          | rfl
          | (exfalso
             rcases ts with _ | ⟨u, us⟩
             · simp [Tr.mt] at h1
             · cases u with
               | bl k => simp [Tr.mt, mts] at h1 h2
               | nd z vs =>
                 rcases vs with _ | ⟨v, vs⟩
                 · simp [Tr.mt, mts] at h1 h2
                 · rcases vs with _ | ⟨v', vs⟩
                   · cases v with
                     | bl k => simp [Tr.mt, mts] at h1 h2
                     | nd z' xs =>
                       rcases xs with _ | ⟨x', xs⟩
                       · simp [Tr.mt, mts] at h1 h2
                       · simp [Tr.mt, mts] at h1 h2
                   · simp [Tr.mt, mts] at h1 h2))
section
variable {w0 w1 w2 w3 w4 w5 : Str} {tt : List Str} {B : List Tn}
theorem BookOk.one (b : BookOk w0 w1 w2 w3 w4 w5 tt B) (G : Signs w0 w1 w2 w3 w4 w5) {u v : Tn} (hu : u ∈ B) (hv : v ∈ B) {x : Tr} (h1 : (u.2.1.mt x).isSome = true) (h2 : (v.2.1.mt x).isSome = true) : u.2.1 = v.2.1 := by
  obtain ⟨n, m, e⟩ := b.lf
  have mu : u.2.1 ∈ leftsL n w0 w2 w3 ++ leftsL m w1 w2 w3 := by rw [← e]; exact List.mem_map.mpr ⟨u, hu, rfl⟩
  have mv : v.2.1 ∈ leftsL n w0 w2 w3 ++ leftsL m w1 w2 w3 := by rw [← e]; exact List.mem_map.mpr ⟨v, hv, rfl⟩
  have key : ∀ {L M : Tr}, L ∈ leftsL n w0 w2 w3 → M ∈ leftsL m w1 w2 w3 → (L.mt x).isSome = true → (M.mt x).isSome = true → False := fun {L M} hL hM k1 k2 => by
    obtain ⟨ts, rfl⟩ := zaW hL
    obtain ⟨us, rfl⟩ := zaW hM
    cases x with
    | bl k => simp [Tr.mt] at k1
    | nd s vs => exact G.n0 w1 (by simp) ((zff k1).trans (zff k2).symm)
  rcases List.mem_append.mp mu with z | z <;> rcases List.mem_append.mp mv with y | y
  · exact zgo z y h1 h2
  · exact (key z y h1 h2).elim
  · exact (key y z h2 h1).elim
  · exact zgo z y h1 h2
theorem zdM (n : Nat) (h c d : Str) : (leftsL n h c d).Nodup := by
  unfold leftsL
  split <;> simp
theorem BookOk.inj (b : BookOk w0 w1 w2 w3 w4 w5 tt B) (G : Signs w0 w1 w2 w3 w4 w5) : (B.map fun t => t.2.1).Nodup := by
  obtain ⟨n, m, e⟩ := b.lf
  rw [e, List.nodup_append]
  refine ⟨zdM .., zdM .., fun x hx y hy => ?_⟩
  obtain ⟨ts, rfl⟩ := zaW hx
  obtain ⟨us, rfl⟩ := zaW hy
  intro z
  cases z
  exact G.n0 _ (by simp) rfl
theorem zkJ {α β : Type} {f : α → β} : ∀ {xs : List α} {x y : α}, (xs.map f).Nodup → x ∈ xs → y ∈ xs → f x = f y → x = y
  | z :: xs, x, y, h, hx, hy, e => by
    rw [List.map_cons, List.nodup_cons] at h
    rcases List.mem_cons.mp hx with h1 | h1
    · rcases List.mem_cons.mp hy with h2 | h2
      · rw [h1, h2]
      · exact (h.1 (List.mem_map.mpr ⟨y, h2, by rw [← e, h1]⟩)).elim
    · rcases List.mem_cons.mp hy with h2 | h2
      · exact (h.1 (List.mem_map.mpr ⟨x, h1, by rw [e, h2]⟩)).elim
      · exact zkJ h.2 h1 h2 e
theorem BookOk.open_some (b : BookOk w0 w1 w2 w3 w4 w5 tt B) (G : Signs w0 w1 w2 w3 w4 w5) {t : Tn} (ht : t ∈ B) {us : List Tr} (hu : us.length = t.2.1.nb) : openT B (t.2.1.fill us) = some t := by
  have hm := b.mt t ht us hu
  unfold openT
  cases e : B.find? fun u => (u.2.1.mt (t.2.1.fill us)).isSome with
  | none =>
    rw [List.find?_eq_none] at e
    have := e t ht
    rw [hm] at this
    simp at this
  | some u =>
    have hu' := List.find?_some e
    have mu := List.mem_of_find?_eq_some e
    have := b.one G mu ht hu' (by rw [hm]; rfl)
    rw [zkJ (b.inj G) mu ht this]
theorem BookOk.open_none (b : BookOk w0 w1 w2 w3 w4 w5 tt B) {s : Str} {ts : List Tr} (h0 : w0 ≠ s) (h1 : w1 ≠ s) : openT B (.nd s ts) = none := by
  obtain ⟨n, m, e⟩ := b.lf
  unfold openT
  rw [List.find?_eq_none]
  intro u hu hz
  have mu : u.2.1 ∈ leftsL n w0 w2 w3 ++ leftsL m w1 w2 w3 := by rw [← e]; exact List.mem_map.mpr ⟨u, hu, rfl⟩
  rcases List.mem_append.mp mu with z | z <;> obtain ⟨ls, el⟩ := zaW z <;> rw [el] at hz
  · exact h0 (zff hz)
  · exact h1 (zff hz)
end
def opz (B : List Tn) (p : List Int) : List (List Int) → List Tr → List (List Int × Str)
  | q :: qs, t :: ts => t.op B (p ++ q) ++ opz B p qs ts
  | _, _ => []
theorem zgF {B : List Tn} {n : Nat} {h c d : Str} {L : Tr} (hL : L ∈ leftsL n h c d) (h2 : ∀ xs, openT B (.nd c xs) = none) (h3 : ∀ xs, openT B (.nd d xs) = none) {us ks : List Tr} (hu : us.length = L.nb) (hk : L = .nd h ks) (p : List Int) : ops B p 0 (fills us ks) = opz B p (L.bls.map fun x => x.1) us := by
  unfold leftsL at hL
  split at hL <;> simp only [List.mem_cons, List.not_mem_nil, or_false] at hL
  all_goals first
    | (subst hL; cases hk; rcases us with _ | ⟨u, _ | ⟨v, _ | ⟨x, _ | ⟨y, us⟩⟩⟩⟩ <;> simp [Tr.nb, nbs, Tr.fill, fills, Tr.op, ops, h2, h3, opz, Tr.bls, Tr.plt, plts, Tr.isBl, List.filter_cons] at hu ⊢ <;> omega)
    | (rcases hL with rfl | rfl <;> cases hk <;> rcases us with _ | ⟨u, _ | ⟨v, _ | ⟨x, _ | ⟨y, us⟩⟩⟩⟩ <;> simp [Tr.nb, nbs, Tr.fill, fills, Tr.op, ops, h2, h3, opz, Tr.bls, Tr.plt, plts, Tr.isBl, List.filter_cons] at hu ⊢ <;> omega)
theorem zkW {B : List Tn} {c : Int → Nat} {p : List Int} : ∀ (qs : List (List Int)) (ps : List Pl), (∀ x ∈ ps, ∀ q, (x.ev B c).op B q = used (fun _ => 1) (x.ns B q)) → opz B p qs (ps.map (Pl.ev B c)) = used (fun _ => 1) (nsz B p qs ps)
  | [], ps, h => by cases ps <;> rfl
  | q :: qs, [], h => rfl
  | q :: qs, x :: ps, h => by
    rw [List.map_cons, opz, nsz, zeP, h x List.mem_cons_self, zkW qs ps fun y hy => h y (List.mem_cons_of_mem _ hy)]
theorem zkA {B : List Tn} {p : List Int} : ∀ (ts : List Tr) (i : Nat), ops B p i ts = opz B p ((List.range' i ts.length).map fun (i : Nat) => [(i : Int)]) ts
  | [], i => by simp [ops, opz]
  | t :: ts, i => by
    rw [ops, zkA ts (i + 1), List.length_cons, List.range'_succ, List.map_cons, opz]
theorem zrU {w0 w1 w2 w3 w4 w5 : Str} {tt : List Str} {B : List Tn} (b : BookOk w0 w1 w2 w3 w4 w5 tt B) (G : Signs w0 w1 w2 w3 w4 w5) {c : Int → Nat} (hc : ∀ x : Int, 0 ≤ x → x < 8 → c x = 0) {p : Pl} (h : PlOk [w2, w3, w4, w5] B p) : ∀ q, (p.ev B c).op B q = used (fun _ => 1) (p.ns B q) := by
  induction h with
  | @sign b' h ps hh hp ih =>
    intro q
    rw [zbC, Tr.op, b.open_none (G.n0 h (List.mem_cons_of_mem _ hh)) (G.n1 h hh), zfw, List.nil_append, zkA, List.length_map, ← List.range_eq_range']
    exact zkW _ _ ih
  | @turn k b' h ps t e hl b0 b1 hp ih =>
    intro q
    have ht : t ∈ B := List.mem_of_getElem? e
    have hz := zkW (p := q) (t.2.1.bls.map fun x => x.1) ps ih
    rw [zbB e, zfm e, hc b' b0 b1]
    show (t.2.1.fill _).op B q = _
    have ho := b.open_some G ht (us := ps.map (Pl.ev B c)) (by rw [List.length_map, hl])
    obtain ⟨n, m, el⟩ := b.lf
    have n2 : ∀ xs, openT B (.nd w2 xs) = none := fun xs => b.open_none (G.n0 _ (by simp)) (G.n1 _ (by simp))
    have n3 : ∀ xs, openT B (.nd w3 xs) = none := fun xs => b.open_none (G.n0 _ (by simp)) (G.n1 _ (by simp))
    have mu : t.2.1 ∈ leftsL n w0 w2 w3 ++ leftsL m w1 w2 w3 := by rw [← el]; exact List.mem_map.mpr ⟨t, ht, rfl⟩
    have key : ∀ (s : Str) (ks : List Tr), t.2.1 = .nd s ks → ops B q 0 (fills (ps.map (Pl.ev B c)) ks) = opz B q (t.2.1.bls.map fun x => x.1) (ps.map (Pl.ev B c)) := fun s ks hk => by
      rcases List.mem_append.mp mu with z | z
      · obtain ⟨ls, el⟩ := zaW z
        rw [hk] at el
        cases el
        exact zgF z n2 n3 (by rw [List.length_map, hl]) hk q
      · obtain ⟨ls, el⟩ := zaW z
        rw [hk] at el
        cases el
        exact zgF z n2 n3 (by rw [List.length_map, hl]) hk q
    have : ∃ s ks, t.2.1 = .nd s ks := by
      rcases List.mem_append.mp mu with z | z
      · obtain ⟨ls, el⟩ := zaW z
        exact ⟨_, _, el⟩
      · obtain ⟨ls, el⟩ := zaW z
        exact ⟨_, _, el⟩
    obtain ⟨s, ks, hk⟩ := this
    have k := key s ks hk
    have ef : t.2.1.fill (ps.map (Pl.ev B c)) = .nd s (fills (ps.map (Pl.ev B c)) ks) := by rw [hk, Tr.fill]
    rw [ef] at ho ⊢
    rw [Tr.op, ho, k, hz]
    rfl
theorem BookOk.us {w0 w1 w2 w3 w4 w5 : Str} {tt : List Str} {B : List Tn} (b : BookOk w0 w1 w2 w3 w4 w5 tt B) (T : Titles tt) (G : Signs w0 w1 w2 w3 w4 w5) : UsOk B := fun t ht us hu p => by
  obtain ⟨n, m, el⟩ := b.lf
  have k := b.bk T G
  have mu : t.2.1 ∈ leftsL n w0 w2 w3 ++ leftsL m w1 w2 w3 := by rw [← el]; exact List.mem_map.mpr ⟨t, ht, rfl⟩
  have s : ∀ x ∈ [w0, w1, w2, w3, w4, w5], turnB B x = none := fun x hx => zbM k.ti (k.sg x hx)
  rcases List.mem_append.mp mu with z | z
  · exact zhE z (s _ (by simp)) (s _ (by simp)) (s _ (by simp)) hu p
  · exact zhE z (s _ (by simp)) (s _ (by simp)) (s _ (by simp)) hu p

mutual
inductive Wi (B : List Tn) (wn : List (List Int)) : Nat → List Int → Tr → Tr → Prop
  | no {n : Nat} {p : List Int} {s : Str} {ts us : List Tr} : p ∉ wn → turnB B s = none → Wis B wn n p ((List.range ts.length).map fun (i : Nat) => [(i : Int)]) ts us → Wi B wn (n + 1) p (.nd s ts) (.nd s us)
  | yes {n : Nat} {p : List Int} {s : Str} {ts us ms : List Tr} {t : Tn} : p ∈ wn → openT B (.nd s ts) = some t → t.2.1.mt (.nd s ts) = some ms → turnB B t.1 = some t → Wis B wn n p (t.2.1.bls.map fun x => x.1) ms us → Wi B wn (n + 1) p (.nd s ts) (.nd t.1 us)
inductive Wis (B : List Tn) (wn : List (List Int)) : Nat → List Int → List (List Int) → List Tr → List Tr → Prop
  | nil {n : Nat} {p : List Int} : Wis B wn n p [] [] []
  | cons {n : Nat} {p q : List Int} {qs : List (List Int)} {t u : Tr} {ts us : List Tr} : Wi B wn n (p ++ q) t u → Wis B wn n p qs ts us → Wis B wn n p (q :: qs) (t :: ts) (u :: us)
end
mutual
theorem Wi.mono {B : List Tn} {wn : List (List Int)} : ∀ {n m : Nat} {p : List Int} {t u : Tr}, n ≤ m → Wi B wn n p t u → Wi B wn m p t u
  | _ + 1, m, _, _, _, h, .no h1 h2 h3 => by
    obtain ⟨m, rfl⟩ : ∃ m', m = m' + 1 := ⟨m - 1, by omega⟩
    exact .no h1 h2 (Wis.mono (by omega) h3)
  | _ + 1, m, _, _, _, h, .yes h1 h2 h3 h4 h5 => by
    obtain ⟨m, rfl⟩ : ∃ m', m = m' + 1 := ⟨m - 1, by omega⟩
    exact .yes h1 h2 h3 h4 (Wis.mono (by omega) h5)
theorem Wis.mono {B : List Tn} {wn : List (List Int)} : ∀ {n m : Nat} {p : List Int} {qs : List (List Int)} {ts us : List Tr}, n ≤ m → Wis B wn n p qs ts us → Wis B wn m p qs ts us
  | _, _, _, _, _, _, _, .nil => .nil
  | _, _, _, _, _, _, h, .cons h1 h2 => .cons (Wi.mono h h1) (Wis.mono h h2)
end
theorem Wis.get {B : List Tn} {wn : List (List Int)} {n : Nat} {p : List Int} : ∀ {i : Nat} {qs : List (List Int)} {ts us : List Tr} {q : List Int} {t u : Tr}, Wis B wn n p qs ts us → qs[i]? = some q → ts[i]? = some t → us[i]? = some u → Wi B wn n (p ++ q) t u
  | _, _, _, _, _, _, _, .nil, h, _, _ => by simp at h
  | 0, _, _, _, _, _, _, .cons h1 _, e1, e2, e3 => by
    simp only [List.getElem?_cons_zero, Option.some.injEq] at e1 e2 e3
    subst e1 e2 e3
    exact h1
  | i + 1, _, _, _, _, _, _, .cons _ h2, e1, e2, e3 => by
    simp only [List.getElem?_cons_succ] at e1 e2 e3
    exact Wis.get h2 e1 e2 e3
mutual
def Tr.inn (wn : List (List Int)) (p : List Int) : Tr → Prop
  | .bl _ => True
  | .nd _ ts => p ∉ wn ∧ inns wn p 0 ts
def inns (wn : List (List Int)) (p : List Int) (i : Nat) : List Tr → Prop
  | [] => True
  | t :: ts => t.inn wn (p ++ [(i : Int)]) ∧ inns wn p (i + 1) ts
end
mutual
def Tr.atb (R : List Int → Nat → Prop) (p : List Int) : Tr → Prop
  | .bl n => R p n.toNat
  | .nd _ ts => atbs R p 0 ts
def atbs (R : List Int → Nat → Prop) (p : List Int) (i : Nat) : List Tr → Prop
  | [] => True
  | t :: ts => t.atb R (p ++ [(i : Int)]) ∧ atbs R p (i + 1) ts
end
theorem zdu (us : List Tr) : ∀ ts : List Tr, (fills us ts).length = ts.length
  | [] => by simp [fills]
  | t :: ts => by simp [fills, zdu us ts]
mutual
theorem zkT {B : List Tn} {wn : List (List Int)} (hB : ∀ t ∈ B, TitleW t.1) {n : Nat} {us vs : List Tr} : ∀ (t : Tr) (p : List Int), t.hb SignW → t.fits us.length → us.length = vs.length → t.inn wn p → t.atb (fun q i => ∀ u v, us[i]? = some u → vs[i]? = some v → Wi B wn n q u v) p → Wi B wn (n + t.depth) p (t.fill us) (t.fill vs)
  | .bl k, p, q, f, hl, hi, ha => by
    simp only [Tr.fits] at f
    simp only [Tr.atb] at ha
    have h1 : k.toNat < us.length := by omega
    have h2 : k.toNat < vs.length := by omega
    simp only [Tr.fill, List.getD_eq_getElem?_getD, List.getElem?_eq_getElem h1, List.getElem?_eq_getElem h2, Option.getD_some]
    exact (ha _ _ (List.getElem?_eq_getElem h1) (List.getElem?_eq_getElem h2)).mono (by omega)
  | .nd s ts, p, q, f, hl, hi, ha => by
    simp only [Tr.hb] at q
    simp only [Tr.fits] at f
    simp only [Tr.inn] at hi
    simp only [Tr.atb] at ha
    have := ziB hB ts p 0 q.2 f hl hi.2 ha
    simp only [Tr.fill, Tr.depth]
    rw [show n + (1 + dts ts) = n + dts ts + 1 by omega]
    refine .no hi.1 (zbM hB q.1) ?_
    rw [List.range_eq_range', zdu]
    exact this
theorem ziB {B : List Tn} {wn : List (List Int)} (hB : ∀ t ∈ B, TitleW t.1) {n : Nat} {us vs : List Tr} : ∀ (ts : List Tr) (p : List Int) (i : Nat), hbs SignW ts → fitss us.length ts → us.length = vs.length → inns wn p i ts → atbs (fun q i => ∀ u v, us[i]? = some u → vs[i]? = some v → Wi B wn n q u v) p i ts → Wis B wn (n + dts ts) p ((List.range' i ts.length).map fun (i : Nat) => [(i : Int)]) (fills us ts) (fills vs ts)
  | [], p, i, q, f, hl, hi, ha => by simp only [fills]; exact .nil
  | t :: ts, p, i, q, f, hl, hi, ha => by
    simp only [hbs] at q
    simp only [fitss] at f
    simp only [inns] at hi
    simp only [atbs] at ha
    have h1 := zkT hB t (p ++ [(i : Int)]) q.1 f.1 hl hi.1 ha.1
    have h2 := ziB hB ts p (i + 1) q.2 f.2 hl hi.2 ha.2
    simp only [fills, dts, List.length_cons, List.range'_succ, List.map_cons]
    exact .cons (h1.mono (by omega)) (h2.mono (by omega))
end
def Below (q : List Int) (xs : List (List Int × Int × Str)) : Prop := ∀ x ∈ xs, q <+: x.1
mutual
theorem zfk (B : List Tn) : ∀ (p : Pl) (q : List Int), Below q (p.ns B q)
  | .nd k b h ps, q => by
    intro x hx
    rw [Pl.ns] at hx
    rcases List.mem_append.mp hx with z | z
    · split at z
      · cases z
      · rw [List.mem_singleton.mp z]
        exact List.prefix_refl _
    · exact zfD B ps _ q x z
theorem zfD (B : List Tn) : ∀ (ps : List Pl) (qs : List (List Int)) (q : List Int), Below q (nsz B q qs ps)
  | [], qs, q => by
    intro x hx
    cases qs <;> cases hx
  | p :: ps, [], q => by
    intro x hx
    cases hx
  | p :: ps, r :: qs, q => by
    intro x hx
    rw [nsz] at hx
    rcases List.mem_append.mp hx with z | z
    · exact List.IsPrefix.trans ⟨r, rfl⟩ (zfk B p (q ++ r) x z)
    · exact zfD B ps qs q x z
end
theorem zeX (B : List Tn) {q : List Int} {x : List Int × Int × Str} : ∀ {ps : List Pl} {qs : List (List Int)}, x ∈ nsz B q qs ps → ∃ r ∈ qs, (q ++ r) <+: x.1
  | [], qs, h => by cases qs <;> cases h
  | p :: ps, [], h => by cases h
  | p :: ps, r :: qs, h => by
    rw [nsz] at h
    rcases List.mem_append.mp h with z | z
    · exact ⟨r, List.mem_cons_self, zfk B p (q ++ r) x z⟩
    · obtain ⟨r', h1, h2⟩ := zeX B z
      exact ⟨r', List.mem_cons_of_mem _ h1, h2⟩
def wanted (c : Int → Nat) (xs : List (List Int × Int × Str)) : List (List Int) := (used c xs).map fun x => x.1
theorem zbq {c : Int → Nat} {xs : List (List Int × Int × Str)} {q : List Int} : q ∈ wanted c xs ↔ ∃ x ∈ xs, c x.2.1 = 1 ∧ x.1 = q := by
  unfold wanted used
  simp only [List.mem_map, List.mem_filter, beq_iff_eq]
  constructor
  · rintro ⟨y, ⟨x, ⟨h1, h2⟩, rfl⟩, rfl⟩
    exact ⟨x, h1, h2, rfl⟩
  · rintro ⟨x, h1, h2, rfl⟩
    exact ⟨_, ⟨x, ⟨h1, h2⟩, rfl⟩, rfl⟩
def Apart (qs : List (List Int)) : Prop := qs.Pairwise fun a b => ¬ a <+: b ∧ ¬ b <+: a
theorem zes {a b x : List Int} (h1 : a <+: x) (h2 : b <+: x) : a <+: b ∨ b <+: a := List.prefix_or_prefix_of_prefix h1 h2
theorem zde {q a b : List Int} : (q ++ a) <+: (q ++ b) ↔ a <+: b := List.prefix_append_right_inj q
theorem zjY {B : List Tn} {wn : List (List Int)} {c z : Int → Nat} {q : List Int} {n : Nat} : ∀ (ps : List Pl) (qs : List (List Int)), ps.length = qs.length → Apart qs → (∀ r ∈ qs, ∀ x, (q ++ r) <+: x → (x ∈ wn ↔ x ∈ wanted c (nsz B q qs ps))) →
    (∀ p ∈ ps, ∀ q', (∀ x, q' <+: x → (x ∈ wn ↔ x ∈ wanted c (p.ns B q'))) → Wi B wn n q' (p.ev B z) (p.ev B c)) → Wis B wn n q qs (ps.map (Pl.ev B z)) (ps.map (Pl.ev B c))
  | [], [], _, _, _, _ => .nil
  | [], _ :: _, h, _, _, _ => by simp at h
  | _ :: _, [], h, _, _, _ => by simp at h
  | p :: ps, r :: qs, hl, ha, hw, ih => by
    unfold Apart at ha
    rw [List.pairwise_cons] at ha
    have split : ∀ x, x ∈ wanted c (nsz B q (r :: qs) (p :: ps)) ↔ x ∈ wanted c (p.ns B (q ++ r)) ∨ x ∈ wanted c (nsz B q qs ps) := fun x => by
      rw [nsz]
      unfold wanted
      rw [zeP, List.map_append, List.mem_append]
    refine .cons (ih p List.mem_cons_self _ fun x hx => ?_) (zjY ps qs (by simpa using hl) ha.2 (fun r' hr' x hx => ?_) fun p' hp' => ih p' (List.mem_cons_of_mem _ hp'))
    · rw [hw r List.mem_cons_self x hx, split]
      refine ⟨fun h => h.elim id fun h => ?_, .inl⟩
      obtain ⟨y, hy, _, rfl⟩ := zbq.mp h
      obtain ⟨r', hr', hp⟩ := zeX B hy
      have hn := ha.1 r' hr'
      rcases zes hx hp with z | z
      · exact absurd (zde.mp z) hn.1
      · exact absurd (zde.mp z) hn.2
    · rw [hw r' (List.mem_cons_of_mem _ hr') x hx, split]
      refine ⟨fun h => h.elim (fun h => ?_) id, .inr⟩
      obtain ⟨y, hy, _, rfl⟩ := zbq.mp h
      have hp := zfk B p (q ++ r) y hy
      have hn := ha.1 r' hr'
      rcases zes hx hp with z | z
      · exact absurd (zde.mp z) hn.2
      · exact absurd (zde.mp z) hn.1
theorem zgS (n : Nat) : Apart ((List.range n).map fun (i : Nat) => [(i : Int)]) := by
  unfold Apart
  rw [List.pairwise_map]
  refine List.Pairwise.imp (fun {a b} hne => ?_) (List.nodup_range (n := n))
  have : (a : Int) ≠ (b : Int) := by omega
  constructor
  · intro h
    have := List.cons_prefix_cons.mp h
    omega
  · intro h
    have := List.cons_prefix_cons.mp h
    omega
structure LeftP (L : Tr) : Prop where
  len : (L.bls.map fun x => x.1).length = L.nb
  ap : Apart (L.bls.map fun x => x.1)
  ne : ∀ r ∈ L.bls.map (fun x => x.1), r ≠ []
  inn : ∀ (wn : List (List Int)) (q : List Int), (∀ s : List Int, (∀ r ∈ L.bls.map (fun x => x.1), ¬ r <+: s) → q ++ s ∉ wn) → L.inn wn q
  atb : ∀ (R : List Int → Nat → Prop) (q : List Int), (∀ i r, (L.bls.map fun x => x.1)[i]? = some r → R (q ++ r) i) → L.atb R q
theorem zpE {h : Str} : (Tr.nd h [.bl 0]).bls.map (fun x => x.1) = [[0]] := by simp [Tr.bls, Tr.plt, plts, Tr.isBl]
theorem zqJ {h : Str} : (Tr.nd h [.bl 0, .bl 1]).bls.map (fun x => x.1) = [[0], [1]] := by simp [Tr.bls, Tr.plt, plts, Tr.isBl]
theorem zqt {h c : Str} : (Tr.nd h [.nd c []]).bls.map (fun x => x.1) = [] := by simp [Tr.bls, Tr.plt, plts, Tr.isBl]
theorem zrw {h d : Str} : (Tr.nd h [.nd d [.bl 0]]).bls.map (fun x => x.1) = [[0, 0]] := by simp [Tr.bls, Tr.plt, plts, Tr.isBl]
theorem zpH {h c : Str} : (Tr.nd h [.nd c [], .bl 0]).bls.map (fun x => x.1) = [[1]] := by simp [Tr.bls, Tr.plt, plts, Tr.isBl]
theorem zpy {h d : Str} : (Tr.nd h [.nd d [.bl 0], .bl 1]).bls.map (fun x => x.1) = [[0, 0], [1]] := by simp [Tr.bls, Tr.plt, plts, Tr.isBl]
theorem zpo {h d : Str} : (Tr.nd h [.nd d [.nd d [.bl 0]], .bl 1, .bl 2]).bls.map (fun x => x.1) = [[0, 0, 0], [1], [2]] := by simp [Tr.bls, Tr.plt, plts, Tr.isBl]
theorem zqW {h c d : Str} : (Tr.nd h [.nd d [.nd c []], .bl 0, .bl 1]).bls.map (fun x => x.1) = [[1], [2]] := by simp [Tr.bls, Tr.plt, plts, Tr.isBl]
theorem zpB {h : Str} : (Tr.nd h []).bls.map (fun x => x.1) = [] := by simp [Tr.bls, Tr.plt, plts, Tr.isBl]
theorem zbI {L : Tr} {ps : List (List Int)} (e : L.bls.map (fun x => x.1) = ps) (h1 : ps.length = L.nb) (h2 : Apart ps) (h3 : ∀ r ∈ ps, r ≠ [])
    (h4 : ∀ (wn : List (List Int)) (q : List Int), (∀ s : List Int, (∀ r ∈ ps, ¬ r <+: s) → q ++ s ∉ wn) → L.inn wn q) (h5 : ∀ (R : List Int → Nat → Prop) (q : List Int), (∀ i r, ps[i]? = some r → R (q ++ r) i) → L.atb R q) : LeftP L := by
  subst e
  exact ⟨h1, h2, h3, h4, h5⟩
theorem zdt {n : Nat} {h c d : Str} : ∀ L ∈ leftsL n h c d, LeftP L := by
  intro L hL
  have n0 : ∀ {q : List Int}, q ++ [] = q := by simp
  unfold leftsL at hL
  split at hL <;> simp only [List.mem_cons, List.not_mem_nil, or_false] at hL
  · subst hL
    refine zbI zpE (by simp [Tr.nb, nbs]) (by simp [Apart]) (by simp) (fun wn q H => ?_) fun R q H => ?_
    · simp only [Tr.inn, inns, and_true]
      simpa using H [] (by decide)
    · simp only [Tr.atb, atbs, and_true]
      exact H 0 [0] rfl
  · subst hL
    refine zbI zqJ (by simp [Tr.nb, nbs]) (by unfold Apart; decide) (by simp) (fun wn q H => ?_) fun R q H => ?_
    · simp only [Tr.inn, inns, and_true]
      simpa using H [] (by decide)
    · simp only [Tr.atb, atbs, and_true]
      exact ⟨H 0 [0] rfl, H 1 [1] rfl⟩
  · rcases hL with rfl | rfl
    · refine zbI zqt (by simp [Tr.nb, nbs]) (by unfold Apart; decide) (by simp) (fun wn q H => ?_) fun R q H => ?_
      · simp only [Tr.inn, inns, and_true]
        exact ⟨by simpa using H [] (by decide), H [0] (by decide)⟩
      · simp only [Tr.atb, atbs, and_true]
    · refine zbI zrw (by simp [Tr.nb, nbs]) (by unfold Apart; decide) (by simp) (fun wn q H => ?_) fun R q H => ?_
      · simp only [Tr.inn, inns, and_true]
        exact ⟨by simpa using H [] (by decide), H [0] (by decide)⟩
      · simp only [Tr.atb, atbs, and_true]
        simpa using H 0 [0, 0] rfl
  · rcases hL with rfl | rfl
    · refine zbI zpH (by simp [Tr.nb, nbs]) (by unfold Apart; decide) (by simp) (fun wn q H => ?_) fun R q H => ?_
      · simp only [Tr.inn, inns, and_true]
        exact ⟨by simpa using H [] (by decide), H [0] (by decide)⟩
      · simp only [Tr.atb, atbs, and_true, true_and]
        simpa using H 0 [1] rfl
    · refine zbI zpy (by simp [Tr.nb, nbs]) (by unfold Apart; decide) (by simp) (fun wn q H => ?_) fun R q H => ?_
      · simp only [Tr.inn, inns, and_true]
        exact ⟨by simpa using H [] (by decide), H [0] (by decide)⟩
      · simp only [Tr.atb, atbs, and_true]
        exact ⟨by simpa using H 0 [0, 0] rfl, by simpa using H 1 [1] rfl⟩
  · rcases hL with rfl | rfl
    · refine zbI zpo (by simp [Tr.nb, nbs]) (by unfold Apart; decide) (by simp) (fun wn q H => ?_) fun R q H => ?_
      · simp only [Tr.inn, inns, and_true]
        exact ⟨by simpa using H [] (by decide), H [0] (by decide), by simpa using H [0, 0] (by decide)⟩
      · simp only [Tr.atb, atbs, and_true]
        exact ⟨by simpa using H 0 [0, 0, 0] rfl, by simpa using H 1 [1] rfl, by simpa using H 2 [2] rfl⟩
    · refine zbI zqW (by simp [Tr.nb, nbs]) (by unfold Apart; decide) (by simp) (fun wn q H => ?_) fun R q H => ?_
      · simp only [Tr.inn, inns, and_true]
        exact ⟨by simpa using H [] (by decide), H [0] (by decide), by simpa using H [0, 0] (by decide)⟩
      · simp only [Tr.atb, atbs, and_true, true_and]
        exact ⟨by simpa using H 0 [1] rfl, by simpa using H 1 [2] rfl⟩
  · subst hL
    refine zbI zpB (by simp [Tr.nb, nbs]) (by unfold Apart; decide) (by simp) (fun wn q H => ?_) fun R q H => ?_
    · simp only [Tr.inn, inns, and_true]
      simpa using H [] (by decide)
    · simp only [Tr.atb, atbs, and_true]
section
variable {w0 w1 w2 w3 w4 w5 : Str} {tt : List Str} {B : List Tn}
theorem BookOk.pl (b : BookOk w0 w1 w2 w3 w4 w5 tt B) {t : Tn} (ht : t ∈ B) : LeftP t.2.1 := by
  obtain ⟨n, m, e⟩ := b.lf
  have : t.2.1 ∈ leftsL n w0 w2 w3 ++ leftsL m w1 w2 w3 := by rw [← e]; exact List.mem_map.mpr ⟨t, ht, rfl⟩
  rcases List.mem_append.mp this with z | z
  · exact zdt _ z
  · exact zdt _ z
theorem zeG {q r : List Int} (h : r ≠ []) : ¬ (q ++ r) <+: q := fun z => by
  have := z.length_le
  rw [List.length_append] at this
  have : 0 < r.length := List.length_pos_iff.mpr h
  omega
theorem zlc {c : Int → Nat} {q : List Int} {qs : List (List Int)} {ps : List Pl} (hn : ∀ r ∈ qs, r ≠ []) : q ∉ wanted c (nsz B q qs ps) := fun h => by
  obtain ⟨x, hx, _, e⟩ := zbq.mp h
  obtain ⟨r, hr, hp⟩ := zeX B hx
  rw [e] at hp
  exact zeG (hn r hr) hp
theorem zrR (b : BookOk w0 w1 w2 w3 w4 w5 tt B) (T : Titles tt) (G : Signs w0 w1 w2 w3 w4 w5) {wn : List (List Int)} {c z : Int → Nat} (hc : ∀ x : Int, 0 ≤ x → x < 8 → c x ≤ 1) (hz : ∀ x : Int, 0 ≤ x → x < 8 → z x = 0) {p : Pl} (h : PlOk [w2, w3, w4, w5] B p) :
    ∀ q, (∀ x, q <+: x → (x ∈ wn ↔ x ∈ wanted c (p.ns B q))) → Wi B wn (p.dp + 3 * p.nt) q (p.ev B z) (p.ev B c) := by
  have k := b.bk T G
  induction h with
  | @sign b' h ps hh hp ih =>
    intro q hw
    rw [zfw] at hw
    have hne : ∀ r ∈ (List.range ps.length).map fun (i : Nat) => [(i : Int)], r ≠ [] := fun r hr => by
      obtain ⟨i, _, rfl⟩ := List.mem_map.mp hr
      simp
    rw [zbC, zbC, Pl.dp, Pl.nt, if_pos (by decide), show 1 + pdps ps + 3 * (0 + pnts ps) = pdps ps + 3 * pnts ps + 1 by omega]
    refine .no (fun hq => zlc hne ((hw q (List.prefix_refl _)).mp hq)) (zbM k.ti (k.sg h (k.sb h hh))) ?_
    rw [List.length_map]
    refine zjY ps _ (by simp) (zgS _) (fun r _ x hx => hw x (List.IsPrefix.trans ⟨r, rfl⟩ hx)) fun p hp q' hq' => (ih p hp q' hq').mono ?_
    have := zcG hp
    have := zcB hp
    omega
  | @turn k' b' h ps t e hl b0 b1 hp ih =>
    intro q hw
    have ht : t ∈ B := List.mem_of_getElem? e
    have LP := b.pl ht
    have L := k.lf t ht
    rw [zfm e] at hw
    have en : (Pl.nd k' b' h ps).nt = 1 + pnts ps := by rw [Pl.nt, if_neg (by omega)]
    have cons_w : ∀ x, x ∈ wanted c ((q, b', t.1) :: nsz B q (t.2.1.bls.map fun x => x.1) ps) ↔ (c b' = 1 ∧ q = x) ∨ x ∈ wanted c (nsz B q (t.2.1.bls.map fun x => x.1) ps) := fun x => by
      rw [zbq, zbq]
      constructor
      · rintro ⟨y, hy, h1, h2⟩
        rcases List.mem_cons.mp hy with rfl | hy
        · exact .inl ⟨h1, h2⟩
        · exact .inr ⟨y, hy, h1, h2⟩
      · rintro (⟨h1, h2⟩ | ⟨y, hy, h1, h2⟩)
        · exact ⟨_, List.mem_cons_self, h1, h2⟩
        · exact ⟨y, List.mem_cons_of_mem _ hy, h1, h2⟩
    have parts : Wis B wn (pdps ps + 3 * pnts ps) q (t.2.1.bls.map fun x => x.1) (ps.map (Pl.ev B z)) (ps.map (Pl.ev B c)) := by
      refine zjY ps _ (by rw [LP.len, hl]) LP.ap (fun r hr x hx => ?_) fun p hp q' hq' => (ih p hp q' hq').mono ?_
      · rw [hw x (List.IsPrefix.trans ⟨r, rfl⟩ hx), cons_w]
        refine ⟨fun hh => hh.elim (fun hh => ?_) id, .inr⟩
        rw [← hh.2] at hx
        exact absurd hx (zeG (LP.ne r hr))
      · have := zcG hp
        have := zcB hp
        omega
    have l1 : (ps.map (Pl.ev B z)).length = t.2.1.nb := by rw [List.length_map, hl]
    have hd := L.dp
    rw [zbB e, zbB e, hz b' b0 b1, Pl.dp, en, show 1 + pdps ps + 3 * (1 + pnts ps) = pdps ps + 3 * pnts ps + 3 + 1 by omega]
    have hq := hw q (List.prefix_refl _)
    rw [cons_w] at hq
    by_cases c1 : c b' = 1
    · rw [c1]
      have ho := b.open_some G ht l1
      have hm := b.mt t ht _ l1
      obtain ⟨s, ks, hk⟩ := L.nd
      have ef : t.2.1.fill (ps.map (Pl.ev B z)) = .nd s (fills (ps.map (Pl.ev B z)) ks) := by rw [hk, Tr.fill]
      simp only [evT]
      rw [ef] at ho hm ⊢
      exact .yes (hq.mpr (.inl ⟨c1, rfl⟩)) ho hm (zcj k.nd ht) (parts.mono (by omega))
    · rw [show c b' = 0 by have := hc b' b0 b1; omega]
      simp only [evT]
      refine (zkT k.ti t.2.1 q L.hb (by rw [l1]; exact L.fits) (by rw [List.length_map, List.length_map]) (LP.inn wn q fun s hs hx => ?_) (LP.atb _ q fun i r hr u v hu hv => ?_)).mono (n := pdps ps + 3 * pnts ps + t.2.1.depth) (by omega)
      · have := (hw (q ++ s) ⟨s, rfl⟩).mp hx
        rw [cons_w] at this
        rcases this with ⟨h1, _⟩ | h1
        · exact c1 h1
        · obtain ⟨y, hy, _, ey⟩ := zbq.mp h1
          obtain ⟨r, hr, hp⟩ := zeX B hy
          rw [ey] at hp
          exact hs r hr (zde.mp hp)
      · exact parts.get hr hu hv
end
end L2
end

section
set_option Elab.async false
set_option linter.all false
set_option maxRecDepth 100000
set_option maxHeartbeats 4000000
namespace L2
open PySem PySem.Spec PyProof.Rows
def encX (x : List Int × Str) : W := .tup [encP x.1, .str x.2]
section
variable {a : Addr} {B : List Tn}
structure Lft (B : List Tn) : Prop where
  d : ∀ t ∈ B, t.2.1.depth ≤ 4
  w : ∀ t ∈ B, t.2.1.weight ≤ 10
theorem zew {S : Sto} {r : Nat} {Q : WK} {E : Str → Sto → Prop} {s : Str} {ts : List Tr} (L : Lft B) (ha : S a = some (.lst (B.map encT))) (hl : ts.length ≤ 1000) (hr : 20 ≤ r) (h : ∀ q, S q = none → Q (.ref q) (put S q (.lst ((pps B s ts.length).map encP)))) : zaB (r + 1) [.ref a, enc (.nd s ts)] S Q E := by
  obtain ⟨r, rfl⟩ : ∃ r', r = r' + 1 := ⟨r - 1, by omega⟩
  rw [zaB]
  simp only [enc]
  walk_at "wp"
  refine zfO ha ?_
  unfold pps at h
  cases e : turnB B s with
  | none =>
    rw [e] at h
    simp only [encU]
    try walk_at "wp"
    rw [zbd]
    have e1 : (((ts.length + 1 : Nat) : Int) - 1).toNat = ts.length := by omega
    rw [e1]
    refine ⟨⟨by omega, by omega⟩, ?_⟩
    rw [ziZ]
    refine zaQ (fun σ => ∃ x, σ = [x]) (fun i : Nat => W.int i) (fun i => encP [(i : Int)]) trivial (List.range ts.length) [] _ ⟨none, rfl⟩ (by simp; omega) (fun x hx σ R hI hR => ?_) ?_
    · obtain ⟨y, rfl⟩ := hI
      simp only [zcz]
      walk_at "wp"
      exact ⟨zah (by decide), hR _ _ ⟨_, rfl⟩ .refl⟩
    · rw [List.nil_append]
      intro q hq
      have := h q hq
      simp only [List.map_map] at this
      exact ⟨_, .refl, this⟩
  | some t =>
    rw [e] at h
    have ht : t ∈ B := List.mem_of_find?_eq_some e
    have ee : encU (some t) = .tup [.str t.1, enc t.2.1, enc t.2.2] := rfl
    rw [ee]
    try walk_at "wp"
    rw [show atI [W.str t.1, enc t.2.1, enc t.2.2] 1 = some (enc t.2.1) from rfl]
    dsimp only
    have h1 := L.d t ht
    have h2 := L.w t ht
    refine zjf (by omega) (by omega) fun q hq => ?_
    have := h q hq
    simp only [List.map_map] at this
    exact ⟨_, .refl, this⟩
theorem zfW (B : List Tn) (x : Tr) : B.findSome? (fun t => if (t.2.1.mt x).isSome then some (encT t) else none) = (openT B x).map encT := by
  unfold openT
  induction B with
  | nil => rfl
  | cons t B ih =>
    rw [List.findSome?_cons, List.find?_cons]
    cases e : (t.2.1.mt x).isSome with
    | true => rfl
    | false => simpa using ih
theorem zeg {S : Sto} {r : Nat} {Q : WK} {E : Str → Sto → Prop} {x : Tr} (L : Lft B) (ha : S a = some (.lst (B.map encT))) (hf : x.fits 0) (hr : 20 ≤ r) (h : Q (encU (openT B x)) S) : zaG (r + 1) [.ref a, enc x] S Q E := by
  obtain ⟨r, rfl⟩ : ∃ r', r = r' + 1 := ⟨r - 1, by omega⟩
  rw [zaG]
  walk_at "wp"
  rw [zai ha]
  refine zdi (S := S) ?_ (fun σ => ∃ y, σ = [some (.ref a), some (enc x), y]) encT (fun t => if (t.2.1.mt x).isSome then some (encT t) else none) B _ ⟨_, rfl⟩ (fun t ht σ N hI hno hret => ?_) (fun e σ hI => ?_) fun w e S' sb => ?_
  · exact ha
  · obtain ⟨y, rfl⟩ := hI
    simp only [zcu]
    have ee : encT t = .tup [.str t.1, enc t.2.1, enc t.2.2] := rfl
    rw [ee]
    walk_at "wp"
    rw [show atI [W.str t.1, enc t.2.1, enc t.2.2] 1 = some (enc t.2.1) from rfl]
    dsimp only
    have h1 := L.d t ht
    have h2 := L.w t ht
    refine zeF (by omega) hf (by omega) (fun ys hys q hq => ?_) fun h0 => ?_
    · try walk_at "wp"
      rw [hys] at hret
      exact hret _ rfl _ (.put .refl hq)
    · try walk_at "wp"
      rw [h0] at hno
      exact hno rfl _ _ ⟨_, rfl⟩ .refl
  · obtain ⟨y, rfl⟩ := hI
    walk_at "wp"
    rw [zfW] at e
    have : openT B x = none := by
      cases q : openT B x with
      | none => rfl
      | some t => rw [q] at e; cases e
    rw [this] at h
    exact ⟨_, .refl, h⟩
  · rw [zfW] at e
    cases q : openT B x with
    | none => rw [q] at e; cases e
    | some t =>
      rw [q] at e h
      cases e
      exact ⟨_, sb, h⟩
end
end L2
end

section
set_option Elab.async false
set_option linter.all false
set_option maxRecDepth 100000
set_option maxHeartbeats 4000000
namespace L2
open PySem PySem.Spec PyProof.Rows
mutual
theorem zkB (B : List Tn) : ∀ (t : Tr) (p : List Int), (t.op B p).length ≤ t.weight
  | .bl n, p => by simp [Tr.op]
  | .nd s ts, p => by
    have := zjt B ts p 0
    rw [Tr.op, List.length_append, Tr.weight]
    split <;> simp <;> omega
theorem zjt (B : List Tn) : ∀ (ts : List Tr) (p : List Int) (i : Nat), (ops B p i ts).length ≤ wts ts
  | [], p, i => by simp [ops]
  | t :: ts, p, i => by
    have h1 := zkB B t (p ++ [(i : Int)])
    have h2 := zjt B ts p (i + 1)
    rw [ops, List.length_append, wts]
    omega
end
mutual
theorem znp (B : List Tn) : ∀ (t : Tr) (p : List Int), (t.us B p).length ≤ t.weight
  | .bl n, p => by simp [Tr.us]
  | .nd s ts, p => by
    have := zjS B ts (pps B s ts.length) p
    rw [Tr.us, List.length_append, Tr.weight]
    split <;> simp <;> omega
theorem zjS (B : List Tn) : ∀ (ts : List Tr) (qs : List (List Int)) (p : List Int), (usz B p qs ts).length ≤ wts ts
  | [], qs, p => by cases qs <;> simp [usz]
  | t :: ts, [], p => by simp [usz]
  | t :: ts, q :: qs, p => by
    have h1 := znp B t (p ++ q)
    have h2 := zjS B ts qs p
    rw [usz, List.length_append, wts]
    omega
end
section
variable {a f : Addr} {B : List Tn}
mutual
theorem zij (L : Lft B) (haf : f ≠ a) : ∀ (t : Tr) {r : Nat} {p : List Int} {xs : List W} {S : Sto} {Q : WK} {E : Str → Sto → Prop}, t.depth + 25 ≤ r → S a = some (.lst (B.map encT)) → S f = some (.lst xs) → xs.length + t.weight ≤ 100000 → p.length + t.depth ≤ 1000 → t.hd (fun _ => True) →
    Q .non (put S f (.lst (xs ++ (t.op B p).map encX))) → zaL (r + 1) [.ref a, enc t, encP p, .ref f] S Q E
  | .bl n, r, p, xs, S, Q, E, hr, ha, hf, hx, hp, hh, h => by simp [Tr.hd] at hh
  | .nd s ts, r, p, xs, S, Q, E, hr, ha, hf, hx, hp, hh, h => by
    have ft := zeN (m := 0) _ hh
    simp only [Tr.depth] at hr hp
    simp only [Tr.weight] at hx
    simp only [Tr.hd] at hh
    obtain ⟨r, rfl⟩ : ∃ r', r = r' + 1 := ⟨r - 1, by omega⟩
    rw [zaL]
    have ee : enc (.nd s ts) = .tup (.str s :: encs ts) := by simp only [enc]
    walk_at "wp"
    refine zeg L ha ft (by omega) ?_
    rw [Tr.op] at h
    cases e : openT B (.nd s ts) with
    | none =>
      rw [e] at h
      simp only [List.nil_append] at h
      simp only [encU]
      rw [ee]
      try walk_at "wp"
      exact zdL L haf ts (by omega) ha hf (by omega) (by omega) hh.2 fun x5 x6 => ⟨_, .refl, h⟩
    | some t =>
      rw [e] at h
      have et : encU (some t) = .tup [.str t.1, enc t.2.1, enc t.2.2] := rfl
      rw [et, ee]
      try walk_at "wp"
      simp only [zai hf, true_and]
      refine ⟨zah (by decide), zbG (by omega), ?_⟩
      refine zdL L haf ts (xs := xs ++ [encX (p, t.1)]) (by omega) (by rw [zaH (Ne.symm haf)]; exact ha) zaf (by simp; omega) (by omega) hh.2 fun x5 x6 => ⟨_, .refl, ?_⟩
      rw [zaE]
      simpa using h
theorem zdL (L : Lft B) (haf : f ≠ a) : ∀ (ts : List Tr) {r : Nat} {p : List Int} {i : Nat} {xs : List W} {S : Sto} {E : WX} {D : WEnds} {t0 x4 x5 x6 : Option W}, dts ts + 25 ≤ r → S a = some (.lst (B.map encT)) → S f = some (.lst xs) → xs.length + wts ts ≤ 100000 → p.length + 1 + dts ts ≤ 1000 → hds (fun _ => True) ts →
    (∀ x5 x6, D.nx [some (.ref a), t0, some (encP p), some (.ref f), x4, x5, x6] (put S f (.lst (xs ++ (ops B p i ts).map encX)))) →
    forL (wGT (wGcons (wGN 5) (wGcons (wGN 6) wGnil))) (zbP (r + 1) (zaL (r + 1))) E D (fun _ => True) (nums i (encs ts)) [some (.ref a), t0, some (encP p), some (.ref f), x4, x5, x6] S
  | [], r, p, i, xs, S, E, D, t0, x4, x5, x6, hr, ha, hf, hx, hp, hh, h => by
    simp only [encs, nums, forL]
    have := h x5 x6
    rw [ops, List.map_nil, List.append_nil, zcv hf] at this
    exact this
  | t :: ts, r, p, i, xs, S, E, D, t0, x4, x5, x6, hr, ha, hf, hx, hp, hh, h => by
    simp only [dts] at hr hp
    simp only [wts] at hx
    simp only [hds] at hh
    simp only [encs, nums]
    refine zbw fun N hN => ?_
    simp only [zbP]
    walk_at "wp"
    rw [zik]
    refine ⟨zah (by decide), zah (by omega), ?_⟩
    have ol := zkB B t (p ++ [(i : Int)])
    refine zij L haf t (by omega) ha hf (by omega) (by simp; omega) hh.1 ?_
    refine hN _ _ _ .refl trivial (zdL L haf ts (xs := xs ++ (t.op B (p ++ [(i : Int)])).map encX) (by omega) (by rw [zaH (Ne.symm haf)]; exact ha) zaf (by simp; omega) (by omega) hh.2 fun x5 x6 => ?_)
    rw [zaE]
    have := h x5 x6
    rw [ops, List.map_append] at this
    simpa using this
end
theorem zjR {p q : List Int} {S : Sto} {Q : WK} : oAdd (encP p) (encP q) S Q = (p.length + q.length ≤ sizeLine ∧ Q (encP (p ++ q)) S) := by
  unfold encP
  rw [zdR, List.length_map, List.length_map, List.map_append]
def PB (B : List Tn) : Prop := ∀ t ∈ B, ∀ x ∈ t.2.1.bls, x.1.length ≤ 4
theorem zfZ {s : Str} {n : Nat} (h : PB B) : ∀ q ∈ pps B s n, q.length ≤ 4 := fun q hq => by
  unfold pps at hq
  cases e : turnB B s with
  | none =>
    rw [e] at hq
    obtain ⟨i, _, rfl⟩ := List.mem_map.mp hq
    simp
  | some t =>
    rw [e] at hq
    obtain ⟨x, hx, rfl⟩ := List.mem_map.mp hq
    exact h t (List.mem_of_find?_eq_some e) x hx
mutual
theorem zia (L : Lft B) (hP : PB B) (haf : f ≠ a) : ∀ (t : Tr) {r : Nat} {p : List Int} {xs : List W} {S : Sto} {Q : WK} {E : Str → Sto → Prop}, t.depth + 25 ≤ r → S a = some (.lst (B.map encT)) → S f = some (.lst xs) → xs.length + t.weight ≤ 100000 → p.length + 4 * t.depth ≤ 1000 → t.weight ≤ 1000 → t.hd (fun _ => True) →
    Q .non (put S f (.lst (xs ++ (t.us B p).map encX))) → zaF (r + 1) [.ref a, enc t, encP p, .ref f] S Q E
  | .bl n, r, p, xs, S, Q, E, hr, ha, hf, hx, hp, hw, hh, h => by simp [Tr.hd] at hh
  | .nd s ts, r, p, xs, S, Q, E, hr, ha, hf, hx, hp, hw, hh, h => by
    simp only [Tr.depth] at hr hp
    simp only [Tr.weight] at hx hw
    simp only [Tr.hd] at hh
    have hk := zco ts
    obtain ⟨r, rfl⟩ : ∃ r', r = r' + 1 := ⟨r - 1, by omega⟩
    rw [zaF]
    have ee : enc (.nd s ts) = .tup (.str s :: encs ts) := by simp only [enc]
    rw [ee]
    walk_at "wp"
    refine zfO ha ?_
    rw [Tr.us] at h
    have tail : ∀ (xs : List W) (S : Sto), S a = some (.lst (B.map encT)) → S f = some (.lst xs) → xs.length + wts ts ≤ 100000 → Q .non (put S f (.lst (xs ++ (usz B p (pps B s ts.length) ts).map encX))) →
        zaB (r + 1) [.ref a, enc (.nd s ts)] S (fun x S1 => seqW x S1 fun xs G => forL (wGT (wGcons (wGN 4) (wGcons (wGN 5) wGnil))) (zbv (r + 1) (zaF (r + 1))) (fun c x S' => E c S') { nx := fun x S' => ∃ S'', Sub S'' S' ∧ Q W.non S'', rt := fun w S' => ∃ S'', Sub S'' S' ∧ Q w S'' } (fun S' => G S' ∧ True) (pairs xs (encs ts)) [some (.ref a), some (.tup (.str s :: encs ts)), some (encP p), some (.ref f), none, none] S1) (fun cl S2 => E cl S2) := fun xs S ha hf hx h => by
      refine zew L ha (by omega) (by omega) fun q hq => ?_
      rw [zdI, zdc]
      have hqf : q ≠ f := fun z => by rw [z, hf] at hq; cases hq
      refine zig L hP haf ts (pps B s ts.length) (xs := xs) (G := fun S' => S' q = some (.lst ((pps B s ts.length).map encP)) ∧ True) (zfZ hP) (by omega) (keep ha hq) (keep hf hq) (by omega) (by omega) (by omega) hh.2 (fun o => ⟨?_, trivial⟩) fun x4 x5 => ⟨_, ?_, h⟩
      · rw [zaH hqf]
        exact zaf
      · rw [zfa (Ne.symm hqf)]
        exact .put .refl (by rw [zaH hqf]; exact hq)
    cases e : turnB B s with
    | none =>
      rw [e] at h
      simp only [List.nil_append] at h
      simp only [encU]
      try walk_at "wp"
      have := tail xs S ha hf (by omega) h
      rw [ee] at this
      simpa only [and_true] using this
    | some t =>
      rw [e] at h
      have et : encU (some t) = .tup [.str t.1, enc t.2.1, enc t.2.2] := rfl
      rw [et]
      try walk_at "wp"
      simp only [zai hf, true_and]
      refine ⟨zah (by decide), zbG (by omega), ?_⟩
      have := tail (xs ++ [encX (p, s)]) (put S f (.lst (xs ++ [encX (p, s)]))) (by rw [zaH (Ne.symm haf)]; exact ha) zaf (by simp; omega) (by rw [zaE]; simpa using h)
      rw [ee] at this
      simpa only [and_true, encX] using this
theorem zig (L : Lft B) (hP : PB B) (haf : f ≠ a) : ∀ (ts : List Tr) (qs : List (List Int)) {r : Nat} {p : List Int} {xs : List W} {S : Sto} {G : Sto → Prop} {E : WX} {D : WEnds} {t0 x4 x5 : Option W}, (∀ q ∈ qs, q.length ≤ 4) → dts ts + 25 ≤ r → S a = some (.lst (B.map encT)) → S f = some (.lst xs) → xs.length + wts ts ≤ 100000 → p.length + 4 + 4 * dts ts ≤ 1000 → wts ts ≤ 1000 → hds (fun _ => True) ts → (∀ o, G (put S f o)) →
    (∀ x4 x5, D.nx [some (.ref a), t0, some (encP p), some (.ref f), x4, x5] (put S f (.lst (xs ++ (usz B p qs ts).map encX)))) →
    forL (wGT (wGcons (wGN 4) (wGcons (wGN 5) wGnil))) (zbv (r + 1) (zaF (r + 1))) E D G (pairs (qs.map encP) (encs ts)) [some (.ref a), t0, some (encP p), some (.ref f), x4, x5] S
  | [], qs, r, p, xs, S, G, E, D, t0, x4, x5, hq, hr, ha, hf, hx, hp, hw, hh, hG, h => by
    have e : pairs (qs.map encP) (encs []) = [] := by cases qs <;> simp [encs, pairs]
    rw [e]
    simp only [forL]
    have := h x4 x5
    have e2 : usz B p qs [] = [] := by cases qs <;> simp [usz]
    rw [e2, List.map_nil, List.append_nil, zcv hf] at this
    exact this
  | t :: ts, [], r, p, xs, S, G, E, D, t0, x4, x5, hq, hr, ha, hf, hx, hp, hw, hh, hG, h => by
    simp only [List.map_nil, pairs, forL]
    have := h x4 x5
    have e2 : usz B p [] (t :: ts) = [] := by simp [usz]
    rw [e2, List.map_nil, List.append_nil, zcv hf] at this
    exact this
  | t :: ts, q :: qs, r, p, xs, S, G, E, D, t0, x4, x5, hq, hr, ha, hf, hx, hp, hw, hh, hG, h => by
    simp only [dts] at hr hp
    simp only [wts] at hx hw
    simp only [hds] at hh
    have hq4 := hq q List.mem_cons_self
    simp only [List.map_cons, encs, pairs]
    refine zbw fun N hN => ?_
    simp only [zbv]
    walk_at "wp"
    rw [zjR]
    refine ⟨zah (by omega), ?_⟩
    have ol := znp B t (p ++ q)
    refine zia L hP haf t (by omega) ha hf (by omega) (by simp; omega) (by omega) hh.1 ?_
    refine hN _ _ _ .refl (hG _) (zig L hP haf ts qs (xs := xs ++ (t.us B (p ++ q)).map encX) (fun q' hq' => hq q' (List.mem_cons_of_mem _ hq')) (by omega) (by rw [zaH (Ne.symm haf)]; exact ha) zaf (by simp; omega) (by omega) (by omega) hh.2 (fun o => by rw [zaE]; exact hG o) fun x4 x5 => ?_)
    rw [zaE]
    have := h x4 x5
    rw [usz, List.map_append] at this
    simpa using this
end
end
end L2
end

section
set_option Elab.async false
set_option linter.all false
set_option maxRecDepth 100000
set_option maxHeartbeats 4000000
namespace L2
open PySem PySem.Spec PyProof.Rows
section
variable {a : Addr} {B : List Tn} {S : Sto} {r : Nat} {Q : WK} {E : Str → Sto → Prop} {t : Tr}
theorem zhu (L : Lft B) (ha : S a = some (.lst (B.map encT))) (hd : t.depth ≤ 60) (hr : t.depth + 30 ≤ r) (hw : t.weight ≤ 1000) (hh : t.hd (fun _ => True)) (h : ∀ q, S q = none → Q (.ref q) (put S q (.lst ((t.op B []).map encX)))) : zbx (r + 1) [.ref a, enc t] S Q E := by
  obtain ⟨r, rfl⟩ : ∃ r', r = r' + 1 := ⟨r - 1, by omega⟩
  rw [zbx]
  walk_at "wp"
  refine ⟨Nat.zero_le _, fun q hq => ⟨Nat.zero_le _, ?_⟩⟩
  have hqa : q ≠ a := fun z => by rw [z, ha] at hq; cases hq
  refine zij L hqa t (p := []) (xs := []) (by omega) (keep ha hq) zaf (by simp; omega) (by simp; omega) hh ?_
  rw [zaE, List.nil_append]
  exact ⟨_, .refl, h q hq⟩
theorem ok_uses (L : Lft B) (hP : PB B) (ha : S a = some (.lst (B.map encT))) (hd : t.depth ≤ 60) (hr : t.depth + 30 ≤ r) (hw : t.weight ≤ 1000) (hh : t.hd (fun _ => True)) (h : ∀ q, S q = none → Q (.ref q) (put S q (.lst ((t.us B []).map encX)))) : zed (r + 1) [.ref a, enc t] S Q E := by
  obtain ⟨r, rfl⟩ : ∃ r', r = r' + 1 := ⟨r - 1, by omega⟩
  rw [zed]
  walk_at "wp"
  refine ⟨Nat.zero_le _, fun q hq => ⟨Nat.zero_le _, ?_⟩⟩
  have hqa : q ≠ a := fun z => by rw [z, ha] at hq; cases hq
  refine zia L hP hqa t (p := []) (xs := []) (by omega) (keep ha hq) zaf (by simp; omega) (by simp; omega) hw hh ?_
  rw [zaE, List.nil_append]
  exact ⟨_, .refl, h q hq⟩
theorem zhl {f : Addr} {xs : List (List Int × Str)} (hf : S f = some (.lst (xs.map encX))) (hl : xs.length ≤ 10000) (h : ∀ q, S q = none → Q (.ref q) (put S q (.lst ((xs.map fun x => x.1).map encP)))) : zbA (r + 1) [.ref f] S Q E := by
  rw [zbA]
  walk_at "wp"
  rw [zai hf]
  refine zaQ (fun σ => ∃ y, σ = [y]) encX (fun x => encP x.1) ?_ xs [] _ ⟨none, rfl⟩ (by simp; omega) (fun x hx σ R hI hR => ?_) ?_
  · exact hf
  · obtain ⟨y, rfl⟩ := hI
    simp only [zcU, encX]
    walk_at "wp"
    exact hR _ _ ⟨_, rfl⟩ .refl
  · rw [List.nil_append]
    intro q hq
    have := h q hq
    rw [List.map_map] at this
    exact ⟨_, .refl, this⟩
theorem zgL {s : Str} {ts ms : List Tr} {u : Tn} (L : Lft B) (ha : S a = some (.lst (B.map encT))) (hh : (Tr.nd s ts).hd (fun _ => True)) (hw : (Tr.nd s ts).weight ≤ 1000) (hr : 25 ≤ r) (h1 : openT B (.nd s ts) = some u) (h2 : u.2.1.mt (.nd s ts) = some ms) (h : Q (enc (.nd u.1 ms)) S) : zbp (r + 1) [.ref a, enc (.nd s ts)] S Q E := by
  obtain ⟨r, rfl⟩ : ∃ r', r = r' + 1 := ⟨r - 1, by omega⟩
  have ht : u ∈ B := List.mem_of_find?_eq_some h1
  have ft := zeN (m := 0) _ hh
  have hm := znI u.2.1 _ _ h2 hh
  have hl := zco ms
  rw [zbp]
  walk_at "wp"
  refine zeg L ha ft (by omega) ?_
  rw [h1]
  have et : encU (some u) = .tup [.str u.1, enc u.2.1, enc u.2.2] := rfl
  rw [et]
  try walk_at "wp"
  rw [show atI [W.str u.1, enc u.2.1, enc u.2.2] 1 = some (enc u.2.1) from rfl]
  have g1 := L.d u ht
  have g2 := L.w u ht
  refine ⟨zah (by decide), zeF (by omega) ft (by omega) (fun ys hys q hq => ?_) fun h0 => by rw [h2] at h0; cases h0⟩
  rw [h2] at hys
  cases hys
  try walk_at "wp"
  rw [zbd]
  simp only [enc] at h
  exact ⟨zah (by omega), _, .put .refl hq, h⟩
end
end L2
end

section
set_option Elab.async false
set_option linter.all false
set_option maxRecDepth 100000
set_option maxHeartbeats 4000000
namespace L2
open PySem PySem.Spec PyProof.Rows
theorem zmF {B : List Tn} {s : Str} {n : Nat} (h : turnB B s = none) : pps B s n = (List.range n).map fun (i : Nat) => [(i : Int)] := by unfold pps; rw [h]
theorem zmN {B : List Tn} {s : Str} {n : Nat} {t : Tn} (h : turnB B s = some t) : pps B s n = t.2.1.bls.map fun x => x.1 := by unfold pps; rw [h]
theorem Wis.len {B : List Tn} {wn : List (List Int)} {n : Nat} {p : List Int} : ∀ {qs : List (List Int)} {ts us : List Tr}, Wis B wn n p qs ts us → us.length = ts.length
  | _, _, _, .nil => rfl
  | _, _, _, .cons _ h => by rw [List.length_cons, List.length_cons, Wis.len h]
section
variable {a w : Addr} {B : List Tn} {wn : List (List Int)}
theorem zef (n : Nat) (hP4 : ∀ {t u : Tr} {p : List Int} {r : Nat} {S : Sto} {Q : WK} {E : Str → Sto → Prop}, Wi B wn n p t u → n + 40 ≤ r + 1 → S a = some (.lst (B.map encT)) → S w = some (.dct (foldW wn)) → t.hd (fun _ => True) → t.weight ≤ 1000 → p.length + 4 * n ≤ 1000 → Q (enc u) S → zaC (r + 1) [.ref a, enc t, encP p, .ref w] S Q E) :
    ∀ {ts us : List Tr} {qs : List (List Int)} {p : List Int} {r : Nat} {xs : List W} {f : Addr} {S : Sto} {G : Sto → Prop} {E : WX} {D : WEnds} {t0 x4 x6 x7 : Option W}, Wis B wn n p qs ts us → (∀ q ∈ qs, q.length ≤ 4) → n + 40 ≤ r + 1 → S a = some (.lst (B.map encT)) → S w = some (.dct (foldW wn)) → S f = some (.lst xs) → f ≠ a → f ≠ w → xs.length + ts.length ≤ 10000 → wts ts ≤ 1000 → hds (fun _ => True) ts → p.length + 4 + 4 * n ≤ 1000 → (∀ o, G (put S f o)) →
    (∀ x6 x7, D.nx [some (.ref a), t0, some (encP p), some (.ref w), x4, some (.ref f), x6, x7] (put S f (.lst (xs ++ encs us)))) →
    forL (wGT (wGcons (wGN 6) (wGcons (wGN 7) wGnil))) (zbE (r + 1) (zaC (r + 1))) E D G (pairs (qs.map encP) (encs ts)) [some (.ref a), t0, some (encP p), some (.ref w), x4, some (.ref f), x6, x7] S
  | _, _, _, p, r, xs, f, S, G, E, D, t0, x4, x6, x7, .nil, hq, hr, ha, hw, hf, n1, n2, hx, hwt, hh, hp, hG, h => by
    simp only [List.map_nil, encs, pairs, forL]
    have := h x6 x7
    simp only [encs, List.append_nil, zcv hf] at this
    exact this
  | _, _, _, p, r, xs, f, S, G, E, D, t0, x4, x6, x7, .cons (q := q) (t := t) (u := u) (ts := ts) (us := us) h1 h2, hq, hr, ha, hw, hf, n1, n2, hx, hwt, hh, hp, hG, h => by
    simp only [wts] at hwt
    simp only [hds] at hh
    simp only [List.length_cons] at hx
    have hq4 := hq q List.mem_cons_self
    simp only [List.map_cons, encs, pairs]
    refine zbw fun N hN => ?_
    simp only [zbE]
    walk_at "wp"
    simp only [zai hf, true_and]
    rw [zjR]
    refine ⟨zah (by omega), hP4 h1 hr ha hw hh.1 (by omega) (by simp; omega) ?_⟩
    try walk_at "wp"
    rw [zai hf]
    refine ⟨zbG (by omega), ?_⟩
    refine hN _ _ _ .refl (hG _) (zef n hP4 h2 (xs := xs ++ [enc u]) (fun q' hq' => hq q' (List.mem_cons_of_mem _ hq')) hr (by rw [zaH (Ne.symm n1)]; exact ha) (by rw [zaH (Ne.symm n2)]; exact hw) zaf n1 n2 (by simp; omega) (by omega) hh.2 hp (fun o => by rw [zaE]; exact hG o) fun x6 x7 => ?_)
    rw [zaE]
    have := h x6 x7
    simpa [encs] using this
theorem zgC (L : Lft B) (hP : PB B) : ∀ (n : Nat) {t u : Tr} {p : List Int} {r : Nat} {S : Sto} {Q : WK} {E : Str → Sto → Prop}, Wi B wn n p t u → n + 40 ≤ r + 1 → S a = some (.lst (B.map encT)) → S w = some (.dct (foldW wn)) → t.hd (fun _ => True) → t.weight ≤ 1000 → p.length + 4 * n ≤ 1000 → Q (enc u) S → zaC (r + 1) [.ref a, enc t, encP p, .ref w] S Q E
  | 0, t, u, p, r, S, Q, E, M, hr, ha, hw, hh, hwt, hp, h => by cases M
  | n + 1, t, u, p, r, S, Q, E, M, hr, ha, hw, hh, hwt, hp, h => by
    obtain ⟨r, rfl⟩ : ∃ r', r = r' + 1 := ⟨r - 1, by omega⟩
    -- the rest, once the top is known
    have tail : ∀ {s : Str} {ts us : List Tr} {t0 : Option W} {E' : WX}, Wis B wn n p (pps B s ts.length) ts us → hds (fun _ => True) ts → wts ts ≤ 1000 → Q (enc (.nd s us)) S →
        (1 : Nat) = 1 → ∀ f, S f = none → zaB (r + 1) [.ref a, .tup (.str s :: encs ts)] (put S f (.lst [])) (fun x S1 => seqW x S1 fun xs G => forL (wGT (wGcons (wGN 6) (wGcons (wGN 7) wGnil))) (zbE (r + 1) (zaC (r + 1))) E' { nx := wRet (wOp oAdd (wTup (waCons (wOp oIx (wVar 4) (wC (W.int 0))) waNil)) (wB fTuple (waCons (wVar 5) waNil))) E' { nx := fun x S' => ∃ S'', Sub S'' S' ∧ Q W.non S'', rt := fun w S' => ∃ S'', Sub S'' S' ∧ Q w S'' }, rt := fun w S' => ∃ S'', Sub S'' S' ∧ Q w S'' } (fun S' => G S' ∧ True) (pairs xs (encs ts)) [some (.ref a), t0, some (encP p), some (.ref w), some (.tup (.str s :: encs ts)), some (.ref f), none, none] S1) E := fun {s ts us t0 E'} WW hd hw' hQ _ f hf => by
      have hk := zco ts
      have n1 : f ≠ a := fun z => by rw [z, ha] at hf; cases hf
      have n2 : f ≠ w := fun z => by rw [z, hw] at hf; cases hf
      have ee : W.tup (W.str s :: encs ts) = enc (.nd s ts) := by simp only [enc]
      rw [ee]
      refine zew L (keep ha hf) (by omega) (by omega) fun q hq => ?_
      rw [zdI, zdc, ← ee]
      obtain ⟨hq1, hq2⟩ := zcH hq
      refine zef n (zgC L hP n) WW (zfZ hP) (by omega) (keep (keep ha hf) hq) (keep (keep hw hf) hq) (keep zaf hq) n1 n2 (by simp; omega) hw' hd (by omega) (fun o => ⟨?_, trivial⟩) fun x6 x7 => ?_
      · show put _ f o q = _
        rw [zaH hq2]
        exact zaf
      · have hlu : us.length ≤ 1000 := by
          have := Wis.len WW
          omega
        walk_at "wp"
        rw [zbd]
        simp only [enc] at hQ
        refine ⟨zah (by decide), zah (by omega), S, ?_, hQ⟩
        rw [zhV hq2]
        exact .put (.put .refl hf) hq1
    cases M with
    | @no _ _ s ts us h1 h2 h3 =>
      simp only [Tr.hd] at hh
      simp only [Tr.weight] at hwt
      rw [zaC]
      simp only [enc]
      walk_at "wp"
      rw [zhn hw, zgM, decide_eq_false h1]
      try walk_at "wp"
      refine ⟨Nat.zero_le _, fun f hf => ?_⟩
      have := tail (t0 := some (.tup (.str s :: encs ts))) (E' := fun c x S' => E c S') (by rw [zmF h2]; exact h3) hh.2 (by omega) h rfl f hf
      simpa only [and_true] using this
    | @yes _ _ s ts us ms t h1 h2 h3 h4 h5 =>
      have hm := znI t.2.1 _ _ h3 hh
      rw [zaC]
      walk_at "wp"
      rw [zhn hw, zgM, decide_eq_true h1]
      try walk_at "wp"
      refine zgL L ha hh hwt (by omega) h2 h3 ?_
      simp only [enc]
      try walk_at "wp"
      refine ⟨Nat.zero_le _, fun f hf => ?_⟩
      have := tail (t0 := some (.tup (.str s :: encs ts))) (E' := fun c x S' => E c S') (by rw [zmN h4]; exact h5) hm.1 (by omega) h rfl f hf
      simpa only [and_true] using this
end
end L2
end

section
set_option Elab.async false
set_option linter.all false
set_option maxRecDepth 100000
set_option maxHeartbeats 4000000
namespace L2
open PySem PySem.Spec PyProof.Rows
theorem zgK {S : Sto} {n : Nat} : ∀ (p q : List Int), eqFs (eqF S (n + 1)) (p.map W.int) (q.map W.int) = some (decide (p = q))
  | [], [] => by simp [eqFs]
  | [], j :: q => by simp [eqFs]
  | i :: p, [] => by simp [eqFs]
  | i :: p, j :: q => by
    rw [List.map_cons, List.map_cons, eqFs, zni, zgK p q]
    simp only [Option.some.injEq]
    rw [Bool.eq_iff_iff]
    simp
theorem zqA {S : Sto} {n : Nat} (p q : List Int) : eqF S (n + 2) (encP p) (encP q) = some (decide (p = q)) := by
  unfold encP
  rw [zkn, zgK]
theorem zrE {S : Sto} {x : List Int} : ∀ ys : List (List Int), inF S (encP x) (ys.map encP) = some (decide (x ∈ ys))
  | [] => by simp [inF]
  | y :: ys => by
    rw [List.map_cons, inF, zqA (n := 57), zrE ys]
    simp only [Option.some.injEq]
    rw [Bool.eq_iff_iff]
    simp only [Bool.or_eq_true, decide_eq_true_eq, List.mem_cons]
    exact ⟨fun h => h.elim (fun e => .inl e.symm) .inr, fun h => h.elim (fun e => .inl e.symm) .inr⟩
theorem zsh {S : Sto} {n : Nat} (x y : List Int × Str) : eqF S (n + 3) (encX x) (encX y) = some (decide (x = y)) := by
  unfold encX
  rw [zkn]
  simp only [eqFs, zqA, zlw]
  simp only [Option.some.injEq]
  rw [Bool.eq_iff_iff]
  simp only [Bool.and_true, Bool.and_eq_true, decide_eq_true_eq, beq_iff_eq]
  constructor
  · rintro ⟨h1, h2⟩
    exact Prod.ext h1 h2
  · rintro rfl
    exact ⟨rfl, rfl⟩
theorem zqs {S : Sto} {x : List Int × Str} : ∀ ys : List (List Int × Str), inF S (encX x) (ys.map encX) = some (decide (x ∈ ys))
  | [] => by simp [inF]
  | y :: ys => by
    rw [List.map_cons, inF, zsh (n := 56), zqs ys]
    simp only [Option.some.injEq]
    rw [Bool.eq_iff_iff]
    simp only [Bool.or_eq_true, decide_eq_true_eq, List.mem_cons]
    exact ⟨fun h => h.elim (fun e => .inl e.symm) .inr, fun h => h.elim (fun e => .inl e.symm) .inr⟩
section
variable {a : Addr} {B : List Tn} {wn : List (List Int)} {S : Sto} {r n : Nat} {Q : WK} {E : Str → Sto → Prop} {t u : Tr} {f : Addr}
theorem ziI (L : Lft B) (hP : PB B) (M : Wi B wn n [] t u) (hn : n ≤ 60) (hr : 110 ≤ r) (ha : S a = some (.lst (B.map encT))) (hf : S f = some (.lst (wn.map encP))) (hh : t.hd (fun _ => True)) (hw : t.weight ≤ 1000) (hl : wn.length ≤ 10000) (h : Q (enc u) S) : zbK (r + 1) [.ref a, enc t, .ref f] S Q E := by
  obtain ⟨r, rfl⟩ : ∃ r', r = r' + 1 := ⟨r - 1, by omega⟩
  rw [zbK]
  walk_at "wp"
  refine ⟨Nat.zero_le _, ?_⟩
  rw [zai hf]
  refine zaQ (fun σ => ∃ y, σ = [y]) encP (fun p => W.tup [encP p, .bl true]) ?_ wn [] _ ⟨none, rfl⟩ (by simp; omega) (fun x hx σ R hI hR => ?_) ?_
  · exact hf
  · obtain ⟨y, rfl⟩ := hI
    simp only [zdw]
    walk_at "wp"
    exact ⟨zah (by decide), hR _ _ ⟨_, rfl⟩ .refl⟩
  · rw [List.nil_append]
    have e : dkeys (wn.map fun p => W.tup [encP p, .bl true]) = some wn := zgy wn
    rw [e]
    refine ⟨by omega, fun d hd => ?_⟩
    have e0 : W.tup [] = encP [] := rfl
    rw [e0]
    exact zgC L hP n M (by omega) (keep ha hd) zaf hh hw (by simp; omega) ⟨_, .put .refl hd, h⟩
theorem ok_wayof {ks : List (List Int)} (L : Lft B) (hP : PB B) (M : Wi B wn n [] t u) (hn : n ≤ 60) (hr : 115 ≤ r) (ha : S a = some (.lst (B.map encT))) (hf : S f = some (.lst (wn.map encP))) (hh : t.hd (fun _ => True)) (hw : t.weight ≤ 1000) (hd : t.depth ≤ 60) (hl : wn.length ≤ 10000) (hks : ((t.op B []).map fun x => x.1) = ks) (hin : ∀ x ∈ wn, x ∈ ks) (h : Q (enc u) S) : zck (r + 1) [.ref a, enc t, .ref f] S Q E := by
  obtain ⟨r, rfl⟩ : ∃ r', r = r' + 1 := ⟨r - 1, by omega⟩
  have ol := zkB B t []
  rw [zck]
  walk_at "wp"
  refine zhu L ha hd (by omega) hw hh fun q hq => ?_
  refine zhl zaf (by omega) fun q2 hq2 => ?_
  rw [hks]
  have f2 : put (put S q (Ob.lst ((t.op B []).map encX))) q2 (Ob.lst (ks.map encP)) q2 = some (.lst (ks.map encP)) := zaf
  have ff := keep (x := Ob.lst (ks.map encP)) (keep (x := Ob.lst ((t.op B []).map encX)) hf hq) hq2
  have fa := keep (x := Ob.lst (ks.map encP)) (keep (x := Ob.lst ((t.op B []).map encX)) ha hq) hq2
  have sub : Sub S (put (put S q (Ob.lst ((t.op B []).map encX))) q2 (Ob.lst (ks.map encP))) := .trans (.put .refl hq) (.put .refl hq2)
  generalize put (put S q (Ob.lst ((t.op B []).map encX))) q2 (Ob.lst (ks.map encP)) = S2 at f2 ff fa sub ⊢
  try walk_at "wp"
  rw [zai ff]
  refine zdi (S := S2) ?_ (fun σ => ∃ x, σ = [some (.ref a), some (enc t), some (.ref f), some (.ref q2), x]) encP (fun _ => none) wn _ ⟨_, rfl⟩ (fun x hx σ N hI hno hret => ?_) (fun e σ hI => ?_) fun w e S' sb => ?_
  · exact ff
  · obtain ⟨y, rfl⟩ := hI
    unfold zeI
    walk_at "wp"
    rw [zai f2, zrE, decide_eq_true (hin x hx)]
    try walk_at "wp"
    exact hno rfl _ _ ⟨_, rfl⟩ .refl
  · obtain ⟨y, rfl⟩ := hI
    try walk_at "wp"
    exact ziI L hP M hn (by omega) fa ff hh hw hl ⟨_, sub, h⟩
  · rw [List.findSome?_eq_none_iff.mpr (fun _ _ => rfl)] at e
    cases e
end
end L2
end

section
set_option Elab.async false
set_option linter.all false
set_option maxRecDepth 100000
set_option maxHeartbeats 4000000
namespace L2
open PySem PySem.Spec PyProof.Rows
structure Pu (w0 w1 w2 w3 w4 w5 : Str) (tt : List Str) (B : List Tn) (p : Pl) : Prop where
  b : BookOk w0 w1 w2 w3 w4 w5 tt B
  T : Titles tt
  G : Signs w0 w1 w2 w3 w4 w5
  o : PlOk [w2, w3, w4, w5] B p
  w : p.wt ≤ 23
  n : p.nt ≤ 4
section
variable {w0 w1 w2 w3 w4 w5 : Str} {tt : List Str} {B : List Tn} {p : Pl} {c d z : Int → Nat} {S : Sto} {a : Addr} {r : Nat} {Q : WK} {E : Str → Sto → Prop}
theorem Pu.k (u : Pu w0 w1 w2 w3 w4 w5 tt B p) : Pk [w0, w1, w2, w3, w4, w5] [w2, w3, w4, w5] B p := ⟨u.b.bk u.T u.G, u.b.mt, u.o, u.w, u.n⟩
theorem Pu.lf (u : Pu w0 w1 w2 w3 w4 w5 tt B p) : Lft B := ⟨fun t ht => (u.k.b.lf t ht).dp, fun t ht => by
  have h1 := (u.k.b.lf t ht).wt
  have h2 := (u.k.b.lf t ht).nb
  omega⟩
theorem Pu.pb (u : Pu w0 w1 w2 w3 w4 w5 tt B p) : PB B := fun t ht x hx => by
  have h1 := (zfC hx).2.2
  have h2 := (u.k.b.lf t ht).dp
  omega
def One (c : Int → Nat) : Prop := ∀ x : Int, 0 ≤ x → x < 8 → c x ≤ 1
theorem Pu.us (u : Pu w0 w1 w2 w3 w4 w5 tt B p) (hc : One c) : (p.ev B c).us B [] = used c (p.ns B []) := zrM u.k.b (u.b.us u.T u.G) hc u.o []
theorem Pu.op (u : Pu w0 w1 w2 w3 w4 w5 tt B p) (hz : ∀ x : Int, 0 ≤ x → x < 8 → z x = 0) : (p.ev B z).op B [] = used (fun _ => 1) (p.ns B []) := zrU u.b u.G hz u.o []
theorem Pu.wi (u : Pu w0 w1 w2 w3 w4 w5 tt B p) {wn : List (List Int)} (hc : One c) (hz : ∀ x : Int, 0 ≤ x → x < 8 → z x = 0) (hw : ∀ x, x ∈ wn ↔ x ∈ wanted c (p.ns B [])) : Wi B wn (p.dp + 3 * p.nt) [] (p.ev B z) (p.ev B c) := zrR u.b u.T u.G hc hz u.o [] fun x _ => hw x
theorem One.src (hc : One c) : ∀ x : Int, 0 ≤ x → x < 8 → toSrc c x = 0 := fun x h0 h1 => by
  have := hc x h0 h1
  unfold toSrc
  split <;> omega
mutual
theorem zns (B : List Tn) : ∀ (p : Pl) (q : List Int), (p.ns B q).length ≤ p.wt
  | .nd k b h ps, q => by
    have := zjJ B ps (ppl B k ps.length) q
    rw [Pl.ns, List.length_append, Pl.wt]
    split <;> simp <;> omega
theorem zjJ (B : List Tn) : ∀ (ps : List Pl) (qs : List (List Int)) (q : List Int), (nsz B q qs ps).length ≤ pwts ps
  | [], qs, q => by cases qs <;> simp [nsz]
  | p :: ps, [], q => by simp [nsz]
  | p :: ps, r :: qs, q => by
    have h1 := zns B p (q ++ r)
    have h2 := zjJ B ps qs q
    rw [nsz, List.length_append, pwts]
    omega
end
theorem zmr (c : Int → Nat) (xs : List (List Int × Int × Str)) : (used c xs).length ≤ xs.length := by
  unfold used
  rw [List.length_map]
  exact List.length_filter_le ..
theorem Pu.ok_uses (u : Pu w0 w1 w2 w3 w4 w5 tt B p) (hc : One c) (ha : S a = some (.lst (B.map encT))) (hr : 70 ≤ r) (h : ∀ q, S q = none → Q (.ref q) (put S q (.lst ((used c (p.ns B [])).map encX)))) : zed (r + 1) [.ref a, enc (p.ev B c)] S Q E := by
  have h1 := u.k.wt (c := c)
  have h2 := u.k.dp (c := c)
  refine L2.ok_uses u.lf u.pb ha (by omega) (by omega) (by omega) u.k.hd fun q hq => ?_
  rw [u.us hc]
  exact h q hq
theorem Pu.ok_wayof (u : Pu w0 w1 w2 w3 w4 w5 tt B p) {wn : List (List Int)} {f : Addr} (hc : One c) (hz : ∀ x : Int, 0 ≤ x → x < 8 → z x = 0) (hw : ∀ x, x ∈ wn ↔ x ∈ wanted c (p.ns B [])) (hl : wn.length ≤ 10000) (ha : S a = some (.lst (B.map encT))) (hf : S f = some (.lst (wn.map encP))) (hr : 120 ≤ r) (h : Q (enc (p.ev B c)) S) : zck (r + 1) [.ref a, enc (p.ev B z), .ref f] S Q E := by
  have h1 := u.k.wt (c := z)
  have h2 := u.k.dp (c := z)
  have bd := u.k.bd.1
  refine L2.ok_wayof u.lf u.pb (u.wi hc hz hw) (by omega) (by omega) ha hf u.k.hd (by omega) (by omega) hl rfl (fun x hx => ?_) h
  rw [u.op hz]
  obtain ⟨y, h1, h2, h3⟩ := zbq.mp ((hw x).mp hx)
  exact zbq.mpr ⟨y, h1, rfl, h3⟩
theorem Pu.short (u : Pu w0 w1 w2 w3 w4 w5 tt B p) : (used c (p.ns B [])).length ≤ 23 := by
  have h1 := zmr c (p.ns B [])
  have h2 := zns B p []
  have h3 := u.w
  omega
end
end L2
end

section
set_option Elab.async false
set_option linter.all false
set_option maxRecDepth 100000
set_option maxHeartbeats 4000000
namespace L2
open PySem PySem.Spec PyProof.Rows
section
variable {w0 w1 w2 w3 w4 w5 : Str} {tt : List Str} {B : List Tn} {p : Pl} {c d z : Int → Nat} {S : Sto} {a : Addr} {r : Nat} {Q : WK} {E : Str → Sto → Prop}
end
end L2
end

section
set_option Elab.async false
set_option linter.all false
set_option maxRecDepth 100000
set_option maxHeartbeats 4000000
namespace L2
open PySem PySem.Spec PyProof.Rows
theorem zgH (f : Int) : One (byC f) := fun x _ _ => zsg f x
section
variable {S : Sto} {ws hs : List Str} {B : List Tn} {c : Int → Nat} {p : Pl} {r : Nat} {Q : WK} {E : Str → Sto → Prop}
end
end L2
end

section
set_option Elab.async false
set_option linter.all false
set_option maxRecDepth 100000
set_option maxHeartbeats 4000000
namespace L2
open PySem PySem.Spec PyProof.Rows
theorem zkb : ∀ (ls us : List Tr), (mts ls us).isSome = (ls.zip us).all fun x => (x.1.mt x.2).isSome
  | [], us => by simp [mts]
  | l :: ls, [] => by simp [mts]
  | l :: ls, u :: us => by
    rw [mts, List.zip_cons_cons, List.all_cons, ← zkb ls us]
    cases l.mt u with
    | none => rfl
    | some xs => cases mts ls us <;> rfl
theorem zez : ∀ (ls us : List Tr), pairs (encs ls) (encs us) = (ls.zip us).map fun x => W.tup [enc x.1, enc x.2]
  | [], us => by simp [encs, pairs]
  | l :: ls, [] => by simp [encs, pairs]
  | l :: ls, u :: us => by
    simp [encs, pairs, zez ls us]
theorem zjD {α : Type} (g : α → Bool) : ∀ xs : List α, blsOf (xs.map fun x => W.bl (g x)) = some (xs.map g)
  | [] => rfl
  | x :: xs => by rw [List.map_cons, blsOf, zjD g xs]; rfl
theorem zne {S : Sto} : ∀ (d : Nat) {l t : Tr} {r : Nat} {Q : WK} {E : Str → Sto → Prop}, l.depth ≤ d → d ≤ r → t.fits 0 → l.weight ≤ 1000 → Q (.bl (l.mt t).isSome) S → zat (r + 1) [enc l, enc t] S Q E
  | 0, l, t, r, Q, E, hd, hr, hf, hw, h => by have := zbc l; omega
  | d + 1, .bl n, t, r, Q, E, hd, hr, hf, hw, h => by
    rw [zat]
    simp only [enc]
    walk_at "wp"
    simp only [Tr.mt, Option.isSome_some] at h
    exact ⟨_, .refl, h⟩
  | d + 1, .nd s ls, .bl n, r, Q, E, hd, hr, hf, hw, h => by
    simp only [Tr.fits] at hf
    omega
  | d + 1, .nd s ls, .nd z us, r, Q, E, hd, hr, hf, hw, h => by
    simp only [Tr.fits] at hf
    simp only [Tr.depth] at hd
    simp only [Tr.weight] at hw
    obtain ⟨r, rfl⟩ : ∃ r', r = r' + 1 := ⟨r - 1, by omega⟩
    have en : ∀ s ts, enc (.nd s ts) = .tup (.str s :: encs ts) := fun s ts => by simp [enc]
    rw [zat]
    rw [en, en]
    walk_at "wp"
    rw [zbd, zbd]
    have en2 : (((ls.length + 1 : Nat) : Int) == ((us.length + 1 : Nat) : Int)) = (ls.length == us.length) := by
      rw [Bool.eq_iff_iff, beq_iff_eq, beq_iff_eq]
      omega
    rw [en2]
    simp only [Tr.mt] at h
    cases e1 : (s == z) with
    | false =>
      rw [e1] at h
      exact ⟨_, .refl, h⟩
    | true =>
      rw [e1] at h
      rw [if_neg (by decide)]
      cases e2 : (ls.length == us.length) with
      | false =>
        rw [e2] at h
        exact ⟨_, .refl, h⟩
      | true =>
        rw [e2] at h
        rw [if_neg (by decide)]
        simp only [Bool.and_self, if_true] at h
        have hk := zco ls
        rw [zez]
        refine zaQ (fun σ => ∃ x y, σ = [x, y]) (fun x : Tr × Tr => .tup [enc x.1, enc x.2]) (fun x => .bl (x.1.mt x.2).isSome) trivial (ls.zip us) [] _ ⟨none, none, rfl⟩ (by simp; omega) (fun x hx σ R hI hR => ?_) ?_
        · obtain ⟨x1, x2, rfl⟩ := hI
          simp only [zbS]
          walk_at "wp"
          have m1 := (List.of_mem_zip hx).1
          have m2 := (List.of_mem_zip hx).2
          have hdd := zcr m1
          have hww := zcP m1
          exact zne d (by omega) (by omega) (zei hf m2) (by omega) (hR _ _ ⟨_, _, rfl⟩ .refl)
        · rw [List.nil_append, zjD]
          refine ⟨_, .refl, ?_⟩
          rw [zkb] at h
          rw [List.all_map]
          exact h
theorem zjT {S : Sto} {E : WX} {D : WEnds} {x1 : Option W} {r : Nat} : ∀ (q : List Int) {t u : Tr} {x2 : Option W}, t.at q = some u → (∀ x2, D.nx [some (enc u), x1, x2] S) → forL (wGN 2) (zbO r wOut) E D (fun _ => True) (q.map W.int) [some (enc t), x1, x2] S
  | [], t, u, x2, h, hD => by
    cases t <;> simp only [Tr.at, Option.some.injEq] at h <;> subst h <;> simpa [forL] using hD x2
  | i :: q, .bl n, u, x2, h, hD => by simp [Tr.at] at h
  | i :: q, .nd s ts, u, x2, h, hD => by
    obtain ⟨a, h2, e1, e2⟩ := zrc h
    rw [List.map_cons]
    refine zbw fun N hN => ?_
    simp only [zbO, enc]
    walk_at "wp"
    have ei : (i : Int) + 1 = ((i.toNat + 1 : Nat) : Int) := by omega
    rw [ei, zbu, List.getElem?_cons_succ, zaN, List.getElem?_map, e1]
    exact hN _ _ _ .refl trivial (zjT q e2 hD)
theorem zqf {S : Sto} {q : List Int} {t u : Tr} {r : Nat} {Q : WK} {E : Str → Sto → Prop} (ha : t.at q = some u) (h : Q (enc u) S) : zba (r + 1) [enc t, encP q] S Q E := by
  rw [zba]
  simp only [encP]
  walk_at "wp"
  refine zjT q ha fun x2 => ?_
  walk_at "wp"
  exact ⟨_, .refl, h⟩
theorem zrh {x : List Int} {t : Tr} {p : List Int} (h : x ∈ t.pl p) : x.length < p.length + t.depth := by
  rw [← zdn, List.mem_map] at h
  obtain ⟨⟨q, u⟩, hm, rfl⟩ := h
  obtain ⟨r, rfl, _, hr⟩ := zdT t p q u hm
  simp
  omega
mutual
theorem zmS (p : List Int) : ∀ (t : Tr) (q : List Int), t.pl (p ++ q) = (t.pl q).map (p ++ ·)
  | .bl _, q => by simp [Tr.pl]
  | .nd _ ts, q => by simp [Tr.pl, zkY p ts q 0]
theorem zkY (p : List Int) : ∀ (ts : List Tr) (q : List Int) (i : Nat), pls (p ++ q) i ts = (pls q i ts).map (p ++ ·)
  | [], q, i => by simp [pls]
  | t :: ts, q, i => by rw [pls, pls, List.map_append, ← zmS p t, zkY p ts q (i + 1), List.append_assoc]
end
theorem zim {E : WX} {D : WEnds} {x0 : Option W} {r : Nat} : ∀ (ts : List Tr) (one : ∀ u ∈ ts, ∀ {S : Sto} {Q : WK} {E : Str → Sto → Prop}, (∀ S' b, Sub S S' → S' b = some (.lst ((u.pl []).map encP)) → Q (.ref b) S') → zao r [enc u] S Q E) (i : Nat) {acc : List (List Int)} {f : Addr} {S : Sto} {x2 x3 : Option W}, S f = some (.lst (acc.map encP)) → acc.length + wts ts ≤ 100000 → dts ts ≤ 1000 →
    (∀ S' g x2 x3, Sub S S' → S' g = some (.lst ((acc ++ pls [] i ts).map encP)) → D.nx [x0, some (.ref g), x2, x3] S') → forL (wGT (wGcons (wGN 2) (wGcons (wGN 3) wGnil))) (zbi r (zao r)) E D (fun _ => True) (nums i (encs ts)) [x0, some (.ref f), x2, x3] S
  | [], one, i, acc, f, S, x2, x3, hf, hl, hd, h => by
    have := h S f x2 x3 .refl (by simpa [pls] using hf)
    simpa [forL, nums, encs] using this
  | t :: ts, one, i, acc, f, S, x2, x3, hf, hl, hd, h => by
    simp only [dts] at hd
    simp only [wts] at hl
    simp only [encs, nums]
    refine zbw fun N hN => ?_
    simp only [zbi]
    walk_at "wp"
    refine one t List.mem_cons_self fun S1 b sb hb => ?_
    dsimp only
    rw [zai hb]
    have hpl : (t.pl []).length = t.weight := by rw [← zdn, List.length_map, zdl]
    refine zaQ (fun σ => ∃ x, σ = [x, some (.int i)]) encP (fun q => encP ((i : Int) :: q)) hb (t.pl []) [] _ ⟨none, rfl⟩ (by simp; omega) (fun q hq σ R hI hR => ?_) ?_
    · obtain ⟨x, rfl⟩ := hI
      have hq2 := zrh hq
      simp only [zbR]
      walk_at "wp"
      have e1 : W.tup [.int (i : Int)] = encP [(i : Int)] := rfl
      rw [e1, zjR]
      refine ⟨zah (by decide), zah (by simp at hq2 ⊢; omega), hR _ _ ⟨_, rfl⟩ .refl⟩
    · rw [List.nil_append, zai (sb _ _ hf)]
      refine ⟨zah (by simp; omega), fun a ha => ?_⟩
      have e : acc.map encP ++ (t.pl []).map (fun q => encP ((i : Int) :: q)) = (acc ++ t.pl [(i : Int)]).map encP := by
        have := zmS [(i : Int)] t []
        rw [List.append_nil] at this
        rw [List.map_append, this, List.map_map]
        rfl
      rw [e]
      have hpl2 : (t.pl [(i : Int)]).length = t.weight := by rw [← zdn, List.length_map, zdl]
      refine hN _ _ _ .refl trivial (zim ts (fun u hu => one u (List.mem_cons_of_mem _ hu)) (i + 1) zaf (by simp; omega) (by omega) fun S' g x2 x3 sb' hg => ?_)
      exact h S' g x2 x3 ((sb.trans (.new ha)).trans sb') (by rw [pls, ← List.append_assoc]; exact hg)
theorem znu : ∀ (d : Nat) {t : Tr} {r : Nat} {S : Sto} {Q : WK} {E : Str → Sto → Prop}, t.depth ≤ d → d ≤ r → t.weight ≤ 1000 → t.depth ≤ 1000 → (∀ S' b, Sub S S' → S' b = some (.lst ((t.pl []).map encP)) → Q (.ref b) S') → zao (r + 1) [enc t] S Q E
  | 0, t, r, S, Q, E, hd, hr, hw, hz, h => by have := zbc t; omega
  | d + 1, .bl n, r, S, Q, E, hd, hr, hw, hz, h => by
    rw [zao]
    simp only [enc]
    walk_at "wp"
    refine ⟨zah (by decide), zah (by decide), fun a ha => ⟨_, .refl, h _ a (.new ha) zaf⟩⟩
  | d + 1, .nd s ts, r, S, Q, E, hd, hr, hw, hz, h => by
    simp only [Tr.depth] at hd hz
    simp only [Tr.weight] at hw
    obtain ⟨r, rfl⟩ : ∃ r', r = r' + 1 := ⟨r - 1, by omega⟩
    rw [zao]
    simp only [enc]
    walk_at "wp"
    refine ⟨zah (by decide), zah (by decide), fun a ha => ?_⟩
    have en : W.tup (.str s :: encs ts) = enc (.nd s ts) := by simp [enc]
    try walk_at "wp"
    refine zim ts (fun u hu {S Q E} q => znu d (by have := zcr hu; omega) (by omega) (by have := zcP hu; omega) (by have := zcr hu; omega) q) 0 (acc := [[]]) zaf (by simp; omega) (by omega) fun S' g x2 x3 sb hg => ?_
    walk_at "wp"
    exact ⟨_, .refl, h _ g ((Sub.new ha).trans sb) (by rw [Tr.pl]; exact hg)⟩
theorem zdY {α : Type} (P : α → Bool) : ∀ (bs : List α), bs.Nodup → (∀ u ∈ bs, ∀ v ∈ bs, P u = true → P v = true → u = v) → bs.filter P = (bs.find? P).toList
  | [], _, _ => rfl
  | b :: bs, hn, hu => by
    rw [List.nodup_cons] at hn
    rw [List.filter_cons, List.find?_cons]
    cases e : P b with
    | false => simpa using zdY P bs hn.2 fun u h1 v h2 => hu u (List.mem_cons_of_mem _ h1) v (List.mem_cons_of_mem _ h2)
    | true =>
      simp only [if_true, Option.toList_some, List.cons.injEq, true_and]
      rw [List.filter_eq_nil_iff]
      intro v hv pv
      have := hu b List.mem_cons_self v (List.mem_cons_of_mem _ hv) e pv
      subst this
      exact hn.1 hv
def opAt (B : List Tn) (x : List Int × Tr) : List (List Int × Str) := (openT B x.2).toList.map fun b => (x.1, b.1)
mutual
theorem zmZ (B : List Tn) : ∀ (t : Tr) (p : List Int), t.fits 0 → (t.plt p).flatMap (opAt B) = t.op B p
  | .bl n, p, h => by
    simp only [Tr.fits] at h
    omega
  | .nd s ts, p, h => by
    simp only [Tr.fits] at h
    rw [Tr.plt, List.flatMap_cons, zla B ts p 0 h, Tr.op, opAt]
    cases openT B (.nd s ts) <;> rfl
theorem zla (B : List Tn) : ∀ (ts : List Tr) (p : List Int) (i : Nat), fitss 0 ts → (plts p i ts).flatMap (opAt B) = ops B p i ts
  | [], p, i, h => by simp [plts, ops]
  | t :: ts, p, i, h => by
    simp only [fitss] at h
    rw [plts, ops, List.flatMap_append, zmZ B t _ h.1, zla B ts p (i + 1) h.2]
end
theorem zou {E : WX} {D : WEnds} {r : Nat} {a f : Addr} {B : List Tn} {t u : Tr} {q : List Int} (L : Lft B) (hfa : f ≠ a) (hu : u.fits 0) (hat : t.at q = some u) (hr : 10 ≤ r) : ∀ (bs : List Tn) {xs : List W} {S : Sto} {x4 : Option W}, (∀ b ∈ bs, b ∈ B) → S a = some (.lst (B.map encT)) → S f = some (.lst xs) → xs.length + bs.length ≤ 100000 →
    (∀ x4, D.nx [some (.ref a), some (enc t), some (.ref f), some (encP q), x4] (put S f (.lst (xs ++ ((bs.filter fun b => (b.2.1.mt u).isSome).map fun b => (q, b.1)).map encX)))) →
    forL (wGN 4) (zcl (r + 1) wOut) E D (fun S' => S' a = some (.lst (B.map encT))) (bs.map encT) [some (.ref a), some (enc t), some (.ref f), some (encP q), x4] S
  | [], xs, S, x4, hb, ha, hf, hl, h => by
    have := h x4
    simp only [List.filter_nil, List.map_nil, List.append_nil, zcv hf] at this
    simpa [forL] using this
  | b :: bs, xs, S, x4, hb, ha, hf, hl, h => by
    simp only [List.length_cons] at hl
    rw [List.map_cons]
    refine zbw fun N hN => ?_
    simp only [zcl]
    have eb : encT b = .tup [.str b.1, enc b.2.1, enc b.2.2] := rfl
    rw [eb]
    walk_at "wp"
    refine zqf hat ?_
    have hm := hb b List.mem_cons_self
    have h1 := L.d b hm
    have h2 := L.w b hm
    refine zne 4 h1 (by omega) hu (by omega) ?_
    rw [← eb]
    walk_at "wp"
    cases e : (b.2.1.mt u).isSome with
    | false =>
      simp only [Bool.false_eq_true, if_false]
      refine hN _ _ _ .refl ha (zou L hfa hu hat hr bs (fun y hy => hb y (List.mem_cons_of_mem _ hy)) ha hf (by omega) fun x4 => ?_)
      have := h x4
      rw [List.filter_cons, e] at this
      simpa using this
    | true =>
      simp only [if_true, zai hf]
      refine ⟨trivial, zah (by decide), zbG (by omega), ?_⟩
      have ha' : put S f (Ob.lst (xs ++ [W.tup [encP q, W.str b.1]])) a = some (.lst (B.map encT)) := by rw [zaH (Ne.symm hfa)]; exact ha
      refine hN _ _ _ .refl ha' (zou L hfa hu hat hr bs (fun y hy => hb y (List.mem_cons_of_mem _ hy)) ha' zaf (by simp; omega) fun x4 => ?_)
      have := h x4
      rw [List.filter_cons, e] at this
      rw [zaE]
      simpa [encX] using this
theorem znl {E : WX} {D : WEnds} {r : Nat} {a f c : Addr} {B : List Tn} {t : Tr} {ps : List W} (L : Lft B) (hfa : f ≠ a) (hfc : f ≠ c) (hr : 10 ≤ r) (hn : B.Nodup) (hB : B.length ≤ 100) (U : ∀ x : Tr, ∀ u ∈ B, ∀ v ∈ B, (u.2.1.mt x).isSome = true → (v.2.1.mt x).isSome = true → u = v) : ∀ (ys : List (List Int × Tr)) {xs : List W} {S : Sto} {x3 x4 : Option W}, (∀ y ∈ ys, t.at y.1 = some y.2 ∧ y.2.fits 0) → S a = some (.lst (B.map encT)) → S c = some (.lst ps) → S f = some (.lst xs) → xs.length + 100 * ys.length + 100 ≤ 100000 →
    (∀ x3 x4, D.nx [some (.ref a), some (enc t), some (.ref f), x3, x4] (put S f (.lst (xs ++ (ys.flatMap (opAt B)).map encX)))) →
    forL (wGN 3) (zcs (r + 1) wOut) E D (fun S' => S' c = some (.lst ps)) (ys.map fun y => encP y.1) [some (.ref a), some (enc t), some (.ref f), x3, x4] S
  | [], xs, S, x3, x4, hy, ha, hc, hf, hl, h => by
    have := h x3 x4
    simp only [List.flatMap_nil, List.map_nil, List.append_nil, zcv hf] at this
    simpa [forL] using this
  | y :: ys, xs, S, x3, x4, hy, ha, hc, hf, hl, h => by
    simp only [List.length_cons] at hl
    rw [List.map_cons]
    refine zbw fun N hN => ?_
    simp only [zcs]
    walk_at "wp"
    rw [zai ha]
    have hy0 := hy y List.mem_cons_self
    have eo : (B.filter fun b => (b.2.1.mt y.2).isSome).map (fun b => (y.1, b.1)) = opAt B y := by
      rw [zdY _ B hn (U y.2)]
      rfl
    have ol : (opAt B y).length ≤ 1 := by
      unfold opAt
      cases openT B y.2 <;> simp
    refine zou L hfa hy0.2 hy0.1 hr B (fun b hb => hb) ha hf (by omega) fun x4 => ?_
    rw [eo]
    have hc' : put S f (Ob.lst (xs ++ (opAt B y).map encX)) c = some (.lst ps) := by rw [zaH (Ne.symm hfc)]; exact hc
    have ha' : put S f (Ob.lst (xs ++ (opAt B y).map encX)) a = some (.lst (B.map encT)) := by rw [zaH (Ne.symm hfa)]; exact ha
    refine hN _ _ _ .refl hc' (znl L hfa hfc hr hn hB U ys (fun z hz => hy z (List.mem_cons_of_mem _ hz)) ha' hc' zaf (by simp; omega) fun x3 x4 => ?_)
    have := h x3 x4
    rw [List.flatMap_cons, List.map_append] at this
    rw [zaE]
    simpa using this
mutual
theorem zgc : ∀ (t : Tr) (p : List Int), t.fits 0 → ∀ y ∈ t.plt p, y.2.fits 0
  | .bl n, p, h, y, hy => by
    simp only [Tr.fits] at h
    omega
  | .nd s ts, p, h, y, hy => by
    have h' := h
    simp only [Tr.fits] at h'
    rw [Tr.plt, List.mem_cons] at hy
    rcases hy with rfl | hy
    · exact h
    · exact zeA ts p 0 h' y hy
theorem zeA : ∀ (ts : List Tr) (p : List Int) (i : Nat), fitss 0 ts → ∀ y ∈ plts p i ts, y.2.fits 0
  | [], p, i, h, y, hy => by simp [plts] at hy
  | t :: ts, p, i, h, y, hy => by
    simp only [fitss] at h
    rw [plts, List.mem_append] at hy
    rcases hy with hy | hy
    · exact zgc t _ h.1 y hy
    · exact zeA ts p (i + 1) h.2 y hy
end
theorem ok_lopen {S : Sto} {a : Addr} {B : List Tn} {t : Tr} {r : Nat} {Q : WK} {E : Str → Sto → Prop} (L : Lft B) (hn : B.Nodup) (hB : B.length ≤ 100) (U : ∀ x : Tr, ∀ u ∈ B, ∀ v ∈ B, (u.2.1.mt x).isSome = true → (v.2.1.mt x).isSome = true → u = v) (ha : S a = some (.lst (B.map encT))) (hd : t.depth ≤ 60) (hr : t.depth + 20 ≤ r) (hw : t.weight ≤ 900) (ht : t.fits 0)
    (h : ∀ S' b, Sub S S' → S' b = some (.lst ((t.op B []).map encX)) → Q (.ref b) S') : zbg (r + 1) [.ref a, enc t] S Q E := by
  obtain ⟨r, rfl⟩ : ∃ r', r = r' + 1 := ⟨r - 1, by omega⟩
  rw [zbg]
  walk_at "wp"
  refine ⟨Nat.zero_le _, fun f hf => ?_⟩
  refine znu t.depth (Nat.le_refl _) (by omega) (by omega) (by omega) fun S1 c sb hc => ?_
  have ff : S1 f = some (.lst []) := sb _ _ zaf
  have fa : S1 a = some (.lst (B.map encT)) := sb _ _ (keep ha hf)
  have hfa : f ≠ a := by
    rintro rfl
    rw [hf] at ha
    cases ha
  have ep : (t.pl []).map encP = (t.plt []).map fun y => encP y.1 := by rw [← zdn, List.map_map]; rfl
  have hfc : f ≠ c := by
    rintro rfl
    rw [ff] at hc
    have e := congrArg List.length (Ob.lst.inj (Option.some.inj hc))
    rw [ep, List.length_map, zdl] at e
    have := zdk t
    simp at e
    omega
  try walk_at "wp"
  rw [zai hc, ep]
  rw [ep] at hc
  have hpl := zdl t []
  refine znl L hfa hfc (by omega) hn hB U (t.plt []) (fun y hy => ⟨(zpk hy).1, zgc t [] ht y hy⟩) fa hc ff (by simp; omega) fun x3 x4 => ?_
  walk_at "wp"
  rw [zmZ B t [] ht]
  exact ⟨_, .refl, h _ f (Sub.put ((Sub.new hf).trans sb) hf) zaf⟩
end L2
end

section
set_option Elab.async false
set_option linter.all false
set_option maxRecDepth 100000
set_option maxHeartbeats 4000000
namespace L2
open PySem PySem.Spec PyProof.Rows
def one1 : Int → Nat := fun _ => 1
section
variable {w0 w1 w2 w3 w4 w5 : Str} {tt : List Str} {B : List Tn} {p : Pl} {z : Int → Nat} {S : Sto} {a : Addr} {r : Nat} {Q : WK} {E : Str → Sto → Prop}
theorem Pu.ok_lopen (u : Pu w0 w1 w2 w3 w4 w5 tt B p) (hz : ∀ x : Int, 0 ≤ x → x < 8 → z x = 0) (ha : S a = some (.lst (B.map encT))) (hr : 70 ≤ r) (h : ∀ S' b, Sub S S' → S' b = some (.lst ((used one1 (p.ns B [])).map encX)) → Q (.ref b) S') : zbg (r + 1) [.ref a, enc (p.ev B z)] S Q E := by
  have h1 := u.k.wt (c := z)
  have h2 := u.k.dp (c := z)
  have hl := u.b.len
  refine L2.ok_lopen u.lf ((List.pairwise_map.mp u.k.b.nd).imp fun h e => h (by rw [e])) (by omega) (fun x v hv y hy e1 e2 => zkJ (u.b.inj u.G) hv hy (u.b.one u.G hv hy e1 e2)) ha (by omega) (by omega) (by omega) (zeN _ u.k.hd) fun S' b sb hb => ?_
  rw [u.op hz] at hb
  exact h S' b sb hb
end
end L2
end

section
set_option Elab.async false
set_option linter.all false
set_option maxRecDepth 100000
set_option maxHeartbeats 4000000
namespace L2
open PySem PySem.Spec PyProof.Rows
structure Pre (S : Sto) (aw at' ab : Addr) (w0 w1 w2 w3 w4 w5 : Str) (tt : List Str) (B : List Tn) : Prop where
  G : Signs w0 w1 w2 w3 w4 w5
  T : Titles tt
  b : BookOk w0 w1 w2 w3 w4 w5 tt B
  fw : S aw = some (.lst (six w0 w1 w2 w3 w4 w5))
  ft : S at' = some (.lst (tt.map W.str))
  fb : S ab = some (.lst (B.map encT))
theorem Pre.bk {S : Sto} {aw at' ab : Addr} {w0 w1 w2 w3 w4 w5 : Str} {tt : List Str} {B : List Tn} (P : Pre S aw at' ab w0 w1 w2 w3 w4 w5 tt B) : BkOk [w0, w1, w2, w3, w4, w5] [w2, w3, w4, w5] B := P.b.bk P.T P.G
theorem Pre.ne {S : Sto} {aw at' ab : Addr} {w0 w1 w2 w3 w4 w5 : Str} {tt : List Str} {B : List Tn} (P : Pre S aw at' ab w0 w1 w2 w3 w4 w5 tt B) : B ≠ [] := by
  have h := P.b.len
  rintro rfl
  simp at h
theorem Pre.sub {S S' : Sto} {aw at' ab : Addr} {w0 w1 w2 w3 w4 w5 : Str} {tt : List Str} {B : List Tn} (P : Pre S aw at' ab w0 w1 w2 w3 w4 w5 tt B) (h : Sub S S') : Pre S' aw at' ab w0 w1 w2 w3 w4 w5 tt B := ⟨P.G, P.T, P.b, h _ _ P.fw, h _ _ P.ft, h _ _ P.fb⟩
theorem zoa {T : WS} {E : WX} {D : WEnds} {ns : List Int} {x1 x2 x3 : Option W} {τ : WSt} {S : Sto} (h : ∀ (S' : Sto) (aw at' ab : Addr) (w0 w1 w2 w3 w4 w5 : Str) (tt : List Str) (B : List Tn), Pre S' aw at' ab w0 w1 w2 w3 w4 w5 tt B → T E D (some (.scr ns) :: some (.ref aw) :: some (.ref at') :: some (.ref ab) :: τ) S') :
    wSeq (wAsg (wCall (zaK 199) (waCons (wCall (zas 199) (waCons (wVar 0) (waCons (wC (.int 0)) waNil))) (waCons (wCall (zas 199) (waCons (wVar 0) (waCons (wC (.int 1)) waNil))) (waCons (wC (.bl false)) waNil)))) (wGN 1))
    (wSeq (wAsg (wCall (zaK 199) (waCons (wCall (zas 199) (waCons (wVar 0) (waCons (wC (.int 2)) waNil))) (waCons (wCall (zas 199) (waCons (wVar 0) (waCons (wC (.int 3)) waNil))) (waCons (wC (.bl true)) waNil)))) (wGN 2))
    (wSeq (wAsg (wCall (zbe 199) (waCons (wVar 0) (waCons (wC (.int 4)) (waCons (wVar 1) (waCons (wVar 2) waNil))))) (wGN 3)) T)) E D (some (.scr ns) :: x1 :: x2 :: x3 :: τ) S := by
  walk_at "wp"
  refine zdq (by decide) fun c0 => zdq (by decide) fun c1 => zhO fun aw ws hw0 hws => ?_
  obtain ⟨w0, w1, w2, w3, w4, w5, rfl, G⟩ := zhj hws
  have fw : put S aw (Ob.lst ([w0, w1, w2, w3, w4, w5].map W.str)) aw = some (.lst (six w0 w1 w2 w3 w4 w5)) := zaf
  generalize put S aw (Ob.lst ([w0, w1, w2, w3, w4, w5].map W.str)) = S1 at fw ⊢
  refine zdq (by decide) fun c2 => zdq (by decide) fun c3 => zhO fun at' tt ht0 htt => ?_
  have ft : put S1 at' (Ob.lst (tt.map W.str)) at' = some (.lst (tt.map W.str)) := zaf
  replace fw := keep (x := Ob.lst (tt.map W.str)) fw ht0
  generalize put S1 at' (Ob.lst (tt.map W.str)) = S2 at fw ft ⊢
  refine zpi (r := 192) (zdr htt).len (by decide) fw ft fun ab B n m hb0 e1 e2 e3 => ?_
  exact h _ aw at' ab w0 w1 w2 w3 w4 w5 tt B ⟨G, zdr htt, ⟨⟨n, m, e1⟩, e2, e3⟩, keep (x := Ob.lst (B.map encT)) fw hb0, keep (x := Ob.lst (B.map encT)) ft hb0, zaf⟩
theorem Pre.ok_plan {S : Sto} {aw at' ab ac : Addr} {w0 w1 w2 w3 w4 w5 : Str} {tt : List Str} {B : List Tn} {cs : List Int} {Q : WK} {X : Str → Sto → Prop} (P : Pre S aw at' ab w0 w1 w2 w3 w4 w5 tt B) (hc : S ac = some (.lst (cs.map W.int)))
    (h : ∀ (p : Pl) (v : W) (S' : Sto), Pre S' aw at' ab w0 w1 w2 w3 w4 w5 tt B → Pu w0 w1 w2 w3 w4 w5 tt B p → PlAt S' p v → Q v S') : zbh 199 [.ref ac, .ref ab, .ref aw, .int 9] S Q X :=
  L2.ok_plan (r := 189) hc P.fb P.fw P.bk P.ne fun p v S' sub pa po pw pn => h p v S' (P.sub sub) ⟨P.b, P.T, P.G, po, pw, pn⟩ pa
theorem Pu.ok_way {S : Sto} {ab : Addr} {w0 w1 w2 w3 w4 w5 : Str} {tt : List Str} {B : List Tn} {p : Pl} {v : W} {f : Int} {Q : WK} {X : Str → Sto → Prop} (u : Pu w0 w1 w2 w3 w4 w5 tt B p) (hf : f = 1 ∨ f = 2 ∨ f = 4 ∨ f = 8) (fb : S ab = some (.lst (B.map encT))) (pa : PlAt S p v) (h : Q (enc (p.ev B (byC f))) S) : zbn 199 [v, .ref ab, .int f] S Q X := by
  have hdp := zfd p
  have pw := u.w
  exact L2.ok_way (r := 198) hf fb (u.b.bk u.T u.G) 23 (by omega) (by omega) pa u.o (by omega) h
end L2
end

section
set_option Elab.async false
set_option linter.all false
set_option maxRecDepth 100000
set_option maxHeartbeats 4000000
namespace L2
open PySem PySem.Spec PyProof.Rows
def uA (B : List Tn) (p : Pl) : List (List Int × Str) := used one1 (p.ns B [])
section
variable {w0 w1 w2 w3 w4 w5 : Str} {tt : List Str} {B : List Tn} {p : Pl} {S : Sto} {ab d q hh : Addr} {E : WX} {D : WEnds} {T : WS} {a0 a1 a2 a5 a6 a7 a8 : Option W}
end
end L2
end

section
set_option Elab.async false
set_option linter.all false
set_option maxRecDepth 100000
set_option maxHeartbeats 4000000
namespace L2
open PySem PySem.Spec PyProof.Rows
section
variable {w0 w1 w2 w3 w4 w5 : Str} {tt : List Str} {B : List Tn} {p : Pl} {c d : Int → Nat} {S : Sto} {ab : Addr} {f : Int} {v : W} {E : WX} {D : WEnds} {T : WS} {a0 a1 a2 a4 a5 a6 a7 a8 : Option W}
end
end L2
end

section
set_option Elab.async false
set_option linter.all false
set_option maxRecDepth 100000
set_option maxHeartbeats 4000000
namespace L2
open PySem PySem.Spec PyProof.Rows
def Ap (a b : List Int) : Prop := ∃ (c : List Int) (x y : Int) (a' b' : List Int), a = c ++ x :: a' ∧ b = c ++ y :: b' ∧ x < y
def Bf (a b : List Int) : Prop := Ap a b ∨ ∃ x e, b = a ++ x :: e
theorem zjq : ∀ (c a b : List Int), geI (c ++ a) (c ++ b) = geI a b
  | [], _, _ => rfl
  | i :: c, a, b => by rw [List.cons_append, List.cons_append, geI, if_pos rfl, zjq c a b]
theorem Ap.ge {a b : List Int} (h : Ap a b) : geI a b = false := by
  obtain ⟨c, x, y, a', b', rfl, rfl, h⟩ := h
  rw [zjq, geI, if_neg (by omega)]
  simp
  omega
theorem Bf.ge {a b : List Int} (h : Bf a b) : geI a b = false := by
  rcases h with h | ⟨x, e, rfl⟩
  · exact h.ge
  · have := zjq a [] (x :: e)
    rw [List.append_nil] at this
    rw [this]
    rfl
theorem Ap.ext {a b : List Int} (h : Ap a b) (p u v : List Int) : Ap (p ++ a ++ u) (p ++ b ++ v) := by
  obtain ⟨c, x, y, a', b', rfl, rfl, h⟩ := h
  exact ⟨p ++ c, x, y, a' ++ u, b' ++ v, by simp, by simp, h⟩
theorem zfx : ∀ (ts : List Tr) (p : List Int) (i : Nat) (x : List Int × Tr), x ∈ plts p i ts → ∃ (j : Nat) (e : List Int), i ≤ j ∧ x.1 = p ++ (j : Int) :: e
  | [], p, i, x, h => by rw [plts] at h; cases h
  | t :: ts, p, i, x, h => by
    rw [plts] at h
    rcases List.mem_append.mp h with h | h
    · obtain ⟨r, e, _, _⟩ := zdT t _ x.1 x.2 h
      exact ⟨i, r, Nat.le_refl _, by rw [e]; simp⟩
    · obtain ⟨j, e, h1, h2⟩ := zfx ts p (i + 1) x h
      exact ⟨j, e, by omega, h2⟩
mutual
theorem zna : ∀ (t : Tr) (p : List Int), (t.plt p).Pairwise fun x y => Bf x.1 y.1
  | .bl n, p => by rw [Tr.plt]; exact List.pairwise_singleton _ _
  | .nd s ts, p => by
    rw [Tr.plt]
    refine List.pairwise_cons.mpr ⟨fun y hy => ?_, zkx ts p 0⟩
    obtain ⟨j, e, _, h⟩ := zfx ts p 0 y hy
    exact .inr ⟨j, e, h⟩
theorem zkx : ∀ (ts : List Tr) (p : List Int) (i : Nat), (plts p i ts).Pairwise fun x y => Bf x.1 y.1
  | [], p, i => by rw [plts]; exact .nil
  | t :: ts, p, i => by
    rw [plts]
    refine List.pairwise_append.mpr ⟨zna t _, zkx ts p (i + 1), fun x hx y hy => ?_⟩
    obtain ⟨r, e, _, _⟩ := zdT t _ x.1 x.2 hx
    obtain ⟨j, e', hj, h⟩ := zfx ts p (i + 1) y hy
    exact .inl ⟨p, i, j, r, e', by rw [e]; simp, h, by omega⟩
end
theorem zqz (t : Tr) : (t.bls.map fun x => x.1).Pairwise Ap := by
  rw [List.pairwise_map]
  have h := (zna t []).filter fun x => x.2.isBl
  refine List.Pairwise.imp_of_mem (fun {x y} hx hy hb => ?_) h
  rcases hb with hb | ⟨z, e, hb⟩
  · exact hb
  · obtain ⟨h1, h2, _⟩ := zfC hx
    obtain ⟨h3, _, _⟩ := zfC hy
    rw [h2] at h1
    rw [hb, znq x.1 (z :: e) h1, Tr.at] at h3
    cases h3
theorem zmI (n : Nat) : ((List.range n).map fun (i : Nat) => [(i : Int)]).Pairwise Ap := by
  rw [List.pairwise_map]
  exact (List.pairwise_lt_range).imp fun {i j} h => ⟨[], i, j, [], [], rfl, rfl, by omega⟩
theorem zkC (B : List Tn) (p : List Int) (qs : List (List Int)) : nsz B p qs [] = [] := by cases qs <;> simp [nsz]
theorem zhU (B : List Tn) (p : List Int) (ps : List Pl) : nsz B p [] ps = [] := by cases ps <;> simp [nsz]
mutual
theorem zmV (B : List Tn) : ∀ (q : Pl) (p : List Int) (x : List Int × Int × Str), x ∈ q.ns B p → ∃ e, x.1 = p ++ e
  | .nd k b h ps, p, x, hx => by
    rw [Pl.ns] at hx
    rcases List.mem_append.mp hx with hx | hx
    · split at hx
      · cases hx
      · rw [List.mem_singleton] at hx
        exact ⟨[], by rw [hx]; simp⟩
    · obtain ⟨q, e, _, h⟩ := zft B ps p _ x hx
      exact ⟨q ++ e, by rw [h]; simp⟩
theorem zft (B : List Tn) : ∀ (ps : List Pl) (p : List Int) (qs : List (List Int)) (x : List Int × Int × Str), x ∈ nsz B p qs ps → ∃ q e, q ∈ qs ∧ x.1 = p ++ q ++ e
  | [], p, qs, x, hx => by rw [zkC] at hx; cases hx
  | t :: ts, p, [], x, hx => by rw [zhU] at hx; cases hx
  | t :: ts, p, q :: qs, x, hx => by
    rw [nsz] at hx
    rcases List.mem_append.mp hx with hx | hx
    · obtain ⟨e, h⟩ := zmV B t _ x hx
      exact ⟨q, e, by simp, h⟩
    · obtain ⟨q', e, h1, h2⟩ := zft B ts p qs x hx
      exact ⟨q', e, List.mem_cons_of_mem _ h1, h2⟩
end
theorem zjP (B : List Tn) (p : List Int) : ∀ (qs : List (List Int)) (ps : List Pl), qs.Pairwise Ap → (∀ x ∈ ps, ∀ q, (x.ns B q).Pairwise fun x y => Bf x.1 y.1) → (nsz B p qs ps).Pairwise fun x y => Bf x.1 y.1
  | qs, [], _, _ => by rw [zkC]; exact .nil
  | [], t :: ts, _, _ => by rw [zhU]; exact .nil
  | q :: qs, t :: ts, h, hp => by
    rw [nsz]
    obtain ⟨h1, h2⟩ := List.pairwise_cons.mp h
    refine List.pairwise_append.mpr ⟨hp t (by simp) _, zjP B p qs ts h2 fun x hx => hp x (List.mem_cons_of_mem _ hx), fun x hx y hy => ?_⟩
    obtain ⟨e, hx⟩ := zmV B t _ x hx
    obtain ⟨q', e', hq, hy⟩ := zft B ts p qs y hy
    rw [hx, hy]
    exact .inl ((h1 q' hq).ext p e e')
theorem zrW {ws hs : List Str} {B : List Tn} (b : BkOk ws hs B) {p : Pl} (h : PlOk hs B p) : ∀ q, (p.ns B q).Pairwise fun x y => Bf x.1 y.1 := by
  induction h with
  | @sign b' h ps hh hp ih =>
    intro q
    rw [zfw]
    exact zjP B q _ _ (zmI _) ih
  | @turn k b' h ps t e hl b0 b1 hp ih =>
    intro q
    have ht : t ∈ B := List.mem_of_getElem? e
    rw [zfm e]
    refine List.pairwise_cons.mpr ⟨fun y hy => ?_, zjP B q _ _ (zqz _) ih⟩
    obtain ⟨x, e', hx, hy⟩ := zft B ps q _ y hy
    obtain ⟨z, hz, rfl⟩ := List.mem_map.mp hx
    obtain ⟨h1, h2, _⟩ := zfC hz
    cases hq : z.1 with
    | nil =>
      rw [hq, Tr.at] at h1
      have h3 : t.2.1 = z.2 := Option.some.inj h1
      obtain ⟨s, ts, hs⟩ := (b.lf t ht).nd
      rw [← h3, hs] at h2
      cases h2
    | cons i is =>
      rw [hq] at hy
      exact .inr ⟨i, is ++ e', by rw [hy]; simp⟩
theorem zoi {ws hs : List Str} {B : List Tn} {c : Int → Nat} (b : BkOk ws hs B) {p : Pl} (h : PlOk hs B p) : (used c (p.ns B [])).Pairwise fun x y => geI x.1 y.1 = false := by
  unfold used
  rw [List.pairwise_map]
  exact ((zrW b h []).filter _).imp fun h => h.ge
mutual
theorem znh {B : List Tn} {tt : List Str} : ∀ (t : Tr) (p : List Int), t.hd (fun s => (s ∈ tt) ↔ (turnB B s).isSome = true) → t.ar B → t.tin tt = (t.us B p).length
  | .bl n, p, h, _ => by rw [Tr.hd] at h; exact h.elim
  | .nd s ts, p, h, ha => by
    rw [Tr.hd] at h
    rw [Tr.ar] at ha
    rw [Tr.tin, Tr.us, List.length_append]
    have hl : (pps B s ts.length).length = ts.length := by
      unfold pps
      split
      · simp
      · rename_i t e
        rw [List.length_map, ha.1 t e, zpZ]
    rw [zjA ts p (pps B s ts.length) hl h.2 ha.2]
    congr 1
    cases e : turnB B s with
    | none =>
      rw [if_neg]
      · rfl
      · rw [h.1, e]; simp
    | some t =>
      rw [if_pos]
      · rfl
      · rw [h.1, e]; simp
theorem zjA {B : List Tn} {tt : List Str} : ∀ (ts : List Tr) (p : List Int) (qs : List (List Int)), qs.length = ts.length → hds (fun s => (s ∈ tt) ↔ (turnB B s).isSome = true) ts → ars B ts → tins tt ts = (usz B p qs ts).length
  | [], p, qs, hl, _, _ => by cases qs <;> simp [usz, tins]
  | t :: ts, p, [], hl, _, _ => by cases hl
  | t :: ts, p, q :: qs, hl, h, ha => by
    rw [hds] at h
    rw [ars] at ha
    rw [tins, usz, List.length_append, znh t (p ++ q) h.1 ha.1, zjA ts p qs (by simpa using hl) h.2 ha.2]
end
theorem Pu.tin {w0 w1 w2 w3 w4 w5 : Str} {tt : List Str} {B : List Tn} {p : Pl} {c : Int → Nat} (u : Pu w0 w1 w2 w3 w4 w5 tt B p) (hc : One c) : (p.ev B c).tin tt = (used c (p.ns B [])).length := by
  rw [znh (p.ev B c) [] ?_ u.k.ar, u.us hc]
  refine zof u.k.b (fun s hs => ?_) (fun _ t ht => ?_) u.o
  · have h1 : s ∉ tt := fun h => zcD hs (u.T.ok s h) rfl
    have h2 : turnB B s = none := zbM u.k.b.ti hs
    rw [h2]
    simp [h1]
  · rw [zcj u.k.b.nd ht]
    simp [u.b.mem ht]
end L2
end

section
set_option Elab.async false
set_option linter.all false
set_option maxRecDepth 100000
set_option maxHeartbeats 4000000
namespace L2
open PySem PySem.Spec PyProof.Rows
def u1 (B : List Tn) (p : Pl) : List (List Int × Str) := used (byC 1) (p.ns B [])
section
variable {w0 w1 w2 w3 w4 w5 : Str} {tt : List Str} {B : List Tn} {p : Pl} {S : Sto} {aw at' ab q kn : Addr} {ns : List Int} {E : WX} {D : WEnds} {T : WS} {a0 a1 a2 a4 a5 a6 a7 a8 a9 : Option W}
theorem zsC (P : Pre S aw at' ab w0 w1 w2 w3 w4 w5 tt B) (h : ∀ S' p, Pu w0 w1 w2 w3 w4 w5 tt B p → Pre S' aw at' ab w0 w1 w2 w3 w4 w5 tt B → T E D [some (.scr ns), some (.ref aw), some (.ref at'), some (.ref ab), some (enc (p.ev B (byC 1))), a5, a6, a7, a8, a9] S') :
    zct 199 T E D [some (.scr ns), some (.ref aw), some (.ref at'), some (.ref ab), a4, a5, a6, a7, a8, a9] S := by
  rw [zct]
  walk_at "wp"
  intro ac hc
  refine (P.sub (.put .refl hc)).ok_plan zaf fun p v S' P' u pa => ?_
  refine u.ok_way (by decide) P'.fb pa ?_
  exact h _ _ u P'
theorem zsa (u : Pu w0 w1 w2 w3 w4 w5 tt B p) (fb : S ab = some (.lst (B.map encT))) (h : T E D [a0, a1, a2, some (.ref ab), some (enc (p.ev B (byC 1))), some (enc (p.ev B (toSrc (byC 1)))), a6, a7, a8, a9] S) :
    zcn 199 T E D [a0, a1, a2, some (.ref ab), some (enc (p.ev B (byC 1))), a5, a6, a7, a8, a9] S := by
  rw [zcn]
  walk_at "wp"
  exact u.k.ok_made1 (r := 198) fb (by omega) h
theorem zrP (u : Pu w0 w1 w2 w3 w4 w5 tt B p) (fb : S ab = some (.lst (B.map encT))) (h : ∀ q, S q = none → T E D [a0, a1, a2, some (.ref ab), some (enc (p.ev B (byC 1))), a5, some (.ref q), a7, a8, a9] (put S q (.lst ((u1 B p).map encX)))) :
    zcq 199 T E D [a0, a1, a2, some (.ref ab), some (enc (p.ev B (byC 1))), a5, a6, a7, a8, a9] S := by
  rw [zcq]
  walk_at "wp"
  exact u.ok_uses (r := 198) (zgH 1) fb (by omega) h
theorem zso (u : Pu w0 w1 w2 w3 w4 w5 tt B p) (ft : S at' = some (.lst (tt.map W.str))) (fq : S q = some (.lst ((u1 B p).map encX))) (h : T E D [a0, a1, some (.ref at'), a4, some (enc (p.ev B (byC 1))), a5, some (.ref q), a7, a8, a9] S) :
    zcf 199 T E D [a0, a1, some (.ref at'), a4, some (enc (p.ev B (byC 1))), a5, some (.ref q), a7, a8, a9] S := by
  rw [zcf]
  walk_at "wp"
  rw [zai fq]
  try rw [zai fq]
  have h1 := u.k.wt (c := byC 1)
  have h2 := u.k.dp (c := byC 1)
  refine zng ft 35 (r := 198) h2 (by omega) (zof u.k.b (fun s hs => zmR hs) (fun _ t ht => ziM (u.k.b.ti t ht)) u.o) (by omega) ?_
  rw [u.tin (zgH 1), List.length_map]
  have e : eqF S 60 (.int ((u1 B p).length : Int)) (.int ((used (byC 1) (p.ns B [])).length : Int)) = some true := by
    show some (((u1 B p).length : Int) == ((used (byC 1) (p.ns B [])).length : Int)) = some true
    rw [show used (byC 1) (p.ns B []) = u1 B p from rfl, beq_self_eq_true]
  rw [e]
  exact h
theorem zsi (u : Pu w0 w1 w2 w3 w4 w5 tt B p) (fb : S ab = some (.lst (B.map encT))) (h : ∀ S' kn, Sub S S' → S' kn = some (.lst ((uA B p).map encX)) → T E D [a0, a1, a2, some (.ref ab), a4, some (enc (p.ev B (toSrc (byC 1)))), a6, some (.ref kn), a8, a9] S') :
    zch 199 T E D [a0, a1, a2, some (.ref ab), a4, some (enc (p.ev B (toSrc (byC 1)))), a6, a7, a8, a9] S := by
  rw [zch]
  walk_at "wp"
  exact u.ok_lopen (r := 198) (zgH 1).src fb (by omega) fun S' d sb fd => h S' d sb fd
theorem zlX (c : Int → Nat) (xs : List (List Int × Int × Str)) {x : List Int × Str} (h : x ∈ used c xs) : x ∈ used one1 xs := by
  unfold used at h ⊢
  obtain ⟨y, hy, rfl⟩ := List.mem_map.mp h
  exact List.mem_map.mpr ⟨y, List.mem_filter.mpr ⟨(List.mem_filter.mp hy).1, rfl⟩, rfl⟩
theorem zmw {i : Nat} {x : List Int × Str} (u : Pu w0 w1 w2 w3 w4 w5 tt B p) (fq : S q = some (.lst ((u1 B p).map encX))) (fk : S kn = some (.lst ((uA B p).map encX))) (hx : (u1 B p)[i]? = some x) (h : D.nx [a0, a1, a2, a4, a5, a6, some (.ref q), some (.ref kn), some (.int i), some (encX x)] S) :
    zcp 199 wOut E D [a0, a1, a2, a4, a5, a6, some (.ref q), some (.ref kn), some (.int i), some (encX x)] S := by
  rw [zcp]
  walk_at "wp"
  rw [zai fk, zqs]
  have hm : x ∈ uA B p := zlX _ _ (List.mem_of_getElem? hx)
  rw [decide_eq_true hm]
  show (if (0 : Int) < (i : Int) then _ else _)
  split
  · rename_i hi
    obtain ⟨j, rfl⟩ : ∃ j, i = j + 1 := ⟨i - 1, by omega⟩
    rw [zai fq]
    have hj : j < (u1 B p).length := by
      have := (List.getElem?_eq_some_iff.mp hx).1
      omega
    have e : atI ((u1 B p).map encX) (((j + 1 : Nat) : Int) - 1) = some (encX (u1 B p)[j]) := by
      rw [show (((j + 1 : Nat) : Int) - 1) = (j : Int) by omega, zbu, List.getElem?_map, List.getElem?_eq_getElem hj]
      rfl
    rw [e]
    have g : geI (u1 B p)[j].1 x.1 = false := by
      obtain ⟨h2, rfl⟩ := List.getElem?_eq_some_iff.mp hx
      exact List.pairwise_iff_getElem.mp (zoi (c := byC 1) u.k.b u.o) j (j + 1) hj h2 (by omega)
    show oIx (encX (u1 B p)[j]) (.int 0) S _
    unfold encX
    walk_at "wp"
    unfold encP oGeA
    simp only [zhI, g]
    exact h
  · exact h
theorem zis {Q : WSt → Sto → Prop} (u : Pu w0 w1 w2 w3 w4 w5 tt B p) (fq : S q = some (.lst ((u1 B p).map encX))) (fk : S kn = some (.lst ((uA B p).map encX))) : ∀ (pr sf : List (List Int × Str)), pr ++ sf = u1 B p → (∀ b8 b9, Q [a0, a1, a2, a4, a5, a6, some (.ref q), some (.ref kn), b8, b9] S) → ∀ a8 a9,
    forL (wGT (wGcons (wGN 8) (wGcons (wGN 9) wGnil))) (zcp 199 wOut) E { nx := Q, rt := D.rt, bk := D.bk, ct := D.ct } (fun S' => S' q = some (.lst ((u1 B p).map encX))) (nums pr.length (sf.map encX)) [a0, a1, a2, a4, a5, a6, some (.ref q), some (.ref kn), a8, a9] S
  | pr, [], _, h, a8, a9 => h a8 a9
  | pr, x :: sf, e, h, a8, a9 => by
    rw [List.map_cons, nums]
    refine zbw fun N hN => ?_
    rw [zqm]
    show wGcons (wGN 8) (wGcons (wGN 9) wGnil) [.int (pr.length : Int), encX x] _ S _
    rw [zeR]
    show wGN 8 _ _ _ _
    rw [zom, zeR]
    show wGN 9 _ _ _ _
    rw [zom, zku]
    refine zmw u fq fk (i := pr.length) (x := x) (by rw [← e, List.getElem?_append_right (Nat.le_refl _)]; simp) (hN _ _ _ .refl fq ?_)
    have := zis u fq fk (pr ++ [x]) sf (by rw [← e]; simp) h (some (.int (pr.length : Int))) (some (encX x))
    rw [List.length_append, List.length_singleton] at this
    exact this
theorem zrZ (u : Pu w0 w1 w2 w3 w4 w5 tt B p) (fq : S q = some (.lst ((u1 B p).map encX))) (fk : S kn = some (.lst ((uA B p).map encX))) (h : ∀ b8 b9, T E D [a0, a1, a2, a4, a5, a6, some (.ref q), some (.ref kn), b8, b9] S) :
    zcm 199 T E D [a0, a1, a2, a4, a5, a6, some (.ref q), some (.ref kn), a8, a9] S := by
  rw [zcm]
  walk_at "wp"
  rw [zai fq]
  refine zis (Q := T E D) u fq fk [] (u1 B p) rfl h _ _
theorem zql (u : Pu w0 w1 w2 w3 w4 w5 tt B p) (fb : S ab = some (.lst (B.map encT))) (fq : S q = some (.lst ((u1 B p).map encX))) (hD : ∀ S', D.rt (.bl true) S') :
    zbT 199 E D [a0, a1, a2, some (.ref ab), some (enc (p.ev B (byC 1))), some (enc (p.ev B (toSrc (byC 1)))), some (.ref q), a7, a8, a9] S := by
  rw [zbT]
  walk_at "wp"
  rw [zai fq]
  have hl : (u1 B p).length ≤ 23 := u.short
  refine zaQ (fun σ => ∃ x, σ = [x]) encX (fun x => encP x.1) fq (u1 B p) [] _ ⟨none, rfl⟩ (by simp; omega) (fun x hx σ R hI hR => ?_) ?_
  · obtain ⟨y, rfl⟩ := hI
    rw [zdF]
    unfold encX
    walk_at "wp"
    exact hR _ _ ⟨_, rfl⟩ .refl
  · intro a ha
    refine u.ok_wayof (wn := (u1 B p).map fun x => x.1) (r := 198) (zgH 1) (zgH 1).src (fun x => ?_) (by rw [List.length_map]; omega) (keep fb ha) ?_ (by omega) ?_
    · unfold u1 wanted
      exact Iff.rfl
    · rw [List.map_map]
      exact zaf
    · rw [u.k.eq fun x _ _ => rfl]
      exact hD _
end
theorem zpU (ns : List Int) (hl : ns.length ≤ 63) : zcc 200 [.scr ns] (fun _ => none) (fun w _ => w = .bl true) (fun _ _ => False) := by
  rw [show (200 : Nat) = 199 + 1 from rfl, zcc, zmU]
  refine ⟨rfl, ?_⟩
  unfold zcS zcQ zcO
  refine zoa fun S' aw at' ab w0 w1 w2 w3 w4 w5 tt B P => zsC P fun S1 p u P' => zsa u P'.fb (zrP u P'.fb fun q hq => ?_)
  have fq : put S1 q (.lst ((u1 B p).map encX)) q = some (.lst ((u1 B p).map encX)) := zaf
  have fb := keep (x := .lst ((u1 B p).map encX)) P'.fb hq
  have ft := keep (x := .lst ((u1 B p).map encX)) P'.ft hq
  refine zso u ft fq (zsi u fb fun S2 kn sb fk => zrZ u (sb _ _ fq) fk fun b8 b9 => ?_)
  exact zql u (sb _ _ fb) (sb _ _ fq) fun S' => ⟨_, .refl, rfl⟩
end L2
end

end

section
set_option Elab.async false
set_option linter.all false
set_option maxRecDepth 100000
set_option maxHeartbeats 4000000
namespace K17
open PySem L2 PyProof.Rows
def top (i : Nat) : Stmt := PySem.Challenge.pw_turnweave_k17_uses_of_a_way.main.body.getD i (.Pass ⟨0, 0, 0, 0⟩)
structure Cal (P : Program) (w : World) (K : PySem.W.Frag) (mg : Str → Option Value) (base : Heap) (nm : Str) (ps : List Str) (c : Nat → WSp) where
  zf : Addr
  zd : FuncData
  zg : ∀ r, FnOk P w K mg base CX0 r zf zd ps (liftSp K (c r))
  zb : Binds K zd ps []
  zk : PySem.W.keepIn K (.ref zf) = true
  zm : mg nm = some (.ref zf)
def Dfn (K : PySem.W.Frag) (nm : Str) (st : Stmt) : Prop := ∃ f d, PySem.W.nsIn K mainGlobals nm = some (some (.ref f)) ∧ Fun K nm nm st f d
theorem dfn {K : PySem.W.Frag} {x : Str} {st : Stmt} {f : Addr} {oc : Value} {od an : Option Addr} {osl : Array (Option Value)} {kV doc pm cdv ct : Value} (a : PySem.W.nsIn K mainGlobals x = some (some (.ref f))) (l : K.lookup f = some ⟨oc, od, .func (PySem.W.fnOf x x (defArgs st) (defBody st) (defScope st) .none kV doc pm an cdv ct), osl⟩) (c : PySem.W.codeIn K cdv x = true) (k : PySem.W.keepIn K (.ref f) = true) : Dfn K x st := ⟨f, _, a, zqb l c k⟩
theorem n0 {p : List Value → Prop} (h : p []) : ∀ us, us.length = 0 → p us
  | [], _ => h
theorem n1 {p : List Value → Prop} (h : ∀ a, p [a]) : ∀ us, us.length = 1 → p us
  | [a], _ => h a
theorem n2 {p : List Value → Prop} (h : ∀ a b, p [a, b]) : ∀ us, us.length = 2 → p us
  | [a, b], _ => h a b
theorem n3 {p : List Value → Prop} (h : ∀ a b c, p [a, b, c]) : ∀ us, us.length = 3 → p us
  | [a, b, c], _ => h a b c
theorem n4 {p : List Value → Prop} (h : ∀ a b c d, p [a, b, c, d]) : ∀ us, us.length = 4 → p us
  | [a, b, c, d], _ => h a b c d
theorem n5 {p : List Value → Prop} (h : ∀ a b c d e, p [a, b, c, d, e]) : ∀ us, us.length = 5 → p us
  | [a, b, c, d, e], _ => h a b c d e
theorem n6 {p : List Value → Prop} (h : ∀ a b c d e f, p [a, b, c, d, e, f]) : ∀ us, us.length = 6 → p us
  | [a, b, c, d, e, f], _ => h a b c d e f
abbrev s0 : Stmt := top 5
theorem sc0 : FnScope ["t"] ["t"] (defScope s0) := ⟨rfl, rfl, rfl, by decide +kernel, rfl, by decide +kernel, by decide +kernel⟩
abbrev s1 : Stmt := top 7
theorem sc1 : FnScope ["t", "place", "found", "number", "inner"] ["t", "place", "found"] (defScope s1) := ⟨rfl, rfl, rfl, by decide +kernel, rfl, by decide +kernel, by decide +kernel⟩
abbrev s2 : Stmt := top 6
theorem sc2 : FnScope ["t", "found"] ["t"] (defScope s2) := ⟨rfl, rfl, rfl, by decide +kernel, rfl, by decide +kernel, by decide +kernel⟩
abbrev s3 : Stmt := top 9
theorem sc3 : FnScope ["t", "number", "parts"] ["t", "number"] (defScope s3) := ⟨rfl, rfl, rfl, by decide +kernel, rfl, by decide +kernel, by decide +kernel⟩
abbrev s4 : Stmt := top 8
theorem sc4 : FnScope ["t", "place", "thing", "number"] ["t", "place"] (defScope s4) := ⟨rfl, rfl, rfl, by decide +kernel, rfl, by decide +kernel, by decide +kernel⟩
abbrev s5 : Stmt := top 11
theorem sc5 : FnScope ["side"] ["side"] (defScope s5) := ⟨rfl, rfl, rfl, by decide +kernel, rfl, by decide +kernel, by decide +kernel⟩
abbrev s6 : Stmt := top 14
theorem sc6 : FnScope ["one", "other"] ["one", "other"] (defScope s6) := ⟨rfl, rfl, rfl, by decide +kernel, rfl, by decide +kernel, by decide +kernel⟩
abbrev s7 : Stmt := top 13
theorem sc7 : FnScope ["left", "t", "things", "inner", "thing"] ["left", "t", "things"] (defScope s7) := ⟨rfl, rfl, rfl, by decide +kernel, rfl, by decide +kernel, by decide +kernel⟩
abbrev s8 : Stmt := top 12
theorem sc8 : FnScope ["left", "t", "things"] ["left", "t"] (defScope s8) := ⟨rfl, rfl, rfl, by decide +kernel, rfl, by decide +kernel, by decide +kernel⟩
abbrev s9 : Stmt := top 17
theorem sc9 : FnScope ["book", "title", "turning"] ["book", "title"] (defScope s9) := ⟨rfl, rfl, rfl, by decide +kernel, rfl, by decide +kernel, by decide +kernel⟩
abbrev s10 : Stmt := top 19
theorem sc10 : FnScope ["book", "way", "turning"] ["book", "way"] (defScope s10) := ⟨rfl, rfl, rfl, by decide +kernel, rfl, by decide +kernel, by decide +kernel⟩
abbrev s11 : Stmt := top 23
theorem sc11 : FnScope ["book", "shape", "turning"] ["book", "shape"] (defScope s11) := ⟨rfl, rfl, rfl, by decide +kernel, rfl, by decide +kernel, by decide +kernel⟩
abbrev s12 : Stmt := top 22
theorem sc12 : FnScope ["book", "shape", "place", "found", "turning", "number", "inner"] ["book", "shape", "place", "found"] (defScope s12) := ⟨rfl, rfl, rfl, by decide +kernel, rfl, by decide +kernel, by decide +kernel⟩
abbrev s13 : Stmt := top 21
theorem sc13 : FnScope ["book", "shape", "found"] ["book", "shape"] (defScope s13) := ⟨rfl, rfl, rfl, by decide +kernel, rfl, by decide +kernel, by decide +kernel⟩
abbrev s14 : Stmt := top 25
theorem sc14 : FnScope ["book", "way", "place", "found", "spot", "inner"] ["book", "way", "place", "found"] (defScope s14) := ⟨rfl, rfl, rfl, by decide +kernel, rfl, by decide +kernel, by decide +kernel⟩
abbrev s15 : Stmt := top 24
theorem sc15 : FnScope ["book", "way", "found"] ["book", "way"] (defScope s15) := ⟨rfl, rfl, rfl, by decide +kernel, rfl, by decide +kernel, by decide +kernel⟩
abbrev s16 : Stmt := top 26
theorem sc16 : FnScope ["pairs"] ["pairs"] (defScope s16) := ⟨rfl, rfl, rfl, by decide +kernel, rfl, by decide +kernel, by decide +kernel⟩
abbrev s17 : Stmt := top 30
theorem sc17 : FnScope ["book", "shape", "turning"] ["book", "shape"] (defScope s17) := ⟨rfl, rfl, rfl, by decide +kernel, rfl, by decide +kernel, by decide +kernel⟩
abbrev s18 : Stmt := top 29
theorem sc18 : FnScope ["book", "shape", "place", "wanted", "top", "parts", "spot", "inner"] ["book", "shape", "place", "wanted"] (defScope s18) := ⟨rfl, rfl, rfl, by decide +kernel, rfl, by decide +kernel, by decide +kernel⟩
abbrev s19 : Stmt := top 28
theorem sc19 : FnScope ["book", "shape", "places"] ["book", "shape", "places"] (defScope s19) := ⟨rfl, rfl, rfl, by decide +kernel, rfl, by decide +kernel, by decide +kernel⟩
abbrev s20 : Stmt := top 27
theorem sc20 : FnScope ["book", "shape", "places", "known", "place"] ["book", "shape", "places"] (defScope s20) := ⟨rfl, rfl, rfl, by decide +kernel, rfl, by decide +kernel, by decide +kernel⟩
abbrev s21 : Stmt := top 32
theorem sc21 : FnScope ["script", "k"] ["script", "k"] (defScope s21) := ⟨rfl, rfl, rfl, by decide +kernel, rfl, by decide +kernel, by decide +kernel⟩
abbrev s22 : Stmt := top 33
theorem sc22 : FnScope ["one", "two", "great", "signs", "rest", "base", "k", "at", "words", "word"] ["one", "two", "great"] (defScope s22) := ⟨rfl, rfl, rfl, by decide +kernel, rfl, by decide +kernel, by decide +kernel⟩
abbrev s23 : Stmt := top 34
theorem sc23 : FnScope ["side"] ["side"] (defScope s23) := ⟨rfl, rfl, rfl, by decide +kernel, rfl, by decide +kernel, by decide +kernel⟩
abbrev s24 : Stmt := top 35
theorem sc24 : FnScope ["side", "things"] ["side", "things"] (defScope s24) := ⟨rfl, rfl, rfl, by decide +kernel, rfl, by decide +kernel, by decide +kernel⟩
abbrev s25 : Stmt := top 36
theorem sc25 : FnScope ["draw", "many", "w"] ["draw", "many", "w"] (defScope s25) := ⟨rfl, rfl, rfl, by decide +kernel, rfl, by decide +kernel, by decide +kernel⟩
abbrev s26 : Stmt := top 37
theorem sc26 : FnScope ["draw", "many", "w", "one", "other", "way"] ["draw", "many", "w"] (defScope s26) := ⟨rfl, rfl, rfl, by decide +kernel, rfl, by decide +kernel, by decide +kernel⟩
abbrev s27 : Stmt := top 38
theorem sc27 : FnScope ["way", "head", "c", "d"] ["way", "head", "c", "d"] (defScope s27) := ⟨rfl, rfl, rfl, by decide +kernel, rfl, by decide +kernel, by decide +kernel⟩
abbrev s28 : Stmt := top 39
theorem sc28 : FnScope ["script", "k", "w", "titles", "book", "j", "lefts", "n", "left", "right"] ["script", "k", "w", "titles"] (defScope s28) := ⟨rfl, rfl, rfl, by decide +kernel, rfl, by decide +kernel, by decide +kernel⟩
abbrev s29 : Stmt := top 40
theorem sc29 : FnScope ["cells", "book", "w", "room", "stack", "spent", "cell", "way", "need", "node", "k", "at"] ["cells", "book", "w", "room"] (defScope s29) := ⟨rfl, rfl, rfl, by decide +kernel, rfl, by decide +kernel, by decide +kernel⟩
abbrev s30 : Stmt := top 41
theorem sc30 : FnScope ["plan", "book", "by", "k", "bits", "head", "parts", "ways"] ["plan", "book", "by"] (defScope s30) := ⟨rfl, rfl, rfl, by decide +kernel, rfl, by decide +kernel, by decide +kernel⟩
abbrev s31 : Stmt := top 42
theorem sc31 : FnScope ["book", "way", "which", "parts", "turning"] ["book", "way", "which"] (defScope s31) := ⟨rfl, rfl, rfl, by decide +kernel, rfl, by decide +kernel, by decide +kernel⟩
abbrev s32 : Stmt := top 43
theorem sc32 : FnScope ["t", "found", "i", "one"] ["t"] (defScope s32) := ⟨rfl, rfl, rfl, by decide +kernel, rfl, by decide +kernel, by decide +kernel⟩
abbrev s33 : Stmt := top 44
theorem sc33 : FnScope ["t", "place", "i"] ["t", "place"] (defScope s33) := ⟨rfl, rfl, rfl, by decide +kernel, rfl, by decide +kernel, by decide +kernel⟩
abbrev s34 : Stmt := top 45
theorem sc34 : FnScope ["left", "shape"] ["left", "shape"] (defScope s34) := ⟨rfl, rfl, rfl, by decide +kernel, rfl, by decide +kernel, by decide +kernel⟩
abbrev s35 : Stmt := top 46
theorem sc35 : FnScope ["book", "shape", "found", "place", "turning"] ["book", "shape"] (defScope s35) := ⟨rfl, rfl, rfl, by decide +kernel, rfl, by decide +kernel, by decide +kernel⟩
abbrev s36 : Stmt := top 47
theorem sc36 : FnScope ["way", "titles"] ["way", "titles"] (defScope s36) := ⟨rfl, rfl, rfl, by decide +kernel, rfl, by decide +kernel, by decide +kernel⟩
abbrev s37 : Stmt := top 48
theorem sc37 : FnScope ["script", "w", "titles", "book", "way", "begin", "found", "known", "k", "one"] ["script"] (defScope s37) := ⟨rfl, rfl, rfl, by decide +kernel, rfl, by decide +kernel, by decide +kernel⟩
section
variable {P : Program} {w : World} {K : PySem.W.Frag} {mg : Str → Option Value} {base : Heap}
theorem o0 {f : Addr} {d : FuncData} (F : Fun K "parts_of" "parts_of" s0 f d) (n_isinstance : mg "isinstance" = none) (n_int : mg "int" = none) : ∀ r, FnOk P w K mg base CX0 r f d ["t"] (liftSp K (zbm r)) := by
  intro r
  induction r with
  | zero => exact zax
  | succ r ih => exact zaU F sc0 rfl rfl fun cdv A outer s H E hr => (zad (zaR (zbV (zds rfl n_isinstance rfl n_int PyProof.Rows.boot_int (jv 0) (by decide) (by decide) (kitA _ (by simp)))) (zae (zaj (zap zab))) zav)
    (zae (zaj (zce (jv 0) (zaI zac) zaJ))))
theorem o1 {f : Addr} {d : FuncData} (F : Fun K "gather_places" "gather_places" s1 f d) (x0 : Cal P w K mg base "parts_of" ["t"] zbm) (b : Binds K d ["t", "place", "found"] []) (m : mg "gather_places" = some (.ref f)) (n_enumerate : mg "enumerate" = none) : ∀ r, FnOk P w K mg base CX0 r f d ["t", "place", "found"] (liftSp K (zaw r)) := by
  intro r
  induction r with
  | zero => exact zax
  | succ r ih => exact zaU F sc1 rfl rfl fun cdv A outer s H E hr => (zad (zbj (zbs (jv 2) (zaa (jv 1) zab)))
    (zae (zbl (zdZ rfl n_enumerate (zag (x0.zg r) hr rfl x0.zm x0.zk x0.zb (zaa (jv 0) zab))) (zcK (zaz (zak (i := 3) sc1.nd rfl (Or.inl rfl)) (zaz (zak (i := 4) sc1.nd rfl (Or.inl rfl)) zbZ)) (glS (glS gl0))) (zae (zbj (zag ih hr rfl m F.kp b (zaa (jv 4) (zaa (zbb (jv 1) (zap (zaa (jv 3) zab))) (zaa (jv 2) zab)))))))))
theorem o2 {f : Addr} {d : FuncData} (F : Fun K "places" "places" s2 f d) (x1 : Cal P w K mg base "gather_places" ["t", "place", "found"] zaw) : ∀ r, FnOk P w K mg base CX0 r f d ["t"] (liftSp K (zcC r)) := by
  intro r
  induction r with
  | zero => exact zax
  | succ r ih => exact zaU F sc2 rfl rfl fun cdv A outer s H E hr => (zad (zam (i := 1) sc2.nd rfl (Or.inl rfl) (zaM (zaP zab)))
    (zad (zbj (zag (x1.zg r) hr rfl x1.zm x1.zk x1.zb (zaa (jv 0) (zaa (zap zab) (zaa (jv 1) zab)))))
    (zae (zaj (jv 1)))))
theorem o3 {f : Addr} {d : FuncData} (F : Fun K "numbered_part" "numbered_part" s3 f d) (x0 : Cal P w K mg base "parts_of" ["t"] zbm) (n_len : mg "len" = none) : ∀ r, FnOk P w K mg base CX0 r f d ["t", "number"] (liftSp K (zaO r)) := by
  intro r
  induction r with
  | zero => exact zax
  | succ r ih => exact zaU F sc3 rfl rfl fun cdv A outer s H E hr => (zad (zam (i := 2) sc3.nd rfl (Or.inl rfl) (zag (x0.zg r) hr rfl x0.zm x0.zk x0.zb (zaa (jv 0) zab)))
    (zad (zaR (JW.jt (zko (zmH (jv 1) zac) (zge (zsD (jv 1) (zbL rfl n_len (zaa (jv 2) zab)))))) (zae ziz) zav)
    (zae (zaj (zay (jv 2) (jv 1))))))
theorem o4 {f : Addr} {d : FuncData} (F : Fun K "part" "part" s4 f d) (x3 : Cal P w K mg base "numbered_part" ["t", "number"] zaO) : ∀ r, FnOk P w K mg base CX0 r f d ["t", "place"] (liftSp K (zeE r)) := by
  intro r
  induction r with
  | zero => exact zax
  | succ r ih => exact zaU F sc4 rfl rfl fun cdv A outer s H E hr => (zad (zam (i := 2) sc4.nd rfl (Or.inl rfl) (jv 0))
    (zad (zbl (zbt (jv 1)) (zak (i := 3) sc4.nd rfl (Or.inl rfl)) (zae (zam (i := 2) sc4.nd rfl (Or.inl rfl) (zag (x3.zg r) hr rfl x3.zm x3.zk x3.zb (zaa (jv 2) (zaa (jv 3) zab))))))
    (zae (zaj (jv 2)))))
theorem o5 {f : Addr} {d : FuncData} (F : Fun K "blank_places" "blank_places" s5 f d) (x2 : Cal P w K mg base "places" ["t"] zcC) (x4 : Cal P w K mg base "part" ["t", "place"] zeE) (n_isinstance : mg "isinstance" = none) (n_int : mg "int" = none) : ∀ r, FnOk P w K mg base CX0 r f d ["side"] (liftSp K (zaV r)) := by
  intro r
  induction r with
  | zero => exact zax
  | succ r ih => exact zaU F sc5 rfl rfl fun cdv A outer s H E hr => (zae (zaj (zaM (zbN (N := ["place", "side"]) (k := 1) (fr := [0]) ⟨rfl, by decide +kernel, rfl, rfl, rfl, rfl, rfl, rfl, rfl⟩ (zbt (zag (x2.zg r) hr rfl x2.zm x2.zk x2.zb (zaa (jv 0) zab))) (fun _ _ _ _ => (zak (i := 0) (show List.Nodup [("place" : Str), ("side" : Str)] from by decide +kernel) rfl (Or.inl rfl))) (fun _ _ _ _ => (zov (zbV (zds rfl n_isinstance rfl n_int PyProof.Rows.boot_int (zag (x4.zg r) hr rfl x4.zm x4.zk x4.zb (zaa (jv 1) (zaa (jv 0) zab))) (by decide) (by decide) (kitA _ (by simp)))))) (fun _ _ _ _ => (jv 0))))))
theorem o6 {f : Addr} {d : FuncData} (F : Fun K "have_one_top" "have_one_top" s6 f d) (n_len : mg "len" = none) : ∀ r, FnOk P w K mg base CX0 r f d ["one", "other"] (liftSp K (zaX r)) := by
  intro r
  induction r with
  | zero => exact zax
  | succ r ih => exact zaU F sc6 rfl rfl fun cdv A outer s H E hr => (zae (zaj (zqF (zmb hr (zay (jv 0) zac) (zay (jv 1) zac)) (zrn (zmb hr (zbL rfl n_len (zaa (jv 0) zab)) (zbL rfl n_len (zaa (jv 1) zab)))))))
theorem o7 {f : Addr} {d : FuncData} (F : Fun K "gather_matched" "gather_matched" s7 f d) (x6 : Cal P w K mg base "have_one_top" ["one", "other"] zaX) (b : Binds K d ["left", "t", "things"] []) (m : mg "gather_matched" = some (.ref f)) (n_isinstance : mg "isinstance" = none) (n_int : mg "int" = none) (n_zip : mg "zip" = none) : ∀ r, FnOk P w K mg base CX0 r f d ["left", "t", "things"] (liftSp K (zar r)) := by
  intro r
  induction r with
  | zero => exact zax
  | succ r ih => exact zaU F sc7 rfl rfl fun cdv A outer s H E hr => (zad (zaR (zbV (zds rfl n_isinstance rfl n_int PyProof.Rows.boot_int (jv 0) (by decide) (by decide) (kitA _ (by simp)))) (zad (zbj (zbs (jv 2) (zaa (jv 1) zab)))
    (zae (zaj zeb))) zav)
    (zad (zaR (zfS (zbV (zag (x6.zg r) hr rfl x6.zm x6.zk x6.zb (zaa (jv 0) (zaa (jv 1) zab))))) (zae (zaj zeb)) zav)
    (zad (zbl (zif rfl n_zip (zce (jv 0) (zaI zac) zaJ) (zce (jv 1) (zaI zac) zaJ)) (zcK (zaz (zak (i := 3) sc7.nd rfl (Or.inl rfl)) (zaz (zak (i := 4) sc7.nd rfl (Or.inl rfl)) zbZ)) (glS (glS gl0))) (zae (zaR (zfS (zbV (zag ih hr rfl m F.kp b (zaa (jv 3) (zaa (jv 4) (zaa (jv 2) zab)))))) (zae (zaj zeb)) zav)))
    (zae (zaj zeb)))))
theorem o8 {f : Addr} {d : FuncData} (F : Fun K "matched" "matched" s8 f d) (x7 : Cal P w K mg base "gather_matched" ["left", "t", "things"] zar) : ∀ r, FnOk P w K mg base CX0 r f d ["left", "t"] (liftSp K (zbF r)) := by
  intro r
  induction r with
  | zero => exact zax
  | succ r ih => exact zaU F sc8 rfl rfl fun cdv A outer s H E hr => (zad (zam (i := 2) sc8.nd rfl (Or.inl rfl) (zaM (zaP zab)))
    (zad (zaR (zbV (zag (x7.zg r) hr rfl x7.zm x7.zk x7.zb (zaa (jv 0) (zaa (jv 1) (zaa (jv 2) zab))))) (zae (zaj (jv 2))) zav)
    (zae (zaj zdH))))
theorem o9 {f : Addr} {d : FuncData} (F : Fun K "turning_of" "turning_of" s9 f d) : ∀ r, FnOk P w K mg base CX0 r f d ["book", "title"] (liftSp K (zaS r)) := by
  intro r
  induction r with
  | zero => exact zax
  | succ r ih => exact zaU F sc9 rfl rfl fun cdv A outer s H E hr => (zad (zbl (zbt (jv 0)) (zak (i := 2) sc9.nd rfl (Or.inl rfl)) (zae (zaR (zcI hr (zay (jv 2) zac) (jv 1)) (zae (zaj (jv 2))) zav)))
    (zae (zaj zdH)))
theorem o10 {f : Addr} {d : FuncData} (F : Fun K "part_places" "part_places" s10 f d) (x9 : Cal P w K mg base "turning_of" ["book", "title"] zaS) (x5 : Cal P w K mg base "blank_places" ["side"] zaV) (n_range : mg "range" = none) (n_len : mg "len" = none) {t_LEFT : Tok} (g_LEFT : mg "LEFT" = some (.int 1 t_LEFT)) : ∀ r, FnOk P w K mg base CX0 r f d ["book", "way"] (liftSp K (zaB r)) := by
  intro r
  induction r with
  | zero => exact zax
  | succ r ih => exact zaU F sc10 rfl rfl fun cdv A outer s H E hr => (zad (zam (i := 2) sc10.nd rfl (Or.inl rfl) (zag (x9.zg r) hr rfl x9.zm x9.zk x9.zb (zaa (jv 0) (zaa (zay (jv 1) zac) zab))))
    (zad (zaR (zsy (jv 2) zdH) (zae (zaj (zaM (zbN (N := ["number"]) (k := 1) (fr := []) ⟨rfl, by decide +kernel, rfl, rfl, rfl, rfl, rfl, rfl, rfl⟩ (zcW rfl n_range (zaa (zgg (zbL rfl n_len (zaa (jv 1) zab)) zac) zab)) (fun _ _ _ _ => (zak (i := 0) (show List.Nodup [("number" : Str)] from by decide +kernel) rfl (Or.inl rfl))) (fun _ _ _ _ => zbH) (fun _ _ _ _ => (zap (zaa (jv 0) zab))))))) zav)
    (zae (zaj (zag (x5.zg r) hr rfl x5.zm x5.zk x5.zb (zaa (zay (jv 2) (zhg rfl g_LEFT)) zab))))))
theorem o11 {f : Addr} {d : FuncData} (F : Fun K "open_turning" "open_turning" s11 f d) (x8 : Cal P w K mg base "matched" ["left", "t"] zbF) {t_LEFT : Tok} (g_LEFT : mg "LEFT" = some (.int 1 t_LEFT)) : ∀ r, FnOk P w K mg base CX0 r f d ["book", "shape"] (liftSp K (zaG r)) := by
  intro r
  induction r with
  | zero => exact zax
  | succ r ih => exact zaU F sc11 rfl rfl fun cdv A outer s H E hr => (zad (zbl (zbt (jv 0)) (zak (i := 2) sc11.nd rfl (Or.inl rfl)) (zae (zaR (zfp (zag (x8.zg r) hr rfl x8.zm x8.zk x8.zb (zaa (zay (jv 2) (zhg rfl g_LEFT)) (zaa (jv 1) zab))) zdH) (zae (zaj (jv 2))) zav)))
    (zae (zaj zdH)))
theorem o12 {f : Addr} {d : FuncData} (F : Fun K "gather_open" "gather_open" s12 f d) (x11 : Cal P w K mg base "open_turning" ["book", "shape"] zaG) (b : Binds K d ["book", "shape", "place", "found"] []) (m : mg "gather_open" = some (.ref f)) (n_enumerate : mg "enumerate" = none) : ∀ r, FnOk P w K mg base CX0 r f d ["book", "shape", "place", "found"] (liftSp K (zaL r)) := by
  intro r
  induction r with
  | zero => exact zax
  | succ r ih => exact zaU F sc12 rfl rfl fun cdv A outer s H E hr => (zad (zam (i := 4) sc12.nd rfl (Or.inl rfl) (zag (x11.zg r) hr rfl x11.zm x11.zk x11.zb (zaa (jv 0) (zaa (jv 1) zab))))
    (zad (zaR (zfp (jv 4) zdH) (zae (zbj (zbs (jv 3) (zaa (zap (zaa (jv 2) (zaa (zay (jv 4) zac) zab))) zab)))) zav)
    (zae (zbl (zdZ rfl n_enumerate (zce (jv 1) (zaI zac) zaJ)) (zcK (zaz (zak (i := 5) sc12.nd rfl (Or.inl rfl)) (zaz (zak (i := 6) sc12.nd rfl (Or.inl rfl)) zbZ)) (glS (glS gl0))) (zae (zbj (zag ih hr rfl m F.kp b (zaa (jv 0) (zaa (jv 6) (zaa (zbb (jv 2) (zap (zaa (jv 5) zab))) (zaa (jv 3) zab)))))))))))
theorem o13 {f : Addr} {d : FuncData} (F : Fun K "open_uses" "open_uses" s13 f d) (x12 : Cal P w K mg base "gather_open" ["book", "shape", "place", "found"] zaL) : ∀ r, FnOk P w K mg base CX0 r f d ["book", "shape"] (liftSp K (zbx r)) := by
  intro r
  induction r with
  | zero => exact zax
  | succ r ih => exact zaU F sc13 rfl rfl fun cdv A outer s H E hr => (zad (zam (i := 2) sc13.nd rfl (Or.inl rfl) (zaM (zaP zab)))
    (zad (zbj (zag (x12.zg r) hr rfl x12.zm x12.zk x12.zb (zaa (jv 0) (zaa (jv 1) (zaa (zap zab) (zaa (jv 2) zab))))))
    (zae (zaj (jv 2)))))
theorem o14 {f : Addr} {d : FuncData} (F : Fun K "gather_uses" "gather_uses" s14 f d) (x9 : Cal P w K mg base "turning_of" ["book", "title"] zaS) (x10 : Cal P w K mg base "part_places" ["book", "way"] zaB) (b : Binds K d ["book", "way", "place", "found"] []) (m : mg "gather_uses" = some (.ref f)) (n_zip : mg "zip" = none) : ∀ r, FnOk P w K mg base CX0 r f d ["book", "way", "place", "found"] (liftSp K (zaF r)) := by
  intro r
  induction r with
  | zero => exact zax
  | succ r ih => exact zaU F sc14 rfl rfl fun cdv A outer s H E hr => (zad (zaR (zfp (zag (x9.zg r) hr rfl x9.zm x9.zk x9.zb (zaa (jv 0) (zaa (zay (jv 1) zac) zab))) zdH) (zae (zbj (zbs (jv 3) (zaa (zap (zaa (jv 2) (zaa (zay (jv 1) zac) zab))) zab)))) zav)
    (zae (zbl (zif rfl n_zip (zag (x10.zg r) hr rfl x10.zm x10.zk x10.zb (zaa (jv 0) (zaa (jv 1) zab))) (zce (jv 1) (zaI zac) zaJ)) (zcK (zaz (zak (i := 4) sc14.nd rfl (Or.inl rfl)) (zaz (zak (i := 5) sc14.nd rfl (Or.inl rfl)) zbZ)) (glS (glS gl0))) (zae (zbj (zag ih hr rfl m F.kp b (zaa (jv 0) (zaa (jv 5) (zaa (zbb (jv 2) (jv 4)) (zaa (jv 3) zab))))))))))
theorem o15 {f : Addr} {d : FuncData} (F : Fun K "uses" "uses" s15 f d) (x14 : Cal P w K mg base "gather_uses" ["book", "way", "place", "found"] zaF) : ∀ r, FnOk P w K mg base CX0 r f d ["book", "way"] (liftSp K (zed r)) := by
  intro r
  induction r with
  | zero => exact zax
  | succ r ih => exact zaU F sc15 rfl rfl fun cdv A outer s H E hr => (zad (zam (i := 2) sc15.nd rfl (Or.inl rfl) (zaM (zaP zab)))
    (zad (zbj (zag (x14.zg r) hr rfl x14.zm x14.zk x14.zb (zaa (jv 0) (zaa (jv 1) (zaa (zap zab) (zaa (jv 2) zab))))))
    (zae (zaj (jv 2)))))
theorem o16 {f : Addr} {d : FuncData} (F : Fun K "places_of" "places_of" s16 f d) : ∀ r, FnOk P w K mg base CX0 r f d ["pairs"] (liftSp K (zbA r)) := by
  intro r
  induction r with
  | zero => exact zax
  | succ r ih => exact zaU F sc16 rfl rfl fun cdv A outer s H E hr => (zae (zaj (zaM (zbN (N := ["pair"]) (k := 1) (fr := []) ⟨rfl, by decide +kernel, rfl, rfl, rfl, rfl, rfl, rfl, rfl⟩ (zbt (jv 0)) (fun _ _ _ _ => (zak (i := 0) (show List.Nodup [("pair" : Str)] from by decide +kernel) rfl (Or.inl rfl))) (fun _ _ _ _ => zbH) (fun _ _ _ _ => (zay (jv 0) zac))))))
theorem o17 {f : Addr} {d : FuncData} (F : Fun K "turned_top" "turned_top" s17 f d) (x11 : Cal P w K mg base "open_turning" ["book", "shape"] zaG) (x8 : Cal P w K mg base "matched" ["left", "t"] zbF) (n_tuple : mg "tuple" = none) {t_LEFT : Tok} (g_LEFT : mg "LEFT" = some (.int 1 t_LEFT)) : ∀ r, FnOk P w K mg base CX0 r f d ["book", "shape"] (liftSp K (zbp r)) := by
  intro r
  induction r with
  | zero => exact zax
  | succ r ih => exact zaU F sc17 rfl rfl fun cdv A outer s H E hr => (zad (zam (i := 2) sc17.nd rfl (Or.inl rfl) (zag (x11.zg r) hr rfl x11.zm x11.zk x11.zb (zaa (jv 0) (zaa (jv 1) zab))))
    (zae (zaj (zbb (zap (zaa (zay (jv 2) zac) zab)) (zcZ rfl n_tuple (zaa (zag (x8.zg r) hr rfl x8.zm x8.zk x8.zb (zaa (zay (jv 2) (zhg rfl g_LEFT)) (zaa (jv 1) zab))) zab))))))
theorem o18 {f : Addr} {d : FuncData} (F : Fun K "way_within" "way_within" s18 f d) (x17 : Cal P w K mg base "turned_top" ["book", "shape"] zbp) (x10 : Cal P w K mg base "part_places" ["book", "way"] zaB) (b : Binds K d ["book", "shape", "place", "wanted"] []) (m : mg "way_within" = some (.ref f)) (n_zip : mg "zip" = none) (n_tuple : mg "tuple" = none) : ∀ r, FnOk P w K mg base CX0 r f d ["book", "shape", "place", "wanted"] (liftSp K (zaC r)) := by
  intro r
  induction r with
  | zero => exact zax
  | succ r ih => exact zaU F sc18 rfl rfl fun cdv A outer s H E hr => (zad (zam (i := 4) sc18.nd rfl (Or.inl rfl) (zsw (zrg hr (jv 2) (jv 3)) (zag (x17.zg r) hr rfl x17.zm x17.zk x17.zb (zaa (jv 0) (zaa (jv 1) zab))) (jv 1)))
    (zad (zam (i := 5) sc18.nd rfl (Or.inl rfl) (zaM (zaP zab)))
    (zad (zbl (zif rfl n_zip (zag (x10.zg r) hr rfl x10.zm x10.zk x10.zb (zaa (jv 0) (zaa (jv 4) zab))) (zce (jv 4) (zaI zac) zaJ)) (zcK (zaz (zak (i := 6) sc18.nd rfl (Or.inl rfl)) (zaz (zak (i := 7) sc18.nd rfl (Or.inl rfl)) zbZ)) (glS (glS gl0))) (zae (zbj (zbs (jv 5) (zaa (zag ih hr rfl m F.kp b (zaa (jv 0) (zaa (jv 7) (zaa (zbb (jv 2) (jv 6)) (zaa (jv 3) zab))))) zab)))))
    (zae (zaj (zbb (zap (zaa (zay (jv 4) zac) zab)) (zcZ rfl n_tuple (zaa (jv 5) zab))))))))
theorem o19 {f : Addr} {d : FuncData} (F : Fun K "way_with" "way_with" s19 f d) (x18 : Cal P w K mg base "way_within" ["book", "shape", "place", "wanted"] zaC) (n_dict : mg "dict" = none) : ∀ r, FnOk P w K mg base CX0 r f d ["book", "shape", "places"] (liftSp K (zbK r)) := by
  intro r
  induction r with
  | zero => exact zax
  | succ r ih => exact zaU F sc19 rfl rfl fun cdv A outer s H E hr => (zae (zaj (zag (x18.zg r) hr rfl x18.zm x18.zk x18.zb (zaa (jv 0) (zaa (jv 1) (zaa (zap zab) (zaa (zmm hr rfl n_dict (zbN (N := ["place"]) (k := 1) (fr := []) ⟨rfl, by decide +kernel, rfl, rfl, rfl, rfl, rfl, rfl, rfl⟩ (zbt (jv 2)) (fun _ _ _ _ => (zak (i := 0) (show List.Nodup [("place" : Str)] from by decide +kernel) rfl (Or.inl rfl))) (fun _ _ _ _ => zbH) (fun _ _ _ _ => (zap (zaa (jv 0) (zaa zeb zab)))))) zab)))))))
theorem o20 {f : Addr} {d : FuncData} (F : Fun K "way_of" "way_of" s20 f d) (x16 : Cal P w K mg base "places_of" ["pairs"] zbA) (x19 : Cal P w K mg base "way_with" ["book", "shape", "places"] zbK) (x13 : Cal P w K mg base "open_uses" ["book", "shape"] zbx) : ∀ r, FnOk P w K mg base CX0 r f d ["book", "shape", "places"] (liftSp K (zck r)) := by
  intro r
  induction r with
  | zero => exact zax
  | succ r ih => exact zaU F sc20 rfl rfl fun cdv A outer s H E hr => (zad (zam (i := 3) sc20.nd rfl (Or.inl rfl) (zag (x16.zg r) hr rfl x16.zm x16.zk x16.zb (zaa (zag (x13.zg r) hr rfl x13.zm x13.zk x13.zb (zaa (jv 0) (zaa (jv 1) zab))) zab)))
    (zad (zbl (zbt (jv 2)) (zak (i := 4) sc20.nd rfl (Or.inl rfl)) (zae (zaR (ziC hr (jv 4) (jv 3)) (zae ziz) zav)))
    (zae (zaj (zag (x19.zg r) hr rfl x19.zm x19.zk x19.zb (zaa (jv 0) (zaa (jv 1) (zaa (jv 2) zab))))))))
theorem o21 {f : Addr} {d : FuncData} (F : Fun K "_law_cell" "_law_cell" s21 f d) (n_len : mg "len" = none) : ∀ r, FnOk P w K mg base CX0 r f d ["script", "k"] (liftSp K (zas r)) := by
  intro r
  induction r with
  | zero => exact zax
  | succ r ih => exact zaU F sc21 rfl rfl fun cdv A outer s H E hr => (zad (zaR (zmH (jv 1) (zbL rfl n_len (zaa (jv 0) zab))) (zae (zaj (zay (jv 0) (jv 1)))) zav)
    (zae (zaj zac)))
theorem o22 {f : Addr} {d : FuncData} (F : Fun K "_law_words" "_law_words" s22 f d) (n_range : mg "range" = none) (n_len : mg "len" = none) (n_int : mg "int" = none) : ∀ r, FnOk P w K mg base CX0 r f d ["one", "two", "great"] (liftSp K (zaK r)) := by
  intro r
  induction r with
  | zero => exact zax
  | succ r ih => exact zaU F sc22 rfl rfl fun cdv A outer s H E hr => (zad (zam (i := 3) sc22.nd rfl (Or.inr rfl) zjy)
    (zad (zam (i := 4) sc22.nd rfl (Or.inl rfl) (zbQ (jv 1) (zpz zac zac)))
    (zad (zam (i := 5) sc22.nd rfl (Or.inr rfl) (zaM (zaP zab)))
    (zad (zbl (zcW rfl n_range (zaa (zbb zac (zbQ (jv 0) zac)) zab)) (zak (i := 6) sc22.nd rfl (Or.inr rfl)) (zad (zbj (zbs (jv 5) (zaa (zbQ (jv 4) zac) zab)))
    (zae (zam (i := 4) sc22.nd rfl (Or.inl rfl) (zca (jv 4) zac)))))
    (zad (zam (i := 7) sc22.nd rfl (Or.inr rfl) (zbQ (zca (jv 0) zac) (zbL rfl n_len (zaa (jv 5) zab))))
    (zad (zam (i := 8) sc22.nd rfl (Or.inl rfl) (zaM (zaP zab)))
    (zad (zbl (zcW rfl n_range (zaa zac zab)) (zak (i := 6) sc22.nd rfl (Or.inr rfl)) (zad (zam (i := 9) sc22.nd rfl (Or.inl rfl) (zmz zjy (zbN (N := ["j", "signs", "base", "k", "at"]) (k := 1) (fr := [3, 5, 6, 7]) ⟨rfl, by decide +kernel, rfl, rfl, rfl, rfl, rfl, rfl, rfl⟩ (zcW rfl n_range (zaa (zbL rfl n_len (zaa (jv 5) zab)) zab)) (fun _ _ _ _ => (zak (i := 0) (show List.Nodup [("j" : Str), ("signs" : Str), ("base" : Str), ("k" : Str), ("at" : Str)] from by decide +kernel) rfl (Or.inl rfl))) (fun _ _ _ _ => zbH) (fun _ _ _ _ => (zay (jv 1) (zbQ (zbb (zay (jv 2) (jv 0)) (znj (jv 3) (zkq rfl n_int (zaa (zmb hr (jv 0) (jv 4)) zab)))) zac))))))
    (zad (zaR (zbV (jv 2)) (zae (zam (i := 9) sc22.nd rfl (Or.inl rfl) (zbb (zmv (zay (jv 9) zac)) (zce (jv 9) (zaI zac) zaJ)))) zav)
    (zae (zbj (zbs (jv 8) (zaa (jv 9) zab)))))))
    (zad (zaR (JW.jt (zie (zcI hr (zbQ (zca (jv 0) zac) zac) zac) (zeZ (zfS (zbV (jv 2)))))) (zae (zam (i := 8) sc22.nd rfl (Or.inl rfl) (zaM (zhc (zpl (jv 8) zaJ (zaI zac)) (zaP (zaa (zay (jv 8) zac) (zaa (zay (jv 8) zac) (zaa (zay (jv 8) zac) zab)))))))) zav)
    (zae (zaj (jv 8)))))))))))
theorem o23 {f : Addr} {d : FuncData} (F : Fun K "_law_count" "_law_count" s23 f d) (b : Binds K d ["side"] []) (m : mg "_law_count" = some (.ref f)) (n_isinstance : mg "isinstance" = none) (n_int : mg "int" = none) (n_sum : mg "sum" = none) : ∀ r, FnOk P w K mg base CX0 r f d ["side"] (liftSp K (zan r)) := by
  intro r
  induction r with
  | zero => exact zax
  | succ r ih => exact zaU F sc23 rfl rfl fun cdv A outer s H E hr => (zad (zaR (zbV (zds rfl n_isinstance rfl n_int PyProof.Rows.boot_int (jv 0) (by decide) (by decide) (kitA _ (by simp)))) (zae (zaj zac)) zav)
    (zae (zaj (zji rfl n_sum (zbN (N := ["one"]) (k := 1) (fr := []) ⟨rfl, by decide +kernel, rfl, rfl, rfl, rfl, rfl, rfl, rfl⟩ (zbt (zce (jv 0) (zaI zac) zaJ)) (fun _ _ _ _ => (zak (i := 0) (show List.Nodup [("one" : Str)] from by decide +kernel) rfl (Or.inl rfl))) (fun _ _ _ _ => zbH) (fun _ _ _ _ => (zag ih hr rfl m F.kp b (zaa (jv 0) zab))))))))
theorem o24 {f : Addr} {d : FuncData} (F : Fun K "_law_filled" "_law_filled" s24 f d) (b : Binds K d ["side", "things"] []) (m : mg "_law_filled" = some (.ref f)) (n_isinstance : mg "isinstance" = none) (n_int : mg "int" = none) (n_tuple : mg "tuple" = none) : ∀ r, FnOk P w K mg base CX0 r f d ["side", "things"] (liftSp K (zaA r)) := by
  intro r
  induction r with
  | zero => exact zax
  | succ r ih => exact zaU F sc24 rfl rfl fun cdv A outer s H E hr => (zad (zaR (zbV (zds rfl n_isinstance rfl n_int PyProof.Rows.boot_int (jv 0) (by decide) (by decide) (kitA _ (by simp)))) (zae (zaj (zay (jv 1) (jv 0)))) zav)
    (zae (zaj (zbb (zce (jv 0) zaJ (zaI zac)) (zjI rfl n_tuple (zbN (N := ["one", "things"]) (k := 1) (fr := [1]) ⟨rfl, by decide +kernel, rfl, rfl, rfl, rfl, rfl, rfl, rfl⟩ (zbt (zce (jv 0) (zaI zac) zaJ)) (fun _ _ _ _ => (zak (i := 0) (show List.Nodup [("one" : Str), ("things" : Str)] from by decide +kernel) rfl (Or.inl rfl))) (fun _ _ _ _ => zbH) (fun _ _ _ _ => (zag ih hr rfl m F.kp b (zaa (jv 0) (zaa (jv 1) zab))))))))))
theorem o25 {f : Addr} {d : FuncData} (F : Fun K "_law_item" "_law_item" s25 f d) : ∀ r, FnOk P w K mg base CX0 r f d ["draw", "many", "w"] (liftSp K (zbf r)) := by
  intro r
  induction r with
  | zero => exact zax
  | succ r ih => exact zaU F sc25 rfl rfl fun cdv A outer s H E hr => (zad (zaR (JW.jt (zie (ziT (jv 1) zac) (zeZ (ziT (zbQ (jv 0) zac) zac)))) (zae (zaj (zbQ (zca (jv 0) zac) (jv 1)))) zav)
    (zae (zaj (zap (zaa (zay (jv 2) (zil (zaP (zaa zac (zaa zac zab))) (zbQ (zca (jv 0) zac) zac))) zab)))))
theorem o26 {f : Addr} {d : FuncData} (F : Fun K "_law_right" "_law_right" s26 f d) (x25 : Cal P w K mg base "_law_item" ["draw", "many", "w"] zbf) : ∀ r, FnOk P w K mg base CX0 r f d ["draw", "many", "w"] (liftSp K (zbk r)) := by
  intro r
  induction r with
  | zero => exact zax
  | succ r ih => exact zaU F sc26 rfl rfl fun cdv A outer s H E hr => (zad (zam (i := 3) sc26.nd rfl (Or.inl rfl) (zag (x25.zg r) hr rfl x25.zm x25.zk x25.zb (zaa (zca (jv 0) zac) (zaa (jv 1) (zaa (jv 2) zab)))))
    (zad (zam (i := 4) sc26.nd rfl (Or.inl rfl) (zag (x25.zg r) hr rfl x25.zm x25.zk x25.zb (zaa (zca (jv 0) zac) (zaa (jv 1) (zaa (jv 2) zab)))))
    (zad (zam (i := 5) sc26.nd rfl (Or.inl rfl) (zbQ (jv 0) zac))
    (zad (zaR (zcI hr (jv 5) zac) (zae (zaj (jv 3))) zav)
    (zad (zaR (JW.jt (zko (zcI hr (jv 5) zac) (zge (zcI hr (jv 1) zac)))) (zae (zaj (zap (zaa (zay (jv 2) zac) (zaa (jv 3) zab))))) zav)
    (zad (zaR (zcI hr (jv 5) zac) (zae (zaj (zap (zaa (zay (jv 2) zac) (zaa (jv 3) (zaa (jv 4) zab)))))) zav)
    (zad (zaR (zcI hr (jv 5) zac) (zae (zaj (zap (zaa (zay (jv 2) zac) (zaa (jv 3) (zaa (jv 3) zab)))))) zav)
    (zad (zaR (zcI hr (jv 5) zac) (zae (zaj (zap (zaa (zay (jv 2) zac) (zaa (zap (zaa (zay (jv 2) zac) (zaa (jv 3) zab))) (zaa (jv 4) zab)))))) zav)
    (zad (zaR (zcI hr (jv 5) zac) (zae (zaj (zap (zaa (zay (jv 2) zac) (zaa (jv 3) zab))))) zav)
    (zae (zaj (zap (zaa (zay (jv 2) zac) (zaa (jv 3) (zaa (jv 4) zab)))))))))))))))
theorem o27 {f : Addr} {d : FuncData} (F : Fun K "_law_lefts" "_law_lefts" s27 f d) : ∀ r, FnOk P w K mg base CX0 r f d ["way", "head", "c", "d"] (liftSp K (zbo r)) := by
  intro r
  induction r with
  | zero => exact zax
  | succ r ih => exact zaU F sc27 rfl rfl fun cdv A outer s H E hr => (zad (zaR (zcI hr (jv 0) zac) (zae (zaj (zaM (zaP (zaa (zap (zaa (jv 1) (zaa zac zab))) zab))))) zav)
    (zad (zaR (zcI hr (jv 0) zac) (zae (zaj (zaM (zaP (zaa (zap (zaa (jv 1) (zaa zac (zaa zac zab)))) zab))))) zav)
    (zad (zaR (zcI hr (jv 0) zac) (zae (zaj (zaM (zaP (zaa (zap (zaa (jv 1) (zaa (zap (zaa (jv 2) zab)) zab))) (zaa (zap (zaa (jv 1) (zaa (zap (zaa (jv 3) (zaa zac zab))) zab))) zab)))))) zav)
    (zad (zaR (zcI hr (jv 0) zac) (zae (zaj (zaM (zaP (zaa (zap (zaa (jv 1) (zaa (zap (zaa (jv 2) zab)) (zaa zac zab)))) (zaa (zap (zaa (jv 1) (zaa (zap (zaa (jv 3) (zaa zac zab))) (zaa zac zab)))) zab)))))) zav)
    (zad (zaR (zcI hr (jv 0) zac) (zae (zaj (zaM (zaP (zaa (zap (zaa (jv 1) (zaa (zap (zaa (jv 3) (zaa (zap (zaa (jv 3) (zaa zac zab))) zab))) (zaa zac (zaa zac zab))))) (zaa (zap (zaa (jv 1) (zaa (zap (zaa (jv 3) (zaa (zap (zaa (jv 2) zab)) zab))) (zaa zac (zaa zac zab))))) zab)))))) zav)
    (zae (zaj (zaM (zaP (zaa (zap (zaa (jv 1) zab)) zab))))))))))
theorem o28 {f : Addr} {d : FuncData} (F : Fun K "_law_book" "_law_book" s28 f d) (x27 : Cal P w K mg base "_law_lefts" ["way", "head", "c", "d"] zbo) (x26 : Cal P w K mg base "_law_right" ["draw", "many", "w"] zbk) (x21 : Cal P w K mg base "_law_cell" ["script", "k"] zas) (x23 : Cal P w K mg base "_law_count" ["side"] zan) (n_range : mg "range" = none) (n_enumerate : mg "enumerate" = none) (n_len : mg "len" = none) : ∀ r, FnOk P w K mg base CX0 r f d ["script", "k", "w", "titles"] (liftSp K (zbe r)) := by
  intro r
  induction r with
  | zero => exact zax
  | succ r ih => exact zaU F sc28 rfl rfl fun cdv A outer s H E hr => (zad (zam (i := 4) sc28.nd rfl (Or.inl rfl) (zaM (zaP zab)))
    (zad (zbl (zcW rfl n_range (zaa zac zab)) (zak (i := 5) sc28.nd rfl (Or.inl rfl)) (zad (zam (i := 6) sc28.nd rfl (Or.inl rfl) (zag (x27.zg r) hr rfl x27.zm x27.zk x27.zb (zaa (zbQ (zag (x21.zg r) hr rfl x21.zm x21.zk x21.zb (zaa (jv 0) (zaa (zbb (jv 1) (jv 5)) zab))) zac) (zaa (zay (jv 2) (jv 5)) (zaa (zay (jv 2) zac) (zaa (zay (jv 2) zac) zab))))))
    (zae (zbl (zdZ rfl n_enumerate (jv 6)) (zcK (zaz (zak (i := 7) sc28.nd rfl (Or.inl rfl)) (zaz (zak (i := 8) sc28.nd rfl (Or.inl rfl)) zbZ)) (glS (glS gl0))) (zad (zam (i := 9) sc28.nd rfl (Or.inl rfl) (zag (x26.zg r) hr rfl x26.zm x26.zk x26.zb (zaa (zag (x21.zg r) hr rfl x21.zm x21.zk x21.zb (zaa (jv 0) (zaa (zbb (zbb (zbb (jv 1) zac) (znj zac (jv 5))) (jv 7)) zab))) (zaa (zag (x23.zg r) hr rfl x23.zm x23.zk x23.zb (zaa (jv 8) zab)) (zaa (jv 2) zab)))))
    (zae (zbj (zbs (jv 4) (zaa (zap (zaa (zay (jv 3) (zbL rfl n_len (zaa (jv 4) zab))) (zaa (jv 8) (zaa (jv 9) zab)))) zab)))))))))
    (zae (zaj (jv 4)))))
theorem o29 {f : Addr} {d : FuncData} (F : Fun K "_law_plan" "_law_plan" s29 f d) (x23 : Cal P w K mg base "_law_count" ["side"] zan) (n_len : mg "len" = none) (n_min : mg "min" = none) : ∀ r, FnOk P w K mg base CX0 r f d ["cells", "book", "w", "room"] (liftSp K (zbh r)) := by
  intro r
  induction r with
  | zero => exact zax
  | succ r ih => exact zaU F sc29 rfl rfl fun cdv A outer s H E hr => (zad (zam (i := 4) sc29.nd rfl (Or.inl rfl) (zaM (zaP zab)))
    (zad (zam (i := 5) sc29.nd rfl (Or.inl rfl) zac)
    (zad (zbl (zbt (jv 0)) (zak (i := 6) sc29.nd rfl (Or.inl rfl)) (zad (zam (i := 7) sc29.nd rfl (Or.inl rfl) (zbQ (jv 6) zac))
    (zad (zam (i := 8) sc29.nd rfl (Or.inl rfl) (zil (zaP (zaa zac (zaa zac (zaa zac (zaa zac zab))))) (zkK rfl n_min (zaa (jv 7) (zaa zac zab)))))
    (zad (zam (i := 9) sc29.nd rfl (Or.inl rfl) (zap (zaa (zeB zac) (zaa zac (zaa (zay (jv 2) (zil (zaP (zaa zac (zaa zac (zaa zac (zaa zac zab))))) (zkK rfl n_min (zaa (jv 7) (zaa zac zab))))) zab)))))
    (zad (zaR (ziT (jv 7) zac) (zad (zam (i := 10) sc29.nd rfl (Or.inl rfl) (zbQ (zca (jv 6) zac) (zbL rfl n_len (zaa (jv 1) zab))))
    (zad (zam (i := 8) sc29.nd rfl (Or.inl rfl) (zag (x23.zg r) hr rfl x23.zm x23.zk x23.zb (zaa (zay (zay (jv 1) (jv 10)) zac) zab)))
    (zad (zam (i := 9) sc29.nd rfl (Or.inl rfl) (zap (zaa (jv 10) (zaa (zbQ (zca (jv 6) zac) zac) (zaa zjy zab)))))
    (zae (zam (i := 5) sc29.nd rfl (Or.inl rfl) (zbb (jv 5) zac)))))) zav)
    (zae (zaR (JW.jt (zie (ziT (jv 3) zac) (zeZ (zmH (jv 5) zac)))) (zad (zam (i := 3) sc29.nd rfl (Or.inl rfl) (zgg (jv 3) zac))
    (zad (zam (i := 4) sc29.nd rfl (Or.inl rfl) (zaM (zoK (zqL (zaP (zaa (zap (zaa (zeB zac) (zaa zac (zaa (zay (jv 2) zac) (zaa (zaM (zaP zab)) zab))))) zab)) (zgg (jv 8) (zbL rfl n_len (zaa (jv 4) zab)))) (jv 4))))
    (zad (zam (i := 11) sc29.nd rfl (Or.inl rfl) (zgg (zbL rfl n_len (zaa (jv 4) zab)) (jv 8)))
    (zae (zam (i := 4) sc29.nd rfl (Or.inl rfl) (zaM (zhc (zpl (jv 4) zaJ (zaI (jv 11))) (zaP (zaa (zbb (jv 9) (zap (zaa (zce (jv 4) (zaI (jv 11)) zaJ) zab))) zab))))))))) zav)))))))
    (zad (zlN (ziT (zbL rfl n_len (zaa (jv 4) zab)) zac) (zae (zam (i := 4) sc29.nd rfl (Or.inl rfl) (zaM (zhc (zpl (jv 4) zaJ (zaI (zeB zac))) (zaP (zaa (zap (zaa (zeB zac) (zaa zac (zaa (zay (jv 2) zac) (zaa (zce (jv 4) (zaI (zeB zac)) zaJ) zab))))) zab)))))))
    (zae (zaj (zil (zki (jv 4) (zaP (zaa (zap (zaa (zeB zac) (zaa zac (zaa (zay (jv 2) zac) (zaa (zaM (zaP zab)) zab))))) zab))) zac)))))))
theorem o30 {f : Addr} {d : FuncData} (F : Fun K "_law_way" "_law_way" s30 f d) (x24 : Cal P w K mg base "_law_filled" ["side", "things"] zaA) (b : Binds K d ["plan", "book", "by"] []) (m : mg "_law_way" = some (.ref f)) (n_tuple : mg "tuple" = none) : ∀ r, FnOk P w K mg base CX0 r f d ["plan", "book", "by"] (liftSp K (zbn r)) := by
  intro r
  induction r with
  | zero => exact zax
  | succ r ih => exact zaU F sc30 rfl rfl fun cdv A outer s H E hr => (zad (zqo (jv 0) (zcK (zaz (zak (i := 3) sc30.nd rfl (Or.inl rfl)) (zaz (zak (i := 4) sc30.nd rfl (Or.inl rfl)) (zaz (zak (i := 5) sc30.nd rfl (Or.inl rfl)) (zaz (zak (i := 6) sc30.nd rfl (Or.inl rfl)) zbZ)))) (glS (glS (glS (glS gl0))))))
    (zad (zjE (i := 7) (N := ["one", "book", "by"]) (k := 1) (fr := [1, 2]) sc30.nd rfl (Or.inl rfl) ⟨rfl, by decide +kernel, rfl, rfl, rfl, rfl, rfl, rfl, rfl⟩ (zbt (jv 6)) (fun _ _ _ _ => (zak (i := 0) (show List.Nodup [("one" : Str), ("book" : Str), ("by" : Str)] from by decide +kernel) rfl (Or.inl rfl))) (fun _ _ _ _ => zbH) (fun _ _ _ _ => (zag ih hr rfl m F.kp b (zaa (jv 0) (zaa (jv 1) (zaa (jv 2) zab))))))
    (zad (zaR (zmH (jv 3) zac) (zae (zaj (zbb (zap (zaa (jv 5) zab)) (zcZ rfl n_tuple (zaa (jv 7) zab))))) zav)
    (zad (zaR (zcI hr (zbQ (zca (jv 4) (jv 2)) zac) zac) (zae (zaj (zbb (zap (zaa (zay (zay (jv 1) (jv 3)) zac) zab)) (zcZ rfl n_tuple (zaa (jv 7) zab))))) zav)
    (zae (zaj (zag (x24.zg r) hr rfl x24.zm x24.zk x24.zb (zaa (zay (zay (jv 1) (jv 3)) zac) (zaa (jv 7) zab)))))))))
theorem o31 {f : Addr} {d : FuncData} (F : Fun K "_law_made" "_law_made" s31 f d) (b : Binds K d ["book", "way", "which"] []) (m : mg "_law_made" = some (.ref f)) (x24 : Cal P w K mg base "_law_filled" ["side", "things"] zaA) (n_tuple : mg "tuple" = none) : ∀ r, FnOk P w K mg base CX0 r f d ["book", "way", "which"] (liftSp K (zaY r)) := by
  intro r
  induction r with
  | zero => exact zax
  | succ r ih => exact zaU F sc31 rfl rfl fun cdv A outer s H E hr => (zad (zjE (i := 3) (N := ["one", "book", "which"]) (k := 1) (fr := [0, 2]) sc31.nd rfl (Or.inl rfl) ⟨rfl, by decide +kernel, rfl, rfl, rfl, rfl, rfl, rfl, rfl⟩ (zbt (zce (jv 1) (zaI zac) zaJ)) (fun _ _ _ _ => (zak (i := 0) (show List.Nodup [("one" : Str), ("book" : Str), ("which" : Str)] from by decide +kernel) rfl (Or.inl rfl))) (fun _ _ _ _ => zbH) (fun _ _ _ _ => (zag ih hr rfl m F.kp b (zaa (jv 1) (zaa (jv 0) (zaa (jv 2) zab))))))
    (zad (zbl (zbt (jv 0)) (zak (i := 4) sc31.nd rfl (Or.inl rfl)) (zae (zaR (zcI hr (zay (jv 4) zac) (zay (jv 1) zac)) (zae (zaj (zag (x24.zg r) hr rfl x24.zm x24.zk x24.zb (zaa (zay (jv 4) (jv 2)) (zaa (jv 3) zab))))) zav)))
    (zae (zaj (zbb (zce (jv 1) zaJ (zaI zac)) (zcZ rfl n_tuple (zaa (jv 3) zab)))))))
theorem o32 {f : Addr} {d : FuncData} (F : Fun K "_law_places" "_law_places" s32 f d) (b : Binds K d ["t"] []) (m : mg "_law_places" = some (.ref f)) (n_isinstance : mg "isinstance" = none) (n_int : mg "int" = none) (n_enumerate : mg "enumerate" = none) : ∀ r, FnOk P w K mg base CX0 r f d ["t"] (liftSp K (zao r)) := by
  intro r
  induction r with
  | zero => exact zax
  | succ r ih => exact zaU F sc32 rfl rfl fun cdv A outer s H E hr => (zad (zam (i := 1) sc32.nd rfl (Or.inl rfl) (zaM (zaP (zaa (zap zab) zab))))
    (zad (zaR (zfS (zbV (zds rfl n_isinstance rfl n_int PyProof.Rows.boot_int (jv 0) (by decide) (by decide) (kitA _ (by simp))))) (zae (zbl (zdZ rfl n_enumerate (zce (jv 0) (zaI zac) zaJ)) (zcK (zaz (zak (i := 2) sc32.nd rfl (Or.inr rfl)) (zaz (zak (i := 3) sc32.nd rfl (Or.inl rfl)) zbZ)) (glS (glS gl0))) (zae (zam (i := 1) sc32.nd rfl (Or.inl rfl) (zaM (zki (jv 1) (zbN (N := ["place", "i"]) (k := 1) (fr := [2]) ⟨rfl, by decide +kernel, rfl, rfl, rfl, rfl, rfl, rfl, rfl⟩ (zbt (zag ih hr rfl m F.kp b (zaa (jv 3) zab))) (fun _ _ _ _ => (zak (i := 0) (show List.Nodup [("place" : Str), ("i" : Str)] from by decide +kernel) rfl (Or.inl rfl))) (fun _ _ _ _ => zbH) (fun _ _ _ _ => (zbb (zap (zaa (jv 1) zab)) (jv 0)))))))))) zav)
    (zae (zaj (jv 1)))))
theorem o33 {f : Addr} {d : FuncData} (F : Fun K "_law_at" "_law_at" s33 f d) : ∀ r, FnOk P w K mg base CX0 r f d ["t", "place"] (liftSp K (zba r)) := by
  intro r
  induction r with
  | zero => exact zax
  | succ r ih => exact zaU F sc33 rfl rfl fun cdv A outer s H E hr => (zad (zbl (zbt (jv 1)) (zak (i := 2) sc33.nd rfl (Or.inl rfl)) (zae (zam (i := 0) sc33.nd rfl (Or.inl rfl) (zay (jv 0) (zbb (jv 2) zac)))))
    (zae (zaj (jv 0))))
theorem o34 {f : Addr} {d : FuncData} (F : Fun K "_law_stands" "_law_stands" s34 f d) (b : Binds K d ["left", "shape"] []) (m : mg "_law_stands" = some (.ref f)) (n_isinstance : mg "isinstance" = none) (n_int : mg "int" = none) (n_all : mg "all" = none) (n_len : mg "len" = none) (n_zip : mg "zip" = none) : ∀ r, FnOk P w K mg base CX0 r f d ["left", "shape"] (liftSp K (zat r)) := by
  intro r
  induction r with
  | zero => exact zax
  | succ r ih => exact zaU F sc34 rfl rfl fun cdv A outer s H E hr => (zad (zaR (zbV (zds rfl n_isinstance rfl n_int PyProof.Rows.boot_int (jv 0) (by decide) (by decide) (kitA _ (by simp)))) (zae (zaj zeb)) zav)
    (zad (zaR (JW.jt (zko (zoG hr (zay (jv 0) zac) (zay (jv 1) zac)) (zge (zoG hr (zbL rfl n_len (zaa (jv 0) zab)) (zbL rfl n_len (zaa (jv 1) zab)))))) (zae (zaj zeb)) zav)
    (zae (zaj (zoH rfl n_all (zbN (N := ["one", "other"]) (k := 2) (fr := []) ⟨rfl, by decide +kernel, rfl, rfl, rfl, rfl, rfl, rfl, rfl⟩ (zif rfl n_zip (zce (jv 0) (zaI zac) zaJ) (zce (jv 1) (zaI zac) zaJ)) (fun _ _ _ _ => (zcK (zaz (zak (i := 0) (show List.Nodup [("one" : Str), ("other" : Str)] from by decide +kernel) rfl (Or.inl rfl)) (zaz (zak (i := 1) (show List.Nodup [("one" : Str), ("other" : Str)] from by decide +kernel) rfl (Or.inl rfl)) zbZ)) (glS (glS gl0)))) (fun _ _ _ _ => zbH) (fun _ _ _ _ => (zag ih hr rfl m F.kp b (zaa (jv 0) (zaa (jv 1) zab))))))))))
theorem o35 {f : Addr} {d : FuncData} (F : Fun K "_law_open" "_law_open" s35 f d) (x32 : Cal P w K mg base "_law_places" ["t"] zao) (x34 : Cal P w K mg base "_law_stands" ["left", "shape"] zat) (x33 : Cal P w K mg base "_law_at" ["t", "place"] zba) : ∀ r, FnOk P w K mg base CX0 r f d ["book", "shape"] (liftSp K (zbg r)) := by
  intro r
  induction r with
  | zero => exact zax
  | succ r ih => exact zaU F sc35 rfl rfl fun cdv A outer s H E hr => (zad (zam (i := 2) sc35.nd rfl (Or.inl rfl) (zaM (zaP zab)))
    (zad (zbl (zbt (zag (x32.zg r) hr rfl x32.zm x32.zk x32.zb (zaa (jv 1) zab))) (zak (i := 3) sc35.nd rfl (Or.inl rfl)) (zae (zbl (zbt (jv 0)) (zak (i := 4) sc35.nd rfl (Or.inl rfl)) (zae (zaR (zbV (zag (x34.zg r) hr rfl x34.zm x34.zk x34.zb (zaa (zay (jv 4) zac) (zaa (zag (x33.zg r) hr rfl x33.zm x33.zk x33.zb (zaa (jv 1) (zaa (jv 3) zab))) zab)))) (zae (zbj (zbs (jv 2) (zaa (zap (zaa (jv 3) (zaa (zay (jv 4) zac) zab))) zab)))) zav)))))
    (zae (zaj (jv 2)))))
theorem o36 {f : Addr} {d : FuncData} (F : Fun K "_law_titles_in" "_law_titles_in" s36 f d) (b : Binds K d ["way", "titles"] []) (m : mg "_law_titles_in" = some (.ref f)) (n_int : mg "int" = none) (n_sum : mg "sum" = none) : ∀ r, FnOk P w K mg base CX0 r f d ["way", "titles"] (liftSp K (zaD r)) := by
  intro r
  induction r with
  | zero => exact zax
  | succ r ih => exact zaU F sc36 rfl rfl fun cdv A outer s H E hr => (zae (zaj (zbb (zkq rfl n_int (zaa (zrQ hr (zay (jv 0) zac) (jv 1)) zab)) (zji rfl n_sum (zbN (N := ["one", "titles"]) (k := 1) (fr := [1]) ⟨rfl, by decide +kernel, rfl, rfl, rfl, rfl, rfl, rfl, rfl⟩ (zbt (zce (jv 0) (zaI zac) zaJ)) (fun _ _ _ _ => (zak (i := 0) (show List.Nodup [("one" : Str), ("titles" : Str)] from by decide +kernel) rfl (Or.inl rfl))) (fun _ _ _ _ => zbH) (fun _ _ _ _ => (zag ih hr rfl m F.kp b (zaa (jv 0) (zaa (jv 1) zab)))))))))
theorem o37 {f : Addr} {d : FuncData} (F : Fun K "law" "law" s37 f d) (x22 : Cal P w K mg base "_law_words" ["one", "two", "great"] zaK) (x28 : Cal P w K mg base "_law_book" ["script", "k", "w", "titles"] zbe) (x30 : Cal P w K mg base "_law_way" ["plan", "book", "by"] zbn) (x31 : Cal P w K mg base "_law_made" ["book", "way", "which"] zaY) (x15 : Cal P w K mg base "uses" ["book", "way"] zed) (x35 : Cal P w K mg base "_law_open" ["book", "shape"] zbg) (x21 : Cal P w K mg base "_law_cell" ["script", "k"] zas) (x29 : Cal P w K mg base "_law_plan" ["cells", "book", "w", "room"] zbh) (x20 : Cal P w K mg base "way_of" ["book", "shape", "places"] zck) (x36 : Cal P w K mg base "_law_titles_in" ["way", "titles"] zaD) (n_enumerate : mg "enumerate" = none) (n_isinstance : mg "isinstance" = none) (n_list : mg "list" = none) (n_len : mg "len" = none) : ∀ r, FnOk P w K mg base CX0 r f d ["script"] (liftSp K (zcc r)) := by
  intro r
  induction r with
  | zero => exact zax
  | succ r ih => 
    refine zaU F sc37 rfl rfl fun cdv A outer s H E hr => ?_
    delta zbT zcm zch zcf zcq zcn zct zcO zcQ zcS
    exact (zad (zam (i := 1) sc37.nd rfl (Or.inl rfl) (zag (x22.zg r) hr rfl x22.zm x22.zk x22.zb (zaa (zag (x21.zg r) hr rfl x21.zm x21.zk x21.zb (zaa (jv 0) (zaa zac zab))) (zaa (zag (x21.zg r) hr rfl x21.zm x21.zk x21.zb (zaa (jv 0) (zaa zac zab))) (zaa zeb zab)))))
    (zad (zam (i := 2) sc37.nd rfl (Or.inl rfl) (zag (x22.zg r) hr rfl x22.zm x22.zk x22.zb (zaa (zag (x21.zg r) hr rfl x21.zm x21.zk x21.zb (zaa (jv 0) (zaa zac zab))) (zaa (zag (x21.zg r) hr rfl x21.zm x21.zk x21.zb (zaa (jv 0) (zaa zac zab))) (zaa zeb zab)))))
    (zad (zam (i := 3) sc37.nd rfl (Or.inl rfl) (zag (x28.zg r) hr rfl x28.zm x28.zk x28.zb (zaa (jv 0) (zaa zac (zaa (jv 1) (zaa (jv 2) zab))))))
    (zad (zam (i := 4) sc37.nd rfl (Or.inl rfl) (zag (x30.zg r) hr rfl x30.zm x30.zk x30.zb (zaa (zag (x29.zg r) hr rfl x29.zm x29.zk x29.zb (zaa (zce (jv 0) (zaI zac) zaJ) (zaa (jv 3) (zaa (jv 1) (zaa zac zab))))) (zaa (jv 3) (zaa zac zab)))))
    (zad (zam (i := 5) sc37.nd rfl (Or.inl rfl) (zag (x31.zg r) hr rfl x31.zm x31.zk x31.zb (zaa (jv 3) (zaa (jv 4) (zaa zac zab)))))
    (zad (zam (i := 6) sc37.nd rfl (Or.inl rfl) (zag (x15.zg r) hr rfl x15.zm x15.zk x15.zb (zaa (jv 3) (zaa (jv 4) zab))))
    (zad (zaR (JW.jt (zko (zfS (zbV (zds rfl n_isinstance rfl n_list PyProof.Rows.boot_list (jv 6) (by decide) (by decide) (kitA _ (by simp))))) (zge (zoG hr (zbL rfl n_len (zaa (jv 6) zab)) (zag (x36.zg r) hr rfl x36.zm x36.zk x36.zb (zaa (jv 4) (zaa (jv 2) zab))))))) (zae (zaj zeb)) zav)
    (zad (zam (i := 7) sc37.nd rfl (Or.inl rfl) (zag (x35.zg r) hr rfl x35.zm x35.zk x35.zb (zaa (jv 3) (zaa (jv 5) zab))))
    (zad (zbl (zdZ rfl n_enumerate (jv 6)) (zcK (zaz (zak (i := 8) sc37.nd rfl (Or.inl rfl)) (zaz (zak (i := 9) sc37.nd rfl (Or.inl rfl)) zbZ)) (glS (glS gl0))) (zae (zaR (JW.jt (zko (ziC hr (jv 9) (jv 7)) (zge (JW.jt (zie (ziT (jv 8) zac) (zeZ (zpq hr (zay (zay (jv 6) (zgg (jv 8) zac)) zac) (zay (jv 9) zac)))))))) (zae (zaj zeb)) zav)))
    (zae (zaj (zmb hr (zag (x20.zg r) hr rfl x20.zm x20.zk x20.zb (zaa (jv 3) (zaa (jv 5) (zaa (zaM (zbN (N := ["one"]) (k := 1) (fr := []) ⟨rfl, by decide +kernel, rfl, rfl, rfl, rfl, rfl, rfl, rfl⟩ (zbt (jv 6)) (fun _ _ _ _ => (zak (i := 0) (show List.Nodup [("one" : Str)] from by decide +kernel) rfl (Or.inl rfl))) (fun _ _ _ _ => zbH) (fun _ _ _ _ => (zay (jv 0) zac)))) zab)))) (jv 4)))))))))))))
end
theorem all_mk {l : PySem.W.OpenLaw} {w : World} {K : PySem.W.Frag} {h : Heap} {mg : Str → Option Value} {fa : Addr} (X : K.In h) (G : h.Ns mainGlobals mg) (hfa : mg "law" = some (.ref fa))
    (D0 : Dfn K "parts_of" s0)
    (D2 : Dfn K "places" s2)
    (D1 : Dfn K "gather_places" s1)
    (D4 : Dfn K "part" s4)
    (D3 : Dfn K "numbered_part" s3)
    (D5 : Dfn K "blank_places" s5)
    (D8 : Dfn K "matched" s8)
    (D7 : Dfn K "gather_matched" s7)
    (D6 : Dfn K "have_one_top" s6)
    (D9 : Dfn K "turning_of" s9)
    (D10 : Dfn K "part_places" s10)
    (D13 : Dfn K "open_uses" s13)
    (D12 : Dfn K "gather_open" s12)
    (D11 : Dfn K "open_turning" s11)
    (D15 : Dfn K "uses" s15)
    (D14 : Dfn K "gather_uses" s14)
    (D16 : Dfn K "places_of" s16)
    (D20 : Dfn K "way_of" s20)
    (D19 : Dfn K "way_with" s19)
    (D18 : Dfn K "way_within" s18)
    (D17 : Dfn K "turned_top" s17)
    (D21 : Dfn K "_law_cell" s21)
    (D22 : Dfn K "_law_words" s22)
    (D23 : Dfn K "_law_count" s23)
    (D24 : Dfn K "_law_filled" s24)
    (D25 : Dfn K "_law_item" s25)
    (D26 : Dfn K "_law_right" s26)
    (D27 : Dfn K "_law_lefts" s27)
    (D28 : Dfn K "_law_book" s28)
    (D29 : Dfn K "_law_plan" s29)
    (D30 : Dfn K "_law_way" s30)
    (D31 : Dfn K "_law_made" s31)
    (D32 : Dfn K "_law_places" s32)
    (D33 : Dfn K "_law_at" s33)
    (D34 : Dfn K "_law_stands" s34)
    (D35 : Dfn K "_law_open" s35)
    (D36 : Dfn K "_law_titles_in" s36)
    (D37 : Dfn K "law" s37)
    (z_all : PySem.W.nsIn K mainGlobals "all" = some none)
    (z_dict : PySem.W.nsIn K mainGlobals "dict" = some none)
    (z_enumerate : PySem.W.nsIn K mainGlobals "enumerate" = some none)
    (z_int : PySem.W.nsIn K mainGlobals "int" = some none)
    (z_isinstance : PySem.W.nsIn K mainGlobals "isinstance" = some none)
    (z_len : PySem.W.nsIn K mainGlobals "len" = some none)
    (z_list : PySem.W.nsIn K mainGlobals "list" = some none)
    (z_min : PySem.W.nsIn K mainGlobals "min" = some none)
    (z_range : PySem.W.nsIn K mainGlobals "range" = some none)
    (z_sum : PySem.W.nsIn K mainGlobals "sum" = some none)
    (z_tuple : PySem.W.nsIn K mainGlobals "tuple" = some none)
    (z_zip : PySem.W.nsIn K mainGlobals "zip" = some none)
    {t_LEFT : Tok} (z_LEFT : PySem.W.nsIn K mainGlobals "LEFT" = some (some (.int 1 t_LEFT)))
    : ∃ fd : FuncData, (∀ (s : Shared) (v : Value), BindsTo s fd ⟨[v], []⟩ [("script", v)]) ∧ ∀ base : Heap, K.In base → base.Ns mainGlobals mg → FnOk l.prog w K mg base CX0 200 fa fd ["script"] (liftSp K (zcc 200)) := by
  obtain ⟨f0, d0, a0, F0⟩ := D0
  obtain ⟨f2, d2, a2, F2⟩ := D2
  obtain ⟨f1, d1, a1, F1⟩ := D1
  obtain ⟨f4, d4, a4, F4⟩ := D4
  obtain ⟨f3, d3, a3, F3⟩ := D3
  obtain ⟨f5, d5, a5, F5⟩ := D5
  obtain ⟨f8, d8, a8, F8⟩ := D8
  obtain ⟨f7, d7, a7, F7⟩ := D7
  obtain ⟨f6, d6, a6, F6⟩ := D6
  obtain ⟨f9, d9, a9, F9⟩ := D9
  obtain ⟨f10, d10, a10, F10⟩ := D10
  obtain ⟨f13, d13, a13, F13⟩ := D13
  obtain ⟨f12, d12, a12, F12⟩ := D12
  obtain ⟨f11, d11, a11, F11⟩ := D11
  obtain ⟨f15, d15, a15, F15⟩ := D15
  obtain ⟨f14, d14, a14, F14⟩ := D14
  obtain ⟨f16, d16, a16, F16⟩ := D16
  obtain ⟨f20, d20, a20, F20⟩ := D20
  obtain ⟨f19, d19, a19, F19⟩ := D19
  obtain ⟨f18, d18, a18, F18⟩ := D18
  obtain ⟨f17, d17, a17, F17⟩ := D17
  obtain ⟨f21, d21, a21, F21⟩ := D21
  obtain ⟨f22, d22, a22, F22⟩ := D22
  obtain ⟨f23, d23, a23, F23⟩ := D23
  obtain ⟨f24, d24, a24, F24⟩ := D24
  obtain ⟨f25, d25, a25, F25⟩ := D25
  obtain ⟨f26, d26, a26, F26⟩ := D26
  obtain ⟨f27, d27, a27, F27⟩ := D27
  obtain ⟨f28, d28, a28, F28⟩ := D28
  obtain ⟨f29, d29, a29, F29⟩ := D29
  obtain ⟨f30, d30, a30, F30⟩ := D30
  obtain ⟨f31, d31, a31, F31⟩ := D31
  obtain ⟨f32, d32, a32, F32⟩ := D32
  obtain ⟨f33, d33, a33, F33⟩ := D33
  obtain ⟨f34, d34, a34, F34⟩ := D34
  obtain ⟨f35, d35, a35, F35⟩ := D35
  obtain ⟨f36, d36, a36, F36⟩ := D36
  obtain ⟨f37, d37, a37, F37⟩ := D37
  have e := hfa.symm.trans (PySem.W.mg_of X G a37)
  cases e
  have n_all := PySem.W.mg_none_of X G z_all
  have n_dict := PySem.W.mg_none_of X G z_dict
  have n_enumerate := PySem.W.mg_none_of X G z_enumerate
  have n_int := PySem.W.mg_none_of X G z_int
  have n_isinstance := PySem.W.mg_none_of X G z_isinstance
  have n_len := PySem.W.mg_none_of X G z_len
  have n_list := PySem.W.mg_none_of X G z_list
  have n_min := PySem.W.mg_none_of X G z_min
  have n_range := PySem.W.mg_none_of X G z_range
  have n_sum := PySem.W.mg_none_of X G z_sum
  have n_tuple := PySem.W.mg_none_of X G z_tuple
  have n_zip := PySem.W.mg_none_of X G z_zip
  have g_LEFT := PySem.W.mg_of X G z_LEFT
  refine ⟨d37, fun s v => ?_, fun base _ _ => ?_⟩
  · obtain ⟨oc, od, kV, doc, pm, an, cdv, ct, osl, rfl, lk, hcd⟩ := F37.ex
    exact .of_eq rfl
  have b0 := F0.binds (ps := ["t"]) fun _ _ _ _ _ _ => n1 fun _ => rfl
  have m0 := PySem.W.mg_of X G a0
  have x0 : Cal l.prog w K mg base "parts_of" ["t"] zbm := ⟨_, _, o0 F0 n_isinstance n_int, b0, F0.kp, m0⟩
  have b1 := F1.binds (ps := ["t", "place", "found"]) fun _ _ _ _ _ _ => n3 fun _ _ _ => rfl
  have m1 := PySem.W.mg_of X G a1
  have x1 : Cal l.prog w K mg base "gather_places" ["t", "place", "found"] zaw := ⟨_, _, o1 F1 x0 b1 m1 n_enumerate, b1, F1.kp, m1⟩
  have b2 := F2.binds (ps := ["t"]) fun _ _ _ _ _ _ => n1 fun _ => rfl
  have m2 := PySem.W.mg_of X G a2
  have x2 : Cal l.prog w K mg base "places" ["t"] zcC := ⟨_, _, o2 F2 x1, b2, F2.kp, m2⟩
  have b3 := F3.binds (ps := ["t", "number"]) fun _ _ _ _ _ _ => n2 fun _ _ => rfl
  have m3 := PySem.W.mg_of X G a3
  have x3 : Cal l.prog w K mg base "numbered_part" ["t", "number"] zaO := ⟨_, _, o3 F3 x0 n_len, b3, F3.kp, m3⟩
  have b4 := F4.binds (ps := ["t", "place"]) fun _ _ _ _ _ _ => n2 fun _ _ => rfl
  have m4 := PySem.W.mg_of X G a4
  have x4 : Cal l.prog w K mg base "part" ["t", "place"] zeE := ⟨_, _, o4 F4 x3, b4, F4.kp, m4⟩
  have b5 := F5.binds (ps := ["side"]) fun _ _ _ _ _ _ => n1 fun _ => rfl
  have m5 := PySem.W.mg_of X G a5
  have x5 : Cal l.prog w K mg base "blank_places" ["side"] zaV := ⟨_, _, o5 F5 x2 x4 n_isinstance n_int, b5, F5.kp, m5⟩
  have b6 := F6.binds (ps := ["one", "other"]) fun _ _ _ _ _ _ => n2 fun _ _ => rfl
  have m6 := PySem.W.mg_of X G a6
  have x6 : Cal l.prog w K mg base "have_one_top" ["one", "other"] zaX := ⟨_, _, o6 F6 n_len, b6, F6.kp, m6⟩
  have b7 := F7.binds (ps := ["left", "t", "things"]) fun _ _ _ _ _ _ => n3 fun _ _ _ => rfl
  have m7 := PySem.W.mg_of X G a7
  have x7 : Cal l.prog w K mg base "gather_matched" ["left", "t", "things"] zar := ⟨_, _, o7 F7 x6 b7 m7 n_isinstance n_int n_zip, b7, F7.kp, m7⟩
  have b8 := F8.binds (ps := ["left", "t"]) fun _ _ _ _ _ _ => n2 fun _ _ => rfl
  have m8 := PySem.W.mg_of X G a8
  have x8 : Cal l.prog w K mg base "matched" ["left", "t"] zbF := ⟨_, _, o8 F8 x7, b8, F8.kp, m8⟩
  have b9 := F9.binds (ps := ["book", "title"]) fun _ _ _ _ _ _ => n2 fun _ _ => rfl
  have m9 := PySem.W.mg_of X G a9
  have x9 : Cal l.prog w K mg base "turning_of" ["book", "title"] zaS := ⟨_, _, o9 F9, b9, F9.kp, m9⟩
  have b10 := F10.binds (ps := ["book", "way"]) fun _ _ _ _ _ _ => n2 fun _ _ => rfl
  have m10 := PySem.W.mg_of X G a10
  have x10 : Cal l.prog w K mg base "part_places" ["book", "way"] zaB := ⟨_, _, o10 F10 x9 x5 n_range n_len g_LEFT, b10, F10.kp, m10⟩
  have b11 := F11.binds (ps := ["book", "shape"]) fun _ _ _ _ _ _ => n2 fun _ _ => rfl
  have m11 := PySem.W.mg_of X G a11
  have x11 : Cal l.prog w K mg base "open_turning" ["book", "shape"] zaG := ⟨_, _, o11 F11 x8 g_LEFT, b11, F11.kp, m11⟩
  have b12 := F12.binds (ps := ["book", "shape", "place", "found"]) fun _ _ _ _ _ _ => n4 fun _ _ _ _ => rfl
  have m12 := PySem.W.mg_of X G a12
  have x12 : Cal l.prog w K mg base "gather_open" ["book", "shape", "place", "found"] zaL := ⟨_, _, o12 F12 x11 b12 m12 n_enumerate, b12, F12.kp, m12⟩
  have b13 := F13.binds (ps := ["book", "shape"]) fun _ _ _ _ _ _ => n2 fun _ _ => rfl
  have m13 := PySem.W.mg_of X G a13
  have x13 : Cal l.prog w K mg base "open_uses" ["book", "shape"] zbx := ⟨_, _, o13 F13 x12, b13, F13.kp, m13⟩
  have b14 := F14.binds (ps := ["book", "way", "place", "found"]) fun _ _ _ _ _ _ => n4 fun _ _ _ _ => rfl
  have m14 := PySem.W.mg_of X G a14
  have x14 : Cal l.prog w K mg base "gather_uses" ["book", "way", "place", "found"] zaF := ⟨_, _, o14 F14 x9 x10 b14 m14 n_zip, b14, F14.kp, m14⟩
  have b15 := F15.binds (ps := ["book", "way"]) fun _ _ _ _ _ _ => n2 fun _ _ => rfl
  have m15 := PySem.W.mg_of X G a15
  have x15 : Cal l.prog w K mg base "uses" ["book", "way"] zed := ⟨_, _, o15 F15 x14, b15, F15.kp, m15⟩
  have b16 := F16.binds (ps := ["pairs"]) fun _ _ _ _ _ _ => n1 fun _ => rfl
  have m16 := PySem.W.mg_of X G a16
  have x16 : Cal l.prog w K mg base "places_of" ["pairs"] zbA := ⟨_, _, o16 F16, b16, F16.kp, m16⟩
  have b17 := F17.binds (ps := ["book", "shape"]) fun _ _ _ _ _ _ => n2 fun _ _ => rfl
  have m17 := PySem.W.mg_of X G a17
  have x17 : Cal l.prog w K mg base "turned_top" ["book", "shape"] zbp := ⟨_, _, o17 F17 x11 x8 n_tuple g_LEFT, b17, F17.kp, m17⟩
  have b18 := F18.binds (ps := ["book", "shape", "place", "wanted"]) fun _ _ _ _ _ _ => n4 fun _ _ _ _ => rfl
  have m18 := PySem.W.mg_of X G a18
  have x18 : Cal l.prog w K mg base "way_within" ["book", "shape", "place", "wanted"] zaC := ⟨_, _, o18 F18 x17 x10 b18 m18 n_zip n_tuple, b18, F18.kp, m18⟩
  have b19 := F19.binds (ps := ["book", "shape", "places"]) fun _ _ _ _ _ _ => n3 fun _ _ _ => rfl
  have m19 := PySem.W.mg_of X G a19
  have x19 : Cal l.prog w K mg base "way_with" ["book", "shape", "places"] zbK := ⟨_, _, o19 F19 x18 n_dict, b19, F19.kp, m19⟩
  have b20 := F20.binds (ps := ["book", "shape", "places"]) fun _ _ _ _ _ _ => n3 fun _ _ _ => rfl
  have m20 := PySem.W.mg_of X G a20
  have x20 : Cal l.prog w K mg base "way_of" ["book", "shape", "places"] zck := ⟨_, _, o20 F20 x16 x19 x13, b20, F20.kp, m20⟩
  have b21 := F21.binds (ps := ["script", "k"]) fun _ _ _ _ _ _ => n2 fun _ _ => rfl
  have m21 := PySem.W.mg_of X G a21
  have x21 : Cal l.prog w K mg base "_law_cell" ["script", "k"] zas := ⟨_, _, o21 F21 n_len, b21, F21.kp, m21⟩
  have b22 := F22.binds (ps := ["one", "two", "great"]) fun _ _ _ _ _ _ => n3 fun _ _ _ => rfl
  have m22 := PySem.W.mg_of X G a22
  have x22 : Cal l.prog w K mg base "_law_words" ["one", "two", "great"] zaK := ⟨_, _, o22 F22 n_range n_len n_int, b22, F22.kp, m22⟩
  have b23 := F23.binds (ps := ["side"]) fun _ _ _ _ _ _ => n1 fun _ => rfl
  have m23 := PySem.W.mg_of X G a23
  have x23 : Cal l.prog w K mg base "_law_count" ["side"] zan := ⟨_, _, o23 F23 b23 m23 n_isinstance n_int n_sum, b23, F23.kp, m23⟩
  have b24 := F24.binds (ps := ["side", "things"]) fun _ _ _ _ _ _ => n2 fun _ _ => rfl
  have m24 := PySem.W.mg_of X G a24
  have x24 : Cal l.prog w K mg base "_law_filled" ["side", "things"] zaA := ⟨_, _, o24 F24 b24 m24 n_isinstance n_int n_tuple, b24, F24.kp, m24⟩
  have b25 := F25.binds (ps := ["draw", "many", "w"]) fun _ _ _ _ _ _ => n3 fun _ _ _ => rfl
  have m25 := PySem.W.mg_of X G a25
  have x25 : Cal l.prog w K mg base "_law_item" ["draw", "many", "w"] zbf := ⟨_, _, o25 F25, b25, F25.kp, m25⟩
  have b26 := F26.binds (ps := ["draw", "many", "w"]) fun _ _ _ _ _ _ => n3 fun _ _ _ => rfl
  have m26 := PySem.W.mg_of X G a26
  have x26 : Cal l.prog w K mg base "_law_right" ["draw", "many", "w"] zbk := ⟨_, _, o26 F26 x25, b26, F26.kp, m26⟩
  have b27 := F27.binds (ps := ["way", "head", "c", "d"]) fun _ _ _ _ _ _ => n4 fun _ _ _ _ => rfl
  have m27 := PySem.W.mg_of X G a27
  have x27 : Cal l.prog w K mg base "_law_lefts" ["way", "head", "c", "d"] zbo := ⟨_, _, o27 F27, b27, F27.kp, m27⟩
  have b28 := F28.binds (ps := ["script", "k", "w", "titles"]) fun _ _ _ _ _ _ => n4 fun _ _ _ _ => rfl
  have m28 := PySem.W.mg_of X G a28
  have x28 : Cal l.prog w K mg base "_law_book" ["script", "k", "w", "titles"] zbe := ⟨_, _, o28 F28 x27 x26 x21 x23 n_range n_enumerate n_len, b28, F28.kp, m28⟩
  have b29 := F29.binds (ps := ["cells", "book", "w", "room"]) fun _ _ _ _ _ _ => n4 fun _ _ _ _ => rfl
  have m29 := PySem.W.mg_of X G a29
  have x29 : Cal l.prog w K mg base "_law_plan" ["cells", "book", "w", "room"] zbh := ⟨_, _, o29 F29 x23 n_len n_min, b29, F29.kp, m29⟩
  have b30 := F30.binds (ps := ["plan", "book", "by"]) fun _ _ _ _ _ _ => n3 fun _ _ _ => rfl
  have m30 := PySem.W.mg_of X G a30
  have x30 : Cal l.prog w K mg base "_law_way" ["plan", "book", "by"] zbn := ⟨_, _, o30 F30 x24 b30 m30 n_tuple, b30, F30.kp, m30⟩
  have b31 := F31.binds (ps := ["book", "way", "which"]) fun _ _ _ _ _ _ => n3 fun _ _ _ => rfl
  have m31 := PySem.W.mg_of X G a31
  have x31 : Cal l.prog w K mg base "_law_made" ["book", "way", "which"] zaY := ⟨_, _, o31 F31 b31 m31 x24 n_tuple, b31, F31.kp, m31⟩
  have b32 := F32.binds (ps := ["t"]) fun _ _ _ _ _ _ => n1 fun _ => rfl
  have m32 := PySem.W.mg_of X G a32
  have x32 : Cal l.prog w K mg base "_law_places" ["t"] zao := ⟨_, _, o32 F32 b32 m32 n_isinstance n_int n_enumerate, b32, F32.kp, m32⟩
  have b33 := F33.binds (ps := ["t", "place"]) fun _ _ _ _ _ _ => n2 fun _ _ => rfl
  have m33 := PySem.W.mg_of X G a33
  have x33 : Cal l.prog w K mg base "_law_at" ["t", "place"] zba := ⟨_, _, o33 F33, b33, F33.kp, m33⟩
  have b34 := F34.binds (ps := ["left", "shape"]) fun _ _ _ _ _ _ => n2 fun _ _ => rfl
  have m34 := PySem.W.mg_of X G a34
  have x34 : Cal l.prog w K mg base "_law_stands" ["left", "shape"] zat := ⟨_, _, o34 F34 b34 m34 n_isinstance n_int n_all n_len n_zip, b34, F34.kp, m34⟩
  have b35 := F35.binds (ps := ["book", "shape"]) fun _ _ _ _ _ _ => n2 fun _ _ => rfl
  have m35 := PySem.W.mg_of X G a35
  have x35 : Cal l.prog w K mg base "_law_open" ["book", "shape"] zbg := ⟨_, _, o35 F35 x32 x34 x33, b35, F35.kp, m35⟩
  have b36 := F36.binds (ps := ["way", "titles"]) fun _ _ _ _ _ _ => n2 fun _ _ => rfl
  have m36 := PySem.W.mg_of X G a36
  have x36 : Cal l.prog w K mg base "_law_titles_in" ["way", "titles"] zaD := ⟨_, _, o36 F36 b36 m36 n_int n_sum, b36, F36.kp, m36⟩
  exact o37 F37 x22 x28 x30 x31 x15 x35 x21 x29 x20 x36 n_enumerate n_isinstance n_list n_len 200
theorem walk {l : PySem.W.OpenLaw} {q : Program} {loose : List Str} {XP : (Str → Option Value) → Heap → Prop} {YP : World → Heap → Prop} {d : DefRec} {K : Params → PySem.W.Frag} (hn : l.most = some 63) (hdf : d.params.defaults = [])
    (hY : ∀ (w : World) (h : Heap), YP w h → (K w.params).In h)
    (F : ∀ (w : World) (mg : Str → Option Value) (fa : Addr) (h : Heap), (K w.params).In h → h.Ns mainGlobals mg → mg d.name = some (.ref fa) →
      ∃ fd : FuncData, (∀ (s : Shared) (u : Value), BindsTo s fd ⟨[u], []⟩ [("script", u)]) ∧ ∀ base : Heap, (K w.params).In base → base.Ns mainGlobals mg → FnOk l.prog w (K w.params) mg base CX0 200 fa fd ["script"] (liftSp (K w.params) (zcc 200))) :
    PySem.W.WalkO q loose XP YP l.row.toRowW d [] (fun f vs => PySem.call f vs) :=
  L2.zke (n := 63) (k := 200) (x := "script") (CX := fun _ => CX0) (sp := fun w => liftSp (K w.params) (zcc 200)) hn (by decide) hdf ⟨rfl, by decide, by decide⟩ hY F (fun w H a ns hl hO hS => zlS hO hS (zpU ns hl)) fun _ _ _ _ _ z => z
end K17
def PySem.W.Fast.tw2955824594378401966 : Nat := 0
def PySem.W.Fast.tw14514615009415554254 : Nat := 0
def PySem.W.Fast.tw1479627232435166949 : Nat := 0
def PySem.W.Fast.tw16243203805182729229 : Nat := 0
def PySem.W.Fast.tw17800264896904092962 : Nat := 0
def PySem.W.Fast.tw12451695675417377638 : Nat := 0
def PySem.W.Fast.tw8951758513654695777 : Nat := 0
def PySem.W.Fast.tw10798545603924692886 : Nat := 0
def PySem.W.Fast.tw2201741776397306484 : Nat := 0
def PySem.W.Fast.tw7543023504598240223 : Nat := 0
def PySem.W.Fast.tw3198138352057116316 : Nat := 0
def PySem.W.Fast.tw9487889644647384691 : Nat := 0
def PySem.W.Fast.tw6142789036283172197 : Nat := 0
def PySem.W.Fast.tw7184188702481373600 : Nat := 0
def PySem.W.Fast.tw3739260366803842010 : Nat := 0
open PySem PySem.W PyProof.Rows
set_option maxRecDepth 100000 in
set_option maxHeartbeats 0 in
theorem PySem.Challenge.cw_turnweave_k17_uses_of_a_way_holds : PySem.Challenge.rw_turnweave_k17_uses_of_a_way.Holds := by
  w_on; o_law; k_head; (case hw => w_witness2)
  k_fill
  refine K17.walk (l := PySem.Challenge.rw_turnweave_k17_uses_of_a_way) rfl rfl (fun w h Y => PySem.W.kIn_of Y) ?F
  case F =>
    intro w mg fa h KX G hmg
    refine' K17.all_mk KX G hmg (K17.dfn ?_ ?_ ?_ ?_) (K17.dfn ?_ ?_ ?_ ?_) (K17.dfn ?_ ?_ ?_ ?_) (K17.dfn ?_ ?_ ?_ ?_) (K17.dfn ?_ ?_ ?_ ?_) (K17.dfn ?_ ?_ ?_ ?_) (K17.dfn ?_ ?_ ?_ ?_) (K17.dfn ?_ ?_ ?_ ?_) (K17.dfn ?_ ?_ ?_ ?_) (K17.dfn ?_ ?_ ?_ ?_) (K17.dfn ?_ ?_ ?_ ?_) (K17.dfn ?_ ?_ ?_ ?_) (K17.dfn ?_ ?_ ?_ ?_) (K17.dfn ?_ ?_ ?_ ?_) (K17.dfn ?_ ?_ ?_ ?_) (K17.dfn ?_ ?_ ?_ ?_) (K17.dfn ?_ ?_ ?_ ?_) (K17.dfn ?_ ?_ ?_ ?_) (K17.dfn ?_ ?_ ?_ ?_) (K17.dfn ?_ ?_ ?_ ?_) (K17.dfn ?_ ?_ ?_ ?_) (K17.dfn ?_ ?_ ?_ ?_) (K17.dfn ?_ ?_ ?_ ?_) (K17.dfn ?_ ?_ ?_ ?_) (K17.dfn ?_ ?_ ?_ ?_) (K17.dfn ?_ ?_ ?_ ?_) (K17.dfn ?_ ?_ ?_ ?_) (K17.dfn ?_ ?_ ?_ ?_) (K17.dfn ?_ ?_ ?_ ?_) (K17.dfn ?_ ?_ ?_ ?_) (K17.dfn ?_ ?_ ?_ ?_) (K17.dfn ?_ ?_ ?_ ?_) (K17.dfn ?_ ?_ ?_ ?_) (K17.dfn ?_ ?_ ?_ ?_) (K17.dfn ?_ ?_ ?_ ?_) (K17.dfn ?_ ?_ ?_ ?_) (K17.dfn ?_ ?_ ?_ ?_) (K17.dfn ?_ ?_ ?_ ?_) ?_ ?_ ?_ ?_ ?_ ?_ ?_ ?_ ?_ ?_ ?_ ?_ ?_ <;> try k_is
end
