import PyProof.Rows.All
import Wide.All
import OpenK.AllK
import Wide.FinOn
import Lean
import PyProof.EqAt
import PyProof.EqKinds
import PyProof.TupleCall
import PyProof.NeKinds
import PyProof.ListMulRoad
import PySem.Challenge.RW_turnweave_k01_weight_and_depth
section
-- CHANGE: your row's module here, as the last of these rows
set_option Elab.async false
set_option linter.all false
set_option maxRecDepth 100000
namespace L2
open PySem PySem.Spec PyProof.Rows

abbrev Key := Sum Int Str
def keyIs : Key → Value → Bool
  | .inl k, v => Value.isInt k v
  | .inr x, v => Value.isStrOf x v
def keyH (w : World) : Key → Int
  | .inl k => hashInt k
  | .inr x => hashStr w x
theorem keyIs_shape : ∀ {k : Key} {v : Value}, keyIs k v = true → (∃ i t, k = Sum.inl i ∧ v = Value.int i t) ∨ (∃ x t, k = Sum.inr x ∧ v = Value.str x t)
  | .inl i, v, h => by
    obtain ⟨t, e⟩ := Value.isInt_shape (k := i) (v := v) h
    exact .inl ⟨i, t, rfl, e⟩
  | .inr x, v, h => by
    obtain ⟨t, e⟩ := Value.isStrOf_shape (x := x) (v := v) h
    exact .inr ⟨x, t, rfl, e⟩
theorem key_ll (a b : Int) : decide ((Sum.inl a : Key) = Sum.inl b) = (a == b) := by
  by_cases e : a = b
  · subst e; simp
  · have h : ¬ (Sum.inl a : Key) = Sum.inl b := fun q => e (Sum.inl.inj q)
    rw [decide_eq_false h]
    exact (beq_eq_false_iff_ne.mpr e).symm
theorem key_rr (a b : Str) : decide ((Sum.inr a : Key) = Sum.inr b) = decide (a = b) := by
  by_cases e : a = b
  · subst e; simp
  · have h : ¬ (Sum.inr a : Key) = Sum.inr b := fun q => e (Sum.inr.inj q)
    rw [decide_eq_false h, decide_eq_false e]
theorem key_lr (a : Int) (b : Str) : decide ((Sum.inl a : Key) = Sum.inr b) = false := decide_eq_false (fun q => nomatch q)
theorem key_rl (a : Str) (b : Int) : decide ((Sum.inr a : Key) = Sum.inl b) = false := decide_eq_false (fun q => nomatch q)

def mixKind (prog : Program) (w : World) : PySem.KeyKind prog w Key where
  is := keyIs
  hash := keyH w
  inj := fun v a b ha hb => by
    rcases keyIs_shape ha with ⟨i, t, rfl, rfl⟩ | ⟨x, t, rfl, rfl⟩
    · rcases keyIs_shape hb with ⟨j, u, rfl, e⟩ | ⟨y, u, rfl, e⟩
      · injection e with e1 _; rw [e1]
      · exact nomatch e
    · rcases keyIs_shape hb with ⟨j, u, rfl, e⟩ | ⟨y, u, rfl, e⟩
      · exact nomatch e
      · injection e with e1 _; rw [e1]
  byValue := fun k v h => by
    rcases keyIs_shape h with ⟨i, t, rfl, rfl⟩ | ⟨x, t, rfl, rfl⟩ <;> rfl
  pyHash := fun hv h => by
    rcases keyIs_shape hv with ⟨i, t, rfl, rfl⟩ | ⟨x, t, rfl, rfl⟩
    · exact wpAny_pyHash_int h
    · exact wpAny_pyHash_str h
  eqBool := fun hu hv h => by
    rcases keyIs_shape hu with ⟨i, t, rfl, rfl⟩ | ⟨x, t, rfl, rfl⟩
    · rcases keyIs_shape hv with ⟨j, u, rfl, rfl⟩ | ⟨y, u, rfl, rfl⟩
      · rw [key_ll] at h; exact wpAny_eqBool_int h
      · rw [key_lr] at h; exact SeqAt.EqAt.int_str i t y u _ _ _ _ h
    · rcases keyIs_shape hv with ⟨j, u, rfl, rfl⟩ | ⟨y, u, rfl, rfl⟩
      · rw [key_rl] at h; exact SeqAt.EqAt.str_int x t j u _ _ _ _ h
      · rw [key_rr] at h; exact wpAny_eqBool_str h
  «strs» := fun k x t v h => by
    rcases keyIs_shape h with ⟨i, u, rfl, e⟩ | ⟨y, u, rfl, e⟩
    · exact nomatch e
    · injection e with e1 _
      subst e1
      cases v <;> rfl

end L2

namespace L2
open PySem PySem.Spec PyProof.Rows

inductive V where
  | non | bl (b : Bool) | int (i : Int) | str (x : Str) | byt (b : Array UInt8) | flt (b : UInt64) | ref (a : Addr) | ty (n : String)
  deriving DecidableEq

def RelV : V → Value → Prop
  | .non, u => u = Value.none
  | .bl b, u => u = Value.bool b
  | .int i, u => ∃ t, u = Value.int i t
  | .str x, u => ∃ t, u = Value.str x t
  | .byt b, u => ∃ t, u = Value.bytes b t
  | .flt b, u => ∃ t, u = Value.float b t
  | .ref a, u => u = Value.ref a
  | .ty n, u => u = Value.type n

abbrev Vals : List V → List Value → Prop := Paired RelV
theorem Vals.length {xs : List V} {us : List Value} (r : Vals xs us) : xs.length = us.length := Paired.length r
theorem Vals.get : ∀ {xs : List V} {us : List Value} {i : Nat} {x : V}, Vals xs us → xs[i]? = some x → ∃ u, us[i]? = some u ∧ RelV x u
  | _, _, _, _, .nil, e => by simp at e
  | _, _, 0, _, .cons r _, e => by simp at e; subst e; exact ⟨_, rfl, r⟩
  | _, _, i + 1, x, .cons _ t, e => by
    obtain ⟨u, h1, h2⟩ := Vals.get (i := i) (x := x) t (by simpa using e)
    exact ⟨u, by simpa using h1, h2⟩
theorem Vals.set {x : V} {u : Value} (r : RelV x u) : ∀ {xs : List V} {us : List Value} (i : Nat), Vals xs us → Vals (xs.set i x) (us.set i u)
  | _, _, _, .nil => .nil
  | _, _, 0, .cons _ t => .cons r t
  | _, _, i + 1, .cons q t => .cons q (Vals.set r i t)
theorem Vals.append : ∀ {xs ys : List V} {us ws : List Value}, Vals xs us → Vals ys ws → Vals (xs ++ ys) (us ++ ws)
  | _, _, _, _, .nil, s => s
  | _, _, _, _, .cons r t, s => .cons r (Vals.append t s)
theorem Vals.take : ∀ {xs : List V} {us : List Value} (n : Nat), Vals xs us → Vals (xs.take n) (us.take n)
  | _, _, 0, _ => .nil
  | _, _, _ + 1, .nil => .nil
  | _, _, n + 1, .cons r t => .cons r (Vals.take n t)
theorem Vals.drop : ∀ {xs : List V} {us : List Value} (n : Nat), Vals xs us → Vals (xs.drop n) (us.drop n)
  | _, _, 0, r => r
  | _, _, _ + 1, .nil => .nil
  | _, _, n + 1, .cons _ t => Vals.drop n t
def RelO : Option V → Option Value → Prop
  | some v, some u => RelV v u
  | none, none => True
  | _, _ => False
def KV {κ : Type} : List (κ × V) → List (κ × Value) → Prop := Paired fun (p : κ × V) (q : κ × Value) => p.1 = q.1 ∧ RelV p.2 q.2

def kV : Key → V
  | .inl i => .int i
  | .inr x => .str x

inductive HO where
  /-- a list -/
  | lst (xs : List V)
  /-- a tuple (never changes) -/
  | tup (xs : List V)
  /-- a dict whose keys are ints and texts; one whose keys are tuples of ints and texts (the empty one is both) -/
  | dK (kvs : List (Key × V)) | dT (kvs : List (List Key × V))
  /-- a set of ints: its members, its size -/
  | set (S : Int → Bool) (n : Nat)
  /-- an instance of the class at C, its dict at dx, its attributes -/
  | ins (C dx : Addr) (fs : List (Str × V))
  /-- the dict of the instance at x -/
  | own (x : Addr)
  /-- the dict of an exception -/
  | xd (fs : List (Str × V))
  /-- a bound method, f of x -/
  | met (f x : Addr)
  /-- a range object lo, lo + 1, .. below hi -/
  | rng (lo hi : Int)
  /-- a thing that is known to the object (the script; a dict while a loop walks it): read, never written while it is so -/
  | frz (o : Obj) (u : HO)
  /-- a code object's table -/
  | tbl (ps : Array Value)
  /-- any other thing, by what is true of its one object (a def of one's own: SetO a S n := HO.ext fun h => ..) -/
  | ext (φ : Heap → Prop)

abbrev Hp := Addr → Option HO
def upd (H : Hp) (a : Addr) (o : HO) : Hp := fun b => if b = a then some o else H b
theorem upd_same {H : Hp} {a : Addr} {o : HO} : upd H a o a = some o := by unfold upd; rw [if_pos rfl]
theorem upd_ne {H : Hp} {a b : Addr} {o : HO} (h : b ≠ a) : upd H a o b = H b := by unfold upd; rw [if_neg h]
theorem ne_of {H : Hp} {a b : Addr} {o u : HO} (h : H a = some o) (h' : H b = some u) (d : o ≠ u) : a ≠ b := by
  intro e; subst e; rw [h] at h'; exact d (Option.some.inj h')
theorem ne_of_none {H : Hp} {a b : Addr} {o : HO} (h : H a = some o) (h' : H b = none) : a ≠ b := by
  intro e; subst e; rw [h] at h'; cases h'

section
variable (P : Program) (w : World)
def ObjOk (H : Hp) (h : Heap) (a : Addr) : HO → Prop
  | .lst xs => xs.length ≤ sizeLine ∧ ∃ (its : List Value) (n : Nat), Vals xs its ∧ h.get? a = some { cls := .type "list", data := .seq its.toArray n }
  | .tup xs => xs.length ≤ sizeLine ∧ ∃ its : List Value, Vals xs its ∧ IsTup h a its.toArray
  | .dK kvs => kvs.length ≤ sizeLine ∧ (a == sysModules) = false ∧ ∃ vs, KV kvs vs ∧ h.DictOf (mixKind P w) a vs
  | .dT kvs => kvs.length ≤ sizeLine ∧ (a == sysModules) = false ∧ ∃ xs : List (List Key × Addr × Value),
      Paired (fun (p : List Key × V) (q : List Key × Addr × Value) => p.1 = q.1 ∧ H q.2.1 = some (.tup (p.1.map kV)) ∧ RelV p.2 q.2.2) kvs xs ∧
      ∃ o es ep, h.get? a = some o ∧ o.ExactDict ∧ o.data = .dict es ep ∧ es.toList = xs.map (entryOfKey (tupleKind (mixKind P w))) ∧ (xs.map (·.1)).Nodup
  | .set S n => h.SetOf (intKind P w) a S n
  | .ins C dx fs => H dx = some (.own a) ∧ fs.length ≤ 1000 ∧ dx ≠ a ∧ h.get? a = some (PySem.W.instObj C dx) ∧
      ∃ mA, h.Ns1 dx mA ∧ (∀ f, RelO (fs.lookup f) (mA f)) ∧ PySem.Within mA (fs.map (·.1))
  | .own _ => ∃ o, h.get? a = some o
  | .xd fs => ∃ mA, h.Ns1 a mA ∧ ∀ f, RelO (fs.lookup f) (mA f)
  | .rng lo hi => ∃ t u v, h.get? a = some { cls := .type "range", data := .fields #[.int lo t, .int hi u, .int 1 v] }
  | .frz o u => h.get? a = some o ∧ ObjOk H h a u
  | .tbl ps => h.get? a = some { cls := .none, data := .fields ps }
  | .met f x => h.get? a = some (PySem.W.methodObj (.ref f) (.ref x))
  | .ext φ => φ h ∧ (∃ o, h.get? a = some o) ∧ ∀ h1 h2 : Heap, φ h1 → (∀ o, h1.get? a = some o → h2.get? a = some o) → φ h2
def HOk (H : Hp) (h : Heap) : Prop := ∀ a o, H a = some o → ObjOk P w H h a o
end

section
variable {P : Program} {w : World} {H H' : Hp} {h h' : Heap} {a : Addr} {o : HO}
theorem ObjOk.lt (x : ObjOk P w H h a o) : a < h.objs.size := by
  cases o with
  | lst xs => obtain ⟨_, _, _, _, e⟩ := x; exact Heap.lt_size e
  | tup xs => obtain ⟨_, _, _, p⟩ := x; exact p.lt
  | dK kvs => obtain ⟨_, _, _, _, o, _, _, e, _⟩ := x; exact Heap.lt_size e
  | dT kvs => obtain ⟨_, _, _, _, o, _, _, e, _⟩ := x; exact Heap.lt_size e
  | set S n => obtain ⟨o, _, _, _, e, _⟩ := x; exact Heap.lt_size e
  | ins C dx fs => obtain ⟨_, _, _, e, _⟩ := x; exact Heap.lt_size e
  | own y => obtain ⟨_, e⟩ := x; exact Heap.lt_size e
  | xd fs => obtain ⟨_, ⟨_, _, _, e, _⟩, _⟩ := x; exact Heap.lt_size e
  | rng lo hi => obtain ⟨_, _, _, e⟩ := x; exact Heap.lt_size e
  | frz ob u => obtain ⟨e, _⟩ := x; exact Heap.lt_size e
  | tbl ps => exact Heap.lt_size (show h.get? a = some _ from x)
  | met f y => exact Heap.lt_size (show h.get? a = some _ from x)
  | ext φ => obtain ⟨_, ⟨_, e⟩, _⟩ := x; exact Heap.lt_size e
theorem Paired.mapP {α β : Type} {F G : α → β → Prop} : ∀ {l₁ : List α} {l₂ : List β}, Paired F l₁ l₂ → (∀ a b, F a b → G a b) → Paired G l₁ l₂
  | _, _, .nil, _ => .nil
  | _, _, .cons r t, f => .cons (f _ _ r) (Paired.mapP t f)
theorem ObjOk.stay (x : ObjOk P w H h a o) (k : ∀ b u, (b = a ∨ H b = some (.own a)) → h.get? b = some u → h'.get? b = some u)
    (ho : ∀ b, H b = some (.own a) → H' b = some (.own a)) (ht : ∀ b xs, H b = some (.tup xs) → H' b = some (.tup xs)) : ObjOk P w H' h' a o := by
  induction o with
  | lst xs => obtain ⟨z, its, n, r, e⟩ := x; exact ⟨z, its, n, r, k _ _ (.inl rfl) e⟩
  | tup xs => obtain ⟨z, its, r, ob, e, c⟩ := x; exact ⟨z, its, r, ob, k _ _ (.inl rfl) e, c⟩
  | dK kvs => obtain ⟨z, y, vs, r, ob, es, ep, e, c⟩ := x; exact ⟨z, y, vs, r, ob, es, ep, k _ _ (.inl rfl) e, c⟩
  | dT kvs =>
    obtain ⟨z, y, xs, r, ob, es, ep, e, c⟩ := x
    exact ⟨z, y, xs, Paired.mapP r fun p q z => ⟨z.1, ht _ _ z.2.1, z.2.2⟩, ob, es, ep, k _ _ (.inl rfl) e, c⟩
  | set S n => obtain ⟨ob, es, ep, t, e, c⟩ := x; exact ⟨ob, es, ep, t, k _ _ (.inl rfl) e, c⟩
  | ins C dx fs =>
    obtain ⟨d, z, ne, e, mA, ⟨od, es, ep, e2, c⟩, r⟩ := x
    exact ⟨ho _ d, z, ne, k _ _ (.inl rfl) e, mA, ⟨od, es, ep, k _ _ (.inr d) e2, c⟩, r⟩
  | own y => obtain ⟨ob, e⟩ := x; exact ⟨ob, k _ _ (.inl rfl) e⟩
  | xd fs => obtain ⟨mA, ⟨od, es, ep, e, c⟩, r⟩ := x; exact ⟨mA, ⟨od, es, ep, k _ _ (.inl rfl) e, c⟩, r⟩
  | rng lo hi => obtain ⟨t, u, v, e⟩ := x; exact ⟨t, u, v, k _ _ (.inl rfl) e⟩
  | frz ob u ih => obtain ⟨e, q⟩ := x; exact ⟨k _ _ (.inl rfl) e, ih q⟩
  | tbl ps =>
    have e : h.get? a = some { cls := .none, data := .fields ps } := x
    show h'.get? a = some { cls := .none, data := .fields ps }
    exact k a _ (.inl rfl) e
  | met f y =>
    have e : h.get? a = some (PySem.W.methodObj (.ref f) (.ref y)) := x
    show h'.get? a = some (PySem.W.methodObj (.ref f) (.ref y))
    exact k a _ (.inl rfl) e
  | ext φ => obtain ⟨p, ⟨o, e⟩, st⟩ := x; exact ⟨st _ _ p fun o q => k _ _ (.inl rfl) q, ⟨o, k _ _ (.inl rfl) e⟩, st⟩
theorem HOk.lt (x : HOk P w H h) (e : H a = some o) : a < h.objs.size := (x a o e).lt
theorem HOk.fresh (x : HOk P w H h) (e : h.objs.size ≤ a) : H a = none := by
  cases q : H a with
  | none => rfl
  | some u => exact absurd (Nat.lt_of_lt_of_le (x.lt q) e) (Nat.lt_irrefl _)
theorem HOk.kept (x : HOk P w H h) (k : ∀ b u, h.get? b = some u → h'.get? b = some u) : HOk P w H h' := fun a o e =>
  (x a o e).stay (fun b u _ q => k b u q) (fun _ q => q) fun _ _ q => q
theorem HOk.laid (x : HOk P w H h) (k : ∀ b u, h.get? b = some u → h'.get? b = some u) (hp : h.objs.size ≤ a) (new : ObjOk P w (upd H a o) h' a o) : HOk P w (upd H a o) h' := fun b u e => by
  have hn := x.fresh hp
  by_cases hb : b = a
  · subst hb; rw [upd_same] at e; cases e; exact new
  · rw [upd_ne hb] at e
    exact (x b u e).stay (fun c v _ q => k c v q) (fun c q => by rw [upd_ne (ne_of_none q hn)]; exact q) fun c xs q => by rw [upd_ne (ne_of_none q hn)]; exact q
end

def Rd (H : Hp) (a : Addr) (u : HO) : Prop := H a = some u ∨ ∃ o, H a = some (.frz o u)
theorem Rd.of {H : Hp} {a : Addr} {u : HO} (h : H a = some u) : Rd H a u := .inl h
theorem Rd.ok {P : Program} {w : World} {H : Hp} {h : Heap} {a : Addr} {u : HO} (r : Rd H a u) (x : HOk P w H h) : ObjOk P w H h a u := by
  rcases r with r | ⟨o, r⟩
  · exact x a u r
  · obtain ⟨_, q⟩ := x a _ r
    exact q
def Mut : Option HO → Prop
  | some (.lst _) => True
  | some (.dK _) => True
  | some (.dT _) => True
  | some (.set _ _) => True
  | some (.ins _ _ _) => True
  | some (.ext _) => True
  | _ => False
section
variable {P : Program} {w : World} {H : Hp} {h h' : Heap} {x e : Addr} {o' : HO}
theorem HOk.write (ok : HOk P w H h) (mu : Mut (H x)) (he : e = x ∨ H e = some (.own x)) (k : ∀ b u, b ≠ e → h.get? b = some u → h'.get? b = some u) (heo : ∃ u, h'.get? e = some u)
    (new : ObjOk P w (upd H x o') h' x o') : HOk P w (upd H x o') h' := fun b u q => by
  have nown : ∀ c y, H c = some (.own y) → c ≠ x := fun c y r z => by subst z; rw [r] at mu; exact mu
  have ntup : ∀ c xs, H c = some (.tup xs) → c ≠ x := fun c xs r z => by subst z; rw [r] at mu; exact mu
  by_cases hb : b = x
  · subst hb; rw [upd_same] at q; cases q; exact new
  · rw [upd_ne hb] at q
    by_cases hbe : b = e
    · have q' : H b = some (.own x) := by
        rcases he with z | z
        · exact absurd (hbe.trans z) hb
        · rw [hbe]; exact z
      rw [q] at q'; cases q'
      obtain ⟨v, hv⟩ := heo
      exact ⟨v, by rw [hbe]; exact hv⟩
    · refine (ok b u q).stay (fun c v hc r => k c v ?_ r) (fun c r => by rw [upd_ne (nown c b r)]; exact r) fun c xs r => by rw [upd_ne (ntup c xs r)]; exact r
      rcases hc with rfl | hc
      · exact hbe
      · rintro rfl
        rcases he with z | z
        · exact nown c b hc z
        · rw [hc] at z; cases z; exact hb rfl
end

structure Un (fs ex : List Addr) (H H' : Hp) (h h' : Heap) : Prop where
  keep : ∀ b o, h.get? b = some o → H b = none → b ∉ fs → b ∉ ex → h'.get? b = some o
  slot : ∀ b o, h.get? b = some o → H b = none → b ∈ fs → b ∉ ex → ∃ sl, h'.get? b = some { o with slots := sl }
  free : ∀ b o, h.get? b = some o → H b = none → b ∉ ex → H' b = none
  there : ∀ b o, h.get? b = some o → b ∉ ex → ∃ o', h'.get? b = some o'
  tups : ∀ b xs, H b = some (.tup xs) → H' b = some (.tup xs)
  frzs : ∀ b o u, H b = some (.frz o u) → H' b = some (.frz o u)
  tbls : ∀ b ps, H b = some (.tbl ps) → ∃ more, H' b = some (.tbl (ps ++ more))
section
variable {fs fs' ex ex' : List Addr} {H H1 H2 : Hp} {h h1 h2 h' : Heap} {a x e : Addr} {o : HO}
theorem Un.any (u : Un fs ex H H1 h h1) {b : Addr} {ob : Obj} (q : h.get? b = some ob) (n : H b = none) (hx : b ∉ ex) : ∃ sl, h1.get? b = some { ob with slots := sl } := by
  by_cases hb : b ∈ fs
  · exact u.slot b ob q n hb hx
  · exact ⟨ob.slots, u.keep b ob q n hb hx⟩
theorem Un.trans (a : Un fs ex H H1 h h1) (b : Un fs ex H1 H2 h1 h2) : Un fs ex H H2 h h2 where
  keep := fun c ob q n hc hx => b.keep c ob (a.keep c ob q n hc hx) (a.free c ob q n hx) hc hx
  slot := fun c ob q n hc hx => by
    obtain ⟨sl, e1⟩ := a.slot c ob q n hc hx
    obtain ⟨sl', e2⟩ := b.slot c _ e1 (a.free c ob q n hx) hc hx
    exact ⟨sl', e2⟩
  free := fun c ob q n hx => by
    obtain ⟨o', e1⟩ := a.there c ob q hx
    exact b.free c o' e1 (a.free c ob q n hx) hx
  there := fun c ob q hx => by
    obtain ⟨o', e1⟩ := a.there c ob q hx
    exact b.there c o' e1 hx
  tups := fun c xs q => b.tups c xs (a.tups c xs q)
  frzs := fun c ob xs q => b.frzs c ob xs (a.frzs c ob xs q)
  tbls := fun c ps q => by
    obtain ⟨m1, e1⟩ := a.tbls c ps q
    obtain ⟨m2, e2⟩ := b.tbls c _ e1
    exact ⟨m1 ++ m2, by rw [e2, Array.append_assoc]⟩
theorem Un.kept (k : ∀ b u, h.get? b = some u → h'.get? b = some u) : Un fs ex H H h h' :=
  ⟨fun b ob q _ _ _ => k b ob q, fun b ob q _ _ _ => ⟨ob.slots, k b ob q⟩, fun _ _ _ n _ => n, fun b ob q _ => ⟨ob, k b ob q⟩, fun _ _ q => q, fun _ _ _ q => q, fun _ ps q => ⟨#[], by rw [q]; simp⟩⟩
theorem Un.refl : Un fs ex H H h h := Un.kept fun _ _ q => q
theorem Un.laid (k : ∀ b u, h.get? b = some u → h'.get? b = some u) (hp : h.objs.size ≤ a) (hn : H a = none) : Un fs ex H (upd H a o) h h' where
  keep := fun b u q _ _ _ => k b u q
  slot := fun b u q _ _ _ => ⟨u.slots, k b u q⟩
  free := fun b u q n _ => by rw [upd_ne (Nat.ne_of_lt (Nat.lt_of_lt_of_le (Heap.lt_size q) hp))]; exact n
  there := fun b u q _ => ⟨u, k b u q⟩
  tups := fun b xs q => by rw [upd_ne (ne_of_none q hn)]; exact q
  frzs := fun b u xs q => by rw [upd_ne (ne_of_none q hn)]; exact q
  tbls := fun b ps q => ⟨#[], by rw [upd_ne (ne_of_none q hn), q]; simp⟩
theorem Un.write (mu : Mut (H x)) (he : e = x ∨ H e = some (.own x)) (k : ∀ b u, b ≠ e → h.get? b = some u → h'.get? b = some u) (heo : ∃ u, h'.get? e = some u) : Un fs ex H (upd H x o) h h' := by
  have hx : ∀ b, H b = none → b ≠ x := fun b n z => by subst z; rw [n] at mu; exact mu
  have hb : ∀ b, H b = none → b ≠ e := fun b n z => by
    subst z
    rcases he with r | r
    · exact hx b n r
    · rw [n] at r; cases r
  have hm : ∀ b u, H b = some u → ¬ Mut (some u) → b ≠ x := fun b u q nm z => by subst z; rw [q] at mu; exact nm mu
  refine ⟨fun b u q n _ _ => k b u (hb b n) q, fun b u q n _ _ => ⟨u.slots, k b u (hb b n) q⟩, fun b u q n _ => by rw [upd_ne (hx b n)]; exact n, fun b u q _ => ?_,
    fun b xs q => by rw [upd_ne (hm b _ q fun z => z)]; exact q, fun b u xs q => by rw [upd_ne (hm b _ q fun z => z)]; exact q, fun b ps q => ⟨#[], by rw [upd_ne (hm b _ q fun z => z), q]; simp⟩⟩
  by_cases hbe : b = e
  · subst hbe; exact heo
  · exact ⟨u, k b u hbe q⟩
theorem Un.mono (u : Un fs ex H H1 h h1) (hs : ∀ b ∈ fs, b ∈ fs') (hx : ∀ b ∈ ex, b ∈ ex') : Un fs' ex' H H1 h h1 :=
  ⟨fun b ob q n hb he => u.keep b ob q n (fun z => hb (hs b z)) fun z => he (hx b z), fun _ _ q n _ he => u.any q n fun z => he (hx _ z), fun b ob q n he => u.free b ob q n fun z => he (hx b z), fun b ob q he => u.there b ob q fun z => he (hx b z), u.tups, u.frzs, u.tbls⟩
end

def trk (h : Heap) (H : Hp) : List Addr := (List.range h.objs.size).filter fun a => (H a).isSome
def hidT (h : Heap) (H : Hp) : Heap := PySem.W.hideAll h (trk h H)
theorem hidT_size (h : Heap) (H : Hp) : (hidT h H).objs.size = h.objs.size := PySem.W.hideAll_size _ _
theorem hidT_get {h : Heap} {H : Hp} {b : Addr} {o : Obj} (e : h.get? b = some o) (n : H b = none) : (hidT h H).get? b = some o :=
  PySem.W.hideAll_get _ e fun hm => by
    have q : (H b).isSome = true := (List.mem_filter.mp hm).2
    rw [n] at q; simp at q
theorem of_hidT {h : Heap} {H : Hp} {b : Addr} {o : Obj} (e : (hidT h H).get? b = some o) : h.get? b = some o ∧ H b = none := by
  have e' : h.get? b = some o := PySem.W.of_hideAll (trk h H) e
  refine ⟨e', ?_⟩
  cases q : H b with
  | none => rfl
  | some x =>
    have hm : b ∈ trk h H := List.mem_filter.mpr ⟨List.mem_range.mpr (Heap.lt_size e'), by simp [q]⟩
    have z : (hidT h H).get? b = none := PySem.W.hideAll_none (trk h H) hm
    rw [z] at e; cases e

def allNews (g h : Heap) (L : Addr) : List (Addr × Obj) := (List.range h.objs.size).filterMap fun a => if a = L ∨ (g.get? a).isSome = true then none else (h.get? a).map fun o => (a, o)
def rest (g h : Heap) (L d : Addr) : List (Addr × Obj) := (allNews g h L).filter fun p => decide (p.1 ≠ d)
end L2

namespace L2
open PySem PySem.Spec PyProof.Rows

structure Mod (K : PySem.W.Frag) (mg : Str → Option Value) (base : Heap) : Prop where
  kin : K.In base
  glob : base.Ns mainGlobals mg
  blt : ∃ mb, base.Ns builtinsNs mb ∧ ∀ x : Str, x ≠ "__name__" → mb x = bootBuiltins x
  nolimit : base.NoLimit

structure Cx where
  prog : Program
  w : World
  K : PySem.W.Frag
  mg : Str → Option Value
  base : Heap
  A : Around
  N : List Str
  s₀ : Shared
  H₀ : Hp
  env : Env
  outer : List Env
  stack : List Env
  ex : List Addr
  fn : Str → Bool
  calm : Bool
  pn : List (Addr × Obj)
  xe : Value → Shared → Prop
def frs (l : List Env) : List Addr := l.filterMap (·.frame)
abbrev Cx.fs (X : Cx) : List Addr := frs X.outer

def Vis (sc : Scope) (x : Str) : Prop := sc.names.lookup x = some .local ∨ sc.names.lookup x = some .cell ∨ sc.names.lookup x = some .free
def Loc (sc : Scope) (x : Str) : Prop := sc.names.lookup x = some .local ∨ sc.names.lookup x = some .cell
def Look (env : Env) (h : Heap) (m : Str → Option Value) (x : Str) (u : Value) : Prop :=
  (env.kindOf x = some .local ∧ m x = some u) ∨ ((env.kindOf x = some .cell ∨ env.kindOf x = some .free) ∧ ∃ c, env.cells.lookup x = some c ∧ h.IsCell c (some u))

structure Cx.Ok (X : Cx) : Prop where
  mod : Mod X.K X.mg X.base
  kind : X.env.scope.kind = .function
  glob : X.env.globals = mainGlobals
  blt : X.env.builtins = builtinsNs
  above : X.s₀.heap.objs.size ≤ X.env.locals
  inj : ∀ x y c, X.env.cells.lookup x = some c → X.env.cells.lookup y = some c → x = y
  has : ∀ x, (X.env.kindOf x = some .cell ∨ X.env.kindOf x = some .free) → ∃ c, X.env.cells.lookup x = some c
  cab : ∀ x c, X.fn x = true → X.env.cells.lookup x = some c → X.s₀.heap.objs.size ≤ c
  hd : X.calm = true → X.A.handled = none
  frames : X.A.frames = some X.stack
  stk : X.stack = X.outer ∨ (X.stack = X.env :: X.outer ∧ X.env.frame = some X.env.locals)
  exf : ∀ b ∈ X.ex, b ≠ X.env.locals ∧ ∀ x c, X.env.cells.lookup x = some c → c ≠ b
  bs : ∀ b o, X.base.get? b = some o → X.s₀.heap.get? b = some o ∧ X.H₀ b = none
  bsz : X.base.objs.size ≤ X.s₀.heap.objs.size
  noex : ∀ b o, X.base.get? b = some o → b ∉ X.ex
  exfs : ∀ b ∈ X.ex, b ∉ X.fs
  funs : X.s₀.heap.FunFrames X.base X.outer
  frf : ∀ b ∈ X.fs, X.H₀ b = none

structure Inv (X : Cx) (pins : List (Addr × Obj)) (σ : List (Option V)) (H : Hp) (s : Shared) : Prop where
  ok : X.Ok
  os : s.os = X.s₀.os
  bare : AllBare s.gens
  base : Un X.fs X.ex X.H₀ H X.s₀.heap s.heap
  loc : ∃ m, s.heap.Ns X.env.locals m ∧ ∀ (i : Nat) (x : Str) (v : V), X.N[i]? = some x → σ[i]? = some (some v) → Vis X.env.scope x → ∃ u, RelV v u ∧ Look X.env s.heap m x u
  cell : ∀ x c, X.env.cells.lookup x = some c → ∃ v, s.heap.IsCell c v
  free : H X.env.locals = none
  freeC : ∀ x c, X.env.cells.lookup x = some c → H c = none
  pin : ∀ p ∈ X.pn ++ pins, s.heap.get? p.1 = some p.2 ∧ H p.1 = none ∧ p.1 ≠ X.env.locals ∧ p.1 ∉ X.fs ∧ ∀ v, p.2.data ≠ .cell v
  hok : HOk X.prog X.w H s.heap
  len : σ.length = X.N.length

section
variable {X : Cx} {pins : List (Addr × Obj)} {σ : List (Option V)} {H H' : Hp} {s : Shared} {h' : Heap}

theorem Cx.Ok.nofr (ok : X.Ok) {b : Addr} {o : Obj} (e : X.base.get? b = some o) : b ∉ X.fs := fun hb => by
  have := (ok.funs.mem hb).1
  rw [e] at this; cases this
theorem Inv.bs (I : Inv X pins σ H s) : ∀ b o, X.base.get? b = some o → s.heap.get? b = some o ∧ H b = none := fun b o e =>
  ⟨I.base.keep b o (I.ok.bs b o e).1 (I.ok.bs b o e).2 (I.ok.nofr e) (I.ok.noex b o e), I.base.free b o (I.ok.bs b o e).1 (I.ok.bs b o e).2 (I.ok.noex b o e)⟩
theorem Inv.bk (I : Inv X pins σ H s) : ∀ b o, X.base.get? b = some o → s.heap.get? b = some o := fun b o e => (I.bs b o e).1
theorem Inv.mod (I : Inv X pins σ H s) : Mod X.K X.mg X.base := I.ok.mod
theorem Inv.kIn (I : Inv X pins σ H s) : X.K.In s.heap := I.ok.mod.kin.keeps I.bk
theorem Inv.nolimit (I : Inv X pins σ H s) : s.heap.NoLimit := I.ok.mod.nolimit.keeps I.bk
theorem Inv.fr (I : Inv X pins σ H s) : ∃ m, Fr X.base X.env.locals s.heap m :=
  let ⟨m, hn, _⟩ := I.loc
  ⟨m, hn, I.bk, Nat.le_trans I.ok.bsz I.ok.above⟩
theorem Inv.lt (I : Inv X pins σ H s) : X.env.locals < s.heap.objs.size := let ⟨_, hn, _⟩ := I.loc; hn.lt
theorem Inv.sz (I : Inv X pins σ H s) : X.s₀.heap.objs.size ≤ s.heap.objs.size := Nat.le_trans I.ok.above (Nat.le_of_lt I.lt)
theorem Inv.nofs (I : Inv X pins σ H s) {a : Addr} (h : s.heap.objs.size ≤ a) : a ∉ X.fs := fun hb => by
  obtain ⟨_, o, ho, _⟩ := I.ok.funs.mem hb
  exact absurd (Nat.lt_of_lt_of_le (Heap.lt_size ho) (Nat.le_trans I.sz h)) (Nat.lt_irrefl _)
theorem Inv.cne (I : Inv X pins σ H s) : ∀ x c, X.env.cells.lookup x = some c → c ≠ X.env.locals := fun x c e z => by
  obtain ⟨v, o, ho, hd⟩ := I.cell x c e
  obtain ⟨m, ⟨o', es, ep, ho', hd', _⟩, _⟩ := I.loc
  rw [z, ho'] at ho; cases ho; rw [hd'] at hd; cases hd
theorem Inv.funs (I : Inv X pins σ H s) : s.heap.FunFrames X.base X.outer := by
  have all : ∀ (l : List Env), (∀ b ∈ frs l, b ∈ X.fs) → X.s₀.heap.FunFrames X.base l → s.heap.FunFrames X.base l := by
    intro l
    induction l with
    | nil => intro _ _; trivial
    | cons env r ih =>
      intro hs hl
      obtain ⟨hk, ⟨L, o, hf, hn, ho, hd⟩, hr⟩ := hl
      have hL : L ∈ X.fs := hs L (by unfold frs; rw [List.filterMap_cons, hf]; exact List.mem_cons_self)
      obtain ⟨sl, e⟩ := I.base.slot L o ho (I.ok.frf L hL) hL fun z => I.ok.exfs L z hL
      exact ⟨hk, ⟨L, _, hf, hn, e, hd⟩, ih (fun b hb => hs b (by unfold frs; rw [List.filterMap_cons, hf]; exact List.mem_cons_of_mem _ hb)) hr⟩
  exact all X.outer (fun _ hb => hb) I.ok.funs

theorem Inv.stack (I : Inv X pins σ H s) : s.heap.FunFrames X.base X.stack := by
  rcases I.ok.stk with e | ⟨e, hf⟩
  · rw [e]; exact I.funs
  · rw [e]
    obtain ⟨m, hn, _⟩ := I.loc
    refine .cons (by rw [I.ok.kind]; decide) hf hn ?_ I.funs
    exact Heap.get?_none_of_le (Nat.le_trans I.ok.bsz I.ok.above)
theorem Inv.stkSub (I : Inv X pins σ H s) : ∀ b ∈ frs X.stack, b ∈ X.env.locals :: X.fs := fun b hb => by
  rcases I.ok.stk with e | ⟨e, hf⟩
  · rw [e] at hb; exact List.mem_cons_of_mem _ hb
  · rw [e] at hb
    unfold frs at hb
    rw [List.filterMap_cons, hf] at hb
    exact hb
theorem Inv.stkFree (I : Inv X pins σ H s) : ∀ b ∈ frs X.stack, H b = none := fun b hb => by
  rcases List.mem_cons.mp (I.stkSub b hb) with e | hb
  · rw [e]; exact I.free
  · obtain ⟨_, o, ho, _⟩ := I.ok.funs.mem hb
    exact I.base.free b o ho (I.ok.frf b hb) fun z => I.ok.exfs b z hb

theorem Inv.step {g' : Array GenState} {t' : Nat} {d' : Drawn} {ch : List Addr} (I : Inv X pins σ H s)
    (hch : ∀ b ∈ ch, (b ∈ X.ex ∨ X.s₀.heap.objs.size ≤ b) ∧ b ≠ X.env.locals ∧ (∀ x c, X.env.cells.lookup x = some c → c ≠ b) ∧ ∀ p ∈ X.pn ++ pins, p.1 ≠ b)
    (keep : ∀ b o, b ≠ X.env.locals → b ∉ X.fs → b ∉ ch → s.heap.get? b = some o → H b = none → h'.get? b = some o)
    (slot : ∀ b o, b ≠ X.env.locals → b ∈ X.fs → b ∉ ch → s.heap.get? b = some o → H b = none → ∃ sl, h'.get? b = some { o with slots := sl }) (free : ∀ b o, b ∉ ch → s.heap.get? b = some o → H b = none → H' b = none)
    (there : ∀ b o, b ∉ ch → s.heap.get? b = some o → ∃ o', h'.get? b = some o')
    (tups : ∀ b xs, H b = some (.tup xs) → H' b = some (.tup xs)) (frzs : ∀ b o u, H b = some (.frz o u) → H' b = some (.frz o u)) (tbls : ∀ b ps, H b = some (.tbl ps) → ∃ more, H' b = some (.tbl (ps ++ more)))
    (ns : ∀ m, s.heap.Ns X.env.locals m → h'.Ns X.env.locals m) (hok : HOk X.prog X.w H' h') (hg : AllBare g') :
    Inv X pins σ H' { s with heap := h', gens := g', drawn := d', toks := t' } := by
  have neL : ∀ b o, X.s₀.heap.get? b = some o → b ≠ X.env.locals := fun b o e => Nat.ne_of_lt (Nat.lt_of_lt_of_le (Heap.lt_size e) I.ok.above)
  have neC : ∀ b o, X.s₀.heap.get? b = some o → b ∉ X.ex → b ∉ ch := fun b o e hx hb => by
    rcases (hch b hb).1 with z | z
    · exact hx z
    · exact absurd (Nat.lt_of_lt_of_le (Heap.lt_size e) z) (Nat.lt_irrefl _)
  have cellK : ∀ x c, X.env.cells.lookup x = some c → ∀ v, s.heap.IsCell c v → h'.IsCell c v := fun x c e v ⟨o, ho, hd⟩ => by
    have nch : c ∉ ch := fun z => (hch c z).2.2.1 x c e rfl
    by_cases hc : c ∈ X.fs
    · obtain ⟨sl, q⟩ := slot c o (I.cne x c e) hc nch ho (I.freeC x c e)
      exact ⟨_, q, hd⟩
    · exact ⟨o, keep c o (I.cne x c e) hc nch ho (I.freeC x c e), hd⟩
  refine ⟨I.ok, I.os, hg, ⟨fun b o e n hb hx => ?_, fun b o e n hb hx => ?_, fun b o e n hx => ?_, fun b o e hx => ?_, fun b xs e => tups b xs (I.base.tups b xs e), fun b o xs e => frzs b o xs (I.base.frzs b o xs e), fun b ps e => ?_⟩, ?_, fun x c e => ?_, ?_, fun x c e => ?_, fun p hp => ?_, hok, I.len⟩
  · exact keep b o (neL b o e) hb (neC b o e hx) (I.base.keep b o e n hb hx) (I.base.free b o e n hx)
  · obtain ⟨sl, e1⟩ := I.base.slot b o e n hb hx
    obtain ⟨sl', e2⟩ := slot b _ (neL b o e) hb (neC b o e hx) e1 (I.base.free b o e n hx)
    exact ⟨sl', e2⟩
  · obtain ⟨o', e1⟩ := I.base.there b o e hx
    exact free b o' (neC b o e hx) e1 (I.base.free b o e n hx)
  · obtain ⟨o', e1⟩ := I.base.there b o e hx
    exact there b o' (neC b o e hx) e1
  · obtain ⟨m1, e1⟩ := I.base.tbls b ps e
    obtain ⟨m2, e2⟩ := tbls b _ e1
    exact ⟨m1 ++ m2, by rw [e2, Array.append_assoc]⟩
  · obtain ⟨m, hn, hl⟩ := I.loc
    refine ⟨m, ns m hn, fun i x v e1 e2 e3 => ?_⟩
    obtain ⟨u, r, l⟩ := hl i x v e1 e2 e3
    refine ⟨u, r, ?_⟩
    rcases l with l | ⟨k, c, e, z⟩
    · exact .inl l
    · exact .inr ⟨k, c, e, cellK x c e _ z⟩
  · obtain ⟨v, z⟩ := I.cell x c e
    exact ⟨v, cellK x c e v z⟩
  · obtain ⟨m, ⟨o, _, _, ho, _⟩, _⟩ := I.loc
    exact free _ o (fun z => (hch _ z).2.1 rfl) ho I.free
  · obtain ⟨v, o, ho, hd⟩ := I.cell x c e
    exact free c o (fun z => (hch c z).2.2.1 x c e rfl) ho (I.freeC x c e)
  · obtain ⟨e, n, ne, nf, d⟩ := I.pin p hp
    have nch : p.1 ∉ ch := fun z => (hch p.1 z).2.2.2 p hp rfl
    exact ⟨keep p.1 p.2 ne nf nch e n, free p.1 p.2 nch e n, ne, nf, d⟩
theorem Inv.un {t' : Nat} (I : Inv X pins σ H s) (u : Un X.fs [] H H' s.heap h') (hok : HOk X.prog X.w H' h') : Inv X pins σ H' { s with heap := h', toks := t' } := by
  obtain ⟨m, ⟨o, es, ep, ho, r⟩, _⟩ := id I.loc
  obtain ⟨sl, hL⟩ := u.any ho I.free (by simp)
  exact I.step (g' := s.gens) (d' := s.drawn) (ch := []) (fun _ z => nomatch z) (fun b o _ hb _ e n => u.keep b o e n hb (by simp)) (fun b o _ hb _ e n => u.slot b o e n hb (by simp)) (fun b o _ e n => u.free b o e n (by simp)) (fun b o _ e => u.there b o e (by simp)) u.tups u.frzs u.tbls (fun m' hm => by
    obtain ⟨o', es', ep', ho', r'⟩ := hm
    rw [ho] at ho'; cases ho'
    exact ⟨_, es', ep', hL, r'⟩) hok I.bare
theorem Inv.call {g' : Array GenState} {t' : Nat} {d' : Drawn} {ch : List Addr} (I : Inv X pins σ H s) (u : Un (frs X.stack) ch H H' s.heap h') (hok : HOk X.prog X.w H' h') (hg : AllBare g')
    (hch : ∀ b ∈ ch, (b ∈ X.ex ∨ X.s₀.heap.objs.size ≤ b) ∧ b ≠ X.env.locals ∧ (∀ x c, X.env.cells.lookup x = some c → c ≠ b) ∧ ∀ p ∈ X.pn ++ pins, p.1 ≠ b) :
    Inv X pins σ H' { s with heap := h', gens := g', drawn := d', toks := t' } := by
  obtain ⟨m, ⟨o, es, ep, ho, r⟩, _⟩ := id I.loc
  obtain ⟨sl, hL⟩ := u.any ho I.free fun z => (hch _ z).2.1 rfl
  exact I.step (ch := ch) hch (fun b o hL hb hc e n => u.keep b o e n (fun z => (List.mem_cons.mp (I.stkSub b z)).elim hL hb) hc) (fun b o _ _ hc e n => u.any e n hc) (fun b o hc e n => u.free b o e n hc) (fun b o hc e => u.there b o e hc) u.tups u.frzs u.tbls (fun m' hm => by
    obtain ⟨o', es', ep', ho', r'⟩ := hm
    rw [ho] at ho'; cases ho'
    exact ⟨_, es', ep', hL, r'⟩) hok hg
theorem Inv.turned {t' : Nat} {it : Addr} (I : Inv X pins σ H s) (k : ∀ b o, b ≠ it → s.heap.get? b = some o → h'.get? b = some o) (hn : H it = none) (hL : it ≠ X.env.locals)
    (h1 : it ∈ X.ex ∨ X.s₀.heap.objs.size ≤ it) (h2 : ∀ x c, X.env.cells.lookup x = some c → c ≠ it) (h3 : ∀ p ∈ X.pn ++ pins, p.1 ≠ it) : Inv X pins σ H { s with heap := h', toks := t' } := by
  have nit : ∀ b u, H b = some u → b ≠ it := fun b u e z => by rw [z, hn] at e; cases e
  refine I.step (g' := s.gens) (d' := s.drawn) (ch := [it]) (fun b hb => ?_) (fun b o _ _ hc e _ => k b o (fun z => hc (by simp [z])) e) (fun b o _ _ hc e _ => ⟨o.slots, k b o (fun z => hc (by simp [z])) e⟩) (fun _ _ _ _ n => n)
    (fun b o hc e => ⟨o, k b o (fun z => hc (by simp [z])) e⟩) (fun _ _ e => e) (fun _ _ _ e => e) (fun b ps e => ⟨#[], by rw [e]; simp⟩) (fun m hm => ?_) (fun b u e => ?_) I.bare
  · have e : b = it := by simpa using hb
    subst e
    exact ⟨h1, hL, h2, h3⟩
  · obtain ⟨o, es, ep, ho, r⟩ := hm
    exact ⟨o, es, ep, k _ o (Ne.symm hL) ho, r⟩
  · refine (I.hok b u e).stay (fun c v hc q => k c v ?_ q) (fun _ q => q) fun _ _ q => q
    rcases hc with z | z
    · rw [z]; exact nit b u e
    · exact nit c _ z
theorem Inv.tok (I : Inv X pins σ H s) (t : Nat) : Inv X pins σ H { s with toks := t } := I.un (h' := s.heap) (t' := t) Un.refl I.hok
theorem Inv.kept {t' : Nat} (I : Inv X pins σ H s) (k : ∀ b u, s.heap.get? b = some u → h'.get? b = some u) : Inv X pins σ H { s with heap := h', toks := t' } := I.un (Un.kept k) (I.hok.kept k)
theorem Inv.laid {a : Addr} {o : HO} {t' : Nat} (I : Inv X pins σ H s) (k : ∀ b u, s.heap.get? b = some u → h'.get? b = some u) (hp : s.heap.objs.size ≤ a) (new : ObjOk X.prog X.w (upd H a o) h' a o) :
    Inv X pins σ (upd H a o) { s with heap := h', toks := t' } := I.un (Un.laid k hp (I.hok.fresh hp)) (I.hok.laid k hp new)
theorem Inv.write {x e : Addr} {o : HO} {t' : Nat} (I : Inv X pins σ H s) (mu : Mut (H x)) (he : e = x ∨ H e = some (.own x)) (k : ∀ b u, b ≠ e → s.heap.get? b = some u → h'.get? b = some u) (heo : ∃ u, h'.get? e = some u)
    (new : ObjOk X.prog X.w (upd H x o) h' x o) : Inv X pins σ (upd H x o) { s with heap := h', toks := t' } := I.un (Un.write mu he k heo) (I.hok.write mu he k heo new)
theorem Inv.pins_of {pins' : List (Addr × Obj)} (I : Inv X pins σ H s) (h : ∀ p ∈ pins', s.heap.get? p.1 = some p.2 ∧ H p.1 = none ∧ p.1 ≠ X.env.locals ∧ p.1 ∉ X.fs ∧ ∀ v, p.2.data ≠ .cell v) : Inv X pins' σ H s :=
  ⟨I.ok, I.os, I.bare, I.base, I.loc, I.cell, I.free, I.freeC, fun p hp => (List.mem_append.mp hp).elim (fun z => I.pin p (List.mem_append_left _ z)) (h p), I.hok, I.len⟩

theorem nodup_ix {N : List Str} (hN : N.Nodup) {i j : Nat} {x : Str} (a : N[i]? = some x) (b : N[j]? = some x) : i = j := by
  obtain ⟨h1, e1⟩ := List.getElem?_eq_some_iff.mp a
  obtain ⟨h2, e2⟩ := List.getElem?_eq_some_iff.mp b
  exact (List.getElem_inj hN).mp (e1.trans e2.symm)

theorem store_ok2 {M : Model} {A : Around} {E : Value → Shared → Prop} {i : Nat} {x : Str} {v : V} {u : Value} {Q : Unit → Shared → Prop} (I : Inv X pins σ H s) (hN : X.N.Nodup) (hi : X.N[i]? = some x) (hx : Loc X.env.scope x) (r : RelV v u)
    (h : ∀ s', Inv X pins (σ.set i (some v)) H s' → (∃ a, Heap.SameBut a s.heap s'.heap ∧ (a = X.env.locals ∨ X.env.cells.lookup x = some a)) → Q () s') (hf : X.fn x = true ∨ X.env.scope.names.lookup x = some .local := by first | exact .inl rfl | exact .inr rfl | assumption) : wpAny M A (storeName X.env x u) Q E s := by
  obtain ⟨m, hn, hl⟩ := id I.loc
  have hcls : (X.env.scope.kind == .class || (X.env.scope.kind == .module && X.env.locals != X.env.globals)) = false := by rw [I.ok.kind]; rfl
  have hiσ : i < σ.length := by rw [I.len]; exact (List.getElem?_eq_some_iff.mp hi).1
  have cne := I.cne
  have tracked : ∀ {a : Addr} {h' : Heap}, (∃ o, s.heap.get? a = some o ∧ H a = none) → Heap.SameBut a s.heap h' → HOk X.prog X.w H h' := fun {a h'} ha hs b ob e => by
    obtain ⟨_, _, hfree⟩ := ha
    refine (I.hok b ob e).stay (fun c w' hc q => (hs.2 c ?_).trans q) (fun _ q => q) fun _ _ q => q
    rintro rfl
    rcases hc with rfl | hc
    · rw [hfree] at e; cases e
    · rw [hfree] at hc; cases hc
  rcases hx with hk | hk
  · refine wpAny_storeName_local hk hn (fun h' hn' hs => ?_) hcls
    obtain ⟨oL, _, _, hoL, _⟩ := id hn
    refine h _ ⟨I.ok, I.os, I.bare, ⟨fun b o e n hb hx => ?_, fun b o e n hb hx => ?_, I.base.free, fun b o e hx => ?_, I.base.tups, I.base.frzs, I.base.tbls⟩, ⟨_, hn', fun j y v' e1 e2 e3 => ?_⟩, fun y c e => ?_, I.free, I.freeC, fun p hp => ?_, tracked ⟨oL, hoL, I.free⟩ hs, by simpa using I.len⟩ ⟨_, hs, .inl rfl⟩
    · exact (hs.2 b (Nat.ne_of_lt (Nat.lt_of_lt_of_le (Heap.lt_size e) I.ok.above))).trans (I.base.keep b o e n hb hx)
    · obtain ⟨sl, e1⟩ := I.base.slot b o e n hb hx
      exact ⟨sl, (hs.2 b (Nat.ne_of_lt (Nat.lt_of_lt_of_le (Heap.lt_size e) I.ok.above))).trans e1⟩
    · obtain ⟨o', e1⟩ := I.base.there b o e hx
      exact ⟨o', (hs.2 b (Nat.ne_of_lt (Nat.lt_of_lt_of_le (Heap.lt_size e) I.ok.above))).trans e1⟩
    · by_cases hj : j = i
      · subst hj
        rw [hi] at e1; cases e1
        rw [List.getElem?_set_self hiσ] at e2
        cases e2
        exact ⟨u, r, .inl ⟨hk, by simp⟩⟩
      · rw [List.getElem?_set_ne (Ne.symm hj)] at e2
        obtain ⟨u', r', q⟩ := hl j y v' e1 e2 e3
        refine ⟨u', r', ?_⟩
        rcases q with ⟨k, e⟩ | ⟨k, c, e, z⟩
        · refine .inl ⟨k, ?_⟩
          have : y ≠ x := fun e => hj (nodup_ix hN e1 (e ▸ hi))
          simp [this, e]
        · exact .inr ⟨k, c, e, z.sameBut hs (cne y c e)⟩
    · obtain ⟨w', z⟩ := I.cell y c e
      exact ⟨w', z.sameBut hs (cne y c e)⟩
    · obtain ⟨e, n, ne, nf, d⟩ := I.pin p hp
      exact ⟨(hs.2 p.1 ne).trans e, n, ne, nf, d⟩
  · have hfn : X.fn x = true := by
      rcases hf with z | z
      · exact z
      · rw [z] at hk; cases hk
    obtain ⟨c, hc⟩ := I.ok.has x (.inl hk)
    obtain ⟨w', z⟩ := I.cell x c hc
    refine wpAny_storeName_cell I.ok.kind hk hc z (fun h' hc' hs => ?_)
    obtain ⟨oc, hoc, hocd⟩ := id z
    refine h { s with heap := h' } ⟨I.ok, I.os, I.bare, ⟨fun b o e n hb hx => ?_, fun b o e n hb hx => ?_, I.base.free, fun b o e hx => ?_, I.base.tups, I.base.frzs, I.base.tbls⟩, ⟨m, hn.sameBut hs (Ne.symm (cne x c hc)), fun j y v' e1 e2 e3 => ?_⟩, fun y c' e => ?_, I.free, I.freeC, fun p hp => ?_, tracked ⟨oc, hoc, I.freeC x c hc⟩ hs, by simpa using I.len⟩ ⟨c, hs, .inr hc⟩
    · exact (hs.2 b (Nat.ne_of_lt (Nat.lt_of_lt_of_le (Heap.lt_size e) (I.ok.cab x c hfn hc)))).trans (I.base.keep b o e n hb hx)
    · obtain ⟨sl, e1⟩ := I.base.slot b o e n hb hx
      exact ⟨sl, (hs.2 b (Nat.ne_of_lt (Nat.lt_of_lt_of_le (Heap.lt_size e) (I.ok.cab x c hfn hc)))).trans e1⟩
    · obtain ⟨o', e1⟩ := I.base.there b o e hx
      exact ⟨o', (hs.2 b (Nat.ne_of_lt (Nat.lt_of_lt_of_le (Heap.lt_size e) (I.ok.cab x c hfn hc)))).trans e1⟩
    · by_cases hj : j = i
      · subst hj
        rw [hi] at e1; cases e1
        rw [List.getElem?_set_self hiσ] at e2
        cases e2
        exact ⟨u, r, .inr ⟨.inl hk, c, hc, hc'⟩⟩
      · rw [List.getElem?_set_ne (Ne.symm hj)] at e2
        obtain ⟨u', r', q⟩ := hl j y v' e1 e2 e3
        refine ⟨u', r', ?_⟩
        rcases q with q | ⟨k, c', e, z'⟩
        · exact .inl q
        · refine .inr ⟨k, c', e, z'.sameBut hs ?_⟩
          rintro rfl
          exact hj (nodup_ix hN e1 (I.ok.inj _ _ _ e hc ▸ hi))
    · by_cases hcc : c' = c
      · subst hcc; exact ⟨_, hc'⟩
      · obtain ⟨w2, z2⟩ := I.cell y c' e
        exact ⟨w2, z2.sameBut hs hcc⟩
    · obtain ⟨e, n, ne, nf, d⟩ := I.pin p hp
      refine ⟨(hs.2 p.1 ?_).trans e, n, ne, nf, d⟩
      intro q
      rw [q, hoc] at e
      have q' : oc = p.2 := Option.some.inj e
      exact d w' (by rw [← q']; exact hocd)
theorem store_ok {M : Model} {A : Around} {E : Value → Shared → Prop} {i : Nat} {x : Str} {v : V} {u : Value} {Q : Unit → Shared → Prop} (I : Inv X pins σ H s) (hN : X.N.Nodup) (hi : X.N[i]? = some x) (hx : Loc X.env.scope x) (r : RelV v u)
    (h : ∀ s', Inv X pins (σ.set i (some v)) H s' → Q () s') (hf : X.fn x = true ∨ X.env.scope.names.lookup x = some .local := by first | exact .inl rfl | exact .inr rfl | assumption) : wpAny M A (storeName X.env x u) Q E s :=
  store_ok2 I hN hi hx r (fun s' I' _ => h s' I') hf
theorem Inv.call' {s' : Shared} {ch : List Addr} (I : Inv X pins σ H s) (ho : s'.os = s.os) (u : Un (frs X.stack) ch H H' s.heap s'.heap) (hok : HOk X.prog X.w H' s'.heap) (hg : AllBare s'.gens)
    (hch : ∀ b ∈ ch, (b ∈ X.ex ∨ X.s₀.heap.objs.size ≤ b) ∧ b ≠ X.env.locals ∧ (∀ x c, X.env.cells.lookup x = some c → c ≠ b) ∧ ∀ p ∈ X.pn ++ pins, p.1 ≠ b) : Inv X pins σ H' s' := by
  obtain ⟨h', g', d', t', o'⟩ := s'
  have e : o' = s.os := ho
  subst e
  exact I.call (g' := g') (t' := t') (d' := d') u hok hg hch
end

abbrev XK := Value → Option Addr → Hp → Prop
abbrev St := List (Option V)
abbrev VK := V → Hp → Prop
abbrev TE := St → Hp → VK → Prop
abbrev TT := St → Hp → (Bool → Hp → Prop) → Prop
abbrev TA := St → Hp → (List V → Hp → Prop) → Prop
structure Ends where
  nx : St → Hp → Prop
  rt : VK
  bk : St → Hp → Prop := fun _ _ => False
  ct : St → Hp → Prop := fun _ _ => False
abbrev TS := Ends → St → Hp → Prop

def EP (X : Cx) (pins : List (Addr × Obj)) (σ : St) (Q : VK) (u : Value) (s' : Shared) : Prop := ∃ v H', Inv X pins σ H' s' ∧ RelV v u ∧ Q v H'
def TP (X : Cx) (pins : List (Addr × Obj)) (σ : St) (Q : Bool → Hp → Prop) (b : Bool) (s' : Shared) : Prop := ∃ H', Inv X pins σ H' s' ∧ Q b H'
def AP (X : Cx) (pins : List (Addr × Obj)) (σ : St) (Q : List V → Hp → Prop) (us : List Value) (s' : Shared) : Prop := ∃ vs H', Inv X pins σ H' s' ∧ Vals vs us ∧ Q vs H'
def SP (X : Cx) (pins : List (Addr × Obj)) (D : Ends) (f : Flow) (s' : Shared) : Prop :=
  match f with
  | .next => ∃ σ' H', Inv X pins σ' H' s' ∧ D.nx σ' H'
  | .brk => ∃ σ' H', Inv X pins σ' H' s' ∧ D.bk σ' H'
  | .cont => ∃ σ' H', Inv X pins σ' H' s' ∧ D.ct σ' H'
  | .ret u => ∃ v σ' H', Inv X pins σ' H' s' ∧ RelV v u ∧ D.rt v H'

def PE (X : Cx) (e : Expr) (t : TE) : Prop :=
  ∀ (pins : List (Addr × Obj)) (s : Shared) (σ : St) (H : Hp) (Q : VK), Inv X pins σ H s → t σ H Q → wpAny (model X.prog X.w) X.A (eval e X.env) (EP X pins σ Q) X.xe s
def PT (X : Cx) (e : Expr) (t : TT) : Prop :=
  ∀ (pins : List (Addr × Obj)) (s : Shared) (σ : St) (H : Hp) (Q : Bool → Hp → Prop), Inv X pins σ H s → t σ H Q → wpAny (model X.prog X.w) X.A (isTrue e X.env (eval e X.env)) (TP X pins σ Q) X.xe s
def PW (X : Cx) (e : Expr) (t : TT) : Prop :=
  ∀ (whole : Sem Value) (pins : List (Addr × Obj)) (s : Shared) (σ : St) (H : Hp) (Q : Bool → Hp → Prop), Inv X pins σ H s → t σ H Q → wpAny (model X.prog X.w) X.A (isTrue e X.env whole) (TP X pins σ Q) X.xe s
theorem PW.pt {X : Cx} {e : Expr} {t : TT} (h : PW X e t) : PT X e t := h _
def PA (X : Cx) (es : List Expr) (t : TA) : Prop :=
  ∀ (pos : Pos) (pins : List (Addr × Obj)) (s : Shared) (σ : St) (H : Hp) (Q : List V → Hp → Prop), Inv X pins σ H s → t σ H Q → wpAny (model X.prog X.w) X.A (spliced (backTo pos (starEach es X.env))) (AP X pins σ Q) X.xe s
def PS (X : Cx) (st : Stmt) (t : TS) : Prop :=
  ∀ (pins : List (Addr × Obj)) (s : Shared) (σ : St) (H : Hp) (D : Ends), Inv X pins σ H s → t D σ H → wpAny (model X.prog X.w) X.A (exec st X.env) (SP X pins D) X.xe s
def PSs (X : Cx) (st : List Stmt) (t : TS) : Prop :=
  ∀ (pins : List (Addr × Obj)) (s : Shared) (σ : St) (H : Hp) (D : Ends), Inv X pins σ H s → t D σ H → wpAny (model X.prog X.w) X.A (execs st X.env) (SP X pins D) X.xe s
theorem thn {α : Type} {t : Sem α} {Q Q' : α → Shared → Prop} {M : Model} {A : Around} {E : Value → Shared → Prop} {s : Shared} (h : wpAny M A t Q E s) (hQ : ∀ a s, Q a s → Q' a s) : wpAny M A t Q' E s := wpAny_mono h hQ fun _ _ x => x
end L2

namespace L2
open PySem PySem.Spec PyProof.Rows
section
variable {X : Cx}

def tVar (i : Nat) : TE := fun σ H Q => ∃ v, σ[i]? = some (some v) ∧ Q v H
def tC (v : V) : TE := fun _ H Q => Q v H
theorem pe_var {i : Nat} {x : Str} {pos : Pos} (hN : X.N[i]? = some x) (hv : Vis X.env.scope x) (hd : (x == ("__debug__" : Str)) = false := by decide) (hcd : (x == ("__classdict__" : Str)) = false := by decide) : PE X (.Name x pos) (tVar i) := by
  intro pins s σ H Q I h
  obtain ⟨v, e, h⟩ := h
  obtain ⟨m, hn, hl⟩ := I.loc
  obtain ⟨u, r, l⟩ := hl i x v hN e hv
  have fin : EP X pins σ Q u s := ⟨v, H, I, r, h⟩
  rcases l with ⟨hk, hm⟩ | ⟨hk, c, hc, hcell⟩
  · exact wpAny_Name (wpAny_loadName_local I.ok.kind hk hn hm fin) hd
  · rcases hk with hk | hk
    · exact wpAny_Name (wpAny_loadName_cell I.ok.kind hk hc hcell fin) hd
    · exact wpAny_Name (wpAny_loadName_free I.ok.kind hk hc hcell fin hcd) hd
theorem pe_int {i j pos} : PE X (.Constant (.int i) j pos) (tC (.int i)) := fun _ _ _ H _ I h => wpAny_Constant_int ⟨.int i, H, I.tok _, ⟨_, rfl⟩, h⟩
theorem pe_bl {b j pos} : PE X (.Constant (.bool b) j pos) (tC (.bl b)) := fun _ _ _ H _ I h => Constant_bool ⟨.bl b, H, I, rfl, h⟩
theorem pe_str {x j pos} : PE X (.Constant (.str x) j pos) (tC (.str x)) := fun _ _ _ H _ I h => Calls.Constant_str ⟨.str x, H, I.tok _, ⟨_, rfl⟩, h⟩

def Gl (X : Cx) (x : Str) : Prop := X.env.kindOf x = some .globalImplicit
theorem ld_glob {E : Value → Shared → Prop} {pins : List (Addr × Obj)} {s : Shared} {σ : St} {H : Hp} {x : Str} {u : Value} {pos : Pos} {Q : Value → Shared → Prop} (I : Inv X pins σ H s) (hg : Gl X x) (hm : X.mg x = some u) (h : Q u s)
    (hd : (x == ("__debug__" : Str)) = false := by decide) : wpAny (model X.prog X.w) X.A (eval (.Name x pos) X.env) Q E s :=
  Calls.Name_function_global I.ok.kind hg (Calls.loadGlobal_global (by rw [I.ok.glob]; exact I.mod.glob.keeps I.bk) hm h) hd
theorem ld_blt {E : Value → Shared → Prop} {pins : List (Addr × Obj)} {s : Shared} {σ : St} {H : Hp} {x : Str} {u : Value} {pos : Pos} {Q : Value → Shared → Prop} (I : Inv X pins σ H s) (hg : Gl X x) (hm : X.mg x = none) (hv : bootBuiltins x = some u) (h : Q u s)
    (hn : x ≠ "__name__" := by decide) (hd : (x == ("__debug__" : Str)) = false := by decide) : wpAny (model X.prog X.w) X.A (eval (.Name x pos) X.env) Q E s := by
  obtain ⟨mb, h1, h2⟩ := I.mod.blt
  exact Calls.Name_function_global I.ok.kind hg (Calls.loadGlobal_builtin (by rw [I.ok.glob]; exact I.mod.glob.keeps I.bk) hm (by rw [I.ok.blt]; exact h1.keeps I.bk) ((h2 x hn).trans hv) h) hd
theorem pe_glob {x : Str} {v : V} {u : Value} {pos : Pos} (hg : Gl X x) (hm : X.mg x = some u) (r : RelV v u) (hd : (x == ("__debug__" : Str)) = false := by decide) : PE X (.Name x pos) (tC v) :=
  fun _ _ _ H _ I h => ld_glob I hg hm ⟨v, H, I, r, h⟩ hd
theorem pe_bltn {x : Str} {v : V} {u : Value} {pos : Pos} (hg : Gl X x) (hm : X.mg x = none) (hv : bootBuiltins x = some u) (r : RelV v u) (hn : x ≠ "__name__" := by decide) (hd : (x == ("__debug__" : Str)) = false := by decide) : PE X (.Name x pos) (tC v) :=
  fun _ _ _ H _ I h => ld_blt I hg hm hv ⟨v, H, I, r, h⟩ hn hd

variable {a b : Expr} {ta tb : TE} {pos : Pos}
variable {tA tB' : TT} {rest : List Expr}
def tOr (t u : TT) : TT := fun σ H Q => t σ H fun c H1 => if c = true then Q true H1 else u σ H1 Q
def tNot (t : TT) : TT := fun σ H Q => t σ H fun c H1 => Q (!c) H1
theorem pw_or1 (ha : PT X a tA) : PW X (.BoolOp .Or [a] pos) tA := by
  intro wh pins s σ H Q I h
  refine isTrue_or (thn (ha pins s σ H Q I h) fun c s1 e => ?_)
  cases c with
  | false => exact isTrue_or_nil e
  | true => exact e
theorem pw_or (ha : PT X a tA) (hb : PW X (.BoolOp .Or (b :: rest) pos) tB') : PW X (.BoolOp .Or (a :: b :: rest) pos) (tOr tA tB') := by
  intro wh pins s σ H Q I h
  refine isTrue_or (thn (ha pins s σ H _ I h) fun c s1 ⟨H1, I1, q1⟩ => ?_)
  cases c with
  | true => exact ⟨H1, I1, q1⟩
  | false => exact hb wh pins s1 σ H1 Q I1 q1
theorem pt_not (ha : PT X a tA) : PT X (.UnaryOp .Not a pos) (tNot tA) := by
  intro pins s σ H Q I h
  exact isTrue_not (ha pins s σ H (fun c H1 => Q (!c) H1) I h)
def tAndV (ta tb : TE) : TE := fun σ H Q => ta σ H fun x H1 => ∃ c, x = .bl c ∧ if c = true then tb σ H1 Q else Q (.bl false) H1
theorem pe_one {op} {t : TE} (h : PE X a t) : PE X (.BoolOp op [a] pos) t := fun pins s σ H Q I hw => BoolOp_one (h pins s σ H Q I hw)
theorem pe_and (ha : PE X a ta) (hb : PE X (.BoolOp .And (b :: rest) pos) tb) : PE X (.BoolOp .And (a :: b :: rest) pos) (tAndV ta tb) := by
  intro pins s σ H Q I h
  refine BoolOp_and (thn (ha pins s σ H _ I h) fun v s1 ⟨x, H1, I1, r1, q1⟩ => ?_)
  obtain ⟨c, rfl, q1⟩ := q1
  cases r1
  refine wpAny_truthy_bool ?_
  cases c with
  | true => exact hb pins s1 σ H1 Q I1 q1
  | false => exact ⟨.bl false, H1, I1, rfl, q1⟩
end
end L2

namespace L2
open PySem PySem.Spec PyProof.Rows

def SqL (K : PySem.W.Frag) (H : Hp) (a : Addr) (xs : List V) : Prop :=
  Rd H a (.lst xs) ∨
    ∃ (o : Obj) (its : Array Value) (n : Nat), K.lookup a = some o ∧ o.cls = .type "list" ∧ o.dict = none ∧ o.data = .seq its n ∧ its.size ≤ sizeLine ∧ Vals xs its.toList
def SqT (K : PySem.W.Frag) (H : Hp) (a : Addr) (xs : List V) : Prop :=
  Rd H a (.tup xs) ∨
    ∃ (o : Obj) (its : Array Value) (n : Nat), K.lookup a = some o ∧ o.cls = .type "tuple" ∧ o.data = .seq its n ∧ its.size ≤ sizeLine ∧ Vals xs its.toList
def absV : Value → Option V
  | .none => some .non
  | .bool b => some (.bl b)
  | .int i _ => some (.int i)
  | .str x _ => some (.str x)
  | .bytes b _ => some (.byt b)
  | .float b _ => some (.flt b)
  | .ref a => some (.ref a)
  | .type n => some (.ty n)
  | _ => none
theorem RelV.abs {x : V} {u : Value} (r : RelV x u) : absV u = some x := by
  cases x with
  | non => cases r; rfl
  | bl _ => cases r; rfl
  | int _ => obtain ⟨t, rfl⟩ := r; rfl
  | str _ => obtain ⟨t, rfl⟩ := r; rfl
  | byt _ => obtain ⟨t, rfl⟩ := r; rfl
  | flt _ => obtain ⟨t, rfl⟩ := r; rfl
  | ref _ => cases r; rfl
  | ty _ => cases r; rfl
theorem RelV.inj {x y : V} {u : Value} (r : RelV x u) (q : RelV y u) : x = y := Option.some.inj (r.abs.symm.trans q.abs)
theorem Vals.inj : ∀ {xs ys : List V} {us : List Value}, Vals xs us → Vals ys us → xs = ys
  | _, _, _, .nil, .nil => rfl
  | _, _, _, .cons r t, .cons r' t' => by rw [r.inj r', Vals.inj t t']
section
variable {X : Cx} {pins : List (Addr × Obj)} {σ : St} {H : Hp} {s : Shared} {a : Addr} {xs ys : List V}
theorem SqL.of {K : PySem.W.Frag} (h : H a = some (.lst xs)) : SqL K H a xs := .inl (.inl h)
theorem SqT.of {K : PySem.W.Frag} (h : H a = some (.tup xs)) : SqT K H a xs := .inl (.inl h)
theorem Inv.list (I : Inv X pins σ H s) (h : SqL X.K H a xs) : ∃ its : List Value, Vals xs its ∧ PlainL s.heap a its.toArray ∧ xs.length ≤ sizeLine := by
  rcases h with h | ⟨o, its, n, hk, hc, hd, hs, hz, r⟩
  · obtain ⟨z, its, n, r, e⟩ := h.ok I.hok
    exact ⟨its, r, ⟨_, n, e, rfl, rfl, rfl⟩, z⟩
  · refine ⟨its.toList, r, ⟨o, n, I.kIn a o hk, hc, hd, by simpa using hs⟩, ?_⟩
    have e := r.length
    simp only [Array.length_toList] at e
    omega
theorem Inv.tuple (I : Inv X pins σ H s) (h : SqT X.K H a xs) : ∃ its : List Value, Vals xs its ∧ IsTup s.heap a its.toArray ∧ xs.length ≤ sizeLine := by
  rcases h with h | ⟨o, its, n, hk, hc, hs, hz, r⟩
  · obtain ⟨z, its, r, p⟩ := h.ok I.hok
    exact ⟨its, r, p, z⟩
  · refine ⟨its.toList, r, ⟨o, I.kIn a o hk, hc, n, by simpa using hs⟩, ?_⟩
    have e := r.length
    simp only [Array.length_toList] at e
    omega
theorem Inv.list_inj (I : Inv X pins σ H s) (h : SqL X.K H a xs) (h' : SqL X.K H a ys) : xs = ys := by
  obtain ⟨its, r, ⟨o, n, e, _, _, d⟩, _⟩ := I.list h
  obtain ⟨its', r', ⟨o', n', e', _, _, d'⟩, _⟩ := I.list h'
  rw [e] at e'; cases e'
  rw [d] at d'
  injection d' with d1 _
  have : its = its' := by simpa using congrArg Array.toList d1
  subst this
  exact r.inj r'
theorem Inv.tuple_inj (I : Inv X pins σ H s) (h : SqT X.K H a xs) (h' : SqT X.K H a ys) : xs = ys := by
  obtain ⟨its, r, ⟨o, e, _, n, d⟩, _⟩ := I.tuple h
  obtain ⟨its', r', ⟨o', e', _, n', d'⟩, _⟩ := I.tuple h'
  rw [e] at e'; cases e'
  rw [d] at d'
  injection d' with d1 _
  have : its = its' := by simpa using congrArg Array.toList d1
  subst this
  exact r.inj r'
end

abbrev Cx.wish (X : Cx) (E : Value → Shared → Prop) : Cx := { X with xe := E }
abbrev Cx.nox (X : Cx) : Cx := X.wish fun _ _ => False
theorem Cx.Ok.wish {X : Cx} (ok : X.Ok) (E : Value → Shared → Prop) : (X.wish E).Ok :=
  ⟨ok.mod, ok.kind, ok.glob, ok.blt, ok.above, ok.inj, ok.has, ok.cab, ok.hd, ok.frames, ok.stk, ok.exf, ok.bs, ok.bsz, ok.noex, ok.exfs, ok.funs, ok.frf⟩
theorem Cx.Ok.unwish {X : Cx} {E : Value → Shared → Prop} (ok : (X.wish E).Ok) : X.Ok :=
  ⟨ok.mod, ok.kind, ok.glob, ok.blt, ok.above, ok.inj, ok.has, ok.cab, ok.hd, ok.frames, ok.stk, ok.exf, ok.bs, ok.bsz, ok.noex, ok.exfs, ok.funs, ok.frf⟩
section
variable {X : Cx} {pins : List (Addr × Obj)} {σ : St} {H : Hp} {s : Shared} {E : Value → Shared → Prop}
theorem Inv.wish (I : Inv X pins σ H s) (E : Value → Shared → Prop) : Inv (X.wish E) pins σ H s := ⟨I.ok.wish E, I.os, I.bare, I.base, I.loc, I.cell, I.free, I.freeC, I.pin, I.hok, I.len⟩
theorem Inv.unwish (I : Inv (X.wish E) pins σ H s) : Inv X pins σ H s := ⟨I.ok.unwish, I.os, I.bare, I.base, I.loc, I.cell, I.free, I.freeC, I.pin, I.hok, I.len⟩
theorem SP.unwish {D : Ends} {f : Flow} {s' : Shared} (h : SP (X.wish E) pins D f s') : SP X pins D f s' := by
  cases f with
  | next => obtain ⟨σ', H', I, q⟩ := h; exact ⟨σ', H', I.unwish, q⟩
  | brk => obtain ⟨σ', H', I, q⟩ := h; exact ⟨σ', H', I.unwish, q⟩
  | cont => obtain ⟨σ', H', I, q⟩ := h; exact ⟨σ', H', I.unwish, q⟩
  | ret u => obtain ⟨v, σ', H', I, r, q⟩ := h; exact ⟨v, σ', H', I.unwish, r, q⟩
theorem PE.nox {e : Expr} {t : TE} (h : PE X.nox e t) : PE X e t := fun pins s σ H Q I hw =>
  wpAny_mono (h pins s σ H Q (I.wish _) hw) (fun _ _ ⟨v, H', I', r, q⟩ => ⟨v, H', I'.unwish, r, q⟩) fun _ _ z => False.elim z
theorem PT.nox {e : Expr} {t : TT} (h : PT X.nox e t) : PT X e t := fun pins s σ H Q I hw =>
  wpAny_mono (h pins s σ H Q (I.wish _) hw) (fun _ _ ⟨H', I', q⟩ => ⟨H', I'.unwish, q⟩) fun _ _ z => False.elim z
theorem PSs.nox {st : List Stmt} {t : TS} (h : PSs X.nox st t) : PSs X st t := fun pins s σ H D I hw =>
  wpAny_mono (h pins s σ H D (I.wish _) hw) (fun _ _ q => q.unwish) fun _ _ z => False.elim z
end

section
variable {X : Cx} {st : Stmt} {rest : List Stmt} {t u : TS} {e : Expr} {te : TE} {pos : Pos}
def tNext : TS := fun D σ H => D.nx σ H
def tSeq (t u : TS) : TS := fun D σ H => t { D with nx := u D } σ H
theorem pss_nil : PSs X [] tNext := fun _ _ σ H _ I h => wpAny_execs_nil ⟨σ, H, I, h⟩
theorem pss_cons (h1 : PS X st t) (h2 : PSs X rest u) : PSs X (st :: rest) (tSeq t u) := by
  intro pins s σ H D I h
  refine wpAny_execs_cons (thn (h1 pins s σ H { D with nx := u D } I h) fun f s1 q => ?_)
  cases f with
  | next =>
    obtain ⟨σ', H', I', q⟩ := q
    exact h2 pins s1 σ' H' D I' q
  | ret v => exact q
  | brk => exact q
  | cont => exact q
theorem pss_one (h1 : PS X st t) : PSs X [st] t := by
  intro pins s σ H D I h
  refine wpAny_execs_cons (thn (h1 pins s σ H D I h) fun f s1 q => ?_)
  cases f with
  | next => exact wpAny_execs_nil q
  | ret v => exact q
  | brk => exact q
  | cont => exact q
theorem Inv.quiet {pins : List (Addr × Obj)} {σ : St} {H : Hp} {s : Shared} (I : Inv X pins σ H s) : interactive X.env = false := by simp [interactive, I.ok.kind]
def tDrop (te : TE) : TS := fun D σ H => te σ H fun _ H1 => D.nx σ H1
theorem ps_expr (he : PE X e te) (hs : swapsWith e none pos.line X.env = pure false := by rfl) : PS X (.Expr e pos) (tDrop te) := by
  intro pins s σ H D I h
  exact wpAny_Expr_any (thn (he pins s σ H _ I h) fun v s1 ⟨x, H1, I1, r1, q1⟩ => ⟨σ, H1, I1, q1⟩) I.quiet hs
def tRet (te : TE) : TS := fun D σ H => te σ H D.rt
theorem ps_ret (he : PE X e te) : PS X (.Return (some e) pos) (tRet te) := by
  intro pins s σ H D I h
  exact wpAny_Return_some (thn (he pins s σ H _ I h) fun v s1 ⟨x, H1, I1, r1, q1⟩ => ⟨x, σ, H1, I1, r1, q1⟩)
def tIfS (c : TT) (t u : TS) : TS := fun D σ H => c σ H fun b H1 => if b = true then t D σ H1 else u D σ H1
theorem ps_if {c : Expr} {a b : List Stmt} {tc : TT} (hc : PT X c tc) (ha : PSs X a t) (hb : PSs X b u) : PS X (.If c a b pos) (tIfS tc t u) := by
  intro pins s σ H D I h
  refine wpAny_If (thn (hc pins s σ H _ I h) fun d s1 ⟨H1, I1, q1⟩ => ?_)
  cases d with
  | true => exact ha pins s1 σ H1 D I1 q1
  | false => exact hb pins s1 σ H1 D I1 q1
end

abbrev TG := V → St → Hp → (St → Hp → Prop) → Prop
abbrev TGs := List V → St → Hp → (St → Hp → Prop) → Prop
def PG (X : Cx) (target : Expr) (t : TG) : Prop :=
  ∀ (pins : List (Addr × Obj)) (s : Shared) (σ : St) (H : Hp) (v : V) (u : Value) (Q : St → Hp → Prop), Inv X pins σ H s → RelV v u → t v σ H Q →
    wpAny (model X.prog X.w) X.A (assign target X.env u) (fun _ s' => ∃ σ' H', Inv X pins σ' H' s' ∧ Q σ' H') X.xe s
def PGs (X : Cx) (ts : List Expr) (t : TGs) : Prop :=
  ∀ (pins : List (Addr × Obj)) (s : Shared) (σ : St) (H : Hp) (vs : List V) (us : List Value) (Q : St → Hp → Prop), Inv X pins σ H s → Vals vs us → t vs σ H Q →
    wpAny (model X.prog X.w) X.A (assignInOrder ((assignEach ts X.env).map (·.2)) us) (fun _ s' => ∃ σ' H', Inv X pins σ' H' s' ∧ Q σ' H') X.xe s
abbrev TIp := V → V → Hp → VK → Prop
def PIp (X : Cx) (op : Operator) (t : TIp) : Prop :=
  ∀ (pins : List (Addr × Obj)) (s : Shared) (σ : St) (H : Hp) (x y : V) (v u : Value) (Q : VK), Inv X pins σ H s → RelV x v → RelV y u → t x y H Q →
    wpAny (model X.prog X.w) X.A (inplaceOp op v u) (EP X pins σ Q) X.xe s
section
variable {X : Cx} {pos : Pos}
def gName (i : Nat) : TG := fun v σ H Q => Q (σ.set i (some v)) H
theorem pg_name {i : Nat} {x : Str} (hN : X.N.Nodup) (hi : X.N[i]? = some x) (hx : Loc X.env.scope x) (hf : X.fn x = true ∨ X.env.scope.names.lookup x = some .local := by first | exact .inl rfl | exact .inr rfl | assumption) : PG X (.Name x pos) (gName i) := by
  intro pins s σ H v u Q I r h
  exact wpAny_assign_Name (store_ok I hN hi hx r (fun s' I' => ⟨_, H, I', h⟩) hf)
def gNil : TGs := fun vs σ H Q => vs = [] ∧ Q σ H
def gCons (t : TG) (u : TGs) : TGs := fun vs σ H Q => ∃ v r, vs = v :: r ∧ t v σ H fun σ' H' => u r σ' H' Q
theorem pgs_nil : PGs X [] gNil := by
  intro pins s σ H vs us Q I r h
  obtain ⟨e, h⟩ := h
  subst e
  cases r
  exact assignInOrder_nil ⟨σ, H, I, h⟩
theorem pgs_cons {e : Expr} {es : List Expr} {t : TG} {u : TGs} (h1 : PG X e t) (h2 : PGs X es u)
    (hs : (assignEach (e :: es) X.env).map (·.2) = assign e X.env :: (assignEach es X.env).map (·.2) := by rfl) : PGs X (e :: es) (gCons t u) := by
  intro pins s σ H vs us Q I r h
  obtain ⟨v, vr, e1, h⟩ := h
  subst e1
  cases r with
  | cons r rr =>
    rw [hs]
    refine assignInOrder_cons (thn (h1 pins s σ H _ _ _ I r h) fun _ s1 ⟨σ1, H1, I1, q1⟩ => ?_)
    exact h2 pins s1 σ1 H1 _ _ Q I1 rr q1
def gTup (K : PySem.W.Frag) (n : Nat) (t : TGs) : TG := fun v σ H Q => ∃ a xs, v = .ref a ∧ SqT K H a xs ∧ xs.length = n ∧ t xs σ H Q
theorem pg_tup {es : List Expr} {k : Nat} {t : TGs} {n : Nat} (hc : X.calm = true) (h : PGs X es t)
    (hn : (assignEach es X.env).length = n := by rfl) (hst : (assignEach es X.env).findIdx? (·.1) = none := by rfl) : PG X (.Tuple es k pos) (gTup X.K n t) := by
  intro pins s σ H v u Q I r hw
  obtain ⟨a, xs, e1, hq, hl, hw⟩ := hw
  subst e1
  cases r
  obtain ⟨its, rv, ht, hz⟩ := I.tuple hq
  refine assign_Tuple_tuple (I.ok.hd hc) ht (by simp [hn, ← hl, rv.length]) hst fun h' hx => ?_
  have I1 : Inv X pins σ H { s with heap := h' } := I.kept (t' := s.toks) fun b o e => hx b o (Nat.ne_of_lt (Heap.lt_size e)) e
  exact h pins _ σ H xs _ Q I1 (by simpa using rv) hw
def tAsg (te : TE) (g : TG) : TS := fun D σ H => te σ H fun x H1 => g x σ H1 D.nx
theorem ps_asg {tg e : Expr} {te : TE} {g : TG} (he : PE X e te) (hg : PG X tg g) (hs : swapsWithSole [tg] e pos.line X.env = pure false := by rfl) (hw : swappedStores [tg] e X.env = pure none := by rfl)
    (h1 : (assignEach [tg] X.env).map (·.2) = [assign tg X.env] := by rfl) : PS X (.Assign [tg] e pos) (tAsg te g) := by
  intro pins s σ H D I h
  refine wpAny_Assign_stores (thn (he pins s σ H _ I h) fun v s1 ⟨x, H1, I1, r1, q1⟩ => ?_) hs hw
  rw [h1]
  exact thn (hg pins s1 σ H1 x v _ I1 r1 q1) fun _ s2 q => q
theorem ps_set {i : Nat} {x : Str} {e : Expr} {te : TE} {pos' : Pos} (hN : X.N.Nodup) (hi : X.N[i]? = some x) (hx : Loc X.env.scope x) (he : PE X e te) (hs : swapsWith e (some (.Name x pos')) pos.line X.env = pure false := by rfl) (hf : X.fn x = true ∨ X.env.scope.names.lookup x = some .local := by first | exact .inl rfl | exact .inr rfl | assumption) :
    PS X (.Assign [.Name x pos'] e pos) (tAsg te (gName i)) := by
  intro pins s σ H D I h
  refine wpAny_Assign_Name (thn (he pins s σ H _ I h) fun v s1 ⟨y, H1, I1, r1, q1⟩ => ?_) hs
  exact store_ok I1 hN hi hx r1 (fun s2 I2 => ⟨_, H1, I2, q1⟩) hf
def tAug (i : Nat) (te : TE) (ti : TIp) : TS := fun D σ H => ∃ x, σ[i]? = some (some x) ∧ te σ H fun y H1 => ti x y H1 fun z H2 => D.nx (σ.set i (some z)) H2
theorem ps_aug {i : Nat} {x : Str} {e : Expr} {te : TE} {op : Operator} {ti : TIp} {pos' : Pos} (hN : X.N.Nodup) (hi : X.N[i]? = some x) (hx : Loc X.env.scope x) (he : PE X e te) (ho : PIp X op ti) (hf : X.fn x = true ∨ X.env.scope.names.lookup x = some .local := by first | exact .inl rfl | exact .inr rfl | assumption) :
    PS X (.AugAssign (.Name x pos') op e pos) (tAug i te ti) := by
  intro pins s σ H D I h
  obtain ⟨v, e1, h⟩ := h
  obtain ⟨m, hn, hl⟩ := I.loc
  have vis : Vis X.env.scope x := by rcases hx with k | k; exact .inl k; exact .inr (.inl k)
  obtain ⟨u, r, l⟩ := hl i x v hi e1 vis
  refine wpAny_AugAssign_Name ?_
  have go : wpAny (model X.prog X.w) X.A (eval e X.env) (fun w s₂ => wpAny (model X.prog X.w) X.A (inplaceOp op u w) (fun r s₃ => wpAny (model X.prog X.w) X.A (storeName X.env x r) (fun _ => SP X pins D .next) X.xe s₃) X.xe s₂) X.xe s := by
    refine thn (he pins s σ H _ I h) fun w s1 ⟨y, H1, I1, r1, q1⟩ => ?_
    refine thn (ho pins s1 σ H1 v y u w _ I1 r r1 q1) fun z s2 ⟨zv, H2, I2, r2, q2⟩ => ?_
    exact store_ok I2 hN hi hx r2 (fun s3 I3 => ⟨_, H2, I3, q2⟩) hf
  rcases l with ⟨hk, hm⟩ | ⟨hk, c, hc, hcell⟩
  · exact wpAny_loadName_local I.ok.kind hk hn hm go
  · rcases hk with hk | hk
    · exact wpAny_loadName_cell I.ok.kind hk hc hcell go
    · rcases hx with k | k
      · have : X.env.scope.names.lookup x = some .free := hk
        rw [k] at this; cases this
      · have : X.env.scope.names.lookup x = some .free := hk
        rw [k] at this; cases this
def ipI (f : Int → Int → Int) : TIp := fun x y H Q => ∃ i j, x = .int i ∧ y = .int j ∧ Q (.int (f i j)) H
theorem ip_add : PIp X .Add (ipI fun i j => i + j) := by
  intro pins s σ H x y v u Q I r1 r2 h
  obtain ⟨i, j, e1, e2, q⟩ := h
  subst e1; subst e2
  obtain ⟨t, rfl⟩ := r1
  obtain ⟨t', rfl⟩ := r2
  exact iadd_int ⟨.int _, H, I.tok _, ⟨_, rfl⟩, q⟩
end

section
variable {X : Cx} {pos : Pos}
def tWhile (c : TT) (tb : TS) : TS := fun D σ H => ∃ W : Nat → St → Hp → Prop, (∃ m, W m σ H) ∧ ∀ m σ H, W m σ H →
  c σ H fun b H1 => if b = true then ∃ N : St → Hp → Prop, (∀ σ' H', N σ' H' → ∃ m', m' < m ∧ W m' σ' H') ∧ tb { D with nx := N, ct := N, bk := D.nx } σ H1 else D.nx σ H1
theorem ps_while {c : Expr} {body : List Stmt} {tc : TT} {tb : TS} (hp : PassesOwn (model X.prog X.w) X.A X.env X.xe) (hc : PT X c tc) (hb : PSs X body tb) : PS X (.While c body [] pos) (tWhile tc tb) := by
  intro pins s σ H D I h
  obtain ⟨W, ⟨m0, w0⟩, turn⟩ := h
  refine wpAny_While (codeAny_whileLoop (fun n s' => ∃ σ' H', Inv X pins σ' H' s' ∧ W n σ' H') ?_ m0 ⟨σ, H, I, w0⟩)
  rintro n s1 ⟨σ1, H1, I1, w1⟩
  refine wpAny_passesOwn hp (thn (hc pins s1 σ1 H1 _ I1 (turn n σ1 H1 w1)) fun b s2 ⟨H2, I2, q2⟩ => ?_)
  cases b with
  | true =>
    obtain ⟨N, hN, q2⟩ := q2
    rw [if_pos rfl]
    refine wpAny_passesOwn hp (thn (hb pins s2 σ1 H2 _ I2 q2) fun f s3 q3 => ?_)
    cases f with
    | next =>
      obtain ⟨σ3, H3, I3, n3⟩ := q3
      obtain ⟨m', hm, w3⟩ := hN σ3 H3 n3
      exact ⟨m', hm, σ3, H3, I3, w3⟩
    | cont =>
      obtain ⟨σ3, H3, I3, n3⟩ := q3
      obtain ⟨m', hm, w3⟩ := hN σ3 H3 n3
      exact ⟨m', hm, σ3, H3, I3, w3⟩
    | brk => exact q3
    | ret v => exact q3
  | false =>
    rw [if_neg Bool.false_ne_true]
    exact wpAny_execs_nil ⟨σ1, H2, I2, q2⟩
end

structure It where
  go : Nat → Hp → Prop
  yld : Nat → Hp → V → Hp → Prop
  stop : Nat → Hp → Prop
def FpOk (X : Cx) (pins : List (Addr × Obj)) (H : Hp) (b : Addr) : Prop :=
  H b = none ∧ b ≠ X.env.locals ∧ b ∉ X.fs ∧ (b ∈ X.ex ∨ X.s₀.heap.objs.size ≤ b) ∧ (∀ x c, X.env.cells.lookup x = some c → c ≠ b) ∧ ∀ p ∈ X.pn ++ pins, p.1 ≠ b
theorem Inv.fpOk {X : Cx} {pins : List (Addr × Obj)} {σ : St} {H H' : Hp} {s : Shared} {b : Addr} (I : Inv X pins σ H s) (hb : s.heap.objs.size ≤ b) (hn : H' b = none) : FpOk X pins H' b := by
  refine ⟨hn, Nat.ne_of_gt (Nat.lt_of_lt_of_le I.lt hb), I.nofs hb, .inr (Nat.le_trans I.sz hb), fun x c e z => ?_, fun p hp z => ?_⟩
  · obtain ⟨v, q⟩ := I.cell x c e
    exact absurd (Nat.lt_of_lt_of_le q.lt (by rw [z]; exact hb)) (Nat.lt_irrefl _)
  · exact absurd (Nat.lt_of_lt_of_le (Heap.lt_size (I.pin p hp).1) (by rw [z]; exact hb)) (Nat.lt_irrefl _)
structure Turn (P : Program) (w : World) (K : PySem.W.Frag) (tg : Expr) (J : It) (fp : List Addr) (it : Addr) (tn : Nat → Heap → Prop) : Prop where
  mem : it ∈ fp
  obj : ∀ i h, tn i h → ∀ b ∈ fp, ∃ o, h.get? b = some o ∧ ∀ v, o.data ≠ .cell v
  keep : ∀ i h h', tn i h → (∀ b ∈ fp, ∀ o, h.get? b = some o → h'.get? b = some o) → tn i h'
  item : ∀ (X : Cx), X.prog = P → X.w = w → X.K = K → X.calm = true → ∀ (i : Nat) (pins : List (Addr × Obj)) (s : Shared) (σ : St) (H : Hp) (E : Value → Shared → Prop), Inv X pins σ H s → (∀ b ∈ fp, FpOk X pins H b) → tn i s.heap → J.go i H →
    wpAny (model P w) X.A (pyNext (.ref it)) (fun r s1 => ∃ u, r = some u ∧
      wpAny (model P w) X.A (letOwnedTupleGo tg (.ref it) u) (fun _ s2 => ∃ x H', Inv X pins σ H' s2 ∧ RelV x u ∧ J.yld i H x H' ∧ tn (i + 1) s2.heap ∧ ∀ b ∈ fp, H' b = none) E s1) E s
  done : ∀ (X : Cx), X.prog = P → X.w = w → X.K = K → X.calm = true → ∀ (i : Nat) (pins : List (Addr × Obj)) (s : Shared) (σ : St) (H : Hp) (E : Value → Shared → Prop), Inv X pins σ H s → (∀ b ∈ fp, FpOk X pins H b) → tn i s.heap → J.stop i H →
    wpAny (model P w) X.A (pyNext (.ref it)) (fun r s1 => r = none ∧ Inv X pins σ H s1) E s
  self : ∀ (A : Around) (i : Nat) (s : Shared) (Q : Value → Shared → Prop) (E : Value → Shared → Prop), tn i s.heap → Q (.ref it) s → wpAny (model P w) A (pyIter (.ref it)) Q E s
abbrev TI := St → Hp → (It → Hp → Prop) → Prop
def PIE (X : Cx) (pins : List (Addr × Obj)) (σ : St) (tg : Expr) (R : It → Hp → Prop) (itv : Value) (s2 : Shared) : Prop :=
  ∃ (it : Addr) (fp : List Addr) (tn : Nat → Heap → Prop) (J : It) (H' : Hp), itv = .ref it ∧ Inv X pins σ H' s2 ∧ Turn X.prog X.w X.K tg J fp it tn ∧ tn 0 s2.heap ∧ (∀ b ∈ fp, FpOk X pins H' b) ∧ R J H'
def PI (X : Cx) (tg iter : Expr) (wi : TI) : Prop :=
  ∀ (pins : List (Addr × Obj)) (s : Shared) (σ : St) (H : Hp) (R : It → Hp → Prop), Inv X pins σ H s → wi σ H R →
    wpAny (model X.prog X.w) X.A (eval iter X.env) (fun v s1 => wpAny (model X.prog X.w) X.A (pyIter v) (PIE X pins σ tg R) X.xe s1) X.xe s

theorem go_of {M : Model} {A : Around} {E : Value → Shared → Prop} {s : Shared} {tg : Expr} {it : Addr} {u : Value} {o : Obj} {n : String} {vs : Array Value} {Q : Unit → Shared → Prop} (ho : s.heap.get? it = some o) (hc : o.cls = .type n) (hd : o.data = .fields vs)
    (hn : ["enumerate", "zip", "dict_itemiterator", "dict_reverseitemiterator", "odict_iterator", "itertools.zip_longest", "itertools.pairwise"].contains n = false) (hQ : Q () s) : wpAny M A (letOwnedTupleGo tg (.ref it) u) Q E s := by
  unfold letOwnedTupleGo
  cases tg <;> first
    | exact wpAny_pure hQ
    | (cases u <;> first
        | exact wpAny_pure hQ
        | (refine wpAny_bind (wpAny_load ho ?_)
           rw [hc, hd]
           show wpAny M A (if (["enumerate", "zip", "dict_itemiterator", "dict_reverseitemiterator", "odict_iterator", "itertools.zip_longest", "itertools.pairwise"].contains n && vs[0]? == some (rawInt _)) = true then _ else _) Q E s
           rw [if_neg (by intro h; rw [hn, Bool.false_and] at h; cases h)]
           exact wpAny_pure hQ))

def Itl (K : PySem.W.Frag) (a : Addr) : It :=
  ⟨fun i H => ∃ xs x, SqL K H a xs ∧ xs[i]? = some x, fun i H x H' => H' = H ∧ ∀ xs, SqL K H a xs → xs[i]? = some x, fun i H => ∃ xs, SqL K H a xs ∧ xs.length ≤ i⟩
def Itt (K : PySem.W.Frag) (a : Addr) : It :=
  ⟨fun i H => ∃ xs x, SqT K H a xs ∧ xs[i]? = some x, fun i H x H' => H' = H ∧ ∀ xs, SqT K H a xs → xs[i]? = some x, fun i H => ∃ xs, SqT K H a xs ∧ xs.length ≤ i⟩
def Itr (lo : Int) (n : Nat) : It := ⟨fun i _ => i < n, fun i H x H' => H' = H ∧ x = .int (lo + i), fun i _ => n ≤ i⟩
theorem turn_list {P : Program} {w : World} {K : PySem.W.Frag} {tg : Expr} (a it : Addr) : Turn P w K tg (Itl K a) [it] it (fun i h => h.IsListIter it a i) where
  mem := by simp
  obj := fun i h st b hb => by
    have e : b = it := by simpa using hb
    subst e
    obtain ⟨o, e, c, d⟩ := st
    exact ⟨o, e, fun v z => by rw [d] at z; cases z⟩
  keep := fun i h h' st k => st.at fun o e => k it (by simp) o e
  item := by
    intro X hP hw hK hc i pins s σ H E I hf st hg
    subst hP hw hK
    obtain ⟨xs, x, hq, hx⟩ := hg
    obtain ⟨its, rv, p, hz⟩ := I.list hq
    obtain ⟨u, hu, ru⟩ := rv.get hx
    obtain ⟨f0, f1, f2, f3, f4, f5⟩ := hf it (by simp)
    refine wpAny_pyNext_list_item st p.isList (x := u) (by simpa using hu) fun h' st' sb => ?_
    have I1 : Inv X pins σ H { s with heap := h' } := I.turned (t' := s.toks) (fun b o hb e => (sb.2 b hb).trans e) f0 f1 f3 f4 f5
    obtain ⟨o, e, c, d⟩ := id st'
    exact ⟨u, rfl, go_of (s := { s with heap := h' }) e c d (by decide) ⟨x, H, I1, ru, ⟨rfl, fun ys hy => by rw [I.list_inj hy hq]; exact hx⟩, st', fun b hb => (hf b hb).1⟩⟩
  done := by
    intro X hP hw hK hc i pins s σ H E I hf st hg
    subst hP hw hK
    obtain ⟨xs, hq, hx⟩ := hg
    obtain ⟨its, rv, p, hz⟩ := I.list hq
    obtain ⟨f0, f1, f2, f3, f4, f5⟩ := hf it (by simp)
    have hl := rv.length
    exact wpAny_pyNext_list_end (I.ok.hd hc) st p.isList (by simp; omega) fun h' eb => ⟨rfl, I.turned (t' := s.toks) (fun b o hb e => eb b o hb e) f0 f1 f3 f4 f5⟩
  self := fun _ _ _ _ _ st h => wpAny_pyIter_listiter st h
theorem turn_tuple {P : Program} {w : World} {K : PySem.W.Frag} {tg : Expr} (a it : Addr) : Turn P w K tg (Itt K a) [it] it (fun i h => h.IsTupleIter it a i) where
  mem := by simp
  obj := fun i h st b hb => by
    have e : b = it := by simpa using hb
    subst e
    obtain ⟨o, e, c, d⟩ := st
    exact ⟨o, e, fun v z => by rw [d] at z; cases z⟩
  keep := fun i h h' st k => st.at fun o e => k it (by simp) o e
  item := by
    intro X hP hw hK hc i pins s σ H E I hf st hg
    subst hP hw hK
    obtain ⟨xs, x, hq, hx⟩ := hg
    obtain ⟨its, rv, p, hz⟩ := I.tuple hq
    obtain ⟨u, hu, ru⟩ := rv.get hx
    obtain ⟨f0, f1, f2, f3, f4, f5⟩ := hf it (by simp)
    refine wpAny_pyNext_tuple_item st (show s.heap.IsTuple a its.toArray from p) (x := u) (by simpa using hu) fun h' st' sb => ?_
    have I1 : Inv X pins σ H { s with heap := h' } := I.turned (t' := s.toks) (fun b o hb e => (sb.2 b hb).trans e) f0 f1 f3 f4 f5
    obtain ⟨o, e, c, d⟩ := id st'
    exact ⟨u, rfl, go_of (s := { s with heap := h' }) e c d (by decide) ⟨x, H, I1, ru, ⟨rfl, fun ys hy => by rw [I.tuple_inj hy hq]; exact hx⟩, st', fun b hb => (hf b hb).1⟩⟩
  done := by
    intro X hP hw hK hc i pins s σ H E I hf st hg
    subst hP hw hK
    obtain ⟨xs, hq, hx⟩ := hg
    obtain ⟨its, rv, p, hz⟩ := I.tuple hq
    obtain ⟨f0, f1, f2, f3, f4, f5⟩ := hf it (by simp)
    have hl := rv.length
    exact wpAny_pyNext_tuple_end (I.ok.hd hc) st (show s.heap.IsTuple a its.toArray from p) (by simp; omega) fun h' eb => ⟨rfl, I.turned (t' := s.toks) (fun b o hb e => eb b o hb e) f0 f1 f3 f4 f5⟩
  self := fun _ _ _ _ _ st h => wpAny_pyIter_tupleiter st h
theorem turn_range {P : Program} {w : World} {K : PySem.W.Frag} {tg : Expr} (it : Addr) (lo : Int) (n : Nat) : Turn P w K tg (Itr lo n) [it] it (fun i h => IsRangeIter h it (lo + (i : Nat) * 1) ((n : Int) - (i : Nat)) 1) where
  mem := by simp
  obj := fun i h st b hb => by
    have e : b = it := by simpa using hb
    subst e
    exact ⟨_, st, fun v z => by
      have z' : Data.fields _ = Data.cell v := z
      cases z'⟩
  keep := fun i h h' st k => k it (by simp) _ st
  item := by
    intro X hP hw hK hc i pins s σ H E I hf st hg
    subst hP hw hK
    obtain ⟨f0, f1, f2, f3, f4, f5⟩ := hf it (by simp)
    have W := Walks.range (prog := X.prog) (w := X.w) (I.ok.hd hc) it lo 1 n
    refine W.item i s _ _ hg st fun v h' tk hv st' kk => ?_
    obtain ⟨t, rfl⟩ := hv
    have I1 : Inv X pins σ H { s with heap := h', toks := tk } := I.turned (fun b o hb e => kk b o (by simpa using hb) e) f0 f1 f3 f4 f5
    refine ⟨_, rfl, go_of (s := { s with heap := h', toks := tk }) (n := "range_iterator") st' rfl rfl (by decide) ⟨.int (lo + i), H, I1, ⟨t, ?_⟩, ⟨rfl, rfl⟩, st', fun b hb => (hf b hb).1⟩⟩
    rw [Int.mul_one]
  done := by
    intro X hP hw hK hc i pins s σ H E I hf st hg
    subst hP hw hK
    obtain ⟨f0, f1, f2, f3, f4, f5⟩ := hf it (by simp)
    exact wpAny_pyNext_range_end (I.ok.hd hc) st (by have : n ≤ i := hg; omega) fun h' eb => ⟨rfl, I.turned (t' := s.toks) (fun b o hb e => eb b o hb e) f0 f1 f3 f4 f5⟩
  self := fun _ _ _ _ _ st h => wpAny_pyIter_rangeiter st h
end L2

namespace L2
open PySem PySem.Spec PyProof.Rows
section
variable {X : Cx} {tg : Expr}
theorem range_it {pins : List (Addr × Obj)} {σ : St} {H : Hp} {s : Shared} {R : It → Hp → Prop} {E : Value → Shared → Prop} {lo hi : Int} {t u v : Tok} {tk : Nat} (I : Inv X pins σ H s) (h1 : -(2 ^ 62) ≤ lo) (h2 : lo < 2 ^ 62) (h3 : -(2 ^ 62) ≤ hi) (h4 : hi < 2 ^ 62)
    (q : R (Itr lo (hi - lo).toNat) H) : wpAny (model X.prog X.w) X.A (pyIter (.ref s.heap.objs.size)) (PIE X pins σ tg R) E { s with heap := s.heap.push { cls := .type "range", data := .fields #[.int lo t, .int hi u, .int 1 v] }, toks := tk } := by
  refine wpAny_pyIter_range (IsRange.new ..) (small_one h1 h2 h3 h4) ?_
  have I1 : Inv X pins σ H { s with heap := s.heap.push { cls := .type "range", data := .fields #[.int lo t, .int hi u, .int 1 v] }, toks := tk } := I.kept fun b o e => Heap.get?_push_of_some _ e
  refine ⟨(s.heap.push { cls := .type "range", data := .fields #[.int lo t, .int hi u, .int 1 v] }).objs.size, [(s.heap.push { cls := .type "range", data := .fields #[.int lo t, .int hi u, .int 1 v] }).objs.size], _, _, H, rfl,
    I1.kept (t' := tk) fun b o e => Heap.get?_push_of_some _ e, turn_range _ lo (hi - lo).toNat, ?_, fun b hb => ?_, q⟩
  · have e1 : lo + ((0 : Nat) : Int) * 1 = lo := by simp
    have e2 : (((hi - lo).toNat : Nat) : Int) - ((0 : Nat) : Int) = Builtin.Range.rangeSize lo hi 1 := by rw [rangeSize_one]; split <;> omega
    show IsRangeIter _ _ (lo + ((0 : Nat) : Int) * 1) ((((hi - lo).toNat : Nat) : Int) - ((0 : Nat) : Int)) 1
    rw [e1, e2]
    exact Heap.get?_push_size _ rfl
  · have e : b = (s.heap.push { cls := .type "range", data := .fields #[.int lo t, .int hi u, .int 1 v] }).objs.size := by simpa using hb
    subst e
    exact I1.fpOk (Nat.le_refl _) (I1.hok.fresh (Nat.le_refl _))
def iRng1 (ta : TA) : TI := fun σ H R => ta σ H fun vs H1 => ∃ j : Int, vs = [.int j] ∧ -(2 ^ 62) ≤ j ∧ j < 2 ^ 62 ∧ R (Itr 0 j.toNat) H1
theorem pi_range1 {a : Expr} {ta : TA} {p pos : Pos} (hg : Gl X "range") (hm : X.mg "range" = none) (ha : PA X [a] ta) (hs : starEach [a] X.env = [(false, eval a X.env)] := by rfl) : PI X tg (.Call (.Name "range" p) [a] [] pos) (iRng1 ta) := by
  intro pins s σ H R I h
  refine Call_ (ld_blt I hg hm boot_range (PyProof.Rows.callWith_type1 (thn (ha pos pins s σ H _ I h) fun us s1 ⟨vs, H1, I1, r1, q1⟩ => ?_) hs rfl))
  obtain ⟨j, e, q1, q2, q⟩ := q1
  subst e
  cases r1 with
  | cons r rr =>
    cases rr
    obtain ⟨t, rfl⟩ := r
    exact call_range_1 (range_it I1 (by omega) (by omega) q1 q2 (by simpa using q))
def tFor (wi : TI) (g : TG) (tb : TS) : TS := fun D σ H => wi σ H fun J H1 => ∃ W : Nat → Nat → St → Hp → Prop, (∃ m, W 0 m σ H1) ∧ ∀ i m σ H, W i m σ H →
  (J.stop i H ∧ D.nx σ H) ∨ (J.go i H ∧ ∃ N : St → Hp → Prop, (∀ σ' H', N σ' H' → ∃ m', m' < m ∧ W (i + 1) m' σ' H') ∧ ∀ x H', J.yld i H x H' → g x σ H' fun σ2 H2 => tb { D with nx := N, ct := N, bk := D.nx } σ2 H2)
def pinsAt (fp : List Addr) (h : Heap) : List (Addr × Obj) := fp.filterMap fun b => (h.get? b).map fun o => (b, o)
theorem mem_pinsAt {fp : List Addr} {h : Heap} {b : Addr} {o : Obj} (hb : b ∈ fp) (e : h.get? b = some o) : (b, o) ∈ pinsAt fp h := List.mem_filterMap.mpr ⟨b, hb, by rw [e]; rfl⟩
theorem of_pinsAt {fp : List Addr} {h : Heap} {p : Addr × Obj} (hp : p ∈ pinsAt fp h) : p.1 ∈ fp ∧ h.get? p.1 = some p.2 := by
  obtain ⟨b, hb, e⟩ := List.mem_filterMap.mp hp
  cases q : h.get? b with
  | none => rw [q] at e; cases e
  | some o =>
    rw [q] at e
    have e' : (b, o) = p := Option.some.inj e
    subst e'
    exact ⟨hb, q⟩
theorem Inv.pinned {pins : List (Addr × Obj)} {σ : St} {H : Hp} {s : Shared} {fp : List Addr} (I : Inv X pins σ H s) (hf : ∀ b ∈ fp, FpOk X pins H b) (ho : ∀ b ∈ fp, ∃ o, s.heap.get? b = some o ∧ ∀ v, o.data ≠ .cell v) : Inv X (pins ++ pinsAt fp s.heap) σ H s :=
  I.pins_of fun p hp => (List.mem_append.mp hp).elim (fun z => I.pin p (List.mem_append_right _ z)) fun z => by
    obtain ⟨hb, e⟩ := of_pinsAt z
    obtain ⟨f0, f1, f2, _⟩ := hf p.1 hb
    obtain ⟨o, e', d⟩ := ho p.1 hb
    rw [e] at e'; cases e'
    exact ⟨e, f0, f1, f2, d⟩
theorem Inv.unpinned {pins pl : List (Addr × Obj)} {σ : St} {H : Hp} {s : Shared} (I : Inv X (pins ++ pl) σ H s) : Inv X pins σ H s := I.pins_of fun p hp => I.pin p (List.mem_append_right _ (List.mem_append_left _ hp))
theorem ps_for {iter : Expr} {body : List Stmt} {wi : TI} {g : TG} {tb : TS} {pos : Pos} (hp : PassesOwn (model X.prog X.w) X.A X.env X.xe) (hc : X.calm = true) (hi : PI X tg iter wi) (hg : PG X tg g) (hb : PSs X body tb)
    (hs : ∀ x, foldedSetIterable iter X.env x = pure x := by intro _; rfl) : PS X (.For tg iter body [] pos) (tFor wi g tb) := by
  intro pins s σ H D I h
  refine wpAny_For (thn (hi pins s σ H _ I h) fun v s1 h1 => thn h1 fun itv s2 h2 => ?_) hs
  obtain ⟨it, fp, tn, J, H2, e, I2, T, st2, f2, W, ⟨m0, w0⟩, turn⟩ := h2
  subst e
  -- what stays true of the iterator's objects through the loop
  have stat : ∀ {H' : Hp}, (∀ b ∈ fp, H' b = none) → ∀ b ∈ fp, FpOk X pins H' b := fun hn b hb => ⟨hn b hb, (f2 b hb).2⟩
  refine codeAny_forLoop_any (fun n s' => ∃ i σ' H', Inv X pins σ' H' s' ∧ tn i s'.heap ∧ (∀ b ∈ fp, H' b = none) ∧ W i n σ' H') ?_ m0 ⟨0, σ, H2, I2, st2, fun b hb => (f2 b hb).1, w0⟩
  rintro n s3 ⟨i, σ3, H3, I3, st3, fr3, w3⟩
  rcases turn i n σ3 H3 w3 with ⟨stop, qn⟩ | ⟨go, N, hN, step⟩
  · refine wpAny_passesOwn hp (thn (T.done X rfl rfl rfl hc i pins s3 σ3 H3 X.xe I3 (stat fr3) st3 stop) fun r s4 ⟨hr, I4⟩ => ?_)
    subst hr
    exact wpAny_execs_nil ⟨σ3, H3, I4, qn⟩
  · refine wpAny_passesOwn hp (thn (T.item X rfl rfl rfl hc i pins s3 σ3 H3 X.xe I3 (stat fr3) st3 go) fun r s4 ⟨u, hr, h4⟩ => ?_)
    subst hr
    refine wpAny_passesOwn hp (thn h4 fun _ s5 ⟨x, H5, I5, r5, y5, st5, fr5⟩ => ?_)
    have I5' := I5.pinned (stat fr5) (T.obj _ _ st5)
    refine wpAny_passesOwn hp (thn (hg _ s5 σ3 H5 x u _ I5' r5 (step x H5 y5)) fun _ s6 ⟨σ6, H6, I6, q6⟩ => ?_)
    refine wpAny_passesOwn hp (thn (hb _ s6 σ6 H6 _ I6 q6) fun f s7 q7 => ?_)
    have again : ∀ {σ7 : St} {H7 : Hp}, Inv X (pins ++ pinsAt fp s5.heap) σ7 H7 s7 → N σ7 H7 → ∃ m, m < n ∧ ∃ i σ' H', Inv X pins σ' H' s7 ∧ tn i s7.heap ∧ (∀ b ∈ fp, H' b = none) ∧ W i m σ' H' := fun {σ7 H7} I7 n7 => by
      obtain ⟨m', hm, w7⟩ := hN σ7 H7 n7
      refine ⟨m', hm, i + 1, σ7, H7, I7.unpinned, T.keep _ _ _ st5 fun b hb o e => (I7.pin (b, o) (List.mem_append_right _ (List.mem_append_right _ (mem_pinsAt hb e)))).1, fun b hb => ?_, w7⟩
      obtain ⟨o, e, d⟩ := T.obj _ _ st5 b hb
      exact (I7.pin (b, o) (List.mem_append_right _ (List.mem_append_right _ (mem_pinsAt hb e)))).2.1
    cases f with
    | next => obtain ⟨σ7, H7, I7, n7⟩ := q7; exact again I7 n7
    | cont => obtain ⟨σ7, H7, I7, n7⟩ := q7; exact again I7 n7
    | brk => obtain ⟨σ7, H7, I7, q7⟩ := q7; exact ⟨σ7, H7, I7.unpinned, q7⟩
    | ret v => obtain ⟨x7, σ7, H7, I7, r7, q7⟩ := q7; exact ⟨x7, σ7, H7, I7.unpinned, r7, q7⟩
end

end L2

namespace L2
open PySem PySem.Spec PyProof.Rows

abbrev R2 := V → V → Hp → VK → Prop
def OpR (X : Cx) (f : Value → Value → Sem Value) (r : R2) : Prop :=
  ∀ (pins : List (Addr × Obj)) (s : Shared) (σ : St) (H : Hp) (x y : V) (v u : Value) (Q : VK), Inv X pins σ H s → RelV x v → RelV y u → r x y H Q →
    wpAny (model X.prog X.w) X.A (f v u) (EP X pins σ Q) X.xe s
def UnR (X : Cx) (f : Value → Sem Value) (r : V → Hp → VK → Prop) : Prop :=
  ∀ (pins : List (Addr × Obj)) (s : Shared) (σ : St) (H : Hp) (x : V) (v : Value) (Q : VK), Inv X pins σ H s → RelV x v → r x H Q →
    wpAny (model X.prog X.w) X.A (f v) (EP X pins σ Q) X.xe s
def CallR (X : Cx) (f : Value) (r : List V → Hp → VK → Prop) : Prop :=
  ∀ (pins : List (Addr × Obj)) (s : Shared) (σ : St) (H : Hp) (xs : List V) (us : List Value) (Q : VK), Inv X pins σ H s → Vals xs us → r xs H Q →
    wpAny (model X.prog X.w) X.A (call f us) (EP X pins σ Q) X.xe s
def TruR (X : Cx) (r : V → Hp → (Bool → Hp → Prop) → Prop) : Prop :=
  ∀ (pins : List (Addr × Obj)) (s : Shared) (σ : St) (H : Hp) (x : V) (v : Value) (Q : Bool → Hp → Prop), Inv X pins σ H s → RelV x v → r x H Q →
    wpAny (model X.prog X.w) X.A (truthy v) (TP X pins σ Q) X.xe s

def tOp (r : R2) (ta tb : TE) : TE := fun σ H Q => ta σ H fun x H1 => tb σ H1 fun y H2 => r x y H2 Q
def tUn (r : V → Hp → VK → Prop) (ta : TE) : TE := fun σ H Q => ta σ H fun x H1 => r x H1 Q
def rI (C : Int → Int → Prop) (g : Int → Int → V) : R2 := fun x y H Q => ∃ i j, x = .int i ∧ y = .int j ∧ C i j ∧ Q (g i j) H
def rI0 (g : Int → Int → V) : R2 := fun x y H Q => ∃ i j, x = .int i ∧ y = .int j ∧ Q (g i j) H
def rU (g : Int → V) : V → Hp → VK → Prop := fun x H Q => ∃ i, x = .int i ∧ Q (g i) H

section
variable {X : Cx} {a b c : Expr} {ta tb tc : TE} {pos : Pos}

theorem binT (ha : PE X a ta) (hb : PE X b tb) {pins : List (Addr × Obj)} {s : Shared} {σ : St} {H : Hp} {R : V → V → Hp → Prop} (I : Inv X pins σ H s)
    (h : ta σ H fun x H1 => tb σ H1 fun y H2 => R x y H2) {Q : Value → Shared → Prop} {f : Value → Value → Sem Value}
    (hf : ∀ v u s2 x y H2, Inv X pins σ H2 s2 → RelV x v → RelV y u → R x y H2 → wpAny (model X.prog X.w) X.A (f v u) Q X.xe s2) :
    wpAny (model X.prog X.w) X.A (eval a X.env) (fun v s₁ => wpAny (model X.prog X.w) X.A (eval b X.env) (fun u s₂ => wpAny (model X.prog X.w) X.A (f v u) Q X.xe s₂) X.xe s₁) X.xe s := by
  refine thn (ha pins s σ H _ I h) fun v s1 ⟨x, H1, I1, r1, q1⟩ => ?_
  refine thn (hb pins s1 σ H1 _ I1 q1) fun u s2 ⟨y, H2, I2, r2, q2⟩ => ?_
  exact hf v u s2 x y H2 I2 r1 r2 q2

theorem pe_op {op : Operator} {r : R2} (ho : OpR X (binaryOp op) r) (ha : PE X a ta) (hb : PE X b tb) : PE X (.BinOp a op b pos) (tOp r ta tb) := by
  intro pins s σ H Q I h
  exact wpAny_BinOp (binT ha hb I h fun v u s2 x y H2 I2 rx ry q => ho pins s2 σ H2 x y v u Q I2 rx ry q)
theorem pe_un {op : UnaryOp} {r : V → Hp → VK → Prop} (ho : UnR X (unaryOp op) r) (ha : PE X a ta) : PE X (.UnaryOp op a pos) (tUn r ta) := by
  intro pins s σ H Q I h
  exact UnaryOp_ (thn (ha pins s σ H _ I h) fun v s1 ⟨x, H1, I1, r1, q1⟩ => ho pins s1 σ H1 x v Q I1 r1 q1)
theorem opI {f : Value → Value → Sem Value} {C : Int → Int → Prop} {g : Int → Int → Int}
    (rule : ∀ (i j : Int) (t u : Tok) (s : Shared) (Q : Value → Shared → Prop) (E : Value → Shared → Prop), C i j → Q (.int (g i j) s.toks) { s with toks := s.toks + 1 } → wpAny (model X.prog X.w) X.A (f (.int i t) (.int j u)) Q E s) :
    OpR X f (rI C fun i j => .int (g i j)) := by
  intro pins s σ H x y v u Q I rx ry h
  obtain ⟨i, j, rfl, rfl, hc, q⟩ := h
  obtain ⟨t, rfl⟩ := rx
  obtain ⟨t', rfl⟩ := ry
  exact rule i j t t' s _ _ hc ⟨.int (g i j), H, I.tok _, ⟨_, rfl⟩, q⟩
theorem opI0 {f : Value → Value → Sem Value} {g : Int → Int → Int}
    (rule : ∀ (i j : Int) (t u : Tok) (s : Shared) (Q : Value → Shared → Prop) (E : Value → Shared → Prop), Q (.int (g i j) s.toks) { s with toks := s.toks + 1 } → wpAny (model X.prog X.w) X.A (f (.int i t) (.int j u)) Q E s) :
    OpR X f (rI0 fun i j => .int (g i j)) := by
  intro pins s σ H x y v u Q I rx ry h
  obtain ⟨i, j, rfl, rfl, q⟩ := h
  obtain ⟨t, rfl⟩ := rx
  obtain ⟨t', rfl⟩ := ry
  exact rule i j t t' s _ _ ⟨.int (g i j), H, I.tok _, ⟨_, rfl⟩, q⟩
theorem opB0 {f : Value → Value → Sem Value} {g : Int → Int → Bool}
    (rule : ∀ (i j : Int) (t u : Tok) (s : Shared) (Q : Value → Shared → Prop) (E : Value → Shared → Prop), Q (.bool (g i j)) s → wpAny (model X.prog X.w) X.A (f (.int i t) (.int j u)) Q E s) :
    OpR X f (rI0 fun i j => .bl (g i j)) := by
  intro pins s σ H x y v u Q I rx ry h
  obtain ⟨i, j, rfl, rfl, q⟩ := h
  obtain ⟨t, rfl⟩ := rx
  obtain ⟨t', rfl⟩ := ry
  exact rule i j t t' s _ _ ⟨.bl (g i j), H, I, rfl, q⟩

def CDiv (i j : Int) : Prop := 0 < j ∧ j < 1073741824
def CPow (i j : Int) : Prop := 0 ≤ j ∧ j ≤ 1000000 ∧ i.natAbs < 2 ^ 64
def CMul (i j : Int) : Prop := (-(2 ^ 64) < i ∧ i < 2 ^ 64) ∨ (-(2 ^ 64) < j ∧ j < 2 ^ 64)
theorem CMul.ok {i j : Int} (h : CMul i j) : IntMulOk i j := by
  rcases h with ⟨h1, h2⟩ | ⟨h1, h2⟩
  · exact .of_left (intBits_le_64 h1 h2)
  · exact .of_right (intBits_le_64 h1 h2)
theorem op_add : OpR X (binaryOp .Add) (rI0 fun i j => .int (i + j)) := opI0 fun _ _ _ _ _ _ _ q => add_int q
theorem op_sub : OpR X (binaryOp .Sub) (rI0 fun i j => .int (i - j)) := opI0 fun _ _ _ _ _ _ _ q => sub_int q
theorem op_mul : OpR X (binaryOp .Mult) (rI CMul fun i j => .int (i * j)) := opI fun _ _ _ _ _ _ _ hc q => mul_int q hc.ok
theorem op_fdiv : OpR X (binaryOp .FloorDiv) (rI CDiv fun i j => .int (i / j)) := opI fun i j _ _ _ _ _ hc q => by
  have h1 : (0 : Int) < j := hc.1
  have h2 : j < 1073741824 := hc.2
  exact floordiv_int (by omega) (by rw [Int.fdiv_eq_ediv_of_nonneg i (by omega)]; exact q) (.inl (PyProof.noPylong_small (by omega)))
theorem op_mod : OpR X (binaryOp .Mod) (rI (fun _ j => 0 < j) fun i j => .int (i % j)) := opI fun i j _ _ _ _ _ hc q => by
  have h1 : (0 : Int) < j := hc
  exact mod_int' (by omega) (by rw [Int.fmod_eq_emod_of_nonneg i (by omega)]; exact q)
theorem op_pow : OpR X (binaryOp .Pow) (rI CPow fun i j => .int (i ^ j.toNat)) := opI fun _ _ _ _ _ _ _ hc q => pow_int_small hc.1 hc.2.1 hc.2.2 q
theorem unI {f : Value → Sem Value} {g : Int → Int}
    (rule : ∀ (i : Int) (t : Tok) (s : Shared) (Q : Value → Shared → Prop) (E : Value → Shared → Prop), Q (.int (g i) s.toks) { s with toks := s.toks + 1 } → wpAny (model X.prog X.w) X.A (f (.int i t)) Q E s) :
    UnR X f (rU fun i => .int (g i)) := by
  intro pins s σ H x v Q I rx h
  obtain ⟨i, rfl, q⟩ := h
  obtain ⟨t, rfl⟩ := rx
  exact rule i t s _ _ ⟨.int (g i), H, I.tok _, ⟨_, rfl⟩, q⟩
theorem un_neg : UnR X (unaryOp .USub) (rU fun i => .int (-i)) := unI fun _ _ _ _ _ q => neg_int q
end

section
variable {X : Cx} {a b c : Expr} {ta tb tc : TE} {pos : Pos}
theorem fin_bl {pins : List (Addr × Obj)} {σ : St} {H : Hp} {s : Shared} {Q : VK} {k k' : Bool} (I : Inv X pins σ H s) (q : Q (.bl k) H) (e : k = k') : EP X pins σ Q (.bool k') s := by
  subst e
  exact ⟨.bl k, H, I, rfl, q⟩
theorem op_lt : OpR X (compareOp .Lt) (rI0 fun i j => .bl (decide (i < j))) := opB0 fun _ _ _ _ _ _ _ q => lt_int q
theorem op_le : OpR X (compareOp .LtE) (rI0 fun i j => .bl (decide (i ≤ j))) := opB0 fun _ _ _ _ _ _ _ q => le_int q
theorem op_gt : OpR X (compareOp .Gt) (rI0 fun i j => .bl (decide (j < i))) := opB0 fun _ _ _ _ _ _ _ q => gt_int q
theorem OpR.or {f : Value → Value → Sem Value} {r r' : R2} (h : OpR X f r) (h' : OpR X f r') : OpR X f (fun x y H Q => r x y H Q ∨ r' x y H Q) := by
  intro pins s σ H x y v u Q I rx ry q
  rcases q with q | q
  · exact h pins s σ H x y v u Q I rx ry q
  · exact h' pins s σ H x y v u Q I rx ry q

theorem nomark (b : Expr) {op : CmpOp} (h : op ≠ .In := by decide) (h2 : op ≠ .NotIn := by decide) : behindInMarks op b = false := by
  have e1 : (op == CmpOp.In) = false := by cases op <;> first | rfl | exact absurd rfl h
  have e2 : (op == CmpOp.NotIn) = false := by cases op <;> first | rfl | exact absurd rfl h2
  cases b <;> simp [behindInMarks, e1, e2]
theorem pe_cmpR {op : CmpOp} {r : R2} (ho : OpR X (compareOp op) r) (ha : PE X a ta) (hb : PE X b tb) (hm : behindInMarks op b = false) : PE X (.Compare a [op] [b] pos) (tOp r ta tb) := by
  intro pins s σ H Q I h
  exact wpAny_Compare1 (binT ha hb I h fun v u s2 x y H2 I2 rx ry q => ho pins s2 σ H2 x y v u Q I2 rx ry q) hm
def tTest (t : TE) : TT := fun σ H Q => t σ H fun x H' => ∃ k, x = .bl k ∧ Q k H'
theorem pt_cmpR {op : CmpOp} {r : R2} (ho : OpR X (compareOp op) r) (ha : PE X a ta) (hb : PE X b tb) (hm : behindInMarks op b = false) : PT X (.Compare a [op] [b] pos) (tTest (tOp r ta tb)) := by
  intro pins s σ H Q I h
  refine wpAny_isTrue_Compare1 (thn (ha pins s σ H _ I h) fun v s1 ⟨x, H1, I1, r1, q1⟩ => thn (hb pins s1 σ H1 _ I1 q1) fun u s2 ⟨y, H2, I2, r2, q2⟩ =>
    thn (ho pins s2 σ H2 x y v u _ I2 r1 r2 q2) fun c s3 ⟨z, H3, I3, r3, k, e, q3⟩ => ?_) hm
  subst e
  cases r3
  exact wpAny_truthy_bool ⟨H3, I3, q3⟩
def TruV (K : PySem.W.Frag) (x : V) (H : Hp) (k : Bool) : Prop :=
  match x with
  | .non => k = false
  | .bl b => k = b
  | .int i => k = (i != 0)
  | .str y => y.length ≤ sizeLine ∧ k = ((y.length : Int) != 0)
  | .byt y => y.size ≤ sizeLine ∧ k = ((y.size : Int) != 0)
  | .ref p => (∃ xs, SqL K H p xs ∧ k = !xs.isEmpty) ∨ (∃ xs, SqT K H p xs ∧ k = !xs.isEmpty) ∨ ∃ kvs, H p = some (.dK kvs) ∧ k = !kvs.isEmpty
  | _ => False
theorem isEmpty_kv {κ : Type} {kvs : List (κ × V)} {vs : List (κ × Value)} (r : KV kvs vs) : (!vs.isEmpty) = !kvs.isEmpty := by
  cases r <;> rfl
theorem isEmpty_of {xs : List V} {its : List Value} (r : Vals xs its) : (!its.toArray.isEmpty) = !xs.isEmpty := by
  cases r <;> simp
theorem line63 : (sizeLine : Nat) < 2 ^ 63 := by rw [sizeLine_eq]; decide
theorem tru_ok : TruR X (fun x H Q => ∃ k, TruV X.K x H k ∧ Q k H) := by
  intro pins s σ H x v Q I rx h
  obtain ⟨k, e, q⟩ := h
  have hl := line63
  have hs : sizeLine = 16777216 := sizeLine_eq
  cases x with
  | non =>
    cases rx
    have e' : k = false := e
    subst e'
    exact truthy_none ⟨H, I, q⟩
  | bl b =>
    cases rx
    have e' : k = b := e
    subst e'
    exact wpAny_truthy_bool ⟨H, I, q⟩
  | int i =>
    obtain ⟨t, rfl⟩ := rx
    have e' : k = (i != 0) := e
    subst e'
    exact PySem.P.truthy_int ⟨H, I, q⟩
  | str y =>
    obtain ⟨t, rfl⟩ := rx
    obtain ⟨hy, e'⟩ : y.length ≤ sizeLine ∧ k = ((y.length : Int) != 0) := e
    subst e'
    exact PySem.P.truthy_str (by omega) ⟨H, I.tok _, q⟩
  | byt y =>
    obtain ⟨t, rfl⟩ := rx
    obtain ⟨hy, e'⟩ : y.size ≤ sizeLine ∧ k = ((y.size : Int) != 0) := e
    subst e'
    exact PySem.W.truthy_bytes (by omega) ⟨H, I.tok _, q⟩
  | ref p =>
    cases rx
    have e' : (∃ xs, SqL X.K H p xs ∧ k = !xs.isEmpty) ∨ (∃ xs, SqT X.K H p xs ∧ k = !xs.isEmpty) ∨ ∃ kvs, H p = some (.dK kvs) ∧ k = !kvs.isEmpty := e
    rcases e' with ⟨xs, hx, e'⟩ | ⟨xs, hx, e'⟩ | ⟨kvs, hx, e'⟩
    · subst e'
      obtain ⟨its, r, pl, hz⟩ := I.list hx
      have hlen := r.length
      exact wpAny_truthy_list pl.isList (by simp only [List.size_toArray]; omega) ⟨H, I.tok _, by rw [isEmpty_of r]; exact q⟩
    · subst e'
      obtain ⟨its, r, pl, hz⟩ := I.tuple hx
      have hlen := r.length
      exact truthy_tuple pl (by simp only [List.size_toArray]; omega) ⟨H, I.tok _, by rw [isEmpty_of r]; exact q⟩
    · subst e'
      obtain ⟨hz, hS, vs, r, m⟩ : kvs.length ≤ sizeLine ∧ (p == sysModules) = false ∧ ∃ vs, KV kvs vs ∧ s.heap.DictOf (mixKind X.prog X.w) p vs := I.hok p _ hx
      have hlen : kvs.length = vs.length := Paired.length r
      exact wpAny_truthy_dict hS m (by omega) ⟨H, I.tok _, by rw [isEmpty_kv r]; exact q⟩
  | _ => exact (show False from e).elim
theorem pt_truth (ha : PE X a ta) (he : ∀ whole, isTrue a X.env whole = (do let v ← whole; standAt a.pos; holding [v] (truthy v))) :
    PT X a (fun σ H Q => ta σ H fun x H' => ∃ k, TruV X.K x H' k ∧ Q k H') := by
  intro pins s σ H Q I h
  exact isTrue_plain (thn (ha pins s σ H _ I h) fun v s1 ⟨x, H1, I1, r1, q1⟩ => tru_ok pins s1 σ H1 x v Q I1 r1 q1) (he _)

theorem op_add_str : OpR X (binaryOp .Add) (fun x y H Q => ∃ i j, x = .str i ∧ y = .str j ∧ i.length + j.length ≤ sizeLine ∧ Q (.str (i ++ j)) H) := by
  intro pins s σ H x y v u Q I rx ry h
  obtain ⟨i, j, rfl, rfl, hz, q⟩ := h
  obtain ⟨t, rfl⟩ := rx
  obtain ⟨t', rfl⟩ := ry
  exact add_str (fun t' tk => ⟨.str (i ++ j), H, I.tok _, ⟨_, rfl⟩, q⟩) hz
theorem vals1 {x : V} {us : List Value} (r : Vals [x] us) : ∃ u, us = [u] ∧ RelV x u := by
  cases r with
  | cons r1 r2 => cases r2; exact ⟨_, rfl, r1⟩
theorem vals2 {x y : V} {us : List Value} (r : Vals [x, y] us) : ∃ u w', us = [u, w'] ∧ RelV x u ∧ RelV y w' := by
  cases r with
  | cons r1 r2 =>
    cases r2 with
    | cons r3 r4 => cases r4; exact ⟨_, _, rfl, r1, r3⟩
theorem call_max2 (hc : X.calm = true) : CallR X (.builtin "max") (fun xs H Q => ∃ i j, xs = [.int i, .int j] ∧ Q (.int (if j > i then j else i)) H) := by
  intro pins s σ H xs us Q I r h
  obtain ⟨i, j, rfl, q⟩ := h
  obtain ⟨u, w', rfl, ⟨t, rfl⟩, ⟨t', rfl⟩⟩ := vals2 r
  refine max_two_ints (I.ok.hd hc) fun h' tk k => ⟨_, H, I.kept k, ?_, q⟩
  by_cases hj : j > i
  · rw [if_pos hj, if_pos hj]; exact ⟨_, rfl⟩
  · rw [if_neg hj, if_neg hj]; exact ⟨_, rfl⟩
theorem call_int1 : CallR X (.type "int") (fun xs H Q => (∃ i, xs = [.int i] ∧ Q (.int i) H) ∨ ∃ k, xs = [.bl k] ∧ Q (.int (if k then 1 else 0)) H) := by
  intro pins s σ H xs us Q I r h
  rcases h with ⟨i, rfl, q⟩ | ⟨k, rfl, q⟩
  · obtain ⟨u, rfl, t, rfl⟩ := vals1 r
    exact call_int_int ⟨.int i, H, I, ⟨_, rfl⟩, q⟩
  · obtain ⟨u, rfl, r1⟩ := vals1 r
    cases r1
    exact call_int_bool ⟨.int (if k then 1 else 0), H, I.tok _, ⟨_, rfl⟩, q⟩
end
end L2

namespace L2
open PySem PySem.Spec PyProof.Rows

structure ObjM (h : Heap) (x dx C : Addr) (mA : Str → Option Value) : Prop where
  obj : h.get? x = some (PySem.W.instObj C dx)
  ns : h.Ns1 dx mA
  ne : dx ≠ x

theorem lookIn_ns {h : Heap} {dx : Addr} {mA : Str → Option Value} (n : h.Ns1 dx mA) : ∃ od, h.get? dx = some od ∧ ∀ name, PySem.W.lookIn name od = some (mA name) := by
  obtain ⟨o, es, ep, ho, hd, hk, _, hm⟩ := n
  refine ⟨o, ho, fun name => ?_⟩
  have e := hm name
  unfold nsFind findBy at e
  rw [← Array.find?_toList] at e
  unfold PySem.W.lookIn
  rw [hd]
  dsimp only
  split
  · rename_i y q
    rw [q] at e
    exact congrArg some e
  · rename_i q
    rw [q] at e
    have a : es.toList.any (·.refKey) = false := by
      rw [List.any_eq_false]
      intro y hy
      obtain ⟨z, t, hkey⟩ := hk y (Array.mem_toList_iff.mp hy)
      simp [DictEntry.refKey, hkey]
    have a' : ¬ es.toList.any (·.refKey) = true := by rw [a]; exact Bool.false_ne_true
    rw [if_neg a']
    exact congrArg some e

theorem ObjM.look {h : Heap} {x dx C : Addr} {mA : Str → Option Value} (I : ObjM h x dx C mA) : ∃ od, PySem.W.InstAt h x (PySem.W.instObj C dx) C (some od) ∧ ∀ name, PySem.W.lookIn name od = some (mA name) :=
  let ⟨od, ho, hl⟩ := lookIn_ns I.ns
  ⟨od, ⟨I.obj, rfl, rfl, ho⟩, hl⟩

section
variable {prog : Program} {w : World} {A : Around} {E : Value → Shared → Prop} {s : Shared} {K : PySem.W.Frag} {x dx C f : Addr} {mA : Str → Option Value} {name : Str} {v : Value}

end

section
variable {P : Program} {w : World} {H H' : Hp} {h h' : Heap} {a C dx : Addr} {fs fs' : List (Str × V)}
theorem ins_get (hok : HOk P w H h) (e : H a = some (.ins C dx fs)) : ∃ mA, ObjM h a dx C mA ∧ (∀ f, RelO (fs.lookup f) (mA f)) ∧ PySem.Within mA (fs.map (·.1)) ∧ fs.length ≤ 1000 ∧ H dx = some (.own a) := by
  obtain ⟨d, z, ne, ob, mA, n, r, q⟩ := (show ObjOk P w H h a (.ins C dx fs) from hok a _ e)
  exact ⟨mA, ⟨ob, n, ne⟩, r, q, z, d⟩
end

structure Cls (K : PySem.W.Frag) (C : Addr) : Prop where
  pg : PySem.W.plainGet K C Str.empty = true
  hd : PySem.W.hasDictIn K C = true
  po : PySem.W.plainOver K C = true
  sa : PySem.W.findIn K (.ref C) "__setattr__" = some (some (.builtin "object.__setattr__"))
theorem Cls.get {K : PySem.W.Frag} {C : Addr} (c : Cls K C) (f : Str) : PySem.W.plainGet K C f = true := c.pg
structure Con (K : PySem.W.Frag) (C : Addr) (f : Str) (v : V) (u : Value) : Prop where
  at_ : PySem.W.findIn K (.ref C) f = some (some u)
  rel : RelV v u
  get : PySem.W.specialIn K u "__get__" = some none
  cp : PySem.W.copiedNames.contains f = false
structure Meth (K : PySem.W.Frag) (C : Addr) (m : Str) (f : Addr) : Prop where
  at_ : PySem.W.findIn K (.ref C) m = some (some (.ref f))
  fn : PySem.W.isFn K (.ref f) = true
  kp : PySem.W.keepIn K (.ref f) = true

section
variable {X : Cx} {pins : List (Addr × Obj)} {σ : St} {H : Hp} {s : Shared} {a C dx : Addr} {fs : List (Str × V)} {f : Str} {v : V} {A : Around} {E : Value → Shared → Prop}

end

section
variable {X : Cx} {o e value : Expr} {f : Str} {pos pos' tpos : Pos} {ta tv : TE}
end

section
variable {X : Cx} {pins : List (Addr × Obj)} {σ : St} {H : Hp} {s : Shared} {A : Around} {E : Value → Shared → Prop} {Q : Value → Shared → Prop} {c : Value} {b : Bool}
inductive TyOf (K : PySem.W.Frag) (H : Hp) : V → Value → Prop where
  | non : TyOf K H .non (.type "NoneType")
  | bl (x : Bool) : TyOf K H (.bl x) (.type "bool")
  | int (i : Int) : TyOf K H (.int i) (.type "int")
  | str (x : Str) : TyOf K H (.str x) (.type "str")
  | flt (x : UInt64) : TyOf K H (.flt x) (.type "float")
  | lst {a : Addr} {xs : List V} (e : H a = some (.lst xs)) : TyOf K H (.ref a) (.type "list")
  | frz {a : Addr} {o : Obj} {xs : List V} (e : H a = some (.frz o (.lst xs))) : TyOf K H (.ref a) (.type "list")
  | tup {a : Addr} {xs : List V} (e : H a = some (.tup xs)) : TyOf K H (.ref a) (.type "tuple")
  | dK {a : Addr} {kvs : List (Key × V)} (e : H a = some (.dK kvs)) : TyOf K H (.ref a) (.type "dict")
  | dT {a : Addr} {kvs : List (List Key × V)} (e : H a = some (.dT kvs)) : TyOf K H (.ref a) (.type "dict")
  | ins {a C dx : Addr} {fs : List (Str × V)} (e : H a = some (.ins C dx fs)) (cl : Cls K C) (ha : PySem.W.findIn K (.ref C) "__class__" = some (some (.builtin "object.__class__")))
      (hn : PySem.W.specialIn K (.builtin "object.__class__") "__get__" = some (some (.builtin "getset_descriptor.__get__"))) (htk : PySem.W.takesIn K (.builtin "object.__class__") = some true)
      (hm : PySem.W.mroIn K C (.type "object") = some true) : TyOf K H (.ref a) (.ref C)
theorem isinst_ok {x : V} {u t : Value} (I : Inv X pins σ H s) (rx : RelV x u) (ty : TyOf X.K H x t) (e : PySem.W.kitOne X.K t c = some b) (h : ∀ tk, Q (.bool b) { s with toks := tk }) :
    wpAny (model X.prog X.w) A (call (.builtin "isinstance") [u, c]) Q E s := by
  cases ty with
  | non => cases (show u = Value.none from rx); exact PySem.W.kia_one PySem.W.kitx_none I.kIn True.intro e (fun z => nomatch z) h
  | bl y => cases (show u = Value.bool y from rx); exact PySem.W.kia_one PySem.W.kitx_bool I.kIn True.intro e (fun z => nomatch z) h
  | int i => obtain ⟨t, q⟩ := (show ∃ t, u = Value.int i t from rx); cases q; exact PySem.W.kia_one PySem.W.kitx_int I.kIn True.intro e (fun z => nomatch z) h
  | str y => obtain ⟨t, q⟩ := (show ∃ t, u = Value.str y t from rx); cases q; exact PySem.W.kia_one PySem.W.kitx_str I.kIn True.intro e (fun z => nomatch z) h
  | flt y => obtain ⟨t, q⟩ := (show ∃ t, u = Value.float y t from rx); cases q; exact PySem.W.kia_one PySem.W.kitx_float I.kIn True.intro e (fun z => nomatch z) h
  | @lst a xs ea =>
    cases (show u = Value.ref a from rx)
    obtain ⟨_, _, n, _, h1⟩ := (show ObjOk X.prog X.w H s.heap a (.lst xs) from I.hok a _ ea)
    exact PySem.W.kia_one PySem.W.kitx_list I.kIn ⟨_, h1, rfl⟩ e (fun z => nomatch z) h
  | @frz a ob xs ea =>
    cases (show u = Value.ref a from rx)
    obtain ⟨_, _, _, n, _, h1⟩ := (show ObjOk X.prog X.w H s.heap a (.frz ob (.lst xs)) from I.hok a _ ea)
    exact PySem.W.kia_one PySem.W.kitx_list I.kIn ⟨_, h1, rfl⟩ e (fun z => nomatch z) h
  | @tup a xs ea =>
    cases (show u = Value.ref a from rx)
    obtain ⟨_, _, _, p⟩ := (show ObjOk X.prog X.w H s.heap a (.tup xs) from I.hok a _ ea)
    obtain ⟨o, h1, h2, _⟩ := p
    exact PySem.W.kia_one PySem.W.kitx_tuple I.kIn ⟨o, h1, h2⟩ e (fun z => nomatch z) h
  | @dK a kvs ea =>
    cases (show u = Value.ref a from rx)
    obtain ⟨_, _, vs, _, p⟩ := (show ObjOk X.prog X.w H s.heap a (.dK kvs) from I.hok a _ ea)
    obtain ⟨o, es, ep, h1, h2, _⟩ := p
    exact PySem.W.kia_one PySem.W.kitx_dict I.kIn ⟨o, h1, h2.1⟩ e (fun z => nomatch z) h
  | @dT a kvs ea =>
    cases (show u = Value.ref a from rx)
    obtain ⟨_, _, xs, _, o, es, ep, h1, h2, _⟩ := (show ObjOk X.prog X.w H s.heap a (.dT kvs) from I.hok a _ ea)
    exact PySem.W.kia_one PySem.W.kitx_dict I.kIn ⟨o, h1, h2.1⟩ e (fun z => nomatch z) h
  | @ins a C dx fs ea cl ha hn htk hm =>
    cases (show u = Value.ref a from rx)
    obtain ⟨mA, O, _⟩ := ins_get I.hok ea
    obtain ⟨od, J, _⟩ := O.look
    exact PySem.W.kia_one (PySem.W.kitx_own (cl.get _) cl.hd ha hn htk hm) I.kIn J e (fun z => nomatch z) h
end
end L2

namespace L2
open PySem PySem.Spec PyProof.Rows

structure Room (k : Nat) (A : Around) : Prop where
  hd : A.handled = none
  dp : A.depth + 3 * k + 5 < recursionLimit
  un : A.units + 16 * k + 200 < cLine
theorem Room.mono {j k : Nat} {A : Around} (r : Room k A) (h : j ≤ k) : Room j A := ⟨r.hd, by have := r.dp; omega, by have := r.un; omega⟩
theorem Room.deeper {k : Nat} {A : Around} (r : Room (k + 1) A) (env : Env) : Room k (A.deeper env) :=
  ⟨r.hd, by have := r.dp; show A.depth + 1 + 3 * k + 5 < _; omega, by have := r.un; show A.units + 3 + 16 * k + 200 < _; omega⟩
theorem Room.in1 {k : Nat} {A : Around} (r : Room (k + 1) A) : Room k A.in1 :=
  ⟨r.hd, by have := r.dp; show A.depth + 3 * k + 5 < _; omega, by have := r.un; show A.units + 1 + 16 * k + 200 < _; omega⟩
theorem Room.depth {k : Nat} {A : Around} (r : Room k A) : A.depth < recursionLimit := by have := r.dp; omega
theorem Room.units {k : Nat} {A : Around} (r : Room k A) : A.units + 64 < cLine := by have := r.un; omega
def tNil : TA := fun _ H Q => Q [] H
def tCons (ta : TE) (tr : TA) : TA := fun σ H Q => ta σ H fun x H1 => tr σ H1 fun xs H2 => Q (x :: xs) H2
section
variable {X : Cx} {e : Expr} {es : List Expr} {te : TE} {t : TA} {pos : Pos}
theorem pa_nil : PA X [] tNil := fun _ _ _ _ H Q I h => Calls.spliced_nil ⟨[], H, I, .nil, h⟩
theorem pa_cons (ha : PE X e te) (hr : PA X es t) (hs : starEach (e :: es) X.env = (false, eval e X.env) :: starEach es X.env := by rfl) : PA X (e :: es) (tCons te t) := by
  intro pos pins s σ H Q I h
  rw [hs]
  show wpAny _ _ (spliced ((false, eval e X.env) :: backTo pos (starEach es X.env))) _ _ s
  refine Calls.spliced_cons (thn (ha pins s σ H _ I h) fun u s1 ⟨x, H1, I1, r1, q1⟩ => ?_)
  exact thn (hr pos pins s1 σ H1 _ I1 q1) fun us s2 ⟨xs, H2, I2, r2, q2⟩ => ⟨x :: xs, H2, I2, .cons r1 r2, q2⟩

def tTup (t : TA) : TE := fun σ H Q => t σ H fun xs H1 => xs.length ≤ sizeLine ∧ ∀ p, H1 p = none → Q (.ref p) (upd H1 p (.tup xs))
def tLst (t : TA) : TE := fun σ H Q => t σ H fun xs H1 => xs.length ≤ sizeLine ∧ ∀ p, H1 p = none → Q (.ref p) (upd H1 p (.lst xs))
theorem pe_tup {x1} (h : PA X es t) : PE X (.Tuple es x1 pos) (tTup t) := by
  intro pins s σ H Q I hq
  refine wpAny_Tuple_spliced (thn (h pos pins s σ H _ I hq) fun us s1 ⟨xs, H1, I1, r, z, q⟩ => ⟨by rw [← r.length]; exact z, ?_⟩)
  have hf : H1 s1.heap.objs.size = none := I1.hok.fresh (Nat.le_refl _)
  refine ⟨.ref s1.heap.objs.size, upd H1 s1.heap.objs.size (.tup xs), I1.laid (t' := s1.toks) (fun b u e => Heap.get?_push_of_some _ e) (Nat.le_refl _) ?_, rfl, q _ hf⟩
  exact ⟨z, us, r, ⟨_, Heap.get?_push_size _ rfl, rfl, _, rfl⟩⟩
theorem pe_lst (h : PA X es t) : PE X (.List es pos) (tLst t) := by
  intro pins s σ H Q I hq
  refine wpAny_List_spliced (thn (h pos pins s σ H _ I hq) fun us s1 ⟨xs, H1, I1, r, z, q⟩ => ⟨by rw [← r.length]; exact z, ?_⟩)
  have hf : H1 s1.heap.objs.size = none := I1.hok.fresh (Nat.le_refl _)
  refine ⟨.ref s1.heap.objs.size, upd H1 s1.heap.objs.size (.lst xs), I1.laid (t' := s1.toks) (fun b u e => Heap.get?_push_of_some _ e) (Nat.le_refl _) ?_, rfl, q _ hf⟩
  exact ⟨z, us, 0, r, Heap.get?_push_size _ rfl⟩
end

abbrev Sp := List V → Hp → VK → XK → Prop
abbrev CXT := List Env → Hp → Shared → XK → Value → Shared → Prop

structure Env0 (P : Program) (w : World) (K : PySem.W.Frag) (mg : Str → Option Value) (base : Heap) (A : Around) (outer : List Env) (s : Shared) (H : Hp) : Prop where
  frames : A.frames = some outer
  mod : Mod K mg base
  bs : ∀ b o, base.get? b = some o → s.heap.get? b = some o ∧ H b = none
  bsz : base.objs.size ≤ s.heap.objs.size
  funs : s.heap.FunFrames base outer
  frf : ∀ b ∈ frs outer, H b = none
  hok : HOk P w H s.heap
  bare : AllBare s.gens
def CE (outer : List Env) (P : Program) (w : World) (H : Hp) (s : Shared) (Q : VK) (u : Value) (s' : Shared) : Prop :=
  ∃ v H', s'.os = s.os ∧ AllBare s'.gens ∧ Un (frs outer) [] H H' s.heap s'.heap ∧ HOk P w H' s'.heap ∧ RelV v u ∧ Q v H'
def CR (CX : CXT) (outer : List Env) (P : Program) (w : World) (H : Hp) (s : Shared) (Q : VK) (E : XK) (r : Result) (s' : Shared) : Prop :=
  match r with
  | .ok (.ret u) => CE outer P w H s Q u s'
  | .ok _ => False
  | .error e => CX outer H s E e s'
structure FnOk (P : Program) (w : World) (K : PySem.W.Frag) (mg : Str → Option Value) (base : Heap) (CX : CXT) (k : Nat) (f : Addr) (fd : FuncData) (ps : List Str) (sp : Sp) : Prop where
  len : ∀ vs H Q E, sp vs H Q E → vs.length = ps.length
  run : ∀ (A : Around) (outer : List Env) (s : Shared) (H : Hp) (args : Args) (us : List Value) (vs : List V) (Q : VK) (E : XK), Room k A → Env0 P w K mg base A outer s H → BindsTo s fd args (ps.zip us) → Vals vs us → sp vs H Q E →
    codeAny (model P w) A (.call (.ref f) args) (CR CX outer P w H s Q E) s
theorem FnOk.mono {P : Program} {w : World} {K : PySem.W.Frag} {mg : Str → Option Value} {base : Heap} {CX : CXT} {j k : Nat} {f : Addr} {fd : FuncData} {ps : List Str} {sp : Sp} (F : FnOk P w K mg base CX j f fd ps sp) (h : j ≤ k) :
    FnOk P w K mg base CX k f fd ps sp := ⟨F.len, fun A outer s H args us vs Q E hr => F.run A outer s H args us vs Q E (hr.mono h)⟩
theorem Env0.in1 {P : Program} {w : World} {K : PySem.W.Frag} {mg : Str → Option Value} {base : Heap} {A : Around} {outer : List Env} {s : Shared} {H : Hp} (e : Env0 P w K mg base A outer s H) :
    Env0 P w K mg base A.in1 outer s H := ⟨e.frames, e.mod, e.bs, e.bsz, e.funs, e.frf, e.hok, e.bare⟩

section
variable {X : Cx} {pins : List (Addr × Obj)} {σ : St} {H : Hp} {s s' : Shared}
theorem Inv.env0 (I : Inv X pins σ H s) : Env0 X.prog X.w X.K X.mg X.base X.A X.stack s H :=
  ⟨I.ok.frames, I.ok.mod, I.bs, Nat.le_trans I.ok.bsz I.sz, I.stack, I.stkFree, I.hok, I.bare⟩
theorem Inv.after {Q : VK} {u : Value} (I : Inv X pins σ H s) (h : CE X.stack X.prog X.w H s Q u s') : EP X pins σ Q u s' := by
  obtain ⟨v, H', os, bare, un, hok, r, q⟩ := h
  obtain ⟨hh, g, d, t, os'⟩ := s'
  obtain rfl : os' = s.os := os
  exact ⟨v, H', I.call (h' := hh) (g' := g) (d' := d) (t' := t) (ch := []) un hok bare (fun b z => absurd z (by simp)), r, q⟩
end

def tCall (sp : Sp) (dvs : List V) (E : XK) (t : TA) : TE := fun σ H Q => t σ H fun vs H1 => sp (vs ++ dvs) H1 Q E
def Binds (K : PySem.W.Frag) (fd : FuncData) (ps : List Str) (ds : List Value) : Prop :=
  ∀ (s : Shared) (us : List Value), K.In s.heap → (us ++ ds).length = ps.length → BindsTo s fd ⟨us, []⟩ (ps.zip (us ++ ds))
theorem Binds.all {K : PySem.W.Frag} {fd : FuncData} {ps : List Str} (h : ∀ us : List Value, us.length = ps.length → bindArgs fd ⟨us, []⟩ = pure (ps.zip us)) : Binds K fd ps [] := fun s us _ hl => by
  rw [List.append_nil] at hl ⊢
  exact .of_eq (h us hl)

def Passes (CX : CXT) (X : Cx) (E : XK) : Prop := ∀ (pins : List (Addr × Obj)) (σ : St) (H : Hp) (s : Shared) (e : Value) (s' : Shared), Inv X pins σ H s → CX X.stack H s E e s' → X.xe e s'

section
variable {X : Cx} {CX : CXT} {k : Nat} {f C : Addr} {fd : FuncData} {ps : List Str} {sp : Sp} {dvs : List V} {ds : List Value} {E : XK} {x m : Str} {p pos apos : Pos} {e o : Expr} {es : List Expr} {ta : TE} {t : TA}

theorem run_fn {pins : List (Addr × Obj)} {σ : St} {H : Hp} {s : Shared} {Q : VK} {us : List Value} {vs : List V} (F : FnOk X.prog X.w X.K X.mg X.base CX k f fd ps sp) (hr : Room k X.A) (hb : Binds X.K fd ps ds) (hd : Vals dvs ds) (hx : Passes CX X E)
    (I : Inv X pins σ H s) (r : Vals vs us) (h : sp (vs ++ dvs) H Q E) : wpAny (model X.prog X.w) X.A (call (.ref f) us) (EP X pins σ Q) X.xe s := by
  have r2 : Vals (vs ++ dvs) (us ++ ds) := r.append hd
  have hl : (us ++ ds).length = ps.length := by rw [← r2.length]; exact F.len _ _ _ _ h
  refine wpAny_call (codeAny_mono (F.run X.A X.stack s H ⟨us, []⟩ (us ++ ds) (vs ++ dvs) Q E hr I.env0 (hb s us I.kIn hl) r2 h) fun r s' hq => ?_)
  cases r with
  | error e => exact hx pins σ H s e s' I hq
  | ok fl =>
    cases fl with
    | ret u => exact I.after hq
    | next => exact False.elim hq
    | brk => exact False.elim hq
    | cont => exact False.elim hq

theorem pe_call (F : FnOk X.prog X.w X.K X.mg X.base CX k f fd ps sp) (hr : Room k X.A) (hg : Gl X x) (hm : X.mg x = some (.ref f)) (hk : PySem.W.keepIn X.K (.ref f) = true) (hb : Binds X.K fd ps ds) (hd : Vals dvs ds) (hx : Passes CX X E)
    (ha : PA X (e :: es) t) (hdb : (x == ("__debug__" : Str)) = false := by decide) (he : starEach (e :: es) X.env = (false, eval e X.env) :: starEach es X.env := by rfl) (hpl : (backTo pos (starEach es X.env)).any (·.1) = false := by rfl) :
    PE X (.Call (.Name x p) (e :: es) [] pos) (tCall sp dvs E t) := by
  intro pins s σ H Q I h
  refine wpAny_Call_Name_kw (ld_glob I hg hm ?_ hdb)
  refine PySem.W.callWith_K (h₀ := X.base) I.ok.mod.kin hk (thn (ha pos pins s σ H _ I h) fun us s1 ⟨vs, H1, I1, r, q⟩ => ⟨I1.kIn, ?_⟩) he hpl
  exact run_fn F hr hb hd hx I1 r q
structure Mk (K : PySem.W.Frag) (C f : Addr) : Prop where
  makes : PySem.W.makesIn K C = true
  init : PySem.W.findIn K (.ref C) "__init__" = some (some (.ref f))
  fn : PySem.W.isFn K (.ref f) = true
  kp : PySem.W.keepIn K (.ref C) = true

end

section
variable {X : Cx} {CX : CXT} {k : Nat} {f C : Addr} {fd : FuncData} {ps ks : List Str} {sp : Sp} {E : XK} {x m : Str} {p pos apos kpos : Pos} {e o : Expr} {es : List Expr} {kws : List Keyword} {te ta : TE} {t tk : TA} {nm : Option Str}
structure KBinds (K : PySem.W.Frag) (fd : FuncData) (ps ks : List Str) (g : List Value → List Value → List Value) (gV : List V → List V → List V) : Prop where
  to : ∀ (s : Shared) (us ws : List Value), K.In s.heap → (g us ws).length = ps.length → BindsTo s fd ⟨us, ks.zip ws⟩ (ps.zip (g us ws))
  rel : ∀ {vs : List V} {us : List Value} {zs : List V} {ws : List Value}, Vals vs us → Vals zs ws → Vals (gV vs zs) (g us ws)
variable {g : List Value → List Value → List Value} {gV : List V → List V → List V}
end

structure FnScope (N P : List Str) (sc : Scope) : Prop where
  kind : sc.kind = .function
  co : sc.isCoroutine = false
  gen : sc.isGenerator = false
  nd : N.Nodup
  pre : N.take P.length = P
  par : ∀ x ∈ P, sc.names.lookup x = some .local ∨ sc.names.lookup x = some .cell
  nofree : ∀ y ∈ sc.names, y.2 ≠ .free

theorem bindL_out {kindOf : Str → Option NameKind} {x : Str} : ∀ {binds : List (Str × Value)} {m : Str → Option Value}, (∀ v, (x, v) ∉ binds) → bindL kindOf binds m x = m x
  | [], _, _ => rfl
  | (n, v) :: r, m, h => by
    unfold bindL
    rw [bindL_out fun w hw => h w (List.mem_cons_of_mem _ hw)]
    split
    · have : x ≠ n := by rintro rfl; exact h v List.mem_cons_self
      simp [this]
    · rfl
theorem bindC_out {kindOf : Str → Option NameKind} {x : Str} : ∀ {binds : List (Str × Value)} {m : Str → Option Value}, (∀ v, (x, v) ∉ binds) → bindC kindOf binds m x = m x
  | [], _, _ => rfl
  | (n, v) :: r, m, h => by
    unfold bindC
    rw [bindC_out fun w hw => h w (List.mem_cons_of_mem _ hw)]
    split
    · rfl
    · have : x ≠ n := by rintro rfl; exact h v List.mem_cons_self
      simp [this]
theorem bindL_get {kindOf : Str → Option NameKind} {x : Str} {v : Value} : ∀ {P : List Str} {vs : List Value} {i : Nat} {m : Str → Option Value}, P.Nodup → P[i]? = some x → vs[i]? = some v → kindOf x = some .local →
    bindL kindOf (P.zip vs) m x = some v
  | [], _, _, _, _, h, _, _ => by simp at h
  | _ :: _, [], _, _, _, _, h, _ => by simp at h
  | p :: P, w :: vs, 0, m, nd, h1, h2, hk => by
    simp at h1 h2; subst h1; subst h2
    show bindL kindOf ((p, w) :: P.zip vs) m p = _
    unfold bindL
    rw [bindL_out fun v hv => (List.nodup_cons.mp nd).1 (List.of_mem_zip hv).1, if_pos hk]
    simp
  | p :: P, w :: vs, i + 1, m, nd, h1, h2, hk => by
    show bindL kindOf ((p, w) :: P.zip vs) m x = _
    unfold bindL
    exact bindL_get (i := i) (List.nodup_cons.mp nd).2 (by simpa using h1) (by simpa using h2) hk
theorem bindC_get {kindOf : Str → Option NameKind} {x : Str} {v : Value} : ∀ {P : List Str} {vs : List Value} {i : Nat} {m : Str → Option Value}, P.Nodup → P[i]? = some x → vs[i]? = some v → kindOf x ≠ some .local →
    bindC kindOf (P.zip vs) m x = some v
  | [], _, _, _, _, h, _, _ => by simp at h
  | _ :: _, [], _, _, _, _, h, _ => by simp at h
  | p :: P, w :: vs, 0, m, nd, h1, h2, hk => by
    simp at h1 h2; subst h1; subst h2
    show bindC kindOf ((p, w) :: P.zip vs) m p = _
    unfold bindC
    rw [bindC_out fun v hv => (List.nodup_cons.mp nd).1 (List.of_mem_zip hv).1, if_neg hk]
    simp
  | p :: P, w :: vs, i + 1, m, nd, h1, h2, hk => by
    show bindC kindOf ((p, w) :: P.zip vs) m x = _
    unfold bindC
    exact bindC_get (i := i) (List.nodup_cons.mp nd).2 (by simpa using h1) (by simpa using h2) hk

def start (N : List Str) (vs : List V) : St := vs.map some ++ List.replicate (N.length - vs.length) none

def cxOf (CX : CXT) (P : Program) (w : World) (K : PySem.W.Frag) (mg : Str → Option Value) (base : Heap) (N : List Str) (qual : Str) (scope : Scope) (f : Addr) (cd : Value) (A : Around) (outer : List Env) (s : Shared) (H : Hp) (E : XK) : Cx where
  prog := P
  w := w
  K := K
  mg := mg
  base := base
  A := A.deeper (envOfC qual scope s.heap.objs.size f cd)
  N := N
  s₀ := s
  H₀ := H
  env := envOfC qual scope s.heap.objs.size f cd
  outer := outer
  stack := envOfC qual scope s.heap.objs.size f cd :: outer
  ex := []
  calm := true
  fn := fun _ => true
  pn := []
  xe := fun e s' => wpAny (model P w) (A.deeper (envOfC qual scope s.heap.objs.size f cd)) (leaving (envOfC qual scope s.heap.objs.size f cd) e) (fun _ s'' => CX outer H s E e s'') (fun e' s'' => CX outer H s E e' s'') s'

theorem cell_has {sc : Scope} {n : Nat} {x : Str} (h : sc.names.lookup x = some .cell) : ∃ c, (cellsFrom n sc.names []).lookup x = some c := by
  have q := PySem.W.cellsFrom_some sc.names n [] (.inl h)
  exact Option.isSome_iff_exists.mp q

theorem inv_start {CX : CXT} {P : Program} {w : World} {K : PySem.W.Frag} {mg : Str → Option Value} {base : Heap} {N ps : List Str} {qual : Str} {scope : Scope} {f : Addr} {cd : Value} {A : Around} {outer : List Env} {s s1 : Shared} {H : Hp} {E : XK} {us : List Value} {vs : List V}
    (S : FnScope N ps scope) (hd : A.handled = none) (e0 : Env0 P w K mg base A outer s H) (hl : vs.length = ps.length) (r : Vals vs us)
    (x : InCallC s s.heap.objs.size (bindL (envOfC qual scope s.heap.objs.size f cd).kindOf (ps.zip us) fun _ => none) (cellsFrom (s.heap.objs.size + 1) scope.names []) (bindC (envOfC qual scope s.heap.objs.size f cd).kindOf (ps.zip us) fun _ => none) s1) :
    Inv (cxOf CX P w K mg base N qual scope f cd A outer s H E) [] (start N vs) H s1 := by
  have hpl : ps.length ≤ N.length := by have := congrArg List.length S.pre; rw [List.length_take] at this; omega
  obtain ⟨h1, tk, rfl, hk⟩ := x.done
  have noA : ∀ b : Addr, b ∉ (cxOf CX P w K mg base N qual scope f cd A outer s H E).ex := fun b z => absurd (show b ∈ ([] : List Addr) from z) (by simp)
  refine ⟨⟨e0.mod, S.kind, rfl, rfl, Nat.le_refl _, fun y z c h1 h2 => ?_, fun y hy => ?_, fun y c _ h => ?_, fun _ => hd, Around.frames_deeper e0.frames, .inr ⟨rfl, rfl⟩, fun b z => absurd z (noA b), e0.bs, e0.bsz, fun b _ _ => noA b, fun b z => absurd z (noA b), e0.funs, e0.frf⟩,
    rfl, e0.bare, Un.kept hk, ⟨_, x.toInCall.ns, fun i y v h1 h2 h3 => ?_⟩, fun y c h => ⟨_, x.cell y c h⟩, e0.hok.fresh (Nat.le_refl _), fun y c h => ?_, fun p hp => absurd (show p ∈ ([] : List (Addr × Obj)) from hp) (by simp), e0.hok.kept hk, ?_⟩
  · exact name_of_addr x.apart (PySem.mem_of_lookup h1) (PySem.mem_of_lookup h2)
  · have hy : scope.names.lookup y = some .cell ∨ scope.names.lookup y = some .free := hy
    rcases hy with hy | hy
    · exact cell_has hy
    · exact absurd rfl (S.nofree _ (PySem.mem_of_lookup hy))
  · exact Nat.le_of_lt (x.above y c (PySem.mem_of_lookup h))
  · have hi : i < vs.length := by
      unfold start at h2
      by_cases hi : i < vs.length
      · exact hi
      · rw [List.getElem?_append_right (by simpa using hi)] at h2
        rw [List.getElem?_replicate] at h2
        split at h2 <;> cases h2
    have ha : vs[i]? = some v := by
      unfold start at h2
      rw [List.getElem?_append_left (by simpa using hi), List.getElem?_map] at h2
      cases e : vs[i]? with
      | none => rw [e] at h2; cases h2
      | some a => rw [e] at h2; cases h2; rfl
    obtain ⟨u, hu, rv⟩ := r.get ha
    have hp : ps[i]? = some y := by
      rw [← S.pre, List.getElem?_take_of_lt (by omega)]; exact h1
    have ndP : ps.Nodup := by rw [← S.pre]; exact S.nd.sublist (List.take_sublist _ _)
    refine ⟨u, rv, ?_⟩
    rcases S.par y (List.mem_of_getElem? hp) with k | k
    · exact .inl ⟨k, bindL_get ndP hp hu k⟩
    · obtain ⟨c, e⟩ := cell_has (n := s.heap.objs.size + 1) k
      refine .inr ⟨.inl k, c, e, ?_⟩
      have q := x.cell y c e
      rw [bindC_get ndP hp hu (by show scope.names.lookup y ≠ _; rw [k]; decide)] at q
      exact q
  · exact e0.hok.fresh (Nat.le_of_lt (x.above y c (PySem.mem_of_lookup h)))
  · unfold start
    show _ = N.length
    rw [List.length_append, List.length_map, List.length_replicate]
    omega

theorem fn_of {CX : CXT} {P : Program} {w : World} {K : PySem.W.Frag} {mg : Str → Option Value} {base : Heap} {k : Nat} {f : Addr} {name qual : Str} {params : Arguments} {body : List Stmt} {scope : Scope} {dV kV doc pm cdv ct oc : Value} {an od : Option Addr}
    {osl : Array (Option Value)} {N ps : List Str} {sp : Sp} (lk : K.lookup f = some ⟨oc, od, .func (PySem.W.fnOf name qual params body scope dV kV doc pm an cdv ct), osl⟩) (hcd : PySem.W.codeIn K cdv qual = true) (S : FnScope N ps scope)
    (len : ∀ vs H Q E, sp vs H Q E → vs.length = ps.length)
    (hbody : ∀ (A : Around) (outer : List Env) (s : Shared) (H : Hp) (vs : List V) (Q : VK) (E : XK), Room k (A.deeper (envOfC qual scope s.heap.objs.size f cdv)) → sp vs H Q E →
      ∃ t, PSs (cxOf CX P w K mg base N qual scope f cdv A outer s H E) body t ∧ t { nx := fun _ H' => Q .non H', rt := Q } (start N vs) H) :
    FnOk P w K mg base CX (k + 1) f (PySem.W.fnOf name qual params body scope dV kV doc pm an cdv ct) ps sp := by
  refine ⟨len, fun A outer s H args us vs Q E hr e0 hb r hsp => ?_⟩
  have hl := len _ _ _ _ hsp
  have KX : K.In s.heap := e0.mod.kin.keeps fun b o e => (e0.bs b o e).1
  have lim : s.heap.NoLimit := e0.mod.nolimit.keeps fun b o e => (e0.bs b o e).1
  have hkind : ∀ y ∈ ps.zip us, scope.names.lookup y.1 = some .local ∨ (scope.names.lookup y.1 = some .cell ∧ ((cellsFrom (s.heap.objs.size + 1) scope.names []).lookup y.1).isSome = true) := fun ⟨n, v⟩ hy => by
    rcases S.par n (List.of_mem_zip hy).1 with q | q
    · exact .inl q
    · exact .inr ⟨q, PySem.W.cellsFrom_some _ _ _ (.inl q)⟩
  refine codeAny_call_function hr.depth (KX _ _ lk) rfl S.co S.gen rfl (PySem.W.codeRec_of KX hcd) (hb _ _ _ _ ?_)
  refine wpAny_newFunctionEnv_cells S.kind hkind fun env he s1 x => ?_
  subst he
  refine ⟨lim.keeps x.toInCall.keep, codeAny_func ?_⟩
  obtain ⟨t, ht, hq⟩ := hbody A outer s H vs Q E (hr.deeper _) hsp
  have I : Inv (cxOf CX P w K mg base N qual scope f cdv A outer s H E) [] (start N vs) H s1 := inv_start S hr.hd e0 hl r x
  refine wpAny_mono (ht [] s1 (start N vs) H _ I hq) (fun fl s' hs => ?_) fun e s' hs => hs
  have fin : ∀ {σ' : St} {H' : Hp} {v : V} {u : Value}, Inv (cxOf CX P w K mg base N qual scope f cdv A outer s H E) [] σ' H' s' → RelV v u → Q v H' → CE outer P w H s Q u s' :=
    fun {σ' H' v u} J rv q => ⟨v, H', J.os, J.bare, J.base, J.hok, rv, q⟩
  cases fl with
  | ret u =>
    obtain ⟨v, σ', H', J, rv, q⟩ := hs
    exact fin J rv q
  | next =>
    obtain ⟨σ', H', J, q⟩ := hs
    exact fin (v := V.non) (u := Value.none) J rfl q
  | brk =>
    obtain ⟨_, _, _, q⟩ := hs
    exact False.elim q
  | cont =>
    obtain ⟨_, _, _, q⟩ := hs
    exact False.elim q
end L2

namespace L2
open PySem PySem.Spec PyProof.Rows
section
variable {X : Cx} {x : Str} {p pos : Pos} {e : Expr} {es : List Expr} {t : TA} {id T : String} {r : List V → Hp → VK → Prop}

def tCB (r : List V → Hp → VK → Prop) (t : TA) : TE := fun σ H Q => t σ H fun vs H1 => r vs H1 Q
theorem pe_callB (hc : CallR X (.builtin id) r) (hg : Gl X x) (hm : X.mg x = none) (hv : bootBuiltins x = some (.builtin id)) (ha : PA X (e :: es) t) (hn : x ≠ "__name__" := by decide) (hdb : (x == ("__debug__" : Str)) = false := by decide)
    (he : starEach (e :: es) X.env = (false, eval e X.env) :: starEach es X.env := by rfl) (hpl : (backTo pos (starEach es X.env)).any (·.1) = false := by rfl) : PE X (.Call (.Name x p) (e :: es) [] pos) (tCB r t) := by
  intro pins s σ H Q I h
  refine wpAny_Call_Name_kw (ld_blt I hg hm hv ?_ hn hdb)
  exact PyProof.Rows.callWith_builtin1 (thn (ha pos pins s σ H _ I h) fun us s1 ⟨vs, H1, I1, r1, q1⟩ => hc pins s1 σ H1 vs us Q I1 r1 q1) he hpl
theorem pe_callTy (hc : CallR X (.type T) r) (hg : Gl X x) (hm : X.mg x = none) (hv : bootBuiltins x = some (.type T)) (ha : PA X (e :: es) t) (hn : x ≠ "__name__" := by decide) (hdb : (x == ("__debug__" : Str)) = false := by decide)
    (he : starEach (e :: es) X.env = (false, eval e X.env) :: starEach es X.env := by rfl) (hpl : (backTo pos (starEach es X.env)).any (·.1) = false := by rfl) : PE X (.Call (.Name x p) (e :: es) [] pos) (tCB r t) := by
  intro pins s σ H Q I h
  refine wpAny_Call_Name_kw (ld_blt I hg hm hv ?_ hn hdb)
  exact PyProof.Rows.callWith_type1 (thn (ha pos pins s σ H _ I h) fun us s1 ⟨vs, H1, I1, r1, q1⟩ => hc pins s1 σ H1 vs us Q I1 r1 q1) he hpl
end
end L2

namespace HT
open PySem PyProof.Rows

section
open PySem.SeqAt
open PySem.AutoSeq1 (wpAny_loadPart')
open PySem.MeetsSeq PySem.MeetsSeq2 PySem.MeetsSeq3

end

section
variable {prog : Program} {w : World} {A : Around} {E : Value → Shared → Prop} {s : Shared}

theorem cat_tup {t b : Addr} {vs ws : List Value} {Q : Value → Shared → Prop} (ht : IsTup s.heap t vs.toArray) (hb : IsTup s.heap b ws.toArray) (hv : vs ≠ [])
    (h1 : ws = [] → Q (.ref t) s) (h2 : ws ≠ [] → Q (.ref s.heap.objs.size) { s with heap := s.heap.push { cls := .type "tuple", data := .seq (vs ++ ws).toArray } })
    (hsz : vs.length + ws.length ≤ sizeLine) : wpAny (model prog w) A (binaryOp .Add (.ref t) (.ref b)) Q E s := by
  obtain ⟨⟨cls, dd, data, sl⟩, ho, hc, n, hd⟩ := id ht
  obtain ⟨⟨cls2, dd2, data2, sl2⟩, ho2, hc2, n2, hd2⟩ := id hb
  simp only at hc hd hc2 hd2
  subst hc hd hc2 hd2
  have e : vs.toArray ++ ws.toArray = (vs ++ ws).toArray := by simp
  by_cases hw : ws = []
  · exact concat_meets ⟨_, ho, rfl⟩ ⟨_, ho2, rfl⟩ noFill_tuple_add seq_tuple_add PySem.F.slot_tuple_add PySem.F.entry_tuple_add (PySem.F.args_tuple_add_2 _ _)
      (tuple_addW1 t b vs.toArray ws.toArray n n2 dd dd2 sl sl2 (by simpa using hv) (by simp [hw])) ⟨ho, ho2, h1 hw⟩
  · refine concat_meets ⟨_, ho, rfl⟩ ⟨_, ho2, rfl⟩ noFill_tuple_add seq_tuple_add PySem.F.slot_tuple_add PySem.F.entry_tuple_add (PySem.F.args_tuple_add_2 _ _)
      (tuple_addW2 t b vs.toArray ws.toArray n n2 dd dd2 sl sl2 (by simpa using hv) (by simpa using hw) (by rw [List.size_toArray, List.size_toArray]; exact hsz)) ⟨ho, ho2, ?_⟩
    rw [e]
    exact h2 hw

def sIx (n d : Nat) : Option Int → Nat
  | none => d
  | some v => if v < 0 then (v + (n : Int)).toNat else min v.toNat n
theorem sIx_none (n d : Nat) : sIx n d none = d := rfl
theorem sIx_nat (n d k : Nat) : sIx n d (some (k : Int)) = min k n := by
  show (if (k : Int) < 0 then ((k : Int) + (n : Int)).toNat else min (k : Int).toNat n) = min k n
  rw [if_neg (by omega), Int.toNat_natCast]
theorem sIx_le (n d : Nat) (hd : d ≤ n) (o : Option Int) : sIx n d o ≤ n := by
  cases o with
  | none => exact hd
  | some v =>
    show (if v < 0 then (v + (n : Int)).toNat else min v.toNat n) ≤ n
    by_cases hv : v < 0
    · rw [if_pos hv]; omega
    · rw [if_neg hv]; exact Nat.min_le_right _ _
theorem clip_eq (v : Int) (n d : Nat) : (if v < 0 then max (v + (n : Int)) 0 else min v (n : Int)) = ((sIx n d (some v) : Nat) : Int) := by
  show (if v < 0 then max (v + (n : Int)) 0 else min v (n : Int)) = (((if v < 0 then (v + (n : Int)).toNat else min v.toNat n) : Nat) : Int)
  by_cases hv : v < 0
  · simp only [if_pos hv]; omega
  · simp only [if_neg hv]; omega
theorem adjust_gen (lo hi : Option Int) (n : Nat) : Builtin.Slice.sliceAdjust lo hi 1 (n : Int) = (((sIx n 0 lo : Nat) : Int), ((sIx n n hi : Nat) : Int)) := by
  have h1 : ¬ ((1 : Int) < 0) := by omega
  unfold Builtin.Slice.sliceAdjust
  simp only [h1, if_false]
  refine Prod.ext ?_ ?_
  · cases lo with
    | none => rfl
    | some v => exact clip_eq v n 0
  · cases hi with
    | none => rfl
    | some v => exact clip_eq v n n
theorem places_gen (i j : Nat) : Builtin.Slice.slicePlaces (i : Int) (j : Int) 1 = j - i := by
  unfold Builtin.Slice.slicePlaces
  have h1 : (1 : Int) > 0 := by omega
  simp only [h1, if_true, Int.ediv_one]
  split <;> omega
theorem slicePart_ {v : Value} {o : Option Int} {Q : Option Int → Shared → Prop} (p : IsPart v o) (h : Q o s) : wpAny (model prog w) A (Builtin.Slice.slicePartIndex v) Q E s := by
  cases p with
  | none => exact slicePart_none h
  | int i t => exact slicePart_int h
theorem sliceApplied_gen {sl : Addr} {vl vu : Value} {lo hi : Option Int} {n : Nat} {Q : Int × Int × Nat → Shared → Prop} (hs : s.heap.IsSliceOf sl vl vu .none) (pl : IsPart vl lo) (pu : IsPart vu hi)
    (h : Q (((sIx n 0 lo : Nat) : Int), 1, sIx n n hi - sIx n 0 lo) s) : wpAny (model prog w) A (Builtin.Slice.sliceApplied (.ref sl) (pure (n : Int))) Q E s := by
  obtain ⟨os, hos, hcs, hds⟩ := id hs
  unfold Builtin.Slice.sliceApplied Builtin.Slice.sliceFields
  refine wpAny_bind (wpAny_bind (wpAny_field hos hds (x := vl) rfl (wpAny_bind (wpAny_field hos hds (x := vu) rfl (wpAny_bind (wpAny_field hos hds (x := .none) rfl (wpAny_pure ?_)))))))
  refine wpAny_bind (slicePart_none ?_)
  show wpAny _ _ (if ((1 : Int) == 0) = true then _ else _) _ _ s
  rw [if_neg (by decide)]
  refine wpAny_bind (slicePart_ pl (wpAny_bind (slicePart_ pu (wpAny_bind (wpAny_pure ?_)))))
  show wpAny _ _ (match Builtin.Slice.sliceAdjust lo hi 1 (n : Int) with | (lo, hi) => pure (lo, (1 : Int), Builtin.Slice.slicePlaces lo hi 1)) _ _ s
  rw [adjust_gen lo hi n]
  show wpAny _ _ (pure (((sIx n 0 lo : Nat) : Int), (1 : Int), Builtin.Slice.slicePlaces ((sIx n 0 lo : Nat) : Int) ((sIx n n hi : Nat) : Int) 1)) _ _ s
  rw [places_gen]
  exact wpAny_pure h
theorem pick_gen (xs : Array Value) (i k : Nat) : ((List.range k).filterMap fun (m : Nat) => xs[((i : Int) + (m : Int) * 1).toNat]?).toArray = ((xs.toList.drop i).take k).toArray := by
  have e : (fun (m : Nat) => xs[((i : Int) + (m : Int) * 1).toNat]?) = fun m => xs[i + m]? := by
    funext m
    have : ((i : Int) + (m : Int) * 1).toNat = i + m := by omega
    rw [this]
  rw [e]
  have := pick_run xs i k
  rw [List.filterMap_map] at this
  have e2 : ((fun x => xs[x]?) ∘ fun x => i + x) = fun m => xs[i + m]? := rfl
  rw [e2] at this
  rw [this]

theorem getItem_tuple_cut {t sl : Addr} {items : Array Value} {vl vu : Value} {lo hi : Option Int} {Q : Value → Shared → Prop} (ht : IsTup s.heap t items) (hs : s.heap.IsSliceOf sl vl vu .none) (pl : IsPart vl lo) (pu : IsPart vu hi)
    (hw : ¬ (sIx items.size 0 lo = 0 ∧ sIx items.size items.size hi = items.size))
    (h : Q (.ref s.heap.objs.size) { s with heap := s.heap.push { cls := .type "tuple", data := .seq ((items.toList.drop (sIx items.size 0 lo)).take (sIx items.size items.size hi - sIx items.size 0 lo)).toArray } })
    (hsz : items.size ≤ sizeLine) : wpAny (model prog w) A (getItem (.ref t) (.ref sl)) Q E s := by
  have htake : sizeOk (.seq ((items.toList.drop (sIx items.size 0 lo)).take (sIx items.size items.size hi - sIx items.size 0 lo)).toArray) := by
    show ((items.toList.drop (sIx items.size 0 lo)).take (sIx items.size items.size hi - sIx items.size 0 lo)).toArray.size ≤ sizeLine
    rw [List.size_toArray, List.length_take, List.length_drop, Array.length_toList]
    omega
  have hj : sIx items.size items.size hi ≤ items.size := sIx_le _ _ (Nat.le_refl _) hi
  obtain ⟨os, hos, hcs, hds⟩ := id hs
  have hTs : s.TypeIs (.ref sl) "slice" := ⟨os, hos, hcs⟩
  unfold getItem
  try with_reducible refine wpAny_holding ?_
  first | refine wpAny_bind (wpAny_pure ?_) | skip
  refine wpAny_bind (wpAny_sequenceKey ht.typeIs (by decide) ?_)
  refine wpAny_bind (wpAny_callSpecial?_slot (name := Str.ofString "__getitem__") ht.typeIs PyProof.Rows.slot_tuple_getitem
    (wpAny_call_entry PyProof.Rows.slot_tuple_getitem ht.typeIs entry_tuple_getitem ?_ (args_tuple_getitem _ _)))
  show wpAny _ _ (Builtin.Tuple.tupleItemsOf (.ref t) >>= _) _ _ s
  refine wpAny_bind (tupleItemsOf_ ht ?_)
  refine wpAny_bind (wpAny_typeOf hTs ?_)
  rw [if_pos (by decide)]
  refine wpAny_bind (sliceApplied_gen hs pl pu ?_)
  have hno : ¬ ((((sIx items.size 0 lo : Nat) : Int) == 0 && (1 : Int) == 1 && (sIx items.size items.size hi - sIx items.size 0 lo) == items.size) = true) := by
    intro q
    rw [Bool.and_eq_true, Bool.and_eq_true] at q
    have q1 : ((sIx items.size 0 lo : Nat) : Int) = 0 := eq_of_beq q.1.1
    have q2 : sIx items.size items.size hi - sIx items.size 0 lo = items.size := eq_of_beq q.2
    exact hw ⟨by omega, by omega⟩
  show wpAny _ _ (if (((sIx items.size 0 lo : Nat) : Int) == 0 && (1 : Int) == 1 && (sIx items.size items.size hi - sIx items.size 0 lo) == items.size) = true then _ else _) _ _ s
  rw [if_neg hno, pick_gen]
  first
    | exact wpAny_bind (m := Builtin.Tuple.tupleExact _) (wpAny_newObj_type (wpAny_pure ⟨_, rfl, wpAny_pure h⟩) htake)
    | exact wpAny_bind (m := Builtin.Tuple.tupleExact _) (wpAny_newObj_type (wpAny_bind (wpAny_pure (wpAny_pure ⟨_, rfl, wpAny_pure h⟩))) htake)
    | exact wpAny_bind (wpAny_bind (m := Builtin.Tuple.tupleExact _) (wpAny_newObj_type (wpAny_pure (wpAny_pure ⟨_, rfl, wpAny_pure h⟩)) htake))
    | exact wpAny_bind (wpAny_bind (m := Builtin.Tuple.tupleExact _) (wpAny_newObj_type (wpAny_pure ⟨_, rfl, wpAny_pure h⟩) htake))
end
end HT

namespace L2
open PySem PySem.Spec PyProof.Rows

abbrev TO := St → Hp → (Option Int → Hp → Prop) → Prop
def PO (X : Cx) (e : Option Expr) (t : TO) : Prop :=
  ∀ (pins : List (Addr × Obj)) (s : Shared) (σ : St) (H : Hp) (Q : Option Int → Hp → Prop), Inv X pins σ H s → t σ H Q →
    wpAny (model X.prog X.w) X.A (evalPart e X.env) (fun u s' => ∃ o H', Inv X pins σ H' s' ∧ IsPart u o ∧ Q o H') X.xe s
def tNoPart : TO := fun _ H Q => Q none H
def tPart (t : TE) : TO := fun σ H Q => t σ H fun x H1 => ∃ i, x = .int i ∧ Q (some i) H1

section
variable {X : Cx} {e : Expr} {te : TE} {lo hi : Option Expr} {tl th : TO} {pos p2 : Pos}

theorem po_none : PO X none tNoPart := by
  intro pins s σ H Q I h
  rw [evalPart_none]
  exact wpAny_pure ⟨none, H, I, .none, h⟩
theorem po_some (h : PE X e te) : PO X (some e) (tPart te) := by
  intro pins s σ H Q I hw
  rw [evalPart_some]
  refine thn (h pins s σ H _ I hw) fun u s1 ⟨x, H1, I1, r1, q1⟩ => ?_
  obtain ⟨i, rfl, q⟩ := q1
  obtain ⟨t, rfl⟩ := r1
  exact ⟨some i, H1, I1, .int i t, q⟩

def SlR (X : Cx) (r : V → Option Int → Option Int → Hp → VK → Prop) : Prop :=
  ∀ (pins : List (Addr × Obj)) (s : Shared) (σ : St) (H : Hp) (x : V) (v vl vu : Value) (lo hi : Option Int) (sl : Addr) (Q : VK), Inv X pins σ H s → RelV x v → s.heap.IsSliceOf sl vl vu .none → IsPart vl lo → IsPart vu hi → r x lo hi H Q →
    ∃ T id, typeLookup (.type T) "__getitem__" = pure (some (.builtin id)) ∧ s.TypeIs v T ∧ wpAny (model X.prog X.w) X.A (getItem v (.ref sl)) (EP X pins σ Q) X.xe s
theorem SlR.or {r r' : V → Option Int → Option Int → Hp → VK → Prop} (h : SlR X r) (h' : SlR X r') : SlR X (fun x lo hi H Q => r x lo hi H Q ∨ r' x lo hi H Q) := by
  intro pins s σ H x v vl vu lo hi sl Q I rx hs pl pu q
  rcases q with q | q
  · exact h pins s σ H x v vl vu lo hi sl Q I rx hs pl pu q
  · exact h' pins s σ H x v vl vu lo hi sl Q I rx hs pl pu q
def tSl (r : V → Option Int → Option Int → Hp → VK → Prop) (te : TE) (tl th : TO) : TE := fun σ H Q => te σ H fun x H1 => tl σ H1 fun l H2 => th σ H2 fun u H3 => r x l u H3 Q
theorem pe_slice {r : V → Option Int → Option Int → Hp → VK → Prop} (hr : SlR X r) (he : PE X e te) (hl : PO X lo tl) (hu : PO X hi th) : PE X (.Subscript e (.Slice lo hi none p2) pos) (tSl r te tl th) := by
  intro pins s σ H Q I h
  refine Subscript_ (thn (he pins s σ H _ I h) fun v s1 ⟨x, H1, I1, r1, q1⟩ => ?_)
  refine wpAny_Slice (thn (hl pins s1 σ H1 _ I1 q1) fun vl s2 ⟨l, H2, I2, pl, q2⟩ => thn (hu pins s2 σ H2 _ I2 q2) fun vu s3 ⟨u, H3, I3, pu, q3⟩ => ?_)
  rw [evalPart_none]
  refine wpAny_pure ?_
  have I4 : Inv X pins σ H3 { s3 with heap := s3.heap.push { cls := .type "slice", data := .fields #[vl, vu, .none] } } := I3.kept (t' := s3.toks) fun b ob q => Heap.get?_push_of_some _ q
  obtain ⟨T, id, hT, ht, hg⟩ := hr pins { s3 with heap := s3.heap.push { cls := .type "slice", data := .fields #[vl, vu, .none] } } σ H3 x v vl vu l u s3.heap.objs.size Q I4 r1 (Heap.IsSliceOf.new ..) pl pu q3
  show wpAny (model X.prog X.w) X.A (subscriptTail e (.Slice lo hi none p2) v (.ref s3.heap.objs.size)) (EP X pins σ Q) X.xe { s3 with heap := s3.heap.push { cls := .type "slice", data := .fields #[vl, vu, .none] } }
  exact tail_any (ops := [.ref s3.heap.objs.size, v]) ht hT hg (by with_unfolding_all rfl)

def cutV (xs : List V) (lo hi : Option Int) : List V := (xs.drop (HT.sIx xs.length 0 lo)).take (HT.sIx xs.length xs.length hi - HT.sIx xs.length 0 lo)
theorem cutV_length (xs : List V) (lo hi : Option Int) : (cutV xs lo hi).length ≤ xs.length := by
  unfold cutV
  rw [List.length_take, List.length_drop]
  omega
def rSlT (K : PySem.W.Frag) : V → Option Int → Option Int → Hp → VK → Prop := fun x lo hi H Q => ∃ a xs, x = .ref a ∧ SqT K H a xs ∧
  ¬ (HT.sIx xs.length 0 lo = 0 ∧ HT.sIx xs.length xs.length hi = xs.length) ∧ ∀ p, H p = none → Q (.ref p) (upd H p (.tup (cutV xs lo hi)))
theorem sl_tup : SlR X (rSlT X.K) := by
  intro pins s σ H x v vl vu lo hi sl Q I rx hs pl pu h
  obtain ⟨a, xs, rfl, hx, hw, q⟩ := h
  cases rx
  obtain ⟨its, r, ht, hz⟩ := I.tuple hx
  have hlen : its.toArray.size = xs.length := by rw [List.size_toArray]; exact r.length.symm
  refine ⟨"tuple", _, PyProof.Rows.slot_tuple_getitem.lookup, ht.typeIs, ?_⟩
  refine HT.getItem_tuple_cut ht hs pl pu (by rw [hlen]; exact hw) ?_ (by rw [hlen]; exact hz)
  rw [hlen]
  refine ⟨.ref s.heap.objs.size, _, I.laid (t' := s.toks) (o := .tup (cutV xs lo hi)) (fun b ob q => Heap.get?_push_of_some _ q) (Nat.le_refl _) ?_, rfl, q _ (I.hok.fresh (Nat.le_refl _))⟩
  exact ⟨Nat.le_trans (cutV_length xs lo hi) hz, _, (r.drop (HT.sIx xs.length 0 lo)).take (HT.sIx xs.length xs.length hi - HT.sIx xs.length 0 lo), IsTup.new _ _⟩

def rCatT (K : PySem.W.Frag) : R2 := fun x y H Q => ∃ a b xs ys, x = .ref a ∧ y = .ref b ∧ SqT K H a xs ∧ SqT K H b ys ∧ xs ≠ [] ∧ xs.length + ys.length ≤ sizeLine ∧
  (ys = [] → Q (.ref a) H) ∧ (ys ≠ [] → ∀ p, H p = none → Q (.ref p) (upd H p (.tup (xs ++ ys))))
theorem Vals.nil_iff {xs : List V} {us : List Value} (r : Vals xs us) : us = [] ↔ xs = [] := by
  cases r with
  | nil => simp
  | cons _ _ => simp
theorem op_catT : OpR X (binaryOp .Add) (rCatT X.K) := by
  intro pins s σ H x y v u Q I rx ry h
  obtain ⟨a, b, xs, ys, rfl, rfl, ha, hb, hx, hz, q1, q2⟩ := h
  cases rx
  cases ry
  obtain ⟨its, r1, p1, _⟩ := I.tuple ha
  obtain ⟨its2, r2, p2, _⟩ := I.tuple hb
  refine HT.cat_tup p1 p2 (fun z => hx (r1.nil_iff.mp z)) (fun z => ⟨.ref a, H, I, rfl, q1 (r2.nil_iff.mp z)⟩) (fun z => ?_) (by rw [← r1.length, ← r2.length]; exact hz)
  refine ⟨.ref s.heap.objs.size, _, I.laid (t' := s.toks) (o := .tup (xs ++ ys)) (fun b ob q => Heap.get?_push_of_some _ q) (Nat.le_refl _) ?_, rfl, q2 (fun w => z (r2.nil_iff.mpr w)) _ (I.hok.fresh (Nat.le_refl _))⟩
  exact ⟨by rw [List.length_append]; exact hz, _, r1.append r2, IsTup.new _ _⟩
end
end L2

namespace L2
open PySem PySem.Spec PyProof.Rows

def ixN (n : Nat) (i : Int) : Option Nat := if 0 ≤ i then (if i < n then some i.toNat else none) else if -(n : Int) ≤ i then some (i + n).toNat else none
def atI {α : Type} (xs : List α) (i : Int) : Option α := (ixN xs.length i).bind fun j => xs[j]?
theorem ixN_seq {n : Nat} {i : Int} {j : Nat} (h : ixN n i = some j) : seqIndex? i n = some j ∧ j < n ∧ -(n : Int) ≤ i ∧ i < n := by
  unfold ixN at h
  by_cases h0 : 0 ≤ i
  · rw [if_pos h0] at h
    by_cases h1 : i < n
    · rw [if_pos h1] at h
      have e : i.toNat = j := Option.some.inj h
      exact ⟨by rw [seqIndex_of h0 h1, e], by omega, by omega, h1⟩
    · rw [if_neg h1] at h; cases h
  · rw [if_neg h0] at h
    by_cases h1 : -(n : Int) ≤ i
    · rw [if_pos h1] at h
      have e : (i + n).toNat = j := Option.some.inj h
      exact ⟨by rw [seqIndex_neg (by omega) h1, e], by omega, h1, by omega⟩
    · rw [if_neg h1] at h; cases h
theorem atI_get {α : Type} {xs : List α} {i : Int} {v : α} (h : atI xs i = some v) : ∃ j, seqIndex? i xs.length = some j ∧ xs[j]? = some v ∧ j < xs.length ∧ -(xs.length : Int) ≤ i ∧ i < xs.length := by
  unfold atI at h
  cases e : ixN xs.length i with
  | none => rw [e] at h; cases h
  | some j =>
    rw [e] at h
    obtain ⟨h1, h2, h3, h4⟩ := ixN_seq e
    exact ⟨j, h1, h, h2, h3, h4⟩
theorem atI_nat {α : Type} {xs : List α} {j : Nat} {v : α} (h : xs[j]? = some v) : atI xs (j : Int) = some v := by
  have hj : j < xs.length := (List.getElem?_eq_some_iff.mp h).1
  have e : ixN xs.length (j : Int) = some j := by
    unfold ixN
    rw [if_pos (by omega), if_pos (by omega)]; simp
  unfold atI; rw [e]; exact h
def PlainIx (b : Expr) : Prop := ∀ o i, subscripted b false o i = operate [o, i] (getItem o i)
def IxR (X : Cx) (r : R2) : Prop :=
  ∀ (value slice : Expr) (pins : List (Addr × Obj)) (s : Shared) (σ : St) (H : Hp) (x y : V) (v u : Value) (Q : VK), Inv X pins σ H s → RelV x v → RelV y u → r x y H Q →
    subscripted slice false v u = operate [v, u] (getItem v u) → wpAny (model X.prog X.w) X.A (subscriptTail value slice v u) (EP X pins σ Q) X.xe s
def MtR (X : Cx) (id : String) (r : V → List V → Hp → VK → Prop) : Prop :=
  ∀ (pins : List (Addr × Obj)) (s : Shared) (σ : St) (H : Hp) (x : V) (xs : List V) (v : Value) (us : List Value) (Q : VK), Inv X pins σ H s → RelV x v → Vals xs us → r x xs H Q →
    wpAny (model X.prog X.w) X.A (call (.builtin id) (v :: us)) (EP X pins σ Q) X.xe s
section
variable {X : Cx} {a b : Expr} {ta tb : TE} {pos : Pos}
theorem IxR.or {r r' : R2} (h : IxR X r) (h' : IxR X r') : IxR X (fun x y H Q => r x y H Q ∨ r' x y H Q) := by
  intro value slice pins s σ H x y v u Q I rx ry q hs
  rcases q with q | q
  · exact h value slice pins s σ H x y v u Q I rx ry q hs
  · exact h' value slice pins s σ H x y v u Q I rx ry q hs
theorem MtR.or {id : String} {r r' : V → List V → Hp → VK → Prop} (h : MtR X id r) (h' : MtR X id r') : MtR X id (fun x xs H Q => r x xs H Q ∨ r' x xs H Q) := by
  intro pins s σ H x xs v us Q I rx rs q
  rcases q with q | q
  · exact h pins s σ H x xs v us Q I rx rs q
  · exact h' pins s σ H x xs v us Q I rx rs q
theorem pe_ix {r : R2} (hr : IxR X r) (ha : PE X a ta) (hb : PE X b tb) (hs : PlainIx b) : PE X (.Subscript a b pos) (tOp r ta tb) := by
  intro pins s σ H Q I h
  exact Subscript_ (binT ha hb I h fun v u s2 x y H2 I2 rx ry q => hr a b pins s2 σ H2 x y v u Q I2 rx ry q (hs _ _))

def rIxL (K : PySem.W.Frag) : R2 := fun x y H Q => ∃ p xs i v, x = .ref p ∧ y = .int i ∧ SqL K H p xs ∧ atI xs i = some v ∧ Q v H
def rIxT (K : PySem.W.Frag) : R2 := fun x y H Q => ∃ p xs i v, x = .ref p ∧ y = .int i ∧ SqT K H p xs ∧ atI xs i = some v ∧ Q v H
def rIxS : R2 := fun x y H Q => ∃ z i c, x = .str z ∧ y = .int i ∧ z.length ≤ sizeLine ∧ atI z.cps.toList i = some c ∧ Q (.str ⟨#[c]⟩) H
theorem ix_list : IxR X (rIxL X.K) := by
  intro value slice pins s σ H x y v u Q I rx ry h hs
  obtain ⟨p, xs, i, z, rfl, rfl, hq, he, q⟩ := h
  cases rx
  obtain ⟨t, rfl⟩ := ry
  obtain ⟨its, r, pl, hz⟩ := I.list hq
  obtain ⟨j, h1, h2, h3, h4, h5⟩ := atI_get he
  obtain ⟨w, ew, rw'⟩ := r.get h2
  have hl := r.length
  have hn := line63
  have fin : EP X pins σ Q w s := ⟨z, H, I, rw', q⟩
  by_cases h0 : 0 ≤ i
  · have hj : i.toNat = j := by
      rw [seqIndex_of h0 h5] at h1
      exact Option.some.inj h1
    exact item_listR pl.isList h0 (by omega) (by rw [hj]; simpa using ew) fin hs
  · have hj : (i + (its.toArray.size : Int)).toNat = j := by
      rw [seqIndex_neg (by omega) h4] at h1
      rw [List.size_toArray, ← hl]
      exact Option.some.inj h1
    exact subscriptTail_builtinR (x := w) pl.isList.typeIs slot_list_getitem.lookup
      (wpAny_getItem_list_neg (Q := fun r s' => r = w ∧ EP X pins σ Q r s') pl.isList (by omega) (by rw [List.size_toArray] <;> omega) (by omega) (by rw [hj]; simpa using ew) ⟨rfl, fin⟩) hs
theorem ix_tup : IxR X (rIxT X.K) := by
  intro value slice pins s σ H x y v u Q I rx ry h hs
  obtain ⟨p, xs, i, z, rfl, rfl, hq, he, q⟩ := h
  cases rx
  obtain ⟨t, rfl⟩ := ry
  obtain ⟨its, r, pl, hz⟩ := I.tuple hq
  obtain ⟨j, h1, h2, h3, h4, h5⟩ := atI_get he
  obtain ⟨w, ew, rw'⟩ := r.get h2
  have hl := r.length
  have hn := line63
  have fin : EP X pins σ Q w s := ⟨z, H, I, rw', q⟩
  exact subscriptTail_builtinR (x := w) pl.typeIs slot_tuple_getitem.lookup
    (getItem_tuple (j := j) (Q := fun r s' => r = w ∧ EP X pins σ Q r s') pl (by omega) (by omega) (by rw [List.size_toArray, ← hl]; exact h1) (by simpa using ew) ⟨rfl, fin⟩) hs
theorem ix_str : IxR X rIxS := by
  intro value slice pins s σ H x y v u Q I rx ry h hs
  obtain ⟨z, i, c, rfl, rfl, hz, he, q⟩ := h
  obtain ⟨t, rfl⟩ := rx
  obtain ⟨t', rfl⟩ := ry
  obtain ⟨j, h1, h2, h3, h4, h5⟩ := atI_get he
  have hl : z.cps.toList.length = z.length := by simp [Str.length]
  rw [hl] at h1 h4 h5
  have hn := line63
  exact tail_any (typeIs_str s z t) slot_str_getitem.lookup (getItem_str (c := c) (by
    have e1 : decide (i < -(2 ^ 63 : Int)) = false := decide_eq_false (by omega)
    have e2 : decide (i ≥ 2 ^ 63) = false := decide_eq_false (by omega)
    rw [e1, e2, Bool.or_false]) (by rw [h1]; simpa using h2) ⟨.str ⟨#[c]⟩, H, I.tok _, ⟨_, rfl⟩, q⟩) hs
def rIx (K : PySem.W.Frag) : R2 := fun x y H Q => rIxL K x y H Q ∨ rIxT K x y H Q ∨ rIxS x y H Q
theorem ix_seq : IxR X (rIx X.K) := ix_list.or (ix_tup.or ix_str)

theorem Inv.lst {pins : List (Addr × Obj)} {σ : St} {H : Hp} {s : Shared} {p : Addr} {xs : List V} (I : Inv X pins σ H s) (h : H p = some (.lst xs)) :
    ∃ (its : List Value) (n : Nat), Vals xs its ∧ s.heap.get? p = some { cls := .type "list", data := .seq its.toArray n } ∧ xs.length ≤ sizeLine := by
  obtain ⟨z, its, n, r, e⟩ := I.hok p _ h
  exact ⟨its, n, r, e, z⟩
theorem slice_bounds (lo hi : Option Int) (n : Nat) : (sliceBounds lo hi none n).1 = ((HT.sIx n 0 lo : Nat) : Int) ∧ (sliceBounds lo hi none n).2.1 = ((HT.sIx n n hi : Nat) : Int) ∧ (sliceBounds lo hi none n).2.2 = 1 := by
  refine ⟨?_, ?_, rfl⟩
  · cases lo with
    | none => simp [sliceBounds, HT.sIx]
    | some i =>
      simp only [sliceBounds, HT.sIx, Option.getD_none, show (1 : Int) > 0 by decide, if_true]
      by_cases h : i < 0
      · simp only [h, if_true] <;> omega
      · simp only [h, if_false] <;> omega
  · cases hi with
    | none => simp [sliceBounds, HT.sIx]
    | some i =>
      simp only [sliceBounds, HT.sIx, Option.getD_none, show (1 : Int) > 0 by decide, if_true]
      by_cases h : i < 0
      · simp only [h, if_true] <;> omega
      · simp only [h, if_false] <;> omega
theorem slicePick_cut (its : List Value) (lo hi : Option Int) : slicePick its.toArray lo hi none = ((its.drop (HT.sIx its.length 0 lo)).take (HT.sIx its.length its.length hi - HT.sIx its.length 0 lo)).toArray := by
  obtain ⟨h1, h2, h3⟩ := slice_bounds lo hi its.toArray.size
  unfold slicePick
  rw [h1, h2, h3]
  simp only [sliceRange_one, pick_run, List.size_toArray] <;> rfl
def rSlL (K : PySem.W.Frag) : V → Option Int → Option Int → Hp → VK → Prop := fun x lo hi H Q => ∃ a xs, x = .ref a ∧ SqL K H a xs ∧ ∀ p, H p = none → Q (.ref p) (upd H p (.lst (cutV xs lo hi)))
theorem sl_list : SlR X (rSlL X.K) := by
  intro pins s σ H x v vl vu lo hi sl Q I rx hs pl pu h
  obtain ⟨a, xs, rfl, hx, q⟩ := h
  cases rx
  obtain ⟨its, r, ht, hz⟩ := I.list hx
  have hlen := r.length
  refine ⟨"list", _, slot_list_getitem.lookup, ht.isList.typeIs, ?_⟩
  refine wpAny_getItem_list_slice ht.isList hs pl pu .none (by simp) ?_ (by rw [List.size_toArray] <;> omega)
  rw [slicePick_cut, ← hlen]
  refine ⟨.ref s.heap.objs.size, _, I.laid (t' := s.toks) (o := .lst (cutV xs lo hi)) (fun b ob q => Heap.get?_push_of_some _ q) (Nat.le_refl _) ?_, rfl, q _ (I.hok.fresh (Nat.le_refl _))⟩
  exact ⟨Nat.le_trans (cutV_length xs lo hi) hz, _, 0, (r.drop (HT.sIx xs.length 0 lo)).take (HT.sIx xs.length xs.length hi - HT.sIx xs.length 0 lo), Heap.get?_push_size _ rfl⟩

theorem call_len_seq : CallR X (.builtin "len") (fun xs H Q => ∃ p ys, xs = [.ref p] ∧ (SqL X.K H p ys ∨ SqT X.K H p ys) ∧ Q (.int ys.length) H) := by
  intro pins s σ H xs us Q I r h
  obtain ⟨p, ys, rfl, hq, q⟩ := h
  obtain ⟨u, rfl, rx⟩ := vals1 r
  cases rx
  have hn := line63
  rcases hq with hq | hq
  · obtain ⟨its, r', pl, hz⟩ := I.list hq
    have hlen := r'.length
    exact Calls.call_len_list pl.isList (by simp only [List.size_toArray] <;> omega) ⟨.int ys.length, H, I.tok _, ⟨s.toks + 1, by rw [List.size_toArray, hlen]⟩, q⟩
  · obtain ⟨its, r', pl, hz⟩ := I.tuple hq
    have hlen := r'.length
    exact len_tuple pl (by simp only [List.size_toArray] <;> omega) ⟨.int ys.length, H, I.tok _, ⟨s.toks + 1, by rw [List.size_toArray, hlen]⟩, q⟩
theorem call_len_str : CallR X (.builtin "len") (fun xs H Q => ∃ z, xs = [.str z] ∧ z.length ≤ sizeLine ∧ Q (.int z.length) H) := by
  intro pins s σ H xs us Q I r h
  obtain ⟨z, rfl, hz, q⟩ := h
  obtain ⟨u, rfl, t, rfl⟩ := vals1 r
  have hn := line63
  exact len_str (by omega) ⟨.int z.length, H, I.tok _, ⟨_, rfl⟩, q⟩
theorem CallR.or {f : Value} {r r' : List V → Hp → VK → Prop} (h : CallR X f r) (h' : CallR X f r') : CallR X f (fun xs H Q => r xs H Q ∨ r' xs H Q) := by
  intro pins s σ H xs us Q I rs q
  rcases q with q | q
  · exact h pins s σ H xs us Q I rs q
  · exact h' pins s σ H xs us Q I rs q
theorem call_tuple_of : CallR X (.type "tuple") (fun xs H Q => ∃ p ys, xs = [.ref p] ∧ ((SqL X.K H p ys ∧ ∀ l, H l = none → Q (.ref l) (upd H l (.tup ys))) ∨ (SqT X.K H p ys ∧ Q (.ref p) H))) := by
  intro pins s σ H xs us Q I r h
  obtain ⟨p, ys, rfl, h⟩ := h
  obtain ⟨u, rfl, rx⟩ := vals1 r
  cases rx
  rcases h with ⟨hq, q⟩ | ⟨hq, q⟩
  · obtain ⟨its, r', pl, hz⟩ := I.list hq
    have hlen := r'.length
    refine call_tuple_list pl.isList (fun h' kp => ?_) (by simp only [List.size_toArray] <;> omega)
    have I1 : Inv X pins σ H { s with heap := h' } := I.kept (t' := s.toks) kp
    have I2 : Inv X pins σ (upd H h'.objs.size (.tup ys)) { s with heap := h'.push { cls := .type "tuple", data := .seq its.toArray } } :=
      I1.laid (t' := s.toks) (fun b o e => Heap.get?_push_of_some _ e) (Nat.le_refl _) (show ObjOk X.prog X.w _ _ _ (.tup ys) from ⟨hz, its, r', IsTup.new _ _⟩)
    exact ⟨.ref h'.objs.size, _, I2, rfl, q _ (I1.hok.fresh (Nat.le_refl _))⟩
  · obtain ⟨its, r', pl, hz⟩ := I.tuple hq
    exact call_tuple_same pl ⟨.ref p, H, I, rfl, q⟩

def tyV (K : PySem.W.Frag) (T : String) (x : V) (H : Hp) : Prop := match x with
  | .str _ => T = "str"
  | .int _ => T = "int"
  | .ref p => (T = "list" ∧ ∃ xs, SqL K H p xs) ∨ (T = "tuple" ∧ ∃ o, K.lookup p = some o ∧ o.cls = .type "tuple" ∧ o.dict = none) ∨
      (T = "dict" ∧ ((∃ kvs, H p = some (.dK kvs)) ∨ ∃ kvs, H p = some (.dT kvs))) ∨ (T = "set" ∧ ∃ S n, H p = some (.set S n))
  | _ => False
theorem tyV_is {pins : List (Addr × Obj)} {σ : St} {H : Hp} {s : Shared} {T : String} {x : V} {v : Value} (I : Inv X pins σ H s) (r : RelV x v) (ty : tyV X.K T x H) :
    s.TypeIs v T ∧ ∀ a, v = .ref a → ∃ ob, s.heap.get? a = some ob ∧ ob.dict = none := by
  cases x with
  | str z =>
    obtain ⟨t, rfl⟩ := r
    cases (show T = "str" from ty)
    exact ⟨typeIs_str s z t, fun _ e => nomatch e⟩
  | int i =>
    obtain ⟨t, rfl⟩ := r
    cases (show T = "int" from ty)
    exact ⟨typeIs_int s i t, fun _ e => nomatch e⟩
  | ref p =>
    cases r
    rcases ty with ⟨rfl, xs, hq⟩ | ⟨rfl, o, hk, hc, hd⟩ | ⟨rfl, hk⟩ | ⟨rfl, S, n, hk⟩
    · obtain ⟨its, _, pl, _⟩ := I.list hq
      refine ⟨pl.isList.typeIs, fun a e => ?_⟩
      cases e
      obtain ⟨o, n, e, c, hd, _⟩ := pl
      exact ⟨o, e, hd⟩
    · refine ⟨⟨o, I.kIn p o hk, hc⟩, fun a e => ?_⟩
      cases e
      exact ⟨o, I.kIn _ o hk, hd⟩
    · have z : ∃ o, s.heap.get? p = some o ∧ o.ExactDict := by
        rcases hk with ⟨kvs, hk⟩ | ⟨kvs, hk⟩
        · obtain ⟨_, _, _, _, o, _, _, e, ex, _⟩ := I.hok p _ hk
          exact ⟨o, e, ex⟩
        · obtain ⟨_, _, _, _, o, _, _, e, ex, _⟩ := I.hok p _ hk
          exact ⟨o, e, ex⟩
      obtain ⟨o, e, ex⟩ := z
      refine ⟨⟨o, e, ex.1⟩, fun a e2 => ?_⟩
      cases e2
      exact ⟨o, e, ex.2.1⟩
    · obtain ⟨o, _, _, _, e, ex, _⟩ := I.hok p _ hk
      refine ⟨⟨o, e, ex.1⟩, fun a e2 => ?_⟩
      cases e2
      exact ⟨o, e, ex.2.1⟩
  | _ => exact False.elim ty
def tBM0 (K : PySem.W.Frag) (T : String) (r : V → List V → Hp → VK → Prop) (to : TE) : TE := fun σ H Q => to σ H fun x H1 => tyV K T x H1 ∧ r x [] H1 Q
def tBM (K : PySem.W.Frag) (T : String) (r : V → List V → Hp → VK → Prop) (to : TE) (t : TA) : TE := fun σ H Q => to σ H fun x H1 => tyV K T x H1 ∧ t σ H1 fun xs H2 => r x xs H2 Q
variable {o e : Expr} {es : List Expr} {to : TE} {t : TA} {name : Str} {apos cpos : Pos} {T id : String} {r : V → List V → Hp → VK → Prop}
theorem pe_bm0 (pa : PlainAttrs T) (slot : Slot T name id) (hty : typeOf (.builtin id) = pure (.type "method_descriptor")) (hm : MtR X id r) (ho : PE X o to)
    (hbase : attributeBase o name X.env (eval o X.env) = eval o X.env := by rfl) (hline : (apos.endLine == cpos.line) = true := by rfl) : PE X (.Call (.Attribute o name apos) [] [] cpos) (tBM0 X.K T r to) := by
  intro pins s σ H Q I h
  refine wpAny_Call_method0_late hbase hline (thn (ho pins s σ H _ I h) fun v s1 ⟨x, H1, I1, r1, ty, q1⟩ => ?_)
  obtain ⟨h1, h2⟩ := tyV_is I1 r1 ty
  exact ⟨T, id, pa, slot, hty, h1, h2, Calls.callWith_builtin rfl (PySem.evalArgs_none (hm pins s1 σ H1 x [] v [] Q I1 r1 .nil q1))⟩
theorem pe_bm (pa : PlainAttrs T) (slot : Slot T name id) (hty : typeOf (.builtin id) = pure (.type "method_descriptor")) (hm : MtR X id r) (ho : PE X o to) (ha : PA X (e :: es) t)
    (hbase : attributeBase o name X.env (eval o X.env) = eval o X.env := by rfl)
    (hfew : ((backTo cpos (starEach (e :: es) X.env)).all (fun x => !x.1) && (backToKw cpos (keywordEach [] X.env)).all (fun x => x.1.isSome)
      && decide ((e :: es).length + ([] : List Keyword).length + (if ([] : List Keyword).isEmpty then 0 else 1) < 30)) = true := by rfl)
    (hline : (apos.endLine == cpos.line) = true := by rfl) (hs : starEach (e :: es) X.env = (false, eval e X.env) :: starEach es X.env := by rfl) (hplain : (backTo cpos (starEach es X.env)).any (·.1) = false := by rfl) :
    PE X (.Call (.Attribute o name apos) (e :: es) [] cpos) (tBM X.K T r to t) := by
  intro pins s σ H Q I h
  refine wpAny_Call_method_late hbase hfew hline rfl (thn (ho pins s σ H _ I h) fun v s1 ⟨x, H1, I1, r1, ty, q1⟩ => ?_)
  obtain ⟨h1, h2⟩ := tyV_is I1 r1 ty
  refine ⟨T, id, pa, slot, hty, h1, h2, ?_⟩
  have hA := ha cpos pins s1 σ H1 _ I1 q1
  rw [hs] at hA ⊢
  refine Calls.callWith_builtin (by show (false || (backTo cpos (starEach es X.env)).any (·.1)) = false; rw [hplain] <;> rfl) (Calls.evalArgs_plain ?_)
  exact thn hA fun us s2 ⟨vs, H2, I2, r2, q2⟩ => hm pins s2 σ H2 x vs v us Q I2 r1 r2 q2
/- xs.append(e), list.index on a module's tuple .. are MtR facts of 06m -/
end
end L2

namespace L2
open PySem PySem.Spec PyProof.Rows

def MtM (X : Cx) (id : String) (r : V → List V → Hp → VK → Prop) : Prop :=
  ∀ (pins : List (Addr × Obj)) (s : Shared) (σ : St) (H : Hp) (x : V) (xs : List V) (v : Value) (us : List Value) (Q : VK), Inv X pins σ H s → RelV x v → Vals xs us → r x xs H Q →
    wpAny (model X.prog X.w) X.A (call (.builtin id) (v :: us)) (EP X pins σ Q) X.xe s

theorem Vals.one : ∀ {x : V} {us : List Value}, Vals [x] us → ∃ u, us = [u] ∧ RelV x u
  | _, _, .cons r .nil => ⟨_, rfl, r⟩
theorem Vals.zero : ∀ {us : List Value}, Vals [] us → us = []
  | _, .nil => rfl
theorem Vals.dropLast {xs : List V} {us : List Value} (h : Vals xs us) : Vals xs.dropLast us.dropLast := by
  induction h with
  | nil => exact .nil
  | cons r t ih =>
    cases t with
    | nil => exact .nil
    | cons q t' => exact .cons r ih
theorem Vals.eraseIdx : ∀ {xs : List V} {us : List Value} (i : Nat), Vals xs us → Vals (xs.eraseIdx i) (us.eraseIdx i)
  | _, _, _, .nil => .nil
  | _, _, 0, .cons _ t => t
  | _, _, i + 1, .cons r t => .cons r (Vals.eraseIdx i t)
theorem Vals.rep {xs : List V} {us : List Value} (h : Vals xs us) : ∀ k : Nat, Vals (List.replicate k xs).flatten (List.replicate k us).flatten
  | 0 => .nil
  | k + 1 => by
    rw [List.replicate_succ, List.replicate_succ, List.flatten_cons, List.flatten_cons]
    exact Vals.append h (Vals.rep h k)
theorem erase_last {α : Type} (l : List α) : l.eraseIdx (l.length - 1) = l.dropLast := by
  induction l with
  | nil => rfl
  | cons a r ih =>
    cases r with
    | nil => rfl
    | cons b r =>
      have e : (a :: b :: r).length - 1 = ((b :: r).length - 1) + 1 := by
        have h1 : (a :: b :: r).length = r.length + 2 := rfl
        have h2 : (b :: r).length = r.length + 1 := rfl
        omega
      rw [e, List.eraseIdx_cons_succ, ih]
      all_goals rfl
theorem foldl_rep (its : List Value) : ∀ (k : Nat) (acc : List Value),
    List.foldl (fun x1 x2 => x1 ++ x2) acc.toArray (List.replicate k its.toArray) = (acc ++ (List.replicate k its).flatten).toArray
  | 0, acc => by simp
  | k + 1, acc => by
    have e : acc.toArray ++ its.toArray = (acc ++ its).toArray := by simp
    have e2 : (acc ++ its) ++ (List.replicate k its).flatten = acc ++ (List.replicate (k + 1) its).flatten := by
      rw [List.replicate_succ, List.flatten_cons, List.append_assoc]
    rw [← e2, ← foldl_rep its k (acc ++ its), ← e, List.replicate_succ, List.foldl_cons]

section
variable {X : Cx} {pins : List (Addr × Obj)} {σ : St} {H : Hp} {s : Shared} {l b : Addr} {xs ys zs : List V}

theorem Inv.lset {its its' : List Value} {n : Nat} {f : Array Value → Array Value} {t' : Nat} (I : Inv X pins σ H s) (hH : H l = some (.lst xs))
    (e : s.heap.get? l = some { cls := .type "list", data := .seq its.toArray n }) (hf : f its.toArray = its'.toArray) (hv : Vals ys its') (hz : ys.length ≤ sizeLine) :
    Inv X pins σ (upd H l (.lst ys)) { s with heap := s.heap.update l (Obj.mapSeq f), toks := t' } := by
  have q := PySem.IsL.update e f
  rw [hf] at q
  refine I.write (x := l) (e := l) (by rw [hH]; exact trivial) (.inl rfl) (fun b' u hb hu => (Heap.get?_update_other s.heap (Obj.mapSeq f) (Ne.symm hb)).trans hu) ⟨_, q⟩ ?_
  exact ⟨hz, its', _, hv, q⟩
theorem Inv.lnew {its : List Value} {t' : Nat} (I : Inv X pins σ H s) (hv : Vals ys its) (hz : ys.length ≤ sizeLine) :
    Inv X pins σ (upd H s.heap.objs.size (.lst ys)) { s with heap := s.heap.push { cls := .type "list", data := .seq its.toArray }, toks := t' } :=
  I.laid (fun _ _ q => Heap.get?_push_of_some _ q) (Nat.le_refl _) ⟨hz, its, 0, hv, Heap.get?_push_size _ rfl⟩
theorem Inv.fresh (I : Inv X pins σ H s) : H s.heap.objs.size = none := I.hok.fresh (Nat.le_refl _)
theorem Inv.lstM (I : Inv X pins σ H s) (hH : H l = some (.lst xs)) : xs.length ≤ sizeLine ∧ ∃ (its : List Value) (n : Nat), Vals xs its ∧ xs.length = its.length ∧ s.heap.get? l = some { cls := .type "list", data := .seq its.toArray n } := by
  obtain ⟨z, its, n, r, e⟩ := I.hok l _ hH
  exact ⟨z, its, n, r, r.length, e⟩

theorem notLongL {n : Nat} (h : n ≤ sizeLine) : Builtin.List.listTooLong n = false := by
  unfold Builtin.List.listTooLong
  exact decide_eq_false (by omega)
end

section
variable {X : Cx}

def rAppend : V → List V → Hp → VK → Prop := fun x vs H Q => ∃ l xs y, x = .ref l ∧ vs = [y] ∧ H l = some (.lst xs) ∧ xs.length < sizeLine ∧ Q .non (upd H l (.lst (xs ++ [y])))
theorem mt_append : MtM X "list.append" rAppend := by
  intro pins s σ H x vs v us Q I rx rv h
  obtain ⟨l, xs, y, rfl, rfl, hH, hz, q⟩ := h
  cases rx
  obtain ⟨u, rfl, ru⟩ := rv.one
  obtain ⟨z, its, n, r, hl, e⟩ := I.lstM hH
  refine call_meets F.slot_list_append ⟨_, e, rfl⟩ F.entry_list_append (F.args_list_append_2 _ _) (PySem.list_append l its.toArray n u (by rw [List.size_toArray]; omega)) ⟨e, ?_⟩
  refine ⟨.non, _, I.lset (its' := its ++ [u]) hH e (by simp) (r.append (.cons ru .nil)) ?_, rfl, q⟩
  rw [List.length_append, List.length_singleton]
  omega

def rExtend : V → List V → Hp → VK → Prop := fun x vs H Q => ∃ l b xs zs, x = .ref l ∧ vs = [.ref b] ∧ H l = some (.lst xs) ∧ H b = some (.lst zs) ∧ xs.length + zs.length ≤ sizeLine ∧ Q .non (upd H l (.lst (xs ++ zs)))
theorem mt_extend : MtM X "list.extend" rExtend := by
  intro pins s σ H x vs v us Q I rx rv h
  obtain ⟨l, b, xs, zs, rfl, rfl, hH, hB, hz, q⟩ := h
  cases rx
  obtain ⟨u, rfl, ru⟩ := rv.one
  cases ru
  obtain ⟨z, its, n, r, hl, e⟩ := I.lstM hH
  obtain ⟨z2, its2, n2, r2, hl2, e2⟩ := I.lstM hB
  have hsz : its.toArray.size + its2.toArray.size ≤ sizeLine := by rw [List.size_toArray, List.size_toArray]; omega
  have hlong : ¬ (!its.toArray.isEmpty && Builtin.List.listTooLong (its.toArray.size + its2.toArray.size)) = true := by
    rw [notLongL hsz, Bool.and_false]
    exact Bool.false_ne_true
  refine call_meets F.slot_list_extend ⟨_, e, rfl⟩ F.entry_list_extend (F.args_list_extend_2 _ _)
    (AutoSeq1.list_extend_list_list_0 l its.toArray n b its2.toArray n2 hlong (by rw [List.size_toArray]; omega) (by omega)) ⟨e, e2, ?_⟩
  refine ⟨.non, _, I.lset (its' := its ++ its2) hH e (by simp) (r.append r2) ?_, rfl, q⟩
  rw [List.length_append]
  omega

def rPop : V → List V → Hp → VK → Prop := fun x vs H Q => ∃ l xs y, x = .ref l ∧ vs = [] ∧ H l = some (.lst xs) ∧ xs[xs.length - 1]? = some y ∧ Q y (upd H l (.lst xs.dropLast))
theorem mt_pop : MtM X "list.pop" rPop := by
  intro pins s σ H x vs v us Q I rx rv h
  obtain ⟨l, xs, y, rfl, rfl, hH, hy, q⟩ := h
  cases rx
  have hus := rv.zero
  subst hus
  obtain ⟨z, its, n, r, hl, e⟩ := I.lstM hH
  obtain ⟨u, hu, ru⟩ := r.get hy
  have hy' : its.toArray[its.toArray.size - 1]? = some u := by
    show its.toArray[its.length - 1]? = some u
    rw [← Array.getElem?_toList, ← hl]
    exact hu
  refine call_meets F.slot_list_pop ⟨_, e, rfl⟩ F.entry_list_pop (F.args_list_pop_1 _) (MeetsSeq.list_pop_last l its.toArray n u hy' (by rw [List.size_toArray]; omega)) ⟨e, ?_⟩
  refine ⟨y, _, I.lset (its' := its.dropLast) hH e ?_ r.dropLast ?_, ru, q⟩
  · show its.toArray.eraseIdxIfInBounds (its.toArray.size - 1) = its.dropLast.toArray
    rw [List.size_toArray, List.eraseIdxIfInBounds_toArray, erase_last]
  · rw [List.length_dropLast]
    omega

def rCat : R2 := fun x y H Q => ∃ l b xs zs, x = .ref l ∧ y = .ref b ∧ H l = some (.lst xs) ∧ H b = some (.lst zs) ∧ xs.length + zs.length ≤ sizeLine ∧ ∀ p, H p = none → Q (.ref p) (upd H p (.lst (xs ++ zs)))
theorem op_cat : OpR X (binaryOp .Add) rCat := by
  intro pins s σ H x y v u Q I rx ry h
  obtain ⟨l, b, xs, zs, rfl, rfl, hH, hB, hz, q⟩ := h
  cases rx
  cases ry
  obtain ⟨z, its, n, r, hl, e⟩ := I.lstM hH
  obtain ⟨z2, its2, n2, r2, hl2, e2⟩ := I.lstM hB
  refine PySem.P.add_list e e2 ?_ (by rw [List.size_toArray, List.size_toArray]; omega)
  have ea : its.toArray ++ its2.toArray = (its ++ its2).toArray := by simp
  rw [ea]
  exact ⟨.ref _, _, I.lnew (t' := s.toks) (r.append r2) (by rw [List.length_append]; omega), rfl, q _ I.fresh⟩
theorem len_rep {α : Type} (xs : List α) (k : Nat) : (List.replicate k xs).flatten.length = k * xs.length := by
  induction k with
  | zero => simp
  | succ k ih => rw [List.replicate_succ, List.flatten_cons, List.length_append, ih, Nat.succ_mul, Nat.add_comm]
end

section
variable {prog : Program} {w : World} {A : Around} {E : Value → Shared → Prop} {s : Shared}
set_option maxRecDepth 100000 in
end

section
variable {X : Cx}
end
end L2

namespace Att
open PySem PySem.W PySem.Calls PyProof.Rows

theorem ints_of_wellAll {P : Params} {h : Heap} : ∀ (ns : List Int) (vs : List Value), WellAll P h vs (ns.map WData.int) → IntsAre vs ns := by
  intro ns
  induction ns with
  | nil =>
    intro vs w
    rw [List.map_nil] at w
    cases w
    exact .nil
  | cons n ns ih =>
    intro vs w
    rw [List.map_cons] at w
    cases w with
    | cons a b =>
      cases a
      exact .cons _ _ (ih _ b)

theorem script_of {l : OpenLaw} {n : Nat} (hn : l.most = some n) {P : Params} {h : Heap} {args : List WData} {vals : List Value}
    (hpre : l.row.toRowW.claim.pre args = true) (hwl : WellAll P h vals args) :
    ∃ a vs ns, vals = [Value.ref a] ∧ args = [WData.list (ns.map WData.int)] ∧ h.get? a = some { cls := .type "list", data := .seq vs.toArray } ∧ IntsAre vs ns ∧ ns.length ≤ n := by
  have hsh : WShape.hasAll [] args [.list .int] = true := (pre_splitW hpre).1
  have hc : l.pre.holds [] { args := args } = true := (pre_splitW hpre).2
  obtain ⟨d, r, rfl, h1, h2⟩ := hasAllW_cons hsh
  obtain rfl := hasAllW_nil h2
  obtain ⟨xs, rfl, h3⟩ := hasW_list h1
  obtain ⟨ns, rfl⟩ := items_int h3
  have hlen : ns.length ≤ n := by
    unfold OpenLaw.pre at hc
    have h4 : (WTm.not (.lt (.lit (.int (n : Int))) (.len (.arg 0)))).holds [] { args := [.list (ns.map .int)] } = true := by
      have h4 := (holds_andW hc).1
      rw [hn] at h4
      exact h4
    have h5 := condW_of h4 (w_not (w_lt w_lit (w_len_list (w_arg rfl))))
    rw [List.length_map] at h5
    refine Nat.le_of_not_lt fun q => ?_
    have q' : (n : Int) < ((ns.length : Nat) : Int) := by omega
    first
      | (rw [decide_eq_true q'] at h5; exact absurd h5 (by decide))
      | (simp at h5; omega)
  cases hwl with
  | cons w1 w2 =>
    cases w2
    cases w1 with
    | list ho hall => exact ⟨_, _, ns, rfl, rfl, ho, ints_of_wellAll ns _ hall, hlen⟩

theorem post_true (l : OpenLaw) (args : List WData) : l.row.toRowW.claim.post args (.bool true) args = true :=
  postW_of (r := l.row.toRowW) (X := (true == true))
    (show WShape.has [] (.bool true) .bool = true by first | rfl | decide | simp [WShape.has, WShape.arms, WShape.armsAll])
    (show (WTm.eq .res (.lit (.bool true))).value [] { args := args, res := some (.bool true), after := args } = some (.bool (true == true)) from w_eq_bool (w_res rfl) w_lit) rfl

theorem attach_call {l : OpenLaw} {n : Nat} {q : Program} {loose : List Str} {XP : (Str → Option Value) → Heap → Prop} {YP : World → Heap → Prop} {d : DefRec}
    (hn : l.most = some n) (hdf : d.params.defaults = [])
    (call : ∀ (w : World) (s₀ s₁ : Shared) (mg mb : Str → Option Value) (fa : Addr) (o : Obj) (pm cd doc : Value) (a : Addr) (vs : List Value) (ns : List Int),
      Ground q loose [] XP w s₀ mg mb s₁.heap → YP w s₁.heap →
      s₁.heap.get? fa = some o → o.data = .func (docDef d.name d.params d.body d.scope pm cd doc) → s₁.heap.CodeRec cd d.name → mg d.name = some (.ref fa) →
      s₁.heap.get? a = some { cls := .type "list", data := .seq vs.toArray } → IntsAre vs ns → ns.length ≤ n → s₁.gens = #[] →
      codeAny (model l.prog w) callerA (.call (.ref fa) ⟨[.ref a], []⟩) (fun r s' => r = .ok (.ret (.bool true)) ∧ OldK s₁.heap s'.heap ∧ s'.os = s₁.os ∧ AllBare s'.gens) s₁) :
    WalkO q loose XP YP l.row.toRowW d [] (fun f vs => PySem.call f vs) := by
  intro w s₀ s₁ mg mb G Y fa o pm cd doc dV kV ho hd hcd hD hmg hg args vals as hpre hlay hrd hwl hlo
  obtain rfl : dV = .none := Dflts.none hD hdf
  obtain rfl : kV = .none := Dflts.noKw hD
  obtain ⟨a, vs, ns, rfl, rfl, hobj, hints, hlen⟩ := script_of hn hpre hwl
  refine enter_call (codeAny_mono (call w s₀ s₁ mg mb fa o pm cd doc a vs ns G Y ho (fd_plain hd) hcd hmg hobj hints hlen hg) fun r s' hq => ?_)
  obtain ⟨rfl, h2, h3, h4⟩ := hq
  exact ⟨.inl ⟨.bool true, .bool true, [], rfl, fun _ => rfl, .bool true, post_true l _, fun _ => ⟨List.Pairwise.nil, fun _ hm => (nomatch hm)⟩⟩, h2, h3, h4⟩

section
variable {prog : Program} {w : World} {A : Around} {E : Value → Shared → Prop} {s : Shared} {K : Frag}

end
end Att

namespace L2
open PySem PySem.Spec PyProof.Rows

theorem vals_ints : ∀ {vs : List Value} {ns : List Int}, IntsAre vs ns → Vals (ns.map V.int) vs
  | _, _, .nil => .nil
  | _, _, .cons n t h => .cons ⟨t, rfl⟩ (vals_ints h)

def Only (H : Hp) : Prop := ∀ b, H b = none ∨ ∃ o xs, H b = some (.frz o (.lst xs))

theorem law_call {P : Program} {w : World} {K : PySem.W.Frag} {mg mb : Str → Option Value} {CX : CXT} {k : Nat} {fa a : Addr} {fd : FuncData} {x : Str} {sp : Sp} {s₁ : Shared} {vs : List Value} {ns : List Int}
    (KX : K.In s₁.heap) (hns : s₁.heap.Ns mainGlobals mg) (hb : s₁.heap.Ns builtinsNs mb) (hbb : ∀ x : Str, x ≠ "__name__" → mb x = bootBuiltins x) (hlim : s₁.heap.NoLimit) (hg : s₁.gens = #[])
    (ha : s₁.heap.get? a = some { cls := .type "list", data := .seq vs.toArray }) (hi : IntsAre vs ns) (hl : ns.length ≤ sizeLine) (hr : Room k callerA)
    (F : ∀ base : Heap, K.In base → base.Ns mainGlobals mg → FnOk P w K mg base CX k fa fd [x] sp) (hbind : ∀ (s : Shared) (u : Value), BindsTo s fd ⟨[u], []⟩ [(x, u)])
    (hsp : ∀ H : Hp, Only H → SqL K H a (ns.map V.int) → sp [.ref a] H (fun v _ => v = .bl true) fun _ _ _ => False)
    (hCX : ∀ H e s', CX [] H s₁ (fun _ _ _ => False) e s' → False) :
    codeAny (model P w) callerA (.call (.ref fa) ⟨[.ref a], []⟩) (fun r s' => r = .ok (.ret (.bool true)) ∧ OldK s₁.heap s'.heap ∧ s'.os = s₁.os ∧ AllBare s'.gens) s₁ := by
  have rv := vals_ints hi
  have lenV := hi.length
  -- from an abstract heap in which nothing but the script may be tracked
  have core : ∀ H : Hp, Only H → SqL K H a (ns.map V.int) → HOk P w H s₁.heap → (∀ b, H b ≠ none → b = a) → (H a ≠ none → K.lookup a = none) →
      codeAny (model P w) callerA (.call (.ref fa) ⟨[.ref a], []⟩) (fun r s' => r = .ok (.ret (.bool true)) ∧ OldK s₁.heap s'.heap ∧ s'.os = s₁.os ∧ AllBare s'.gens) s₁ := by
    intro H hO hS hok hA hK
    have base_of : ∀ {b : Addr} {o : Obj}, s₁.heap.get? b = some o → H b = none → (hidT s₁.heap H).get? b = some o := fun e n => hidT_get e n
    have noA : ∀ {b : Addr} {o : Obj} {es : Array DictEntry} {ep : Nat}, s₁.heap.get? b = some o → o.data = .dict es ep → H b = none := fun {b o es ep} e d => by
      cases q : H b with
      | none => rfl
      | some u =>
        have e' : b = a := hA b (by rw [q]; simp)
        subst e'
        rw [ha] at e; cases e
        have d' : Data.seq vs.toArray _ = Data.dict es ep := d
        cases d'
    have nsK : ∀ {b : Addr} {m : Str → Option Value}, s₁.heap.Ns b m → (hidT s₁.heap H).Ns b m := fun {b m} ⟨o, es, ep, e, d, r⟩ => ⟨o, es, ep, base_of e (noA e d), d, r⟩
    have hKb : K.In (hidT s₁.heap H) := fun b o e => base_of (KX b o e) (by
      cases q : H b with
      | none => rfl
      | some u =>
        have e' : b = a := hA b (by rw [q]; simp)
        subst e'
        rw [hK (by rw [q]; simp)] at e; cases e)
    have hM : Mod K mg (hidT s₁.heap H) := ⟨hKb, nsK hns, ⟨mb, nsK hb, hbb⟩, let ⟨mc, h1, h2⟩ := hlim; ⟨mc, nsK h1, h2⟩⟩
    have e0 : Env0 P w K mg (hidT s₁.heap H) callerA [] s₁ H := ⟨rfl, hM, fun b o e => of_hidT e, Nat.le_of_eq (hidT_size _ _), trivial, fun b hb => absurd (show b ∈ ([] : List Addr) from hb) (by simp), hok, .of_eq hg⟩
    refine codeAny_mono ((F _ hKb (nsK hns)).run callerA [] s₁ H ⟨[.ref a], []⟩ [.ref a] [.ref a] _ _ hr e0 (hbind s₁ (.ref a)) (.cons rfl .nil) (hsp H hO hS)) fun r s' h => ?_
    cases r with
    | error e => exact (hCX H e s' h).elim
    | ok fl =>
      cases fl with
      | next => exact False.elim h
      | brk => exact False.elim h
      | cont => exact False.elim h
      | ret u =>
        obtain ⟨v, H', os, bare, un, hok', r', q⟩ := h
        have q' : v = .bl true := q
        subst q'
        obtain rfl : u = Value.bool true := r'
        refine ⟨rfl, OldK.of_keep fun b o e => ?_, os, bare⟩
        cases q : H b with
        | none => exact un.keep b o e q (by intro z; exact absurd (show b ∈ ([] : List Addr) from z) (by simp)) (by simp)
        | some u =>
          rcases hO b with z | ⟨ob, xs, z⟩
          · rw [q] at z; cases z
          · have z2 := un.frzs b ob _ z
            obtain ⟨e1, _⟩ := hok b _ z
            obtain ⟨e2, _⟩ := hok' b _ z2
            rw [e] at e1; cases e1
            exact e2
  cases hk : K.lookup a with
  | some o =>
    -- the script is one of the module's own objects
    have e := KX a o hk
    rw [ha] at e
    cases e
    refine core (fun _ => none) (fun _ => .inl rfl) (.inr ⟨_, vs.toArray, _, hk, rfl, rfl, rfl, by rw [List.size_toArray, lenV]; exact hl, by simpa using rv⟩) (fun b u z => by have z' : (none : Option HO) = some u := z; cases z') (fun b z => absurd rfl z) fun z => absurd rfl z
  | none =>
    refine core (fun b => if b = a then some (.frz { cls := .type "list", data := .seq vs.toArray } (.lst (ns.map V.int))) else none) (fun b => ?_) (.inl (.inr ⟨{ cls := .type "list", data := .seq vs.toArray }, if_pos rfl⟩)) (fun b u z => ?_) (fun b z => ?_) fun _ => hk
    · by_cases hb : b = a
      · exact .inr ⟨_, _, if_pos hb⟩
      · exact .inl (if_neg hb)
    · by_cases hb : b = a
      · have z' := (if_pos hb).symm.trans z
        cases z'
        subst hb
        exact ⟨ha, by rw [List.length_map]; exact hl, vs, _, rv, ha⟩
      · have z' := (if_neg hb).symm.trans z
        cases z'
    · by_cases hb : b = a
      · exact hb
      · exact absurd (if_neg hb) z
end L2

namespace L2
open PySem PySem.Spec PyProof.Rows

theorem walk_of {l : PySem.W.OpenLaw} {n k : Nat} {q : Program} {loose : List Str} {XP : (Str → Option Value) → Heap → Prop} {YP : World → Heap → Prop} {d : DefRec} {K : Params → PySem.W.Frag} {CX : World → CXT} {sp : World → Sp} {x : Str}
    (hn : l.most = some n) (hn2 : n ≤ sizeLine) (hdf : d.params.defaults = []) (hr : Room k callerA)
    (hY : ∀ (w : World) (h : Heap), YP w h → (K w.params).In h)
    (F : ∀ (w : World) (mg : Str → Option Value) (fa : Addr) (h : Heap), (K w.params).In h → h.Ns mainGlobals mg → mg d.name = some (.ref fa) →
      ∃ fd : FuncData, (∀ (s : Shared) (u : Value), BindsTo s fd ⟨[u], []⟩ [(x, u)]) ∧
        ∀ base : Heap, (K w.params).In base → base.Ns mainGlobals mg → FnOk l.prog w (K w.params) mg base (CX w) k fa fd [x] (sp w))
    (hsp : ∀ (w : World) (H : Hp) (a : Addr) (ns : List Int), ns.length ≤ n → Only H → SqL (K w.params) H a (ns.map V.int) → sp w [.ref a] H (fun v _ => v = .bl true) fun _ _ _ => False)
    (hCX : ∀ (w : World) (H : Hp) (s : Shared) (e : Value) (s' : Shared), CX w [] H s (fun _ _ _ => False) e s' → False) :
    PySem.W.WalkO q loose XP YP l.row.toRowW d [] (fun f vs => PySem.call f vs) := by
  refine Att.attach_call hn hdf fun w s₀ s₁ mg mb fa o pm cd doc a vs ns G Y ho hd hcd hmg hobj hints hlen hg => ?_
  have KX := hY w _ Y
  obtain ⟨fd, hb, hF⟩ := F w mg fa _ KX G.T.g hmg
  exact law_call KX G.T.g G.T.b G.T.builtins G.T.nolimit hg hobj hints (Nat.le_trans hlen hn2) hr hF hb (fun H hO hS => hsp w H a ns hlen hO hS) fun H e s' => hCX w H s₁ e s'
end L2

namespace L2
open PySem PySem.Spec PyProof.Rows

def defArgs (s : Stmt) : Arguments := match s with
  | .FunctionDef _ a _ _ _ _ _ _ _ _ => a
  | _ => { posonlyargs := [], args := [], vararg := none, kwonlyargs := [], kw_defaults := [], kwarg := none, defaults := [] }
def defBody (s : Stmt) : List Stmt := match s with
  | .FunctionDef _ _ b _ _ _ _ _ _ _ => b
  | _ => []
def defScope (s : Stmt) : Scope := match s with
  | .FunctionDef _ _ _ _ _ _ sc _ _ _ => sc
  | _ => { kind := .function, names := [], isGenerator := false, isCoroutine := false }

abbrev CX0 : CXT := fun _ _ _ _ _ _ => False
abbrev E0 : XK := fun _ _ _ => False
theorem pass0 {X : Cx} : Passes CX0 X E0 := fun _ _ _ _ _ _ _ h => h.elim

structure Fun (K : PySem.W.Frag) (x qual : Str) (st : Stmt) (f : Addr) (fd : FuncData) : Prop where
  ex : ∃ (oc : Value) (od : Option Addr) (kV doc pm : Value) (an : Option Addr) (cdv ct : Value) (osl : Array (Option Value)),
    fd = PySem.W.fnOf x qual (defArgs st) (defBody st) (defScope st) .none kV doc pm an cdv ct ∧ K.lookup f = some ⟨oc, od, .func fd, osl⟩ ∧ PySem.W.codeIn K cdv qual = true
  kp : PySem.W.keepIn K (.ref f) = true
section
variable {P : Program} {w : World} {K : PySem.W.Frag} {mg : Str → Option Value} {base : Heap}
theorem Fun.ok {x qual : Str} {st : Stmt} {f : Addr} {fd : FuncData} {N ps : List Str} {k : Nat} {sp : Sp} (F : Fun K x qual st f fd) (S : FnScope N ps (defScope st)) (len : ∀ vs H Q E, sp vs H Q E → vs.length = ps.length)
    (hbody : ∀ (cdv : Value) (A : Around) (outer : List Env) (s : Shared) (H : Hp) (vs : List V) (Q : VK) (E : XK), Room k (A.deeper (envOfC qual (defScope st) s.heap.objs.size f cdv)) → sp vs H Q E →
      ∃ t, PSs (cxOf CX0 P w K mg base N qual (defScope st) f cdv A outer s H E).nox (defBody st) t ∧ t { nx := fun _ H' => Q .non H', rt := Q } (start N vs) H) : FnOk P w K mg base CX0 (k + 1) f fd ps sp := by
  obtain ⟨oc, od, kV, doc, pm, an, cdv, ct, osl, rfl, lk, hcd⟩ := F.ex
  refine fn_of lk hcd S len fun A outer s H vs Q E hr hsp => ?_
  obtain ⟨t, h, q⟩ := hbody cdv A outer s H vs Q E hr hsp
  exact ⟨t, h.nox, q⟩
theorem Fun.binds {x qual : Str} {st : Stmt} {f : Addr} {fd : FuncData} {ps : List Str} (F : Fun K x qual st f fd)
    (h : ∀ (kV doc pm : Value) (an : Option Addr) (cdv ct : Value) (us : List Value), us.length = ps.length → bindArgs (PySem.W.fnOf x qual (defArgs st) (defBody st) (defScope st) .none kV doc pm an cdv ct) ⟨us, []⟩ = pure (ps.zip us)) : Binds K fd ps [] := by
  obtain ⟨oc, od, kV, doc, pm, an, cdv, ct, osl, rfl, lk, hcd⟩ := F.ex
  exact .all (h kV doc pm an cdv ct)
theorem fun_mk {x qual : Str} {st : Stmt} {f : Addr} {oc : Value} {od an : Option Addr} {osl : Array (Option Value)} {kV doc pm cdv ct : Value} (l : K.lookup f = some ⟨oc, od, .func (PySem.W.fnOf x qual (defArgs st) (defBody st) (defScope st) .none kV doc pm an cdv ct), osl⟩)
    (c : PySem.W.codeIn K cdv qual = true) (k : PySem.W.keepIn K (.ref f) = true) : Fun K x qual st f (PySem.W.fnOf x qual (defArgs st) (defBody st) (defScope st) .none kV doc pm an cdv ct) := ⟨⟨oc, od, kV, doc, pm, an, cdv, ct, osl, rfl, l, c⟩, k⟩
end
section
variable {X : Cx}
end

theorem iteF {A B : Prop} (h : B) : if false = true then A else B := by
  rw [if_neg Bool.false_ne_true]
  exact h
theorem iteT {A B : Prop} (h : A) : if true = true then A else B := by
  rw [if_pos rfl]
  exact h
def Same (H H' : Hp) : Prop := ∀ b o, H b = some o → H' b = some o
theorem Same.refl (H : Hp) : Same H H := fun _ _ h => h
theorem Same.trans {H H1 H2 : Hp} (a : Same H H1) (b : Same H1 H2) : Same H H2 := fun c o h => b c o (a c o h)
theorem Same.free {H H' : Hp} (e : Same H H') {l : Addr} (h : H' l = Option.none) : H l = Option.none := by
  cases q : H l with
  | none => rfl
  | some o =>
    rw [e l o q] at h
    cases h
theorem Same.seq {K : PySem.W.Frag} {H H' : Hp} {a : Addr} {xs : List V} (e : Same H H') (h : SqL K H a xs) : SqL K H' a xs := by
  rcases h with (h | ⟨o, h⟩) | h
  · exact .inl (.inl (e _ _ h))
  · exact .inl (.inr ⟨o, e _ _ h⟩)
  · exact .inr h

end L2
end

section
-- CHANGE: your row's module here, as the last of these rows
set_option Elab.async false
set_option linter.all false
set_option maxRecDepth 100000
namespace L2
open PySem PySem.Spec PyProof.Rows

end L2

namespace L2
open PySem PySem.Spec PyProof.Rows

section
variable (P : Program) (w : World)
end

section
variable {P : Program} {w : World} {H H' : Hp} {h h' : Heap} {a : Addr} {o : HO}
end

section
variable {P : Program} {w : World} {H : Hp} {h h' : Heap} {x e : Addr} {o' : HO}
end

section
variable {fs fs' ex ex' : List Addr} {H H1 H2 : Hp} {h h1 h2 h' : Heap} {a x e : Addr} {o : HO}
end

end L2

namespace L2
open PySem PySem.Spec PyProof.Rows

section
variable {X : Cx} {pins : List (Addr × Obj)} {σ : List (Option V)} {H H' : Hp} {s : Shared} {h' : Heap}

end

end L2

namespace L2
open PySem PySem.Spec PyProof.Rows
section
variable {X : Cx}

variable {a b : Expr} {ta tb : TE} {pos : Pos}
variable {tA tB' : TT} {rest : List Expr}
end
end L2

namespace L2
open PySem PySem.Spec PyProof.Rows

section
variable {X : Cx} {pins : List (Addr × Obj)} {σ : St} {H : Hp} {s : Shared} {a : Addr} {xs ys : List V}
end

section
variable {X : Cx} {pins : List (Addr × Obj)} {σ : St} {H : Hp} {s : Shared} {E : Value → Shared → Prop}
end

section
variable {X : Cx} {st : Stmt} {rest : List Stmt} {t u : TS} {e : Expr} {te : TE} {pos : Pos}
end

section
variable {X : Cx} {pos : Pos}
end

section
variable {X : Cx} {pos : Pos}
end

end L2

namespace L2
open PySem PySem.Spec PyProof.Rows
section
variable {X : Cx} {tg : Expr}
end

end L2

namespace L2
open PySem PySem.Spec PyProof.Rows

section
variable {X : Cx} {a b c : Expr} {ta tb tc : TE} {pos : Pos}

end

section
variable {X : Cx} {a b c : Expr} {ta tb tc : TE} {pos : Pos}
end
end L2

namespace L2
open PySem PySem.Spec PyProof.Rows

section
variable {prog : Program} {w : World} {A : Around} {E : Value → Shared → Prop} {s : Shared} {K : PySem.W.Frag} {x dx C f : Addr} {mA : Str → Option Value} {name : Str} {v : Value}

end

section
variable {P : Program} {w : World} {H H' : Hp} {h h' : Heap} {a C dx : Addr} {fs fs' : List (Str × V)}
end

section
variable {X : Cx} {pins : List (Addr × Obj)} {σ : St} {H : Hp} {s : Shared} {a C dx : Addr} {fs : List (Str × V)} {f : Str} {v : V} {A : Around} {E : Value → Shared → Prop}

end

section
variable {X : Cx} {o e value : Expr} {f : Str} {pos pos' tpos : Pos} {ta tv : TE}
end

section
variable {X : Cx} {pins : List (Addr × Obj)} {σ : St} {H : Hp} {s : Shared} {A : Around} {E : Value → Shared → Prop} {Q : Value → Shared → Prop} {c : Value} {b : Bool}
end
end L2

namespace L2
open PySem PySem.Spec PyProof.Rows

section
variable {X : Cx} {e : Expr} {es : List Expr} {te : TE} {t : TA} {pos : Pos}
end

section
variable {X : Cx} {pins : List (Addr × Obj)} {σ : St} {H : Hp} {s s' : Shared}
end

section
variable {X : Cx} {CX : CXT} {k : Nat} {f C : Addr} {fd : FuncData} {ps : List Str} {sp : Sp} {dvs : List V} {ds : List Value} {E : XK} {x m : Str} {p pos apos : Pos} {e o : Expr} {es : List Expr} {ta : TE} {t : TA}

end

section
variable {X : Cx} {CX : CXT} {k : Nat} {f C : Addr} {fd : FuncData} {ps ks : List Str} {sp : Sp} {E : XK} {x m : Str} {p pos apos kpos : Pos} {e o : Expr} {es : List Expr} {kws : List Keyword} {te ta : TE} {t tk : TA} {nm : Option Str}
variable {g : List Value → List Value → List Value} {gV : List V → List V → List V}
end

end L2

namespace L2
open PySem PySem.Spec PyProof.Rows
section
variable {X : Cx} {x : Str} {p pos : Pos} {e : Expr} {es : List Expr} {t : TA} {id T : String} {r : List V → Hp → VK → Prop}

end
end L2

namespace L2
open PySem PySem.Spec PyProof.Rows

section
variable {κ : Type} [DecidableEq κ]
def valV (kvs : List (κ × V)) (k : κ) : Option V := (kvs.find? fun kv => decide (kv.1 = k)).map (·.2)
def putK (kvs : List (κ × V)) (k : κ) (v : V) : List (κ × V) :=
  if (kvs.any fun kv => decide (kv.1 = k)) = true then kvs.map (fun kv => if kv.1 = k then (kv.1, v) else kv) else kvs ++ [(k, v)]
def dropK (kvs : List (κ × V)) (k : κ) : List (κ × V) := kvs.filter fun kv => decide (kv.1 ≠ k)

theorem valV_pos {p : κ × V} {r : List (κ × V)} {k : κ} (e : p.1 = k) : valV (p :: r) k = some p.2 := by simp [valV, List.find?_cons, e]
theorem valV_neg {p : κ × V} {r : List (κ × V)} {k : κ} (e : ¬ p.1 = k) : valV (p :: r) k = valV r k := by simp [valV, List.find?_cons, e]
theorem valV_any (k : κ) : ∀ kvs : List (κ × V), (kvs.any fun kv => decide (kv.1 = k)) = (valV kvs k).isSome
  | [] => rfl
  | p :: r => by
    rw [List.any_cons]
    by_cases e : p.1 = k
    · simp only [valV_pos e, decide_eq_true e, Bool.true_or, Option.isSome_some]
    · rw [valV_neg e, decide_eq_false e, Bool.false_or]; exact valV_any k r
theorem RelO.isSome_eq {o : Option V} {u : Option Value} (r : RelO o u) : o.isSome = u.isSome := by
  cases o with
  | none => cases u with
    | none => rfl
    | some _ => exact (show False from r).elim
  | some _ => cases u with
    | none => exact (show False from r).elim
    | some _ => rfl
theorem RelO.getD {o : Option V} {u : Option Value} {d : V} {d' : Value} (r : RelO o u) (rd : RelV d d') : RelV (o.getD d) (u.getD d') := by
  cases o with
  | none => cases u with
    | none => exact rd
    | some _ => exact (show False from r).elim
  | some _ => cases u with
    | none => exact (show False from r).elim
    | some _ => exact r

theorem KV.val {kvs : List (κ × V)} {vs : List (κ × Value)} (r : KV kvs vs) (k : κ) : RelO (valV kvs k) (valueAt vs k) := by
  unfold KV at r
  induction r with
  | nil => exact True.intro
  | @cons p q ps qs h t ih =>
    obtain ⟨h1, h2⟩ := h
    by_cases e : p.1 = k
    · have e' : q.1 = k := h1.symm.trans e
      have b : valueAt (q :: qs) k = some q.2 := by simp [valueAt, List.find?_cons, e']
      rw [valV_pos e, b]; exact h2
    · have e' : ¬ q.1 = k := fun z => e (h1.trans z)
      have b : valueAt (q :: qs) k = valueAt qs k := by simp [valueAt, List.find?_cons, e']
      rw [valV_neg e, b]; exact ih
theorem KV.any {kvs : List (κ × V)} {vs : List (κ × Value)} (r : KV kvs vs) (k : κ) : (kvs.any fun kv => decide (kv.1 = k)) = vs.any fun kv => decide (kv.1 = k) := by
  unfold KV at r
  induction r with
  | nil => rfl
  | cons h t ih => rw [List.any_cons, List.any_cons, ih, h.1]
theorem KV.repl {kvs : List (κ × V)} {vs : List (κ × Value)} (r : KV kvs vs) (k : κ) {y : V} {u : Value} (ry : RelV y u) :
    KV (kvs.map fun kv => if kv.1 = k then (kv.1, y) else kv) (vs.map fun kv => if kv.1 = k then (kv.1, u) else kv) := by
  unfold KV at r ⊢
  induction r with
  | nil => exact .nil
  | @cons p q ps qs h t ih =>
    rw [List.map_cons, List.map_cons]
    refine .cons ?_ ih
    obtain ⟨h1, h2⟩ := h
    by_cases e : p.1 = k
    · rw [if_pos e, if_pos (h1.symm.trans e)]; exact ⟨h1, ry⟩
    · rw [if_neg e, if_neg (fun z => e (h1.trans z))]; exact ⟨h1, h2⟩
theorem KV.put {kvs : List (κ × V)} {vs : List (κ × Value)} (r : KV kvs vs) (k : κ) {y : V} {u : Value} (ry : RelV y u) : KV (putK kvs k y) (stored vs k u) := by
  unfold putK stored
  rw [r.any k]
  by_cases e : (vs.any fun kv => decide (kv.1 = k)) = true
  · rw [if_pos e, if_pos e]; exact r.repl k ry
  · rw [if_neg e, if_neg e]; exact Paired.snoc r ⟨rfl, ry⟩
theorem KV.drop {kvs : List (κ × V)} {vs : List (κ × Value)} (r : KV kvs vs) (k : κ) : KV (dropK kvs k) (without vs k) := by
  unfold KV at r ⊢
  unfold dropK without
  induction r with
  | nil => exact .nil
  | @cons p q ps qs h t ih =>
    obtain ⟨h1, h2⟩ := h
    rw [List.filter_cons, List.filter_cons]
    by_cases e : p.1 = k
    · have a : ¬ decide (p.1 ≠ k) = true := by simp [e]
      have b : ¬ decide (q.1 ≠ k) = true := by simp [h1.symm.trans e]
      rw [if_neg a, if_neg b]; exact ih
    · have e' : ¬ q.1 = k := fun z => e (h1.trans z)
      have a : decide (p.1 ≠ k) = true := by simp [e]
      have b : decide (q.1 ≠ k) = true := by simp [e']
      rw [if_pos a, if_pos b]; exact .cons ⟨h1, h2⟩ ih
theorem KV.length {kvs : List (κ × V)} {vs : List (κ × Value)} (r : KV kvs vs) : kvs.length = vs.length := Paired.length r
end


abbrev KT (H : Hp) : List (List Key × V) → List (List Key × Addr × Value) → Prop := Paired fun p q => p.1 = q.1 ∧ H q.2.1 = some (.tup (p.1.map kV)) ∧ RelV p.2 q.2.2
theorem KT.val {H : Hp} {kvs : List (List Key × V)} {xs : List (List Key × Addr × Value)} (r : KT H kvs xs) (k : List Key) : RelO (valV kvs k) ((atKey xs k).map (·.2)) := by
  induction r with
  | nil => exact True.intro
  | @cons p q ps qs h t ih =>
    obtain ⟨h1, _, h2⟩ := h
    by_cases e : p.1 = k
    · have e' : q.1 = k := h1.symm.trans e
      have b : atKey (q :: qs) k = some q.2 := by simp [atKey, List.find?_cons, e']
      rw [valV_pos e, b]; exact h2
    · have e' : ¬ q.1 = k := fun z => e (h1.trans z)
      have b : atKey (q :: qs) k = atKey qs k := by simp [atKey, List.find?_cons, e']
      rw [valV_neg e, b]; exact ih
theorem KT.repl {H : Hp} {kvs : List (List Key × V)} {xs : List (List Key × Addr × Value)} (r : KT H kvs xs) (k : List Key) {y : V} {u : Value} (ry : RelV y u) :
    KT H (kvs.map fun kv => if kv.1 = k then (kv.1, y) else kv) (xs.map (putAt k u)) := by
  induction r with
  | nil => exact .nil
  | @cons p q ps qs h t ih =>
    rw [List.map_cons, List.map_cons]
    refine .cons ?_ ih
    obtain ⟨h1, h2, h3⟩ := h
    unfold putAt
    by_cases e : p.1 = k
    · rw [if_pos e, if_pos (h1.symm.trans e)]; exact ⟨h1, h2, ry⟩
    · rw [if_neg e, if_neg (fun z => e (h1.trans z))]; exact ⟨h1, h2, h3⟩
theorem KT.put {H : Hp} {kvs : List (List Key × V)} {xs : List (List Key × Addr × Value)} (r : KT H kvs xs) (k : List Key) {b : Addr} {y : V} {u : Value} (hb : H b = some (.tup (k.map kV))) (ry : RelV y u) :
    KT H (putK kvs k y) (storedH xs k b u) := by
  have e : (kvs.any fun kv => decide (kv.1 = k)) = (atKey xs k).isSome := by
    rw [valV_any, (r.val k).isSome_eq, Option.isSome_map]
  unfold putK storedH
  rw [e]
  by_cases q : (atKey xs k).isSome = true
  · rw [if_pos q, if_pos q]; exact r.repl k ry
  · rw [if_neg q, if_neg q]; exact Paired.snoc r ⟨rfl, hb, ry⟩
theorem KT.keeps {H H' : Hp} {kvs : List (List Key × V)} {xs : List (List Key × Addr × Value)} (r : KT H kvs xs) (ht : ∀ b ys, H b = some (.tup ys) → H' b = some (.tup ys)) : KT H' kvs xs :=
  Paired.mapP r fun _ _ z => ⟨z.1, ht _ _ z.2.1, z.2.2⟩

section
variable {P : Program} {w : World} {H : Hp} {h : Heap} {a : Addr}
end

def DGet (H : Hp) (a : Addr) (y : V) (r : Option V) : Prop :=
  (∃ kvs k, Rd H a (.dK kvs) ∧ y = kV k ∧ r = valV kvs k) ∨ ∃ kvs k b, Rd H a (.dT kvs) ∧ y = .ref b ∧ H b = some (.tup (k.map kV)) ∧ r = valV kvs k
def DPut (H : Hp) (a : Addr) (y v : V) (H' : Hp) : Prop :=
  (∃ kvs k, H a = some (.dK kvs) ∧ y = kV k ∧ kvs.length < sizeLine ∧ H' = upd H a (.dK (putK kvs k v))) ∨
  ∃ kvs k b, H a = some (.dT kvs) ∧ y = .ref b ∧ H b = some (.tup (k.map kV)) ∧ kvs.length < sizeLine ∧ H' = upd H a (.dT (putK kvs k v))
theorem DGet.k {H : Hp} {a : Addr} {kvs : List (Key × V)} {k : Key} (e : H a = some (.dK kvs)) : DGet H a (kV k) (valV kvs k) := .inl ⟨kvs, k, .inl e, rfl, rfl⟩
theorem DGet.t {H : Hp} {a b : Addr} {kvs : List (List Key × V)} {k : List Key} (e : H a = some (.dT kvs)) (eb : H b = some (.tup (k.map kV))) : DGet H a (.ref b) (valV kvs k) := .inr ⟨kvs, k, b, .inl e, rfl, eb, rfl⟩
theorem DPut.k {H : Hp} {a : Addr} {kvs : List (Key × V)} {k : Key} {v : V} (e : H a = some (.dK kvs)) (hl : kvs.length < sizeLine) : DPut H a (kV k) v (upd H a (.dK (putK kvs k v))) := .inl ⟨kvs, k, e, rfl, hl, rfl⟩
theorem DPut.t {H : Hp} {a b : Addr} {kvs : List (List Key × V)} {k : List Key} {v : V} (e : H a = some (.dT kvs)) (eb : H b = some (.tup (k.map kV))) (hl : kvs.length < sizeLine) :
    DPut H a (.ref b) v (upd H a (.dT (putK kvs k v))) := .inr ⟨kvs, k, b, e, rfl, eb, hl, rfl⟩


section
variable {X : Cx} {pins : List (Addr × Obj)} {σ : St} {H : Hp} {s : Shared} {a : Addr} {y v : V} {u r : Value} {o : Option V} {A : Around} {E : Value → Shared → Prop}

end

section
variable {X : Cx} {pins : List (Addr × Obj)} {σ : St} {H : Hp} {s : Shared} {a : Addr} {kvs : List (Key × V)} {k : Key} {u : Value} {A : Around} {E : Value → Shared → Prop}
end


section
variable {X : Cx} {o i e value : Expr} {pos pos' tpos : Pos} {td ty tv : TE}
end


section
variable {X : Cx} {pos : Pos}
end

structure M1 (X : Cx) (o : Expr) (m : Str) (apos : Pos) (e : Expr) (cpos : Pos) : Prop where
  base : attributeBase o m X.env (eval o X.env) = eval o X.env
  few : ((backTo cpos (starEach [e] X.env)).all (fun x => !x.1) && (backToKw cpos (keywordEach [] X.env)).all (fun x => x.1.isSome)
    && decide (([e] : List Expr).length + ([] : List Keyword).length + (if ([] : List Keyword).isEmpty then 0 else 1) < 30)) = true
  line : (apos.endLine == cpos.line) = true
  trees : backTo cpos (starEach [e] X.env) = [(false, eval e X.env)]
structure M2 (X : Cx) (o : Expr) (m : Str) (apos : Pos) (e f : Expr) (cpos : Pos) : Prop where
  base : attributeBase o m X.env (eval o X.env) = eval o X.env
  few : ((backTo cpos (starEach [e, f] X.env)).all (fun x => !x.1) && (backToKw cpos (keywordEach [] X.env)).all (fun x => x.1.isSome)
    && decide (([e, f] : List Expr).length + ([] : List Keyword).length + (if ([] : List Keyword).isEmpty then 0 else 1) < 30)) = true
  line : (apos.endLine == cpos.line) = true
  trees : backTo cpos (starEach [e, f] X.env) = [(false, eval e X.env), (false, eval f X.env)]

section
variable {X : Cx} {pins : List (Addr × Obj)} {σ : St} {H : Hp} {s : Shared} {a : Addr} {y d : V} {u r : Value} {o : Option V} {A : Around} {E : Value → Shared → Prop}
end

section
variable {X : Cx} {o e f : Expr} {apos cpos : Pos} {td ty tx : TE}
end

section
variable {X : Cx} {pins : List (Addr × Obj)} {σ : St} {H : Hp} {s : Shared} {a : Addr} {kvs : List (Key × V)} {A : Around} {E : Value → Shared → Prop}
end


section
variable {X : Cx} {pins : List (Addr × Obj)} {σ : St} {H : Hp} {s : Shared} {a : Addr} {y : V} {u : Value} {A : Around} {E : Value → Shared → Prop}
end
end L2

namespace Att
open PySem PySem.W PySem.Calls PyProof.Rows

section
variable {prog : Program} {w : World} {A : Around} {E : Value → Shared → Prop} {s : Shared} {K : Frag}

end
end Att

namespace L2
open PySem PySem.Spec PyProof.Rows

end L2

namespace L2
open PySem PySem.Spec PyProof.Rows

end L2

namespace L2
open PySem PySem.Spec PyProof.Rows

section
variable {P : Program} {w : World} {K : PySem.W.Frag} {mg : Str → Option Value} {base : Heap}
end
section
variable {X : Cx}
end

section
variable {κ : Type} [DecidableEq κ]
end
end L2
end

section
set_option Elab.async false
set_option linter.all false
set_option maxRecDepth 100000
set_option maxHeartbeats 4000000
namespace L2
open PySem PySem.Spec PyProof.Rows

section
variable {prog : Program} {w : World} {A : Around} {R : Result → Shared → Prop} {s : Shared}
theorem compLoop_any {elt target iter : Expr} {ifs : List Expr} {scope : Scope} {pos : Pos} {it acc : Value} {env : Env} (I : Nat → Shared → Prop)
    (turn : ∀ n s, I n s → wpAny (model prog w) A (pyNext it) (fun r s₁ => match r with
      | none => R (.ok .next) s₁
      | some v => wpAny (model prog w) A (letOwnedTupleGo target it v) (fun _ s₀ => wpAny (model prog w) A (assign target env v) (fun _ s₂ =>
          wpAny (model prog w) A (forIn ifs true fun c r => if r = true then do let ok ← isTrue c env (eval c env); pure (ForInStep.yield ok) else pure (ForInStep.yield r)) (fun ok s₃ =>
            if ok = true then wpAny (model prog w) A (eval elt env) (fun x s₄ =>
              wpAny (model prog w) A (call (.builtin "list.append") [acc, x]) (fun _ s₅ => ∃ m, m < n ∧ I m s₅) (fun _ _ => False) s₄) (fun _ _ => False) s₃
            else ∃ m, m < n ∧ I m s₃) (fun _ _ => False) s₂) (fun _ _ => False) s₀) (fun _ _ => False) s₁) (fun _ _ => False) s)
    (n : Nat) (h : I n s) :
    codeAny (model prog w) A (.compLoop (.ListComp elt [⟨target, iter, ifs, 0⟩] scope pos) 0 it acc env) R s := by
  refine codeAny_loop rfl I (fun n s hI => ?_) n h
  show wpAny _ A ((compTurn (.ListComp elt [⟨target, iter, ifs, 0⟩] scope pos) 0 it acc env).onRaise (fun x => do noteFrame x env; theTreesLotGoes x)) _ _ s
  refine wpAny_noted ?_
  rw [compTurn_list]
  refine wpAny_bind (wpAny_standAt (wpAny_bind (wpAny_mono (turn n s hI) (fun r s₁ h₁ => ?_) fun _ _ h' => h'.elim)))
  cases r with
  | none => exact wpAny_pure h₁
  | some v =>
    refine wpAny_bind (wpAny_mono h₁ (fun _ s₀ h₀ => ?_) fun _ _ h' => h'.elim)
    refine wpAny_bind (wpAny_mono h₀ (fun _ s₂ h₂ => wpAny_bind (wpAny_mono h₂ (fun ok s₃ h₃ => ?_) fun _ _ h' => h'.elim)) fun _ _ h' => h'.elim)
    cases ok with
    | false => exact wpAny_pure ⟨rfl, h₃⟩
    | true =>
      exact wpAny_bind (wpAny_bind (wpAny_mono h₃ (fun x s₄ h₄ => wpAny_bind (wpAny_mono h₄ (fun _ s₅ h₅ => wpAny_pure (wpAny_pure ⟨rfl, h₅⟩)) fun _ _ h' => h'.elim)) fun _ _ h' => h'.elim))
end

def clOf (cells : List (Str × Addr)) : List (Str × NameKind) → List (Str × Addr) → List (Str × Addr)
  | [], acc => acc
  | (n, k) :: r, acc => if (k == NameKind.free) = true then clOf cells r ((n, (cells.lookup n).getD 0) :: acc) else clOf cells r acc
theorem closure_eq {scope : Scope} {env : Env} (h : ∀ y ∈ scope.names, y.2 = .free → ∃ c, env.cells.lookup y.1 = some c) :
    closureFor scope env = pure (clOf env.cells scope.names []) := by
  have go : ∀ (l : List (Str × NameKind)) (acc : List (Str × Addr)), (∀ y ∈ l, y.2 = .free → ∃ c, env.cells.lookup y.1 = some c) →
      (forIn l acc fun (x : Str × NameKind) (cs : List (Str × Addr)) => (if (x.2 == NameKind.free) = true then (do let a ← cellOf env x.1; pure (ForInStep.yield ((x.1, a) :: cs))) else pure (ForInStep.yield cs) : Sem (ForInStep (List (Str × Addr))))) = (pure (clOf env.cells l acc) : Sem (List (Str × Addr))) := by
    intro l
    induction l with
    | nil => intro acc _; rfl
    | cons x l ih =>
      intro acc hl
      obtain ⟨n, k⟩ := x
      have hr := fun y hy => hl y (List.mem_cons_of_mem _ hy)
      rw [List.forIn_cons]
      by_cases hk : k = .free
      · subst hk
        obtain ⟨c, hc⟩ := hl (n, .free) List.mem_cons_self rfl
        have hc' : env.cells.lookup n = some c := hc
        have e : cellOf env n = pure c := by unfold cellOf; rw [hc']
        have e2 : clOf env.cells ((n, NameKind.free) :: l) acc = clOf env.cells l ((n, c) :: acc) := by
          show (if (NameKind.free == NameKind.free) = true then clOf env.cells l ((n, (env.cells.lookup n).getD 0) :: acc) else clOf env.cells l acc) = _
          rw [if_pos (by rfl), hc']
          rfl
        dsimp only
        rw [if_pos (by rfl), e, pure_bind, pure_bind, e2]
        exact ih _ hr
      · have hb : ¬ (k == NameKind.free) = true := by simpa using hk
        have e2 : clOf env.cells ((n, k) :: l) acc = clOf env.cells l acc := by
          show (if (k == NameKind.free) = true then clOf env.cells l ((n, (env.cells.lookup n).getD 0) :: acc) else clOf env.cells l acc) = _
          rw [if_neg hb]
        dsimp only
        rw [if_neg hb, pure_bind, e2]
        exact ih _ hr
  have q := go scope.names [] h
  unfold closureFor
  first
    | exact (bind_pure _).trans q
    | (simp only [bind_pure]; exact q)
    | (simp only [pure_bind, bind_assoc, bind_pure]; exact q)
theorem clOf_sub {cells : List (Str × Addr)} {x : Str} {c : Addr} : ∀ (l : List (Str × NameKind)) (acc : List (Str × Addr)), (∀ y ∈ l, y.2 = .free → ∃ c, cells.lookup y.1 = some c) →
    (clOf cells l acc).lookup x = some c → acc.lookup x = some c ∨ cells.lookup x = some c
  | [], acc, _, h => .inl h
  | (n, k) :: r, acc, hl, h => by
    have hr := fun y hy => hl y (List.mem_cons_of_mem (n, k) hy)
    by_cases hk : k = .free
    · subst hk
      have h' : (clOf cells r ((n, (cells.lookup n).getD 0) :: acc)).lookup x = some c := h
      rcases clOf_sub r _ hr h' with q | q
      · rw [List.lookup_cons] at q
        cases e : x == n with
        | true =>
          rw [e] at q
          obtain ⟨d, hd⟩ := hl (n, .free) List.mem_cons_self rfl
          have hd' : cells.lookup n = some d := hd
          have e1 : x = n := eq_of_beq e
          rw [hd'] at q
          have q' : d = c := Option.some.inj q
          exact .inr (by rw [e1, hd', q'])
        | false =>
          rw [e] at q
          exact .inl q
      · exact .inr q
    · have hb : ¬ (k == NameKind.free) = true := by simpa using hk
      have h' : (if (k == NameKind.free) = true then clOf cells r ((n, (cells.lookup n).getD 0) :: acc) else clOf cells r acc).lookup x = some c := h
      rw [if_neg hb] at h'
      exact clOf_sub r acc hr h'
theorem clOf_has {cells : List (Str × Addr)} {x : Str} : ∀ (l : List (Str × NameKind)) (acc : List (Str × Addr)), ((x, NameKind.free) ∈ l ∨ ∃ c, acc.lookup x = some c) → ∃ c, (clOf cells l acc).lookup x = some c
  | [], acc, h => by
    rcases h with h | h
    · cases h
    · exact h
  | (n, k) :: r, acc, h => by
    by_cases hk : k = .free
    · subst hk
      refine clOf_has r ((n, (cells.lookup n).getD 0) :: acc) ?_
      cases e : x == n with
      | true => exact .inr ⟨_, by rw [List.lookup_cons, e]⟩
      | false =>
        rcases h with h | ⟨c, h⟩
        · rcases List.mem_cons.mp h with q | q
          · have : x = n := congrArg Prod.fst q
            rw [this] at e
            simp at e
          · exact .inl q
        · exact .inr ⟨c, by rw [List.lookup_cons, e]; exact h⟩
    · have hb : ¬ (k == NameKind.free) = true := by simpa using hk
      show ∃ c, (if (k == NameKind.free) = true then clOf cells r ((n, (cells.lookup n).getD 0) :: acc) else clOf cells r acc).lookup x = some c
      rw [if_neg hb]
      refine clOf_has r acc ?_
      rcases h with h | h
      · rcases List.mem_cons.mp h with q | q
        · exact absurd (congrArg Prod.snd q).symm hk
        · exact .inl q
      · exact .inr h
theorem relabel_back {env : Env} {x : Str} {k : NameKind} : ∀ {names : List (Str × NameKind)}, (∀ y ∈ names, y.2 ≠ .cell) →
    (names.map fun (n, k) => if (k == NameKind.free && env.scope.kind == .function && env.kindOf n == some .cell) then (n, NameKind.cell) else (n, k)).lookup x = some k → (k = .cell ∨ k = .free) → (x, NameKind.free) ∈ names
  | [], _, h, _ => by simp at h
  | (n, j) :: r, hc, h, hk => by
    have h' : List.lookup x ((if (j == NameKind.free && env.scope.kind == .function && env.kindOf n == some .cell) = true then (n, NameKind.cell) else (n, j)) ::
      (r.map fun (n, k) => if (k == NameKind.free && env.scope.kind == .function && env.kindOf n == some .cell) then (n, NameKind.cell) else (n, k))) = some k := h
    have hr := fun y hy => hc y (List.mem_cons_of_mem (n, j) hy)
    have hj : j ≠ .cell := hc (n, j) List.mem_cons_self
    cases e : x == n with
    | true =>
      have e1 : x = n := eq_of_beq e
      subst e1
      by_cases c : (j == NameKind.free && env.scope.kind == .function && env.kindOf x == some .cell) = true
      · have c1 : (j == NameKind.free) = true := by
          cases q : (j == NameKind.free) with
          | true => rfl
          | false => rw [q] at c; simp at c
        have c2 : j = .free := by simpa using c1
        rw [c2]
        exact List.mem_cons_self
      · rw [if_neg c] at h'
        simp only [List.lookup_cons, beq_self_eq_true] at h'
        have h2 : j = k := Option.some.inj h'
        rcases hk with z | z
        · exact absurd (h2.trans z) hj
        · rw [h2, z]
          exact List.mem_cons_self
    | false =>
      by_cases c : (j == NameKind.free && env.scope.kind == .function && env.kindOf n == some .cell) = true
      · rw [if_pos c] at h'
        simp only [List.lookup_cons, e] at h'
        exact List.mem_cons_of_mem _ (relabel_back hr h' hk)
      · rw [if_neg c] at h'
        simp only [List.lookup_cons, e] at h'
        exact List.mem_cons_of_mem _ (relabel_back hr h' hk)
theorem relabel_free {env : Env} {x : Str} : ∀ {names : List (Str × NameKind)}, names.lookup x = some .free →
    (names.map fun (n, k) => if (k == NameKind.free && env.scope.kind == .function && env.kindOf n == some .cell) then (n, NameKind.cell) else (n, k)).lookup x = some .cell ∨
    (names.map fun (n, k) => if (k == NameKind.free && env.scope.kind == .function && env.kindOf n == some .cell) then (n, NameKind.cell) else (n, k)).lookup x = some .free
  | [], h => by simp at h
  | (n, j) :: r, h => by
    show List.lookup x ((if (j == NameKind.free && env.scope.kind == .function && env.kindOf n == some .cell) = true then (n, NameKind.cell) else (n, j)) ::
      (r.map fun (n, k) => if (k == NameKind.free && env.scope.kind == .function && env.kindOf n == some .cell) then (n, NameKind.cell) else (n, k))) = _ ∨
      List.lookup x ((if (j == NameKind.free && env.scope.kind == .function && env.kindOf n == some .cell) = true then (n, NameKind.cell) else (n, j)) ::
      (r.map fun (n, k) => if (k == NameKind.free && env.scope.kind == .function && env.kindOf n == some .cell) then (n, NameKind.cell) else (n, k))) = _
    cases e : x == n with
    | true =>
      simp only [List.lookup_cons, e] at h
      have h2 : j = .free := Option.some.inj h
      subst h2
      by_cases c : (NameKind.free == NameKind.free && env.scope.kind == .function && env.kindOf n == some .cell) = true
      · rw [if_pos c]
        simp only [List.lookup_cons, e]
        exact .inl trivial
      · rw [if_neg c]
        simp only [List.lookup_cons, e]
        exact .inr trivial
    | false =>
      simp only [List.lookup_cons, e] at h
      by_cases c : (j == NameKind.free && env.scope.kind == .function && env.kindOf n == some .cell) = true
      · rw [if_pos c]
        simp only [List.lookup_cons, e]
        exact relabel_free h
      · rw [if_neg c]
        simp only [List.lookup_cons, e]
        exact relabel_free h

def cxComp (X : Cx) (scope : Scope) (N : List Str) (s : Shared) (H : Hp) (fp : List Addr) (pins : List (Addr × Obj)) : Cx :=
  { X with N := N, s₀ := s, H₀ := H, env := compEnvC scope (clOf X.env.cells scope.names []) s.heap.objs.size X.env, outer := X.stack, stack := X.stack, ex := fp, fn := fun _ => false, pn := X.pn ++ pins, xe := fun _ _ => False }
structure CompSc (X : Cx) (scope : Scope) (N : List Str) (k : Nat) (fr : List Nat) : Prop where
  kind : scope.kind = .function
  nd : N.Nodup
  len : N.length = k + fr.length
  cell : (scope.names.all fun y => y.2 != NameKind.cell) = true
  loc : (scope.names.all fun y => y.2 != NameKind.local || scope.names.lookup y.1 == some NameKind.local) = true
  free : (scope.names.all fun y => y.2 != NameKind.free || X.env.kindOf y.1 == some NameKind.cell || X.env.kindOf y.1 == some NameKind.free) = true
  frs : ((N.drop k).all fun x => scope.names.lookup x == some NameKind.free) = true
  pl : N.drop k = fr.map fun j => X.N.getD j Str.empty
  plen : (fr.all fun j => decide (j < X.N.length)) = true
def frVals (σ : St) (fr : List Nat) : St := fr.map fun j => (σ[j]?).join
def startC (σ : St) (k : Nat) (fr : List Nat) : St := List.replicate k none ++ frVals σ fr

section
variable {X : Cx} {scope : Scope} {N : List Str} {k : Nat} {fr : List Nat}
theorem CompSc.cell' (S : CompSc X scope N k fr) : ∀ y ∈ scope.names, y.2 ≠ .cell := fun y hy => by
  have q := List.all_eq_true.mp S.cell y hy
  simpa using q
theorem CompSc.loc' (S : CompSc X scope N k fr) : ∀ y ∈ scope.names, y.2 = .local → scope.names.lookup y.1 = some .local := fun y hy e => by
  have q := List.all_eq_true.mp S.loc y hy
  rw [e] at q
  simpa using q
theorem CompSc.kinds (S : CompSc X scope N k fr) : ∀ y ∈ scope.names, y.2 = .free → X.env.kindOf y.1 = some .cell ∨ X.env.kindOf y.1 = some .free := fun y hy e => by
  have q := List.all_eq_true.mp S.free y hy
  rw [e] at q
  simpa using q
theorem CompSc.hasCell (S : CompSc X scope N k fr) (ok : X.Ok) : ∀ y ∈ scope.names, y.2 = .free → ∃ c, X.env.cells.lookup y.1 = some c := fun y hy e => ok.has y.1 (S.kinds y hy e)
theorem CompSc.sub (S : CompSc X scope N k fr) (ok : X.Ok) {x : Str} {c : Addr} (h : (clOf X.env.cells scope.names []).lookup x = some c) : X.env.cells.lookup x = some c := by
  rcases clOf_sub scope.names [] (S.hasCell ok) h with q | q
  · simp at q
  · exact q
end

section
variable {X : Cx} {pins : List (Addr × Obj)} {σ : St} {H : Hp} {s : Shared} {scope : Scope} {N : List Str} {k : Nat} {fr : List Nat} {fp : List Addr}
theorem comp_ok (I : Inv X pins σ H s) (S : CompSc X scope N k fr) (hfp : ∀ b ∈ fp, FpOk X pins H b) (hob : ∀ b ∈ fp, ∃ o, s.heap.get? b = some o) : (cxComp X scope N s H fp pins).Ok where
  mod := I.ok.mod
  kind := S.kind
  glob := I.ok.glob
  blt := I.ok.blt
  above := Nat.le_refl _
  inj := fun x y c h1 h2 => I.ok.inj x y c (S.sub I.ok h1) (S.sub I.ok h2)
  has := fun x hx => clOf_has scope.names [] (.inl (by
    rcases hx with hx | hx
    · exact relabel_back S.cell' hx (.inl rfl)
    · exact relabel_back S.cell' hx (.inr rfl)))
  cab := fun x c h _ => absurd h (by show ¬ (false = true); decide)
  hd := I.ok.hd
  frames := I.ok.frames
  stk := .inl rfl
  exf := fun b hb => ⟨by
    obtain ⟨o, e⟩ := hob b hb
    exact Nat.ne_of_lt (Heap.lt_size e), fun x c h => (hfp b hb).2.2.2.2.1 x c (S.sub I.ok h)⟩
  bs := I.bs
  bsz := Nat.le_trans I.ok.bsz I.sz
  noex := fun b o e hb => by
    rcases (hfp b hb).2.2.2.1 with z | z
    · exact I.ok.noex b o e z
    · exact absurd (Nat.lt_of_lt_of_le (Heap.lt_size (I.ok.bs b o e).1) z) (Nat.lt_irrefl _)
  exfs := fun b hb z => by
    rcases List.mem_cons.mp (I.stkSub b z) with q | q
    · exact (hfp b hb).2.1 q
    · exact (hfp b hb).2.2.1 q
  funs := I.stack
  frf := I.stkFree
theorem comp_fp (I : Inv X pins σ H s) (S : CompSc X scope N k fr) {H' : Hp} {b : Addr} (hb : b ∈ fp) (hf : FpOk X pins H b) (hob : ∃ o, s.heap.get? b = some o) (hn : H' b = none) : FpOk (cxComp X scope N s H fp pins) [] H' b := by
  refine ⟨hn, ?_, fun z => ?_, .inl hb, fun x c h => hf.2.2.2.2.1 x c (S.sub I.ok h), fun p hp => ?_⟩
  · obtain ⟨o, e⟩ := hob
    exact Nat.ne_of_lt (Heap.lt_size e)
  · rcases List.mem_cons.mp (I.stkSub b z) with q | q
    · exact hf.2.1 q
    · exact hf.2.2.1 q
  · rcases List.mem_append.mp hp with z | z
    · exact hf.2.2.2.2.2 p z
    · cases z
theorem frVals_get {j : Nat} {v : V} (h : (frVals σ fr)[j]? = some (some v)) : ∃ i, fr[j]? = some i ∧ σ[i]? = some (some v) := by
  unfold frVals at h
  rw [List.getElem?_map] at h
  cases e : fr[j]? with
  | none => rw [e] at h; cases h
  | some i =>
    rw [e] at h
    have h' : (σ[i]?).join = some v := Option.some.inj h
    refine ⟨i, rfl, ?_⟩
    cases q : σ[i]? with
    | none => rw [q] at h'; cases h'
    | some o =>
      rw [q] at h'
      have h2 : o = some v := h'
      rw [h2]
theorem comp_inv (I : Inv X pins σ H s) (S : CompSc X scope N k fr) (hfp : ∀ b ∈ fp, FpOk X pins H b) (hob : ∀ b ∈ fp, ∃ o, s.heap.get? b = some o) {h1 : Heap} {tk : Nat} {m : Str → Option Value}
    (hns : h1.Ns s.heap.objs.size m) (hk : ∀ b o, s.heap.get? b = some o → h1.get? b = some o) : Inv (cxComp X scope N s H fp pins) [] (startC σ k fr) H { s with heap := h1, toks := tk } where
  ok := comp_ok I S hfp hob
  os := rfl
  bare := I.bare
  base := Un.kept hk
  loc := ⟨m, hns, fun i x v e1 e2 e3 => by
    have e2' : (List.replicate k (none : Option V) ++ frVals σ fr)[i]? = some (some v) := e2
    have hi : k ≤ i := by
      refine Nat.le_of_not_lt fun z => ?_
      rw [List.getElem?_append_left (by simpa using z), List.getElem?_replicate] at e2'
      split at e2' <;> cases e2'
    rw [List.getElem?_append_right (by simpa using hi), List.length_replicate] at e2'
    obtain ⟨j, f1, f2⟩ := frVals_get e2'
    have e1' : N[i]? = some x := e1
    have d1 : (N.drop k)[i - k]? = some x := by
      rw [List.getElem?_drop]
      have : k + (i - k) = i := by omega
      rw [this]; exact e1'
    have d2 := d1
    rw [S.pl, List.getElem?_map, f1] at d2
    have d3 : X.N.getD j Str.empty = x := Option.some.inj d2
    have jl : j < X.N.length := of_decide_eq_true (List.all_eq_true.mp S.plen j (List.mem_of_getElem? f1))
    have d4 : X.N[j]? = some x := by
      rw [List.getD_eq_getElem?_getD, List.getElem?_eq_getElem jl] at d3
      rw [List.getElem?_eq_getElem jl]
      exact congrArg some d3
    have fk : scope.names.lookup x = some .free := by
      have q := List.all_eq_true.mp S.frs x (List.mem_of_getElem? d1)
      simpa using q
    have hmem : (x, NameKind.free) ∈ scope.names := PySem.mem_of_lookup fk
    have kd := S.kinds _ hmem rfl
    have vis : Vis X.env.scope x := by
      rcases kd with z | z
      · exact .inr (.inl z)
      · exact .inr (.inr z)
    obtain ⟨m0, _, hl⟩ := I.loc
    obtain ⟨u, ru, lk⟩ := hl j x v d4 f2 vis
    refine ⟨u, ru, .inr ⟨relabel_free fk, ?_⟩⟩
    have kd' : X.env.kindOf x = some .cell ∨ X.env.kindOf x = some .free := kd
    rcases lk with ⟨z, _⟩ | ⟨_, c, hc, hcell⟩
    · rcases kd' with q | q <;> (rw [z] at q; cases q)
    · obtain ⟨c', hc'⟩ := clOf_has (cells := X.env.cells) scope.names [] (.inl hmem)
      have e := S.sub I.ok hc'
      rw [hc] at e
      cases e
      exact ⟨c, hc', hcell.keeps hk⟩⟩
  cell := fun x c h => by
    obtain ⟨v, z⟩ := I.cell x c (S.sub I.ok h)
    exact ⟨v, z.keeps hk⟩
  free := I.hok.fresh (Nat.le_refl _)
  freeC := fun x c h => I.freeC x c (S.sub I.ok h)
  pin := fun p hp => by
    have hp' : p ∈ X.pn ++ pins := by
      rcases List.mem_append.mp hp with z | z
      · exact z
      · cases z
    obtain ⟨e, n, ne, nf, d⟩ := I.pin p hp'
    refine ⟨hk _ _ e, n, Nat.ne_of_lt (Heap.lt_size e), fun z => ?_, d⟩
    rcases List.mem_cons.mp (I.stkSub p.1 z) with q | q
    · exact ne q
    · exact nf q
  hok := I.hok.kept hk
  len := by
    show (List.replicate k (none : Option V) ++ frVals σ fr).length = N.length
    rw [List.length_append, List.length_replicate, S.len]
    unfold frVals
    rw [List.length_map]
theorem comp_back {σ' : St} {H' : Hp} {s' : Shared} {h' : Heap} (I : Inv X pins σ H s) (hfp : ∀ b ∈ fp, FpOk X pins H b) (J : Inv (cxComp X scope N s H fp pins) [] σ' H' s') (sb : Heap.SameBut s.heap.objs.size s'.heap h') : Inv X pins σ H' { s' with heap := h' } := by
  have neC : ∀ b o, s.heap.get? b = some o → b ≠ s.heap.objs.size := fun b o e => Nat.ne_of_lt (Heap.lt_size e)
  have frC : H' s.heap.objs.size = none := J.free
  refine Inv.call' (s' := { s' with heap := h' }) (ch := fp) I J.os ⟨fun b o e n hf hx => ?_, fun b o e n hf hx => ?_, fun b o e n hx => J.base.free b o e n hx, fun b o e hx => ?_, J.base.tups, J.base.frzs, J.base.tbls⟩ (fun b o e => ?_) J.bare fun b hb => ⟨(hfp b hb).2.2.2.1, (hfp b hb).2.1, (hfp b hb).2.2.2.2.1, (hfp b hb).2.2.2.2.2⟩
  · exact (sb.2 b (neC b o e)).trans (J.base.keep b o e n hf hx)
  · obtain ⟨sl, q⟩ := J.base.slot b o e n hf hx
    exact ⟨sl, (sb.2 b (neC b o e)).trans q⟩
  · obtain ⟨o', q⟩ := J.base.there b o e hx
    exact ⟨o', (sb.2 b (neC b o e)).trans q⟩
  · refine (J.hok b o e).stay (fun c v hc q => (sb.2 c ?_).trans q) (fun _ q => q) fun _ _ q => q
    rintro rfl
    rcases hc with rfl | hc
    · rw [frC] at e; cases e
    · rw [frC] at hc; cases hc
end

def PTs (X : Cx) (ifs : List Expr) (t : TT) : Prop :=
  ∀ (pins : List (Addr × Obj)) (s : Shared) (σ : St) (H : Hp) (Q : Bool → Hp → Prop), Inv X pins σ H s → t σ H Q →
    wpAny (model X.prog X.w) X.A (forIn ifs true fun c r => if r = true then do let ok ← isTrue c X.env (eval c X.env); pure (ForInStep.yield ok) else pure (ForInStep.yield r)) (TP X pins σ Q) X.xe s
def tYes : TT := fun _ H Q => Q true H
theorem pts_nil {X : Cx} : PTs X [] tYes := fun _ _ _ H _ I h => wpAny_tests_nil ⟨H, I, h⟩
def CTurn (X : Cx) (scope : Scope) (N : List Str) (tg : Expr) (ifs : List Expr) (elt : Expr) (l : Addr) (x : V) (σ : St) (H : Hp) (M : St → Hp → Prop) : Prop :=
  ∀ (s₀ : Shared) (H₀ : Hp) (fp : List Addr) (pn : List (Addr × Obj)), ∃ (g : TG) (tt : TT) (te : TE), PG (cxComp X scope N s₀ H₀ fp pn) tg g ∧ PTs (cxComp X scope N s₀ H₀ fp pn) ifs tt ∧ PE (cxComp X scope N s₀ H₀ fp pn) elt te ∧
    g x σ H fun σ2 H2 => tt σ2 H2 fun b H3 => if b = true then te σ2 H3 fun y H4 => ∃ ys, H4 l = some (.lst ys) ∧ ys.length < sizeLine ∧ M σ2 (upd H4 l (.lst (ys ++ [y]))) else M σ2 H3
def CompRun (X : Cx) (scope : Scope) (N : List Str) (k : Nat) (fr : List Nat) (tg : Expr) (ifs : List Expr) (elt : Expr) (σ : St) (Q : VK) (J : It) (H1 : Hp) : Prop := ∀ l, H1 l = none →
  ∃ W : Nat → Nat → St → Hp → Prop, (∃ m, W 0 m (startC σ k fr) (upd H1 l (.lst []))) ∧ ∀ i m σ' H', W i m σ' H' →
    (J.stop i H' ∧ Q (.ref l) H') ∨ (J.go i H' ∧ ∃ M : St → Hp → Prop, (∀ σ'' H'', M σ'' H'' → ∃ m', m' < m ∧ W (i + 1) m' σ'' H'') ∧ ∀ x H2, J.yld i H' x H2 → CTurn X scope N tg ifs elt l x σ' H2 M)
def tComp (X : Cx) (scope : Scope) (N : List Str) (k : Nat) (fr : List Nat) (tg : Expr) (ifs : List Expr) (elt : Expr) (wi : TI) : TE := fun σ H Q => wi σ H fun J H1 => CompRun X scope N k fr tg ifs elt σ Q J H1
theorem comp_core {X : Cx} {use : Option (Value → Sem Unit)} {Qf : Value → Shared → Prop} {pins : List (Addr × Obj)} {s : Shared} {σ : St} {H : Hp} {Q : VK} {scope : Scope} {N : List Str} {k : Nat} {fr : List Nat} {tg iter elt : Expr} {ifs : List Expr} {wi : TI} {pos : Pos} (hx : X.xe = fun _ _ => False) (hc : X.calm = true) (S : CompSc X scope N k fr) (hi : PI X tg iter wi) (I : Inv X pins σ H s)
    (fin : ∀ {s3 s6 : Shared} {H3 H5 : Hp} {fp : List Addr} {σ5 : St} {l : Addr} {a : Flow}, Inv X pins σ H3 s3 → (∀ b ∈ fp, FpOk X pins H3 b) → Inv (cxComp X scope N s3 H3 fp pins) [] σ5 H5 s6 → Q (.ref l) H5 → compPost (model X.prog X.w) X.A X.xe use Qf (.ref l) s3.heap.objs.size (.ok a) s6)
    (h : tComp X scope N k fr tg ifs elt wi σ H Q)
    (hs : ∀ x, foldedSetIterable iter X.env x = pure x := by intro _; rfl) : wpAny (model X.prog X.w) X.A (comprehension (.ListComp elt [⟨tg, iter, ifs, 0⟩] scope pos) scope X.env (firstIterPos [⟨tg, iter, ifs, 0⟩] pos) (newList []) (firstAsync [⟨tg, iter, ifs, 0⟩]) (firstIter [⟨tg, iter, ifs, 0⟩] X.env) use) Qf X.xe s := by
  refine wpAny_comprehension_free (use := use) rfl hs (closure_eq (S.hasCell I.ok)) S.kind S.loc' (thn (hi pins s σ H _ I h) fun v s1 h1 => thn h1 fun itv s2 h2 => ?_)
  obtain ⟨it, fp, tn, J, H2, e, I2, T, st2, f2, h2⟩ := h2
  subst e
  have fr2 : H2 s2.heap.objs.size = none := I2.hok.fresh (Nat.le_refl _)
  obtain ⟨W, ⟨m0, w0⟩, turn⟩ := h2 s2.heap.objs.size fr2
  refine wpAny_newList ?_ (by show 0 ≤ sizeLine; exact Nat.zero_le _)
  have I3 : Inv X pins σ (upd H2 s2.heap.objs.size (.lst [])) { s2 with heap := s2.heap.push { cls := .type "list", data := .seq ([] : List Value).toArray } } := I2.lnew (t' := s2.toks) (ys := []) .nil (Nat.zero_le _)
  have old : ∀ b o, s2.heap.get? b = some o → (s2.heap.push { cls := .type "list", data := .seq ([] : List Value).toArray }).get? b = some o := fun b o e => Heap.get?_push_of_some _ e
  have fpo2 : ∀ b ∈ fp, ∃ o, s2.heap.get? b = some o := fun b hb => by
    obtain ⟨o, e, _⟩ := T.obj _ _ st2 b hb
    exact ⟨o, e⟩
  have fpo : ∀ b ∈ fp, ∃ o, (s2.heap.push { cls := .type "list", data := .seq ([] : List Value).toArray }).get? b = some o := fun b hb => by
    obtain ⟨o, e⟩ := fpo2 b hb
    exact ⟨o, old b o e⟩
  have f3 : ∀ b ∈ fp, FpOk X pins (upd H2 s2.heap.objs.size (.lst [])) b := fun b hb => by
    obtain ⟨o, e⟩ := fpo2 b hb
    refine ⟨?_, (f2 b hb).2⟩
    rw [upd_ne (Nat.ne_of_lt (Heap.lt_size e))]
    exact (f2 b hb).1
  generalize hs3 : ({ s2 with heap := s2.heap.push { cls := .type "list", data := .seq ([] : List Value).toArray } } : Shared) = s3 at I3 ⊢
  have st3 : tn 0 s3.heap := by
    rw [← hs3]
    exact T.keep _ _ _ st2 fun b _ o e => old b o e
  have fpo3 : ∀ b ∈ fp, ∃ o, s3.heap.get? b = some o := by rw [← hs3]; exact fpo
  clear fpo old hs3
  refine wpAny_newFunctionEnv S.cell' (by intro y hy; simp at hy) (fun h1 hns1 hsb1 => ?_) S.kind
  have hk1 : ∀ b o, s3.heap.get? b = some o → h1.get? b = some o := fun b o e => hsb1.extBut b o (Nat.ne_of_lt (Heap.lt_size e)) (Heap.get?_push_of_some _ e)
  have I4 := comp_inv (tk := s3.toks + ([] : List (Str × Value)).length) I3 S f3 fpo3 hns1 hk1
  have st4 : tn 0 h1 := T.keep _ _ _ st3 fun b _ o e => hk1 b o e
  have stat : ∀ {H' : Hp}, (∀ b ∈ fp, H' b = none) → ∀ b ∈ fp, FpOk (cxComp X scope N s3 (upd H2 s2.heap.objs.size (.lst [])) fp pins) [] H' b := fun hn b hb => comp_fp I3 S hb (f3 b hb) (fpo3 b hb) (hn b hb)
  have loop : ∀ s4 : Shared, s4 = { s3 with heap := h1, toks := s3.toks + ([] : List (Str × Value)).length } →
      codeAny (model X.prog X.w) X.A (.compLoop (.ListComp elt [⟨tg, iter, ifs, 0⟩] scope pos) 0 (.ref it) (.ref s2.heap.objs.size) (compEnvC scope (clOf X.env.cells scope.names []) s3.heap.objs.size X.env))
        (compPost (model X.prog X.w) X.A X.xe use Qf (.ref s2.heap.objs.size) s3.heap.objs.size) s4 := by
    rintro s4 rfl
    refine compLoop_any (fun n s' => ∃ i σ' H', Inv (cxComp X scope N s3 (upd H2 s2.heap.objs.size (.lst [])) fp pins) [] σ' H' s' ∧ tn i s'.heap ∧ (∀ b ∈ fp, H' b = none) ∧ W i n σ' H') ?_ m0 ⟨0, _, _, I4, st4, fun b hb => (f3 b hb).1, w0⟩
    rintro n s5 ⟨i, σ5, H5, I5, st5, fr5, w5⟩
    rcases turn i n σ5 H5 w5 with ⟨stop, qn⟩ | ⟨go, M, hM, step⟩
    · refine thn (T.done (cxComp X scope N s3 (upd H2 s2.heap.objs.size (.lst [])) fp pins) rfl rfl rfl hc i [] s5 σ5 H5 _ I5 (stat fr5) st5 stop) fun r s6 ⟨hr, I6⟩ => ?_
      subst hr
      exact fin I3 f3 I6 qn
    · refine thn (T.item (cxComp X scope N s3 (upd H2 s2.heap.objs.size (.lst [])) fp pins) rfl rfl rfl hc i [] s5 σ5 H5 _ I5 (stat fr5) st5 go) fun r s6 ⟨u, hr, h6⟩ => ?_
      subst hr
      refine thn h6 fun _ s7 ⟨x, H7, I7, r7, y7, st7, fr7⟩ => ?_
      have I7' := I7.pinned (stat fr7) (T.obj _ _ st7)
      obtain ⟨g, tt, te, hg, ht, he, q⟩ := step x H7 y7 s3 (upd H2 s2.heap.objs.size (.lst [])) fp pins
      have again : ∀ {s8 : Shared} {σ8 : St} {H8 : Hp}, Inv (cxComp X scope N s3 (upd H2 s2.heap.objs.size (.lst [])) fp pins) ([] ++ pinsAt fp s7.heap) σ8 H8 s8 → M σ8 H8 →
          ∃ m, m < n ∧ ∃ i σ' H', Inv (cxComp X scope N s3 (upd H2 s2.heap.objs.size (.lst [])) fp pins) [] σ' H' s8 ∧ tn i s8.heap ∧ (∀ b ∈ fp, H' b = none) ∧ W i m σ' H' := fun {s8 σ8 H8} I8 n8 => by
        obtain ⟨m', hm, w8⟩ := hM σ8 H8 n8
        refine ⟨m', hm, i + 1, σ8, H8, I8.unpinned, T.keep _ _ _ st7 fun b hb o e => (I8.pin (b, o) (List.mem_append_right _ (List.mem_append_right _ (mem_pinsAt hb e)))).1, fun b hb => ?_, w8⟩
        obtain ⟨o, e, d⟩ := T.obj _ _ st7 b hb
        exact (I8.pin (b, o) (List.mem_append_right _ (List.mem_append_right _ (mem_pinsAt hb e)))).2.1
      refine thn (hg _ s7 σ5 H7 x u _ I7' r7 q) fun _ s8 ⟨σ8, H8, I8, q8⟩ => ?_
      refine thn (ht _ s8 σ8 H8 _ I8 q8) fun b s9 ⟨H9, I9, q9⟩ => ?_
      cases b with
      | false => exact again I9 q9
      | true =>
        refine thn (he _ s9 σ8 H9 _ I9 q9) fun y s10 ⟨yv, H10, I10, r10, ys, hl, hz, qM⟩ => ?_
        exact thn (mt_append _ s10 σ8 H10 (.ref s2.heap.objs.size) [yv] (.ref s2.heap.objs.size) [y] (fun _ H' => M σ8 H') I10 rfl (.cons r10 .nil) ⟨_, ys, yv, rfl, rfl, hl, hz, qM⟩) fun _ s11 ⟨_, H11, I11, _, q11⟩ => again I11 q11
  exact codeAny_compStart_list (loop _ rfl) (T.self _ 0 _ _ _ st4 (loop _ rfl))
theorem pe_comp {X : Cx} {scope : Scope} {N : List Str} {k : Nat} {fr : List Nat} {tg iter elt : Expr} {ifs : List Expr} {wi : TI} {pos : Pos} (hx : X.xe = fun _ _ => False) (hc : X.calm = true) (S : CompSc X scope N k fr) (hi : PI X tg iter wi)
    (hs : ∀ x, foldedSetIterable iter X.env x = pure x := by intro _; rfl) : PE X (.ListComp elt [⟨tg, iter, ifs, 0⟩] scope pos) (tComp X scope N k fr tg ifs elt wi) := by
  intro pins s σ H Q I h
  rw [eval_ListComp]
  refine comp_core hx hc S hi I (fun {s3 s6 H3 H5 fp σ5 l a} I3 f3 I6 qn => ?_) h hs
  obtain ⟨m6, ns6, _⟩ := I6.loc
  exact ⟨m6, ns6, fun h' sb => ⟨.ref l, H5, comp_back I3 f3 I6 sb, rfl, qn⟩⟩
section
variable {X : Cx} {st : Stmt} {rest : List Stmt} {t u : TS} {e : Expr} {te : TE} {tt : TT}
end
end L2
end

section
set_option Elab.async false
set_option linter.all false
set_option maxRecDepth 100000
set_option maxHeartbeats 4000000
namespace L2
open PySem PySem.Spec PyProof.Rows
structure Src (J : It) (n : Nat) (H1 : Hp) (Item : Nat → V → Hp → Prop) : Prop where
  go : ∀ i H, Same H1 H → i < n → J.go i H
  stop : ∀ H, Same H1 H → J.stop n H
  yld : ∀ i H x H', Same H1 H → i < n → J.yld i H x H' → Same H H' ∧ Item i x H'
def Its (x : Str) : It := ⟨fun i _ => i < x.cps.size, fun i H v H' => H' = H ∧ ∃ c, x.cps[i]? = some c ∧ v = .str ⟨#[c]⟩, fun i _ => i = x.cps.size⟩
theorem turn_str {P : Program} {w : World} {K : PySem.W.Frag} {tg : Expr} (it : Addr) (x : Str) (t : Tok) (ty : String)
    (hn : ["enumerate", "zip", "dict_itemiterator", "dict_reverseitemiterator", "odict_iterator", "itertools.zip_longest", "itertools.pairwise"].contains ty = false)
    (hW : ∀ A' : Around, A'.handled = none → Walks P w A' it [it] [it] x.cps.size (SignAt x) (fun i h => h.IsStrIter it ty x t i))
    (hself : ∀ (A : Around) (i : Nat) (s : Shared) (Q : Value → Shared → Prop) (E : Value → Shared → Prop), s.heap.IsStrIter it ty x t i → Q (.ref it) s → wpAny (model P w) A (pyIter (.ref it)) Q E s) :
    Turn P w K tg (Its x) [it] it (fun i h => h.IsStrIter it ty x t i) where
  mem := by simp
  obj := fun i h st b hb => by
    have e : b = it := by simpa using hb
    subst e
    obtain ⟨o, e, c, d⟩ := st
    exact ⟨o, e, fun v z => by rw [d] at z; cases z⟩
  keep := fun i h h' st k => by
    obtain ⟨o, e, r⟩ := st
    exact ⟨o, k it (by simp) o e, r⟩
  item := by
    intro X hP hw hK hc i pins s σ H E I hf st hg
    subst hP hw hK
    obtain ⟨f0, f1, f2, f3, f4, f5⟩ := hf it (by simp)
    refine (hW X.A (I.ok.hd hc)).item i s _ _ hg st fun v h' tk hv st' kk => ?_
    obtain ⟨c, u, hc', rfl⟩ := hv
    have I1 : Inv X pins σ H { s with heap := h', toks := tk } := I.turned (fun b o hb e => kk b o (by simpa using hb) e) f0 f1 f3 f4 f5
    obtain ⟨o, e, c', d⟩ := id st'
    exact ⟨_, rfl, go_of (s := { s with heap := h', toks := tk }) e c' d hn ⟨.str ⟨#[c]⟩, H, I1, ⟨u, rfl⟩, ⟨rfl, c, hc', rfl⟩, st', fun b hb => (hf b hb).1⟩⟩
  done := by
    intro X hP hw hK hc i pins s σ H E I hf st hg
    subst hP hw hK
    obtain ⟨f0, f1, f2, f3, f4, f5⟩ := hf it (by simp)
    have hi : i = x.cps.size := hg
    subst hi
    exact (hW X.A (I.ok.hd hc)).done s _ _ st fun h' tk kk => ⟨rfl, I.turned (fun b o hb e => kk b o (by simpa using hb) e) f0 f1 f3 f4 f5⟩
  self := hself
section
variable {X : Cx} {tg : Expr}
end

def TupsOn (H H' : Hp) : Prop := ∀ b xs, H b = some (.tup xs) → H' b = some (.tup xs)
theorem Same.tups {H H' : Hp} (e : Same H H') : TupsOn H H' := fun b xs h => e b _ h
theorem TupsOn.trans {H H1 H2 : Hp} (a : TupsOn H H1) (b : TupsOn H1 H2) : TupsOn H H2 := fun c xs h => b c xs (a c xs h)
section
variable {X : Cx}
theorem op_le_str : OpR X (compareOp .LtE) (fun x y H Q => ∃ i j, x = .str i ∧ y = .str j ∧ Q (.bl (!decide (j.cps.toList < i.cps.toList))) H) := by
  intro pins s σ H x y v u Q I rx ry h
  obtain ⟨i, j, rfl, rfl, q⟩ := h
  obtain ⟨t, rfl⟩ := rx
  obtain ⟨t', rfl⟩ := ry
  exact PySem.P.le_str (fin_bl I q rfl)
def rSlS : V → Option Int → Option Int → Hp → VK → Prop := fun x lo hi H Q => ∃ z, x = .str z ∧ z.length ≤ sizeLine ∧ Q (.str (Txt.slice z lo hi)) H
theorem sl_str : SlR X rSlS := by
  intro pins s σ H x v vl vu lo hi sl Q I rx hs pl pu h
  obtain ⟨z, rfl, hz, q⟩ := h
  obtain ⟨t, rfl⟩ := rx
  refine ⟨"str", _, F.slot_str_getitem.lookup, typeIs_str _ _ _, ?_⟩
  obtain ⟨o, ho, hc, hd⟩ := hs
  have fin : ∀ t' k, EP X pins σ Q (.str (Txt.slice z lo hi) t') { s with toks := k } := fun t' k => ⟨.str _, H, I.tok _, ⟨t', rfl⟩, q⟩
  have le := Nat.le_trans (Txt.slice_le z lo hi) hz
  cases pl with
  | none =>
    cases pu with
    | none => exact wpAny_getItem_str_slice (l := none) (u := none) (st := none) ⟨o, ho, hc, hd⟩ rfl (post_val_or_str ⟨le, fin⟩)
    | int j u => exact wpAny_getItem_str_slice (l := none) (u := some (j, u)) (st := none) ⟨o, ho, hc, hd⟩ rfl (post_val_or_str ⟨le, fin⟩)
  | int i w =>
    cases pu with
    | none => exact wpAny_getItem_str_slice (l := some (i, w)) (u := none) (st := none) ⟨o, ho, hc, hd⟩ rfl (post_val_or_str ⟨le, fin⟩)
    | int j u => exact wpAny_getItem_str_slice (l := some (i, w)) (u := some (j, u)) (st := none) ⟨o, ho, hc, hd⟩ rfl (post_val_or_str ⟨le, fin⟩)
def cutN (xs : List Nat) (lo hi : Option Int) : List Nat := (xs.drop (HT.sIx xs.length 0 lo)).take (HT.sIx xs.length xs.length hi - HT.sIx xs.length 0 lo)
theorem idx_eq (lo hi : Option Int) (n : Nat) : Builtin.Str.strSliceIndices lo hi 1 n = sliceRange ((HT.sIx n 0 lo : Nat) : Int) ((HT.sIx n n hi : Nat) : Int) 1 := by
  have one : (1 : Int) > 0 := by decide
  have a : ∀ (v : Option Int) (d : Nat), (match v with | none => (d : Int) | some i => (if (1 : Int) > 0 then max 0 (min (if i < 0 then i + (n : Int) else i) (n : Int)) else max (-1) (min (if i < 0 then i + (n : Int) else i) ((n : Int) - 1)))) = ((HT.sIx n d v : Nat) : Int) := by
    intro v d
    cases v with
    | none => rfl
    | some i =>
      simp only [HT.sIx, one, if_true]
      by_cases h : i < 0
      · simp only [h, if_true]; omega
      · simp only [h, if_false]; omega
  have l := a lo 0
  have u := a hi n
  unfold Builtin.Str.strSliceIndices
  simp only [one, if_true] at l u ⊢
  first
    | rw [l, u]
    | (cases lo <;> cases hi <;> simp_all)
theorem slice_cut (z : Str) (lo hi : Option Int) : (Txt.slice z lo hi).cps.toList = cutN z.cps.toList lo hi := by
  have hn : z.length = z.cps.toList.length := by simp [Str.length]
  have hp : (Builtin.Str.strSliceIndices lo hi 1 z.length).filterMap (z.cps[·]?) = cutN z.cps.toList lo hi := by
    rw [idx_eq, sliceRange_one, pick_run, hn]; rfl
  unfold Txt.slice
  split
  · rename_i h
    have h1 : (Builtin.Str.strSliceIndices lo hi 1 z.length).length = z.length := by simpa using h
    rw [idx_eq, sliceRange_one, List.length_map, List.length_range] at h1
    have le1 := HT.sIx_le z.length z.length (Nat.le_refl _) hi
    unfold cutN
    rw [← hn]
    have e0 : HT.sIx z.length 0 lo = 0 ∨ z.length = 0 := by omega
    have hz : z.cps.toList.length = z.length := hn.symm
    rcases e0 with e0 | e0
    · rw [e0, List.drop_zero, List.take_of_length_le (by omega)]
    · have : z.cps.toList = [] := List.eq_nil_of_length_eq_zero (by omega)
      rw [this]; simp
  · show (List.filterMap _ _).toArray.toList = _
    rw [hp]
theorem call_isi : CallR X (.builtin "isinstance") (fun xs H Q => ∃ x t c b, xs = [x, .ty c] ∧ TyOf X.K H x t ∧ PySem.W.kitOne X.K t (.type c) = some b ∧ Q (.bl b) H) := by
  intro pins s σ H xs us Q I r h
  obtain ⟨x, t, c, b, rfl, ty, e, q⟩ := h
  obtain ⟨u, v, rfl, rx, ry⟩ := vals2 r
  cases (show v = Value.type c from ry)
  exact isinst_ok I rx ty e fun tk => ⟨.bl b, H, I.tok _, rfl, q⟩
end
end L2
end

section
set_option Elab.async false
set_option linter.all false
set_option maxRecDepth 100000
set_option maxHeartbeats 4000000
namespace L2
open PySem PySem.Spec PyProof.Rows
section
variable {X : Cx}
theorem list_extend_tupleAt (l : Addr) (items : Array Value) (n : Nat) (b : Addr) (items2 : Array Value) (n2 : Nat) (dd : Option Addr) (sl : Array (Option Value)) (hs0 : ¬(!items.isEmpty && Builtin.List.listTooLong (items.size + items2.size)) = true) (hs1 : items.size ≤ sizeLine) (hs2 : items.size + items2.size ≤ sizeLine + 1) :
    Meets (Builtin.«list.extend» ⟨[.ref l, .ref b], []⟩) (fun _ R s => s.heap.get? l = some { cls := .type "list", dict := none, data := .seq items n, slots := #[] } ∧ s.heap.get? b = some { cls := .type "tuple", dict := dd, data := .seq items2 n2, slots := sl } ∧ R (.ok (.ret Value.none)) { s with heap := s.heap.update l (Obj.mapSeq fun x => x ++ items2), toks := s.toks }) :=
  .of_wp fun prog w A R s h => by
    obtain ⟨hp, g, d, tk, os⟩ := s; obtain ⟨hl, hb, h⟩ := h; have f1 := AutoSeq1.idx_int; have f2 := AutoSeq1.sub_tuple_tuple; have f3 := AutoSeq1.sub_list_list; have f4 := AutoSeq1.sub_tuple_list; have f5 := AutoSeq1.sub_list_tuple
    have hz' : (items ++ items2).size ≤ sizeLine + 1 := by rw [Array.size_append]; exact hs2
    wp_walk using (wpAny_updateSeq hl rfl (hz := hs1) (_hz' := hz')), AutoSeq1.wpAny_loadPart' hl, AutoSeq1.wpAny_loadPart' hb; exact ⟨_, rfl, h⟩
def rExtendT (K : PySem.W.Frag) : V → List V → Hp → VK → Prop := fun x vs H Q => ∃ l b xs zs, x = .ref l ∧ vs = [.ref b] ∧ H l = some (.lst xs) ∧ SqT K H b zs ∧ xs.length + zs.length ≤ sizeLine ∧ Q .non (upd H l (.lst (xs ++ zs)))
theorem mt_extendT : MtM X "list.extend" (rExtendT X.K) := by
  intro pins s σ H x vs v us Q I rx rv h
  obtain ⟨l, b, xs, zs, rfl, rfl, hH, hB, hz, q⟩ := h
  cases rx
  obtain ⟨u, rfl, ru⟩ := rv.one
  cases ru
  obtain ⟨z, its, n, r, hl, e⟩ := I.lstM hH
  obtain ⟨its2, r2, ht, hz2⟩ := I.tuple hB
  obtain ⟨⟨cls, dd, data, sl⟩, e2, hc, n2, hd⟩ := ht
  simp only at hc hd
  subst hc hd
  have hl2 := r2.length
  have hsz : its.toArray.size + its2.toArray.size ≤ sizeLine := by rw [List.size_toArray, List.size_toArray]; omega
  have hlong : ¬ (!its.toArray.isEmpty && Builtin.List.listTooLong (its.toArray.size + its2.toArray.size)) = true := by
    rw [notLongL hsz, Bool.and_false]
    exact Bool.false_ne_true
  refine call_meets F.slot_list_extend ⟨_, e, rfl⟩ F.entry_list_extend (F.args_list_extend_2 _ _)
    (list_extend_tupleAt l its.toArray n b its2.toArray n2 dd sl hlong (by rw [List.size_toArray]; omega) (by omega)) ⟨e, e2, ?_⟩
  refine ⟨.non, _, I.lset (its' := its ++ its2) hH e (by simp) (r.append r2) ?_, rfl, q⟩
  rw [List.length_append]
  omega
def rJoin (K : PySem.W.Frag) : V → List V → Hp → VK → Prop := fun x vs H Q => ∃ (z : Str) (b : Addr) (ys : List Str), x = .str z ∧ vs = [.ref b] ∧ SqL K H b (ys.map V.str) ∧ (ys.map (·.length)).sum + ys.length * z.length ≤ 16777216 ∧ Q (.str (Str.join z ys)) H
theorem strs_of {ys : List Str} : ∀ {us : List Value}, Vals (ys.map V.str) us → StrsAre us ys := by
  induction ys with
  | nil =>
    intro us r
    cases r
    exact .nil
  | cons y ys ih =>
    intro us r
    cases r with
    | cons a b =>
      obtain ⟨t, rfl⟩ := a
      exact .cons y t (ih b)
theorem mt_join : MtM X "str.join" (rJoin X.K) := by
  intro pins s σ H x vs v us Q I rx rv h
  obtain ⟨z, b, ys, rfl, rfl, hB, hz, q⟩ := h
  obtain ⟨t, rfl⟩ := rx
  obtain ⟨u, rfl, ru⟩ := rv.one
  cases ru
  obtain ⟨its, r, pl, _⟩ := I.list hB
  refine join_list pl.isList (by simpa using strs_of r) hz fun t' k => ⟨.str (Str.join z ys), H, I.tok _, ⟨t', ?_⟩, q⟩
  show Value.str (Builtin.Str.glued z ys) t' = _
  rw [StrLaws.glued_eq_join]
def rIndex : V → List V → Hp → VK → Prop := fun x vs H Q => ∃ (z y : Str) (i : Nat) (rest : List Nat), x = .str z ∧ vs = [.str y] ∧ Builtin.Str.occurrences z y 0 z.length 1 = i :: rest ∧ Q (.int i) H
theorem mt_index : MtM X "str.index" rIndex := by
  intro pins s σ H x vs v us Q I rx rv h
  obtain ⟨z, y, i, rest, rfl, rfl, ho, q⟩ := h
  obtain ⟨t, rfl⟩ := rx
  obtain ⟨u, rfl, ru⟩ := rv.one
  obtain ⟨t2, rfl⟩ := ru
  exact SC.index ho ⟨.int i, H, I.tok _, ⟨_, rfl⟩, q⟩
end
end L2
end

section
set_option Elab.async false
set_option linter.all false
set_option maxRecDepth 100000
set_option maxHeartbeats 4000000
namespace L2
open PySem PySem.Spec PyProof.Rows
theorem noFill_tuple_mul : fillsNumberSlot (.type "tuple") "mul" = pure false :=
  PySem.fillsNumberSlot_seq (id := "tuple.__mul__") (r := some (.builtin "tuple.__rmul__")) F.slot_tuple_mul.lookup (by decide +kernel) F.slot_tuple_rmul.lookup (by decide +kernel)
theorem repeat_tuple : seqRepeat? (.type "tuple") = pure (some (.builtin "tuple.__mul__")) := by
  unfold seqRepeat?
  rw [PySem.seqSlot_of (T := "tuple") (name := "__mul__") (id := "tuple.__mul__") F.slot_tuple_mul.lookup (by decide +kernel), PySem.seqSlot_of (T := "tuple") (name := "__rmul__") (id := "tuple.__rmul__") F.slot_tuple_rmul.lookup (by decide +kernel)]
  rfl
theorem rmul_tuple (a : Int) (t : Tok) (l : Addr) (items : Array Value) (n : Nat) (dd : Option Addr) (sl : Array (Option Value)) :
    Meets (Builtin.«int.__rmul__» ⟨[.int a t, .ref l], []⟩) (fun _ R s => s.heap.get? l = some { cls := .type "tuple", dict := dd, data := .seq items n, slots := sl } ∧ R (.ok (.ret Value.notImplemented)) s) :=
  .of_wp fun prog w A R s h => by obtain ⟨hp, g, d, tk, os⟩ := s; obtain ⟨hl, h⟩ := h; wp_walk; exact ⟨_, rfl, h⟩
theorem mul_tuple_one (l : Addr) (items : Array Value) (n : Nat) (dd : Option Addr) (sl : Array (Option Value)) (u : Tok) :
    Meets (Builtin.«tuple.__mul__» ⟨[.ref l, .int 1 u], []⟩) (fun _ R s => s.heap.get? l = some { cls := .type "tuple", dict := dd, data := .seq items n, slots := sl } ∧ R (.ok (.ret (.ref l))) s) :=
  .of_wp fun prog w A R s h => by
    obtain ⟨hp, g, d, tk, os⟩ := s; obtain ⟨hl, h⟩ := h
    have f1 := AutoSeq1.idx_int
    have f2 := AutoSeq1.sub_tuple_tuple
    wp_walk using AutoSeq1.wpAny_loadPart' hl
    exact ⟨_, rfl, h⟩
theorem mul_tuple_low (l : Addr) (items : Array Value) (n : Nat) (dd : Option Addr) (sl : Array (Option Value)) (x : Int) (u : Tok) (h0 : x ≤ 0) (h1 : -(2 ^ 63) ≤ x) (hne : items.isEmpty = false) :
    Meets (Builtin.«tuple.__mul__» ⟨[.ref l, .int x u], []⟩) (fun _ R s => s.heap.get? l = some { cls := .type "tuple", dict := dd, data := .seq items n, slots := sl } ∧ R (.ok (.ret (.ref s.heap.objs.size))) { s with heap := s.heap.push { cls := .type "tuple", data := .seq #[] } }) :=
  .of_wp fun prog w A R s h => by
    obtain ⟨hp, g, d, tk, os⟩ := s; obtain ⟨hl, h⟩ := h
    have f1 := AutoSeq1.idx_int
    have f2 := AutoSeq1.sub_tuple_tuple
    have c1 : (decide (x < -2 ^ 63) || decide (x ≥ 2 ^ 63)) = false := by
      rw [decide_eq_false (by omega), decide_eq_false (by omega)]; rfl
    have c2 : (items.isEmpty || x == 1) = false := by
      rw [hne, beq_false_of_ne (by omega)]; rfl
    have c3 : (decide (x ≤ 0) || items.isEmpty) = true := by rw [decide_eq_true h0]; rfl
    wp_walk using AutoSeq1.wpAny_loadPart' hl
    refine wpAny_ite_split (fun z => absurd z (Bool.eq_false_iff.mp c1)) fun _ => ?_
    wp_walk using AutoSeq1.wpAny_loadPart' hl
    refine wpAny_ite_split (fun z => absurd z (Bool.eq_false_iff.mp c2)) fun _ => ?_
    refine wpAny_ite_split (fun _ => ?_) (fun z => absurd c3 z)
    wp_walk using AutoSeq1.wpAny_loadPart' hl
    exact ⟨_, rfl, h⟩
theorem mul_tuple_many (l : Addr) (items : Array Value) (n : Nat) (dd : Option Addr) (sl : Array (Option Value)) (x : Int) (u : Tok) (h0 : 2 ≤ x) (h1 : x < 2 ^ 63) (hne : items.isEmpty = false) (hz : items.size * x.toNat ≤ sizeLine) :
    Meets (Builtin.«tuple.__mul__» ⟨[.ref l, .int x u], []⟩) (fun _ R s => s.heap.get? l = some { cls := .type "tuple", dict := dd, data := .seq items n, slots := sl } ∧ R (.ok (.ret (.ref s.heap.objs.size))) { s with heap := s.heap.push { cls := .type "tuple", data := .seq (List.foldl (fun x1 x2 => x1 ++ x2) #[] (List.replicate x.toNat items)) } }) :=
  .of_wp fun prog w A R s h => by
    obtain ⟨hp, g, d, tk, os⟩ := s; obtain ⟨hl, h⟩ := h
    have f1 := AutoSeq1.idx_int
    have f2 := AutoSeq1.sub_tuple_tuple
    have hx : ((x.toNat : Nat) : Int) = x := by omega
    have hzi : (items.size : Int) * x ≤ 16777216 := by
      have : ((items.size * x.toNat : Nat) : Int) ≤ (sizeLine : Nat) := by exact_mod_cast hz
      rw [Int.natCast_mul, hx] at this
      exact this
    have c1 : (decide (x < -2 ^ 63) || decide (x ≥ 2 ^ 63)) = false := by
      rw [decide_eq_false (by omega), decide_eq_false (by omega)]; rfl
    have c2 : (items.isEmpty || x == 1) = false := by
      rw [hne, beq_false_of_ne (by omega)]; rfl
    have c3 : (decide (x ≤ 0) || items.isEmpty) = false := by rw [hne, decide_eq_false (by omega)]; rfl
    have c4 : ¬ (items.size : Int) * x > (2 ^ 63 - 1) / 8 := by omega
    have c5 : Builtin.Tuple.tupleTooMany ((items.size : Int) * x) = false := decide_eq_false (by
      have : ((sizeLine : Nat) : Int) = 16777216 := by decide
      omega)
    have hsz : (List.foldl (fun x1 x2 => x1 ++ x2) #[] (List.replicate x.toNat items)).size ≤ sizeLine := by
      rw [AutoSeq1.size_joined]
      simp
      rw [Nat.mul_comm]
      exact hz
    wp_walk using AutoSeq1.wpAny_loadPart' hl
    refine wpAny_ite_split (fun z => absurd z (Bool.eq_false_iff.mp c1)) fun _ => ?_
    wp_walk using AutoSeq1.wpAny_loadPart' hl
    refine wpAny_ite_split (fun z => absurd z (Bool.eq_false_iff.mp c2)) fun _ => ?_
    refine wpAny_ite_split (fun z => absurd z (Bool.eq_false_iff.mp c3)) fun _ => ?_
    refine wpAny_ite_split (fun z => absurd z c4) fun _ => ?_
    refine wpAny_ite_split (fun z => absurd z (Bool.eq_false_iff.mp c5)) fun _ => ?_
    wp_walk using AutoSeq1.wpAny_loadPart' hl
    exact ⟨_, rfl, h⟩
section
variable {X : Cx}
def rRepT (K : PySem.W.Frag) : R2 := fun x y H Q => ∃ a k xs, x = .ref a ∧ y = .int k ∧ SqT K H a xs ∧ xs ≠ [] ∧ -(2 ^ 63) ≤ k ∧ k < 2 ^ 63 ∧ xs.length * k.toNat ≤ sizeLine ∧
  (k = 1 → Q (.ref a) H) ∧ (k ≠ 1 → ∀ p, H p = none → Q (.ref p) (upd H p (.tup (List.replicate k.toNat xs).flatten)))
theorem op_repT : OpR X (binaryOp .Mult) (rRepT X.K) := by
  intro pins s σ H x y v u Q I rx ry h
  obtain ⟨a, k, xs, rfl, rfl, ha, hne, h1, h2, hz, q1, q2⟩ := h
  cases rx
  obtain ⟨t, rfl⟩ := ry
  obtain ⟨its, r, ht, hz0⟩ := I.tuple ha
  have hlen := r.length
  have ty := ht.typeIs
  obtain ⟨⟨cls, dd, data, sl⟩, e, hc, n, hd⟩ := ht
  simp only at hc hd
  subst hc hd
  have hemp : its.toArray.isEmpty = false := by
    cases its with
    | nil =>
      have : xs = [] := List.eq_nil_of_length_eq_zero (by rw [hlen]; rfl)
      exact absurd this hne
    | cons b bs => rfl
  have fin : ∀ {its' : List Value} {ys : List V}, Vals ys its' → ys.length ≤ sizeLine → (∀ p, H p = none → Q (.ref p) (upd H p (.tup ys))) → EP X pins σ Q (.ref s.heap.objs.size) { s with heap := s.heap.push { cls := .type "tuple", data := .seq its'.toArray } } := fun {its' ys} rv hl q =>
    ⟨.ref s.heap.objs.size, _, I.laid (t' := s.toks) (o := .tup ys) (fun b ob q => Heap.get?_push_of_some _ q) (Nat.le_refl _) ⟨hl, _, rv, IsTup.new _ _⟩, rfl, q _ (I.hok.fresh (Nat.le_refl _))⟩
  refine wpAny_binaryOp_repeat_ref (T := "tuple") (U := "int") (by decide) ty (fun s' => typeIs_int s' k t) noFill_tuple_mul F.fills_int_mul F.slot_int_rmul repeat_tuple F.slot_int_index.lookup
    (call_meets F.slot_int_rmul (typeIs_int s k t) F.entry_int_rmul (F.args_int_rmul_2 _ _) (rmul_tuple k t a its.toArray n dd sl) ⟨e, rfl, ty, ?_⟩)
  by_cases hk : k = 1
  · subst hk
    exact call_meets F.slot_tuple_mul ty F.entry_tuple_mul (F.args_tuple_mul_2 _ _) (mul_tuple_one a its.toArray n dd sl t) ⟨e, .ref a, H, I, rfl, q1 rfl⟩
  · by_cases h0 : k ≤ 0
    · refine call_meets F.slot_tuple_mul ty F.entry_tuple_mul (F.args_tuple_mul_2 _ _) (mul_tuple_low a its.toArray n dd sl k t h0 h1 hemp) ⟨e, ?_⟩
      have z : k.toNat = 0 := by omega
      have q2' := q2 hk
      rw [z] at q2'
      exact fin (its' := []) (ys := []) .nil (Nat.zero_le _) q2'
    · refine call_meets F.slot_tuple_mul ty F.entry_tuple_mul (F.args_tuple_mul_2 _ _) (mul_tuple_many a its.toArray n dd sl k t (by omega) h2 hemp (by rw [List.size_toArray, ← hlen]; exact hz)) ⟨e, ?_⟩
      have hf := foldl_rep its k.toNat []
      rw [List.nil_append] at hf
      have hf' : List.foldl (fun x1 x2 => x1 ++ x2) #[] (List.replicate k.toNat its.toArray) = (List.replicate k.toNat its).flatten.toArray := hf
      rw [hf']
      exact fin (r.rep k.toNat) (by rw [len_rep, Nat.mul_comm]; exact hz) (q2 hk)
end
end L2
end

section
set_option Elab.async false
set_option linter.all false
set_option maxRecDepth 100000
set_option maxHeartbeats 4000000
namespace L2
open PySem PySem.Spec PyProof.Rows

inductive W where
  | non | bl (b : Bool) | int (i : Int) | str (x : Str) | tup (ws : List W) | ref (a : Addr) | scr (ns : List Int)
inductive Ob where
  | lst (ws : List W)
  | dct (kvs : List (List Int × W))
  | ins (C : Addr) (fs : List (Str × W))
abbrev Sto := Addr → Option Ob
def put (S : Sto) (a : Addr) (o : Ob) : Sto := fun b => if b = a then some o else S b
def FzL (K : PySem.W.Frag) (H : Hp) (a : Addr) (xs : List V) : Prop :=
  (∃ o, H a = some (.frz o (.lst xs))) ∨
    ∃ (o : Obj) (its : Array Value) (n : Nat), K.lookup a = some o ∧ o.cls = .type "list" ∧ o.dict = none ∧ o.data = .seq its n ∧ its.size ≤ sizeLine ∧ Vals xs its.toList
mutual
inductive Rep (K : PySem.W.Frag) (H : Hp) : W → V → Prop
  | non : Rep K H .non .non
  | bl (b : Bool) : Rep K H (.bl b) (.bl b)
  | int (i : Int) : Rep K H (.int i) (.int i)
  | str (x : Str) : Rep K H (.str x) (.str x)
  | ref (a : Addr) : Rep K H (.ref a) (.ref a)
  | scr {a : Addr} {ns : List Int} : FzL K H a (ns.map V.int) → Rep K H (.scr ns) (.ref a)
  | tup {a : Addr} {vs : List V} {ws : List W} : H a = some (.tup vs) → Reps K H ws vs → Rep K H (.tup ws) (.ref a)
inductive Reps (K : PySem.W.Frag) (H : Hp) : List W → List V → Prop
  | nil : Reps K H [] []
  | cons {w : W} {v : V} {ws : List W} {vs : List V} : Rep K H w v → Reps K H ws vs → Reps K H (w :: ws) (v :: vs)
end
structure Ext (H : Hp) (S : Sto) (H' : Hp) (S' : Sto) : Prop where
  tup : ∀ b xs, H b = some (.tup xs) → H' b = some (.tup xs)
  frz : ∀ b o u, H b = some (.frz o u) → H' b = some (.frz o u)
  fr : ∀ b o, H b = some o → S b = none → H' b = some o ∧ S' b = none
  all : ∀ b o, H b = some o → ∃ o', H' b = some o'
def Sub (S S' : Sto) : Prop := ∀ a o, S a = some o → S' a = some o
section
variable {K : PySem.W.Frag} {H H' H1 H2 : Hp} {S S' S1 S2 : Sto}
theorem put_same {a : Addr} {o : Ob} : put S a o a = some o := by unfold put; rw [if_pos rfl]
theorem put_ne {a b : Addr} {o : Ob} (h : b ≠ a) : put S a o b = S b := by unfold put; rw [if_neg h]
theorem put_put {a : Addr} {o o' : Ob} : put (put S a o) a o' = put S a o' := by funext b; unfold put; split <;> rfl
theorem Ext.refl : Ext H S H S := ⟨fun _ _ h => h, fun _ _ _ h => h, fun _ _ h g => ⟨h, g⟩, fun _ o h => ⟨o, h⟩⟩
theorem Ext.trans (a : Ext H S H1 S1) (b : Ext H1 S1 H2 S2) : Ext H S H2 S2 := ⟨fun c xs h => b.tup c xs (a.tup c xs h), fun c o u h => b.frz c o u (a.frz c o u h),
  fun c o h g => by
    obtain ⟨h1, g1⟩ := a.fr c o h g
    exact b.fr c o h1 g1, fun c o h => by
    obtain ⟨o1, h1⟩ := a.all c o h
    exact b.all c o1 h1⟩
theorem Ext.new {p : Addr} {o : HO} (h : H p = none) : Ext H S (upd H p o) S :=
  ⟨fun b xs e => by rw [upd_ne (ne_of_none e h)]; exact e, fun b ob u e => by rw [upd_ne (ne_of_none e h)]; exact e,
   fun b ob e g => ⟨by rw [upd_ne (ne_of_none e h)]; exact e, g⟩, fun b ob e => ⟨ob, by rw [upd_ne (ne_of_none e h)]; exact e⟩⟩
theorem Ext.newS {p : Addr} {o : HO} {ob : Ob} (h : H p = none) : Ext H S (upd H p o) (put S p ob) :=
  ⟨fun b xs e => by rw [upd_ne (ne_of_none e h)]; exact e, fun b ob u e => by rw [upd_ne (ne_of_none e h)]; exact e,
   fun b ob e g => ⟨by rw [upd_ne (ne_of_none e h)]; exact e, by rw [put_ne (ne_of_none e h)]; exact g⟩, fun b ob e => ⟨ob, by rw [upd_ne (ne_of_none e h)]; exact e⟩⟩
theorem Ext.mut {p : Addr} {o u : HO} {ob ob0 : Ob} (h : H p = some u) (hs : S p = some ob0) (ht : ∀ xs, u ≠ .tup xs) (hf : ∀ ob q, u ≠ .frz ob q) : Ext H S (upd H p o) (put S p ob) :=
  ⟨fun b xs e => by rw [upd_ne (ne_of e h fun z => ht xs z.symm)]; exact e, fun b ob q e => by rw [upd_ne (ne_of e h fun z => hf ob q z.symm)]; exact e,
   fun b ob e g => by
     have hb : b ≠ p := by rintro rfl; rw [hs] at g; cases g
     exact ⟨by rw [upd_ne hb]; exact e, by rw [put_ne hb]; exact g⟩, fun b ob e => by
     by_cases hb : b = p
     · subst hb; exact ⟨o, upd_same⟩
     · exact ⟨ob, by rw [upd_ne hb]; exact e⟩⟩
theorem Ext.lst {p : Addr} {o : HO} {ob ob0 : Ob} {xs : List V} (h : H p = some (.lst xs)) (hs : S p = some ob0) : Ext H S (upd H p o) (put S p ob) := .mut h hs (fun _ z => nomatch z) fun _ _ z => nomatch z
theorem Ext.drop (h : Sub S' S) : Ext H S H S' := ⟨fun _ _ h => h, fun _ _ _ h => h, fun b o e g => ⟨e, by
  cases q : S' b with
  | none => rfl
  | some z => rw [h b z q] at g; cases g⟩, fun _ o h => ⟨o, h⟩⟩
theorem Ext.free (e : Ext H S H' S') {p : Addr} (h : H' p = none) : H p = none := by
  cases q : H p with
  | none => rfl
  | some o => obtain ⟨o', z⟩ := e.all p o q; rw [h] at z; cases z
theorem Ext.fz {a : Addr} {xs : List V} (e : Ext H S H' S') (h : FzL K H a xs) : FzL K H' a xs := by
  rcases h with ⟨o, h⟩ | h
  · exact .inl ⟨o, e.frz _ _ _ h⟩
  · exact .inr h
theorem FzL.sq {a : Addr} {xs : List V} (h : FzL K H a xs) : SqL K H a xs := by
  rcases h with ⟨o, h⟩ | h
  · exact .inl (.inr ⟨o, h⟩)
  · exact .inr h
mutual
theorem Rep.ext (e : Ext H S H' S') {w : W} {v : V} : Rep K H w v → Rep K H' w v
  | .non => .non
  | .bl b => .bl b
  | .int i => .int i
  | .str x => .str x
  | .ref a => .ref a
  | .scr h => .scr (e.fz h)
  | .tup h hs => .tup (e.tup _ _ h) (Reps.ext e hs)
theorem Reps.ext (e : Ext H S H' S') {ws : List W} {vs : List V} : Reps K H ws vs → Reps K H' ws vs
  | .nil => .nil
  | .cons h hs => .cons (Rep.ext e h) (Reps.ext e hs)
end
theorem Reps.length : ∀ {ws : List W} {vs : List V}, Reps K H ws vs → ws.length = vs.length
  | _, _, .nil => rfl
  | _, _, .cons _ hs => congrArg (· + 1) (Reps.length hs)
theorem Reps.get : ∀ {ws : List W} {vs : List V} {i : Nat} {w : W}, Reps K H ws vs → ws[i]? = some w → ∃ v, vs[i]? = some v ∧ Rep K H w v
  | _, _, _, _, .nil, e => by simp at e
  | _, _, 0, _, .cons h _, e => by simp at e; subst e; exact ⟨_, rfl, h⟩
  | _, _, i + 1, w, .cons _ hs, e => by
    obtain ⟨v, h1, h2⟩ := Reps.get (i := i) (w := w) hs (by simpa using e)
    exact ⟨v, by simpa using h1, h2⟩
theorem Reps.append : ∀ {ws us : List W} {vs xs : List V}, Reps K H ws vs → Reps K H us xs → Reps K H (ws ++ us) (vs ++ xs)
  | _, _, _, _, .nil, h => h
  | _, _, _, _, .cons r t, h => .cons r (Reps.append t h)
theorem Reps.take : ∀ {ws : List W} {vs : List V} (n : Nat), Reps K H ws vs → Reps K H (ws.take n) (vs.take n)
  | _, _, 0, _ => .nil
  | _, _, _ + 1, .nil => .nil
  | _, _, n + 1, .cons r t => .cons r (Reps.take n t)
theorem Reps.drop : ∀ {ws : List W} {vs : List V} (n : Nat), Reps K H ws vs → Reps K H (ws.drop n) (vs.drop n)
  | _, _, 0, r => r
  | _, _, _ + 1, .nil => .nil
  | _, _, n + 1, .cons _ t => Reps.drop n t
theorem Reps.one {w : W} {v : V} (h : Rep K H w v) : Reps K H [w] [v] := .cons h .nil
theorem Reps.ofInts : ∀ (ns : List Int), Reps K H (ns.map W.int) (ns.map V.int)
  | [] => .nil
  | n :: ns => .cons (.int n) (Reps.ofInts ns)
theorem Reps.dropLast : ∀ {ws : List W} {vs : List V}, Reps K H ws vs → Reps K H ws.dropLast vs.dropLast
  | _, _, .nil => .nil
  | _, _, .cons _ .nil => .nil
  | _, _, .cons h (.cons h1 hs) => .cons h (Reps.dropLast (.cons h1 hs))
theorem Reps.set {w : W} {v : V} (h : Rep K H w v) : ∀ {ws : List W} {vs : List V} (i : Nat), Reps K H ws vs → Reps K H (ws.set i w) (vs.set i v)
  | _, _, _, .nil => .nil
  | _, _, 0, .cons _ t => .cons h t
  | _, _, i + 1, .cons q t => .cons q (Reps.set h i t)
end

def RepO (K : PySem.W.Frag) (H : Hp) (a : Addr) : Ob → Prop
  | .lst ws => ∃ vs, H a = some (.lst vs) ∧ Reps K H ws vs
  | .dct kvs => ∃ ps : List (List Key × V), H a = some (.dT ps) ∧ Paired (fun q p => p.1 = q.1.map Sum.inl ∧ Rep K H q.2 p.2) kvs ps
  | .ins C fs => False
def RepS (K : PySem.W.Frag) (H : Hp) (S : Sto) : Prop := ∀ a o, S a = some o → RepO K H a o
section
variable {K : PySem.W.Frag} {H H' : Hp} {S S' S0 S0' : Sto} {a b p : Addr} {o : Ob}
theorem Sub.refl : Sub S S := fun _ _ h => h
theorem Sub.trans {S1 S2 S3 : Sto} (h : Sub S1 S2) (g : Sub S2 S3) : Sub S1 S3 := fun a o e => g a o (h a o e)
theorem Sub.new (h : S a = none) : Sub S (put S a o) := fun b u e => by rw [put_ne (by rintro rfl; rw [h] at e; cases e)]; exact e
theorem RepS.sub (h : RepS K H S') (q : Sub S S') : RepS K H S := fun a o e => h a o (q a o e)
theorem RepO.some (h : RepO K H a o) : ∃ u, H a = some u := by
  cases o with
  | lst ws => obtain ⟨vs, e, _⟩ := h; exact ⟨_, e⟩
  | dct kvs => obtain ⟨vs, e, _⟩ := h; exact ⟨_, e⟩
  | ins C fs => exact h.elim
theorem RepS.free (h : RepS K H S) (e : H p = none) : S p = none := by
  cases q : S p with
  | none => rfl
  | some o => obtain ⟨u, z⟩ := (h p o q).some; rw [e] at z; cases z
theorem RepO.keep (e : Ext H S0 H' S0') (k : ∀ u, H a = Option.some u → H' a = Option.some u) (h : RepO K H a o) : RepO K H' a o := by
  cases o with
  | lst ws => obtain ⟨vs, e1, r⟩ := h; exact ⟨vs, k _ e1, r.ext e⟩
  | dct kvs => obtain ⟨vs, e1, r⟩ := h; exact ⟨vs, k _ e1, Paired.mapP r fun _ _ z => ⟨z.1, z.2.ext e⟩⟩
  | ins C fs => exact h.elim
theorem RepS.new {u : HO} (h : RepS K H S) (e : H p = none) : RepS K (upd H p u) S := fun a o q =>
  (h a o q).keep (.new (S := S) e) fun v z => by rw [upd_ne (ne_of_none z e)]; exact z
theorem RepS.put_lst {ws : List W} {vs : List V} (h : RepS K H S) (e : H p = none) (r : Reps K (upd H p (.lst vs)) ws vs) : RepS K (upd H p (.lst vs)) (put S p (.lst ws)) := fun a o q => by
  by_cases ha : a = p
  · subst ha; rw [put_same] at q; cases q; exact ⟨vs, upd_same, r⟩
  · rw [put_ne ha] at q; exact h.new e a o q
theorem RepS.set_lst {ws0 ws : List W} {vs : List V} (h : RepS K H S) (e : S a = some (.lst ws0)) (r : Reps K H ws vs) : Ext H S (upd H a (.lst vs)) (put S a (.lst ws)) ∧ RepS K (upd H a (.lst vs)) (put S a (.lst ws)) := by
  obtain ⟨vs0, e0, _⟩ := h a _ e
  have x : Ext H S (upd H a (.lst vs)) (put S a (.lst ws)) := .lst e0 e
  refine ⟨x, fun b o q => ?_⟩
  by_cases hb : b = a
  · subst hb; rw [put_same] at q; cases q; exact ⟨vs, upd_same, r.ext x⟩
  · rw [put_ne hb] at q; exact (h b o q).keep x fun u z => by rw [upd_ne hb]; exact z
end

abbrev WSt := List (Option W)
abbrev WK := W → Sto → Prop
abbrev WX := Str → WSt → Sto → Prop
abbrev WE := WX → WSt → Sto → WK → Prop
abbrev WT := WX → WSt → Sto → (Bool → Sto → Prop) → Prop
abbrev WA := WX → WSt → Sto → (List W → Sto → Prop) → Prop
structure WEnds where
  nx : WSt → Sto → Prop
  rt : WK
  bk : WSt → Sto → Prop := fun _ _ => False
  ct : WSt → Sto → Prop := fun _ _ => False
abbrev WS := WX → WEnds → WSt → Sto → Prop
abbrev WG := W → WSt → Sto → (WSt → Sto → Prop) → Prop
abbrev WSp := List W → Sto → WK → (Str → Sto → Prop) → Prop
abbrev WI := WX → WSt → Sto → (List W → (Sto → Prop) → Sto → Prop) → Prop
abbrev WL := WX → WSt → Sto → (List W → Sto → Prop) → Prop

def RpO (K : PySem.W.Frag) (H : Hp) : Option W → Option V → Prop
  | none, _ => True
  | some w, some v => Rep K H w v
  | some _, none => False
def RpSt (K : PySem.W.Frag) (H : Hp) (σW : WSt) (σ : St) : Prop := Paired (RpO K H) σW σ
section
variable {K : PySem.W.Frag} {H H' : Hp} {S S' : Sto}
theorem RpO.ext (e : Ext H S H' S') : ∀ {w : Option W} {v : Option V}, RpO K H w v → RpO K H' w v
  | none, _, _ => trivial
  | some _, some _, h => Rep.ext e h
  | some _, none, h => h.elim
theorem RpSt.ext (e : Ext H S H' S') {σW : WSt} {σ : St} (h : RpSt K H σW σ) : RpSt K H' σW σ := Paired.mapP h fun _ _ r => RpO.ext e r
theorem RpSt.get : ∀ {σW : WSt} {σ : St} {i : Nat} {w : W}, RpSt K H σW σ → σW[i]? = some (some w) → ∃ v, σ[i]? = some (some v) ∧ Rep K H w v
  | _, _, _, _, .nil, e => by simp at e
  | _, _, 0, _, .cons (b := b) h _, e => by
    simp at e; subst e
    cases b with
    | none => exact (show False from h).elim
    | some v => exact ⟨v, rfl, h⟩
  | _, _, i + 1, w, .cons _ hs, e => by
    obtain ⟨v, h1, h2⟩ := RpSt.get (i := i) (w := w) hs (by simpa using e)
    exact ⟨v, by simpa using h1, h2⟩
theorem RpSt.set {w : W} {v : V} (h : Rep K H w v) : ∀ {σW : WSt} {σ : St} (i : Nat), RpSt K H σW σ → RpSt K H (σW.set i (some w)) (σ.set i (some v))
  | _, _, _, .nil => .nil
  | _, _, 0, .cons _ t => .cons h t
  | _, _, i + 1, .cons q t => .cons q (RpSt.set h i t)
end

def Wish (K : PySem.W.Frag) (H : Hp) (S : Sto) (QW : WK) (Q : VK) : Prop := ∀ w S' v H', Ext H S H' S' → Rep K H' w v → RepS K H' S' → QW w S' → Q v H'
def lift (K : PySem.W.Frag) (t : WSt → Sto → WK → Prop) : TE := fun σ H Q => ∃ σW S QW, RpSt K H σW σ ∧ RepS K H S ∧ t σW S QW ∧ Wish K H S QW Q
def liftT (K : PySem.W.Frag) (t : WSt → Sto → (Bool → Sto → Prop) → Prop) : TT := fun σ H Q => ∃ σW S QW, RpSt K H σW σ ∧ RepS K H S ∧ t σW S QW ∧ ∀ b S' H', Ext H S H' S' → RepS K H' S' → QW b S' → Q b H'
def liftA (K : PySem.W.Frag) (t : WSt → Sto → (List W → Sto → Prop) → Prop) : TA := fun σ H Q => ∃ σW S QW, RpSt K H σW σ ∧ RepS K H S ∧ t σW S QW ∧ ∀ ws S' vs H', Ext H S H' S' → Reps K H' ws vs → RepS K H' S' → QW ws S' → Q vs H'
def Goes (K : PySem.W.Frag) (H : Hp) (S : Sto) (P : WSt → Sto → Prop) (Q : St → Hp → Prop) : Prop := ∀ σW S' σ H', Ext H S H' S' → RpSt K H' σW σ → RepS K H' S' → P σW S' → Q σ H'
structure Meets (K : PySem.W.Frag) (H : Hp) (S : Sto) (DW : WEnds) (D : Ends) : Prop where
  nx : Goes K H S DW.nx D.nx
  rt : Wish K H S DW.rt D.rt
  bk : Goes K H S DW.bk D.bk
  ct : Goes K H S DW.ct D.ct
def liftS (K : PySem.W.Frag) (t : WEnds → WSt → Sto → Prop) : TS := fun D σ H => ∃ σW S DW, RpSt K H σW σ ∧ RepS K H S ∧ t DW σW S ∧ Meets K H S DW D
def liftG (K : PySem.W.Frag) (t : WG) : TG := fun v σ H Q => ∃ w σW S P, Rep K H w v ∧ RpSt K H σW σ ∧ RepS K H S ∧ t w σW S P ∧ Goes K H S P Q
def ItW (K : PySem.W.Frag) (J : It) (ws : List W) (G : Sto → Prop) (H0 : Hp) (S0 : Sto) : Prop := ∀ i S H, Ext H0 S0 H S → RepS K H S → G S →
  (∀ w, ws[i]? = some w → J.go i H ∧ ∀ x H', J.yld i H x H' → Ext H S H' S ∧ RepS K H' S ∧ Rep K H' w x) ∧ (i = ws.length → J.stop i H)
def liftI (K : PySem.W.Frag) (t : WSt → Sto → (List W → (Sto → Prop) → Sto → Prop) → Prop) : TI := fun σ H R => ∃ σW S QW, RpSt K H σW σ ∧ RepS K H S ∧ t σW S QW ∧
  ∀ ws G S' J H', Ext H S H' S' → RepS K H' S' → G S' → ItW K J ws G H' S' → QW ws G S' → R J H'
def liftL (K : PySem.W.Frag) (t : WSt → Sto → (List W → Sto → Prop) → Prop) : TE := fun σ H Q => ∃ σW S QW, RpSt K H σW σ ∧ RepS K H S ∧ t σW S QW ∧
  ∀ ws S' vs a H', Ext H S H' S' → H a = none → H' a = some (.lst vs) → S' a = none → Reps K H' ws vs → RepS K H' S' → QW ws S' → Q (.ref a) H'
def liftSp (K : PySem.W.Frag) (sp : WSp) : Sp := fun vs H Q _ => ∃ ws S QW, Reps K H ws vs ∧ RepS K H S ∧ sp ws S QW (fun _ _ => False) ∧ Wish K H S QW Q

structure Hook (X : Cx) (E : WX) : Prop where
  no : E = fun _ _ _ => False
  xe : X.xe = fun _ _ => False
  calm : X.calm = true
def JE (X : Cx) (e : Expr) (t : WE) : Prop := ∀ E, Hook X E → PE X e (lift X.K (t E))
def JT (X : Cx) (e : Expr) (t : WT) : Prop := ∀ E, Hook X E → PT X e (liftT X.K (t E))
def JW (X : Cx) (e : Expr) (t : WT) : Prop := ∀ E, Hook X E → PW X e (liftT X.K (t E))
def JA (X : Cx) (es : List Expr) (t : WA) : Prop := ∀ E, Hook X E → PA X es (liftA X.K (t E))
def JS (X : Cx) (st : Stmt) (t : WS) : Prop := ∀ E, Hook X E → PS X st (liftS X.K (t E))
def JSs (X : Cx) (st : List Stmt) (t : WS) : Prop := ∀ E, Hook X E → PSs X st (liftS X.K (t E))
def JG (X : Cx) (tg : Expr) (t : WG) : Prop := ∀ E, Hook X E → PG X tg (liftG X.K t)
def JI (X : Cx) (tg iter : Expr) (t : WI) : Prop := ∀ E, Hook X E → PI X tg iter (liftI X.K (t E))
def JL (X : Cx) (e : Expr) (t : WL) : Prop := ∀ E, Hook X E → PE X e (liftL X.K (t E))

theorem PE.mono {X : Cx} {e : Expr} {t t' : TE} (h : PE X e t) (q : ∀ σ H Q, t' σ H Q → t σ H Q) : PE X e t' := fun pins s σ H Q I z => h pins s σ H Q I (q σ H Q z)
theorem PT.mono {X : Cx} {e : Expr} {t t' : TT} (h : PT X e t) (q : ∀ σ H Q, t' σ H Q → t σ H Q) : PT X e t' := fun pins s σ H Q I z => h pins s σ H Q I (q σ H Q z)
theorem PW.mono {X : Cx} {e : Expr} {t t' : TT} (h : PW X e t) (q : ∀ σ H Q, t' σ H Q → t σ H Q) : PW X e t' := fun wh pins s σ H Q I z => h wh pins s σ H Q I (q σ H Q z)
theorem PA.mono {X : Cx} {e : List Expr} {t t' : TA} (h : PA X e t) (q : ∀ σ H Q, t' σ H Q → t σ H Q) : PA X e t' := fun pos pins s σ H Q I z => h pos pins s σ H Q I (q σ H Q z)
theorem PS.mono {X : Cx} {e : Stmt} {t t' : TS} (h : PS X e t) (q : ∀ D σ H, t' D σ H → t D σ H) : PS X e t' := fun pins s σ H D I z => h pins s σ H D I (q D σ H z)
theorem PSs.mono {X : Cx} {e : List Stmt} {t t' : TS} (h : PSs X e t) (q : ∀ D σ H, t' D σ H → t D σ H) : PSs X e t' := fun pins s σ H D I z => h pins s σ H D I (q D σ H z)
theorem PG.mono {X : Cx} {e : Expr} {t t' : TG} (h : PG X e t) (q : ∀ v σ H Q, t' v σ H Q → t v σ H Q) : PG X e t' := fun pins s σ H v u Q I r z => h pins s σ H v u Q I r (q v σ H Q z)
theorem PI.mono {X : Cx} {tg e : Expr} {t t' : TI} (h : PI X tg e t) (q : ∀ σ H R, t' σ H R → t σ H R) : PI X tg e t' := fun pins s σ H R I z => h pins s σ H R I (q σ H R z)

def wVar (i : Nat) : WE := fun _ σ S Q => match σ[i]? with
  | some (some w) => Q w S
  | _ => False
def wC (w : W) : WE := fun _ _ S Q => Q w S
section
variable {X : Cx}
theorem jv (i : Nat) {x : Str} {pos : Pos} (hN : X.N[i]? = some x := by rfl) (hv : Vis X.env.scope x := by first | exact Or.inl rfl | exact Or.inr (Or.inl rfl) | exact Or.inr (Or.inr rfl)) (hd : (x == ("__debug__" : Str)) = false := by decide)
    (hcd : (x == ("__classdict__" : Str)) = false := by decide) : JE X (.Name x pos) (wVar i) := fun E hE => (pe_var hN hv hd hcd).mono fun σ H Q ⟨σW, S, QW, hσ, hS, ht, hQ⟩ => by
  unfold wVar at ht
  split at ht
  · rename_i w e
    obtain ⟨v, e', r⟩ := hσ.get e
    exact ⟨v, e', hQ w S v H .refl r hS ht⟩
  · exact ht.elim
theorem jc_of {e : Expr} {v : V} {w : W} (h : PE X e (tC v)) (r : ∀ K H, Rep K H w v) : JE X e (wC w) := fun E hE => h.mono fun σ H Q ⟨σW, S, QW, hσ, hS, ht, hQ⟩ => hQ w S v H .refl (r _ _) hS ht
theorem je_int {i j pos} : JE X (.Constant (.int i) j pos) (wC (.int i)) := jc_of pe_int fun _ _ => .int i
theorem je_bl {b j pos} : JE X (.Constant (.bool b) j pos) (wC (.bl b)) := jc_of pe_bl fun _ _ => .bl b
theorem je_str {x j pos} : JE X (.Constant (.str x) j pos) (wC (.str x)) := jc_of pe_str fun _ _ => .str x
theorem je_gint {x : Str} {i : Int} {u : Tok} {pos : Pos} (hg : Gl X x) (hm : X.mg x = some (.int i u)) (hd : (x == ("__debug__" : Str)) = false := by decide) : JE X (.Name x pos) (wC (.int i)) := jc_of (v := .int i) (pe_glob hg hm ⟨u, rfl⟩ hd) fun _ _ => .int i
end

abbrev W2 := W → W → Sto → WK → Prop
def wOp (r : W2) (a b : WE) : WE := fun E σ S Q => a E σ S fun x S1 => b E σ S1 fun y S2 => r x y S2 Q
def OpW (K : PySem.W.Frag) (r : R2) (wr : W2) : Prop := ∀ H x y wx wy S (Q : VK) (QW : WK), Rep K H wx x → Rep K H wy y → RepS K H S → wr wx wy S QW → Wish K H S QW Q → r x y H Q
theorem Wish.from {K : PySem.W.Frag} {H H' : Hp} {S S' : Sto} {QW : WK} {Q : VK} (h : Wish K H S QW Q) (e : Ext H S H' S') : Wish K H' S' QW Q := fun w S v H'' e' r hS q => h w S v H'' (e.trans e') r hS q
theorem Goes.from {K : PySem.W.Frag} {H H' : Hp} {S S' : Sto} {P : WSt → Sto → Prop} {Q : St → Hp → Prop} (h : Goes K H S P Q) (e : Ext H S H' S') : Goes K H' S' P Q := fun σW S σ H'' e' r hS q => h σW S σ H'' (e.trans e') r hS q
theorem Meets.from {K : PySem.W.Frag} {H H' : Hp} {S S' : Sto} {DW : WEnds} {D : Ends} (h : Meets K H S DW D) (e : Ext H S H' S') : Meets K H' S' DW D := ⟨h.nx.from e, h.rt.from e, h.bk.from e, h.ct.from e⟩
section
variable {X : Cx} {a b c : Expr} {pos : Pos}
theorem lift_two {K : PySem.W.Frag} {ta tb : WSt → Sto → WK → Prop} {wr : W → W → Sto → WK → Prop} {σ : St} {H : Hp} {Q : VK} {R : V → V → Hp → Prop}
    (h : lift K (fun σ S Q => ta σ S fun x S1 => tb σ S1 fun y S2 => wr x y S2 Q) σ H Q)
    (hR : ∀ H2 x y wx wy S (QW : WK), Rep K H2 wx x → Rep K H2 wy y → RepS K H2 S → wr wx wy S QW → Wish K H2 S QW Q → R x y H2) :
    lift K ta σ H fun x H1 => lift K tb σ H1 fun y H2 => R x y H2 := by
  obtain ⟨σW, S, QW, hσ, hS, ht, hQ⟩ := h
  refine ⟨σW, S, _, hσ, hS, ht, fun w1 S1 v1 H1 e1 r1 hS1 h1 => ?_⟩
  refine ⟨σW, S1, _, hσ.ext e1, hS1, h1, fun w2 S2 v2 H2 e2 r2 hS2 h2 => ?_⟩
  exact hR H2 v1 v2 w1 w2 S2 QW (r1.ext e2) r2 hS2 h2 (hQ.from (e1.trans e2))
theorem je_op {op : Operator} {r : R2} {wr : W2} {ta tb : WE} (ho : OpR X (binaryOp op) r) (hw : OpW X.K r wr) (ha : JE X a ta) (hb : JE X b tb) : JE X (.BinOp a op b pos) (wOp wr ta tb) := fun E hE =>
  (pe_op ho (ha E hE) (hb E hE)).mono fun σ H Q h => lift_two h fun H2 x y wx wy S QW rx ry hS q hQ => hw H2 x y wx wy S Q QW rx ry hS q hQ
theorem je_cmp {op : CmpOp} {r : R2} {wr : W2} {ta tb : WE} (ho : OpR X (compareOp op) r) (hw : OpW X.K r wr) (ha : JE X a ta) (hb : JE X b tb) (hm : behindInMarks op b = false) : JE X (.Compare a [op] [b] pos) (wOp wr ta tb) := fun E hE =>
  (pe_cmpR ho (ha E hE) (hb E hE) hm).mono fun σ H Q h => lift_two h fun H2 x y wx wy S QW rx ry hS q hQ => hw H2 x y wx wy S Q QW rx ry hS q hQ
end
end L2
end

section
set_option Elab.async false
set_option linter.all false
set_option maxRecDepth 100000
set_option maxHeartbeats 4000000
namespace L2
open PySem PySem.Spec PyProof.Rows

def lstW (S : Sto) (a : Addr) (Q : List W → Prop) : Prop := match S a with
  | some (.lst ws) => Q ws
  | _ => False
theorem lstW_of {S : Sto} {a : Addr} {Q : List W → Prop} {ws : List W} (h : S a = some (.lst ws)) : lstW S a Q = Q ws := by unfold lstW; rw [h]
theorem lstW_ex {S : Sto} {a : Addr} {Q : List W → Prop} (h : lstW S a Q) : ∃ ws, S a = some (.lst ws) ∧ Q ws := by
  unfold lstW at h
  split at h
  · exact ⟨_, ‹_›, h⟩
  · exact h.elim
def truW : W → Sto → (Bool → Sto → Prop) → Prop
  | .non, S, Q => Q false S
  | .bl b, S, Q => Q b S
  | .int i, S, Q => Q (i != 0) S
  | .str x, S, Q => x.length ≤ sizeLine ∧ Q ((x.length : Int) != 0) S
  | .tup ws, S, Q => Q (!ws.isEmpty) S
  | .ref a, S, Q => lstW S a fun ws => Q (!ws.isEmpty) S
  | .scr ns, S, Q => Q (!ns.isEmpty) S
def wTru (t : WE) : WT := fun E σ S Q => t E σ S fun w S' => truW w S' Q
def wTb (t : WE) : WT := fun E σ S Q => t E σ S fun w S' => match w with
  | .bl b => Q b S'
  | _ => False
def wAnd (t u : WT) : WT := fun E σ S Q => t E σ S fun c S1 => if c = true then u E σ S1 Q else Q false S1
def wOr (t u : WT) : WT := fun E σ S Q => t E σ S fun c S1 => if c = true then Q true S1 else u E σ S1 Q
def wNot (t : WT) : WT := fun E σ S Q => t E σ S fun c S1 => Q (!c) S1
def wAndV (t u : WE) : WE := fun E σ S Q => t E σ S fun w S1 => match w with
  | .bl true => u E σ S1 Q
  | .bl false => Q (.bl false) S1
  | _ => False
def wOrV (t u : WE) : WE := fun E σ S Q => t E σ S fun w S1 => match w with
  | .bl false => u E σ S1 Q
  | .bl true => Q (.bl true) S1
  | _ => False
def wNotV (t : WE) : WE := fun E σ S Q => t E σ S fun w S1 => match w with
  | .bl b => Q (.bl !b) S1
  | _ => False
def wIf (c : WT) (t u : WE) : WE := fun E σ S Q => c E σ S fun b S1 => if b = true then t E σ S1 Q else u E σ S1 Q
def wIfS (c : WT) (t u : WS) : WS := fun E D σ S => c E σ S fun b S1 => if b = true then t E D σ S1 else u E D σ S1
def wNext : WS := fun _ D σ S => D.nx σ S
def wSeq (t u : WS) : WS := fun E D σ S => t E { D with nx := u E D } σ S
def wRet (e : WE) : WS := fun E D σ S => e E σ S D.rt
def wRetN : WS := fun _ D _ S => D.rt .non S
def wDrop (e : WE) : WS := fun E D σ S => e E σ S fun _ S1 => D.nx σ S1
def wGN (i : Nat) : WG := fun w σ S Q => Q (σ.set i (some w)) S
def wAsg (e : WE) (g : WG) : WS := fun E D σ S => e E σ S fun w S1 => g w σ S1 D.nx
abbrev WGs := List W → WSt → Sto → (WSt → Sto → Prop) → Prop
def wGnil : WGs := fun ws σ S Q => match ws with
  | [] => Q σ S
  | _ => False
def wGcons (g : WG) (u : WGs) : WGs := fun ws σ S Q => match ws with
  | [] => False
  | w :: r => g w σ S fun σ' S' => u r σ' S' Q
def wGT (u : WGs) : WG := fun w σ S Q => match w with
  | .tup ws => u ws σ S Q
  | _ => False
section
variable {X : Cx} {a b c e : Expr} {pos : Pos} {ta tb : WE} {tc tA tB' : WT} {st : Stmt} {rest : List Stmt} {t u : WS}
theorem truW_ok {K : PySem.W.Frag} {H : Hp} {w : W} {v : V} {S : Sto} {QW : Bool → Sto → Prop} (r : Rep K H w v) (hS : RepS K H S) (h : truW w S QW) : ∃ k, TruV K v H k ∧ QW k S := by
  cases r with
  | non => exact ⟨false, rfl, h⟩
  | bl b => exact ⟨b, rfl, h⟩
  | int i => exact ⟨_, rfl, h⟩
  | str x => exact ⟨_, ⟨h.1, rfl⟩, h.2⟩
  | ref a =>
    obtain ⟨ws, e, h⟩ := lstW_ex h
    obtain ⟨vs, e1, r1⟩ := hS a _ e
    refine ⟨_, .inl ⟨vs, .of e1, rfl⟩, ?_⟩
    have q : vs.isEmpty = ws.isEmpty := by cases r1 <;> rfl
    rw [q]; exact h
  | @scr a ns f =>
    refine ⟨_, .inl ⟨_, f.sq, rfl⟩, ?_⟩
    have q : (ns.map V.int).isEmpty = ns.isEmpty := by cases ns <;> rfl
    rw [q]; exact h
  | @tup a vs ws f hs =>
    refine ⟨_, .inr (.inl ⟨vs, .of f, rfl⟩), ?_⟩
    have q : vs.isEmpty = ws.isEmpty := by cases hs <;> rfl
    rw [q]; exact h
theorem jt_tru (ha : JE X a ta) (he : ∀ whole, isTrue a X.env whole = (do let v ← whole; standAt a.pos; holding [v] (truthy v)) := by intro _; rfl) : JT X a (wTru ta) := fun E hE =>
  (pt_truth (ha E hE) he).mono fun σ H Q ⟨σW, S, QW, hσ, hS, ht, hQ⟩ => ⟨σW, S, _, hσ, hS, ht, fun w S1 v H1 e1 r1 hS1 h1 => by
    obtain ⟨k, hk, q⟩ := truW_ok r1 hS1 h1
    exact ⟨k, hk, hQ k S1 H1 e1 hS1 q⟩⟩
theorem jt_cmp {op : CmpOp} {r : R2} {wr : W2} (ho : OpR X (compareOp op) r) (hw : OpW X.K r wr) (ha : JE X a ta) (hb : JE X b tb) (hm : behindInMarks op b = false) : JT X (.Compare a [op] [b] pos) (wTb (wOp wr ta tb)) := fun E hE =>
  (pt_cmpR ho (ha E hE) (hb E hE) hm).mono fun σ H Q ⟨σW, S, QW, hσ, hS, ht, hQ⟩ => by
    refine lift_two (Q := fun v H1 => ∃ k, v = .bl k ∧ Q k H1) ⟨σW, S, fun w S' => match w with
      | .bl b => QW b S'
      | _ => False, hσ, hS, ht, fun w S1 v H1 e1 r1 hS1 h1 => ?_⟩ fun H2 x y wx wy S QW rx ry hS q hQ => hw H2 x y wx wy S _ QW rx ry hS q hQ
    cases r1 with
    | bl k => exact ⟨k, rfl, hQ k S1 H1 e1 hS1 h1⟩
    | _ => exact h1.elim
theorem jt_not (ha : JT X a tA) : JT X (.UnaryOp .Not a pos) (wNot tA) := fun E hE =>
  (pt_not (ha E hE)).mono fun σ H Q ⟨σW, S, QW, hσ, hS, ht, hQ⟩ => ⟨σW, S, _, hσ, hS, ht, fun b S1 H1 e1 hS1 h1 => hQ _ S1 H1 e1 hS1 h1⟩
theorem JW.jt (h : JW X a tA) : JT X a tA := fun E hE => (h E hE).pt
theorem jw_or1 (ha : JT X a tA) : JW X (.BoolOp .Or [a] pos) tA := fun E hE => pw_or1 (ha E hE)
theorem jw_or {rest : List Expr} (ha : JT X a tA) (hb : JW X (.BoolOp .Or (b :: rest) pos) tB') : JW X (.BoolOp .Or (a :: b :: rest) pos) (wOr tA tB') := fun E hE =>
  (pw_or (ha E hE) (hb E hE)).mono fun σ H Q ⟨σW, S, QW, hσ, hS, ht, hQ⟩ => ⟨σW, S, _, hσ, hS, ht, fun b S1 H1 e1 hS1 h1 => by
    cases b with
    | false => exact ⟨σW, S1, _, hσ.ext e1, hS1, h1, fun b S2 H2 e2 hS2 h2 => hQ b S2 H2 (e1.trans e2) hS2 h2⟩
    | true => exact hQ _ S1 H1 e1 hS1 h1⟩
theorem je_one {op} (h : JE X a ta) : JE X (.BoolOp op [a] pos) ta := fun E hE => pe_one (h E hE)
theorem je_and {rest : List Expr} (ha : JE X a ta) (hb : JE X (.BoolOp .And (b :: rest) pos) tb) : JE X (.BoolOp .And (a :: b :: rest) pos) (wAndV ta tb) := fun E hE =>
  (pe_and (ha E hE) (hb E hE)).mono fun σ H Q ⟨σW, S, QW, hσ, hS, ht, hQ⟩ => ⟨σW, S, _, hσ, hS, ht, fun w S1 v H1 e1 r1 hS1 h1 => by
    cases r1 with
    | bl k =>
      refine ⟨k, rfl, ?_⟩
      cases k with
      | true => exact ⟨σW, S1, _, hσ.ext e1, hS1, h1, hQ.from e1⟩
      | false => exact hQ _ S1 _ H1 e1 (.bl false) hS1 h1
    | _ => exact h1.elim⟩
theorem js_nil : JSs X [] wNext := fun E hE => pss_nil.mono fun D σ H ⟨σW, S, DW, hσ, hS, ht, hD⟩ => hD.nx σW S σ H .refl hσ hS ht
theorem js_cons (h1 : JS X st t) (h2 : JSs X rest u) : JSs X (st :: rest) (wSeq t u) := fun E hE =>
  (pss_cons (h1 E hE) (h2 E hE)).mono fun D σ H ⟨σW, S, DW, hσ, hS, ht, hD⟩ =>
    ⟨σW, S, { DW with nx := u E DW }, hσ, hS, ht, ⟨fun σW' S' σ' H' e r hS' q => ⟨σW', S', DW, r, hS', q, hD.from e⟩, hD.rt, hD.bk, hD.ct⟩⟩
theorem js_one (h1 : JS X st t) : JSs X [st] t := fun E hE => pss_one (h1 E hE)
theorem js_expr (he : JE X e ta) (hs : swapsWith e none pos.line X.env = pure false := by rfl) : JS X (.Expr e pos) (wDrop ta) := fun E hE =>
  (ps_expr (he E hE) hs).mono fun D σ H ⟨σW, S, DW, hσ, hS, ht, hD⟩ => ⟨σW, S, _, hσ, hS, ht, fun w S1 v H1 e1 r1 hS1 h1 => hD.nx σW S1 σ H1 e1 (hσ.ext e1) hS1 h1⟩
theorem js_ret (he : JE X e ta) : JS X (.Return (some e) pos) (wRet ta) := fun E hE =>
  (ps_ret (he E hE)).mono fun D σ H ⟨σW, S, DW, hσ, hS, ht, hD⟩ => ⟨σW, S, _, hσ, hS, ht, hD.rt⟩
theorem js_if {a b : List Stmt} (hc : JT X c tc) (ha : JSs X a t) (hb : JSs X b u) : JS X (.If c a b pos) (wIfS tc t u) := fun E hE =>
  (ps_if (hc E hE) (ha E hE) (hb E hE)).mono fun D σ H ⟨σW, S, DW, hσ, hS, ht, hD⟩ => ⟨σW, S, _, hσ, hS, ht, fun k S1 H1 e1 hS1 h1 => by
    cases k with
    | true => exact ⟨σW, S1, DW, hσ.ext e1, hS1, h1, hD.from e1⟩
    | false => exact ⟨σW, S1, DW, hσ.ext e1, hS1, h1, hD.from e1⟩⟩
theorem jg_name {i : Nat} {x : Str} (hN : X.N.Nodup) (hi : X.N[i]? = some x) (hx : Loc X.env.scope x) (hf : X.fn x = true ∨ X.env.scope.names.lookup x = some .local := by first | exact .inl rfl | exact .inr rfl | assumption) : JG X (.Name x pos) (wGN i) := fun E hE =>
  (pg_name hN hi hx hf).mono fun v σ H Q ⟨w, σW, S, P, r, hσ, hS, ht, hP⟩ => hP _ S _ H .refl (hσ.set r i) hS ht
def JGs (X : Cx) (tgs : List Expr) (t : WGs) : Prop := ∀ E, Hook X E → PGs X tgs (fun vs σ H Q => ∃ ws σW S P, Reps X.K H ws vs ∧ RpSt X.K H σW σ ∧ RepS X.K H S ∧ t ws σW S P ∧ Goes X.K H S P Q)
theorem jgs_nil : JGs X [] wGnil := fun E hE pins s σ H vs us Q I r h => by
  obtain ⟨ws, σW, S, P, rs, hσ, hS, ht, hP⟩ := h
  unfold wGnil at ht
  split at ht
  · cases rs
    exact pgs_nil pins s σ H [] us Q I r ⟨rfl, hP σW S σ H .refl hσ hS ht⟩
  · exact ht.elim
theorem jgs_cons {es : List Expr} {g : WG} {gs : WGs} (h1 : JG X e g) (h2 : JGs X es gs)
    (hs : (assignEach (e :: es) X.env).map (·.2) = assign e X.env :: (assignEach es X.env).map (·.2) := by rfl) : JGs X (e :: es) (wGcons g gs) := fun E hE pins s σ H vs us Q I r h => by
  obtain ⟨ws, σW, S, P, rs, hσ, hS, ht, hP⟩ := h
  unfold wGcons at ht
  split at ht
  · exact ht.elim
  · cases rs with
    | cons r1 r2 =>
      refine pgs_cons (h1 E hE) (h2 E hE) hs pins s σ H _ us Q I r ⟨_, _, rfl, ⟨_, σW, S, _, r1, hσ, hS, ht, fun σW' S' σ' H' e' rr hS' q => ?_⟩⟩
      exact ⟨_, σW', S', P, r2.ext e', rr, hS', q, hP.from e'⟩
theorem jg_tup {es : List Expr} {k n : Nat} {gs : WGs} (h : JGs X es gs) (hlen : ∀ ws σ S P, gs ws σ S P → ws.length = n)
    (hn : (assignEach es X.env).length = n := by rfl) (hst : (assignEach es X.env).findIdx? (·.1) = none := by rfl) : JG X (.Tuple es k pos) (wGT gs) := fun E hE =>
  (pg_tup hE.calm (h E hE) hn hst).mono fun v σ H Q ⟨w, σW, S, P, r, hσ, hS, ht, hP⟩ => by
    cases r with
    | tup f hs => exact ⟨_, _, rfl, .of f, by rw [← hs.length]; exact hlen _ _ _ _ ht, ⟨_, σW, S, P, hs, hσ, hS, ht, hP⟩⟩
    | _ => exact ht.elim
theorem js_asg {tg : Expr} {g : WG} (he : JE X e ta) (hg : JG X tg g) (hs : swapsWithSole [tg] e pos.line X.env = pure false := by rfl) (hw : swappedStores [tg] e X.env = pure none := by rfl)
    (h1 : (assignEach [tg] X.env).map (·.2) = [assign tg X.env] := by rfl) : JS X (.Assign [tg] e pos) (wAsg ta g) := fun E hE =>
  (ps_asg (he E hE) (hg E hE) hs hw h1).mono fun D σ H ⟨σW, S, DW, hσ, hS, ht, hD⟩ => ⟨σW, S, _, hσ, hS, ht, fun w S1 v H1 e1 r1 hS1 h1 => ⟨w, σW, S1, _, r1, hσ.ext e1, hS1, h1, hD.nx.from e1⟩⟩
theorem js_set {i : Nat} {x : Str} {pos' : Pos} (hN : X.N.Nodup) (hi : X.N[i]? = some x) (hx : Loc X.env.scope x) (he : JE X e ta) (hs : swapsWith e (some (.Name x pos')) pos.line X.env = pure false := by rfl)
    (hf : X.fn x = true ∨ X.env.scope.names.lookup x = some .local := by first | exact .inl rfl | exact .inr rfl | assumption) : JS X (.Assign [.Name x pos'] e pos) (wAsg ta (wGN i)) := fun E hE =>
  (ps_set hN hi hx (he E hE) hs hf).mono fun D σ H ⟨σW, S, DW, hσ, hS, ht, hD⟩ => ⟨σW, S, _, hσ, hS, ht, fun w S1 v H1 e1 r1 hS1 h1 => hD.nx _ S1 _ H1 e1 ((hσ.ext e1).set r1 i) hS1 h1⟩
end

def waNil : WA := fun _ _ S Q => Q [] S
def waCons (t : WE) (u : WA) : WA := fun E σ S Q => t E σ S fun w S1 => u E σ S1 fun ws S2 => Q (w :: ws) S2
def wTup (t : WA) : WE := fun E σ S Q => t E σ S fun ws S1 => ws.length ≤ sizeLine ∧ Q (.tup ws) S1
def wLst (t : WA) : WL := fun E σ S Q => t E σ S fun ws S1 => ws.length ≤ sizeLine ∧ Q ws S1
def wNew (t : WL) : WE := fun E σ S Q => t E σ S fun ws S1 => ∀ a, S1 a = none → Q (.ref a) (put S1 a (.lst ws))
section
variable {X : Cx} {e : Expr} {es : List Expr} {te : WE} {ta : WA} {tl : WL} {pos : Pos}
theorem ja_nil : JA X [] waNil := fun E hE => pa_nil.mono fun σ H Q ⟨σW, S, QW, hσ, hS, ht, hQ⟩ => hQ [] S [] H .refl .nil hS ht
theorem ja_cons (ha : JE X e te) (hr : JA X es ta) (hs : starEach (e :: es) X.env = (false, eval e X.env) :: starEach es X.env := by rfl) : JA X (e :: es) (waCons te ta) := fun E hE =>
  (pa_cons (ha E hE) (hr E hE) hs).mono fun σ H Q ⟨σW, S, QW, hσ, hS, ht, hQ⟩ => ⟨σW, S, _, hσ, hS, ht, fun w S1 v H1 e1 r1 hS1 h1 => ⟨σW, S1, _, hσ.ext e1, hS1, h1, fun ws S2 vs H2 e2 r2 hS2 h2 =>
    hQ (w :: ws) S2 (v :: vs) H2 (e1.trans e2) (.cons (r1.ext e2) r2) hS2 h2⟩⟩
theorem je_tup {x1} (h : JA X es ta) : JE X (.Tuple es x1 pos) (wTup ta) := fun E hE =>
  (pe_tup (h E hE)).mono fun σ H Q ⟨σW, S, QW, hσ, hS, ht, hQ⟩ => ⟨σW, S, _, hσ, hS, ht, fun ws S1 vs H1 e1 r1 hS1 h1 => by
    refine ⟨by rw [← r1.length]; exact h1.1, fun p hp => hQ (.tup ws) S1 _ _ (e1.trans (.new hp)) (.tup upd_same (r1.ext (.new (S := S1) hp))) (hS1.new hp) h1.2⟩⟩
theorem jl_lst (h : JA X es ta) : JL X (.List es pos) (wLst ta) := fun E hE =>
  (pe_lst (h E hE)).mono fun σ H Q ⟨σW, S, QW, hσ, hS, ht, hQ⟩ => ⟨σW, S, _, hσ, hS, ht, fun ws S1 vs H1 e1 r1 hS1 h1 => by
    refine ⟨by rw [← r1.length]; exact h1.1, fun p hp => hQ ws S1 vs p _ (e1.trans (.new hp)) (e1.free hp) upd_same (hS1.free hp) (r1.ext (.new (S := S1) hp)) (hS1.new hp) h1.2⟩⟩
theorem je_new (h : JL X e tl) : JE X e (wNew tl) := fun E hE =>
  (h E hE).mono fun σ H Q ⟨σW, S, QW, hσ, hS, ht, hQ⟩ => ⟨σW, S, _, hσ, hS, ht, fun ws S1 vs a H1 e1 fa ea na r1 hS1 h1 => by
    refine hQ (.ref a) (put S1 a (.lst ws)) (.ref a) H1 ⟨e1.tup, e1.frz, fun b o q g => by
      have hb : b ≠ a := by rintro rfl; rw [fa] at q; cases q
      rw [put_ne hb]
      exact e1.fr b o q g, e1.all⟩ (.ref a) (fun b o q => ?_) (h1 a na)
    by_cases hb : b = a
    · subst hb; rw [put_same] at q; cases q; exact ⟨vs, ea, r1⟩
    · rw [put_ne hb] at q; exact hS1 b o q⟩
end

def wCall (c : WSp) (t : WA) : WE := fun E σ S Q => t E σ S fun ws S1 => c ws S1 Q fun cl S2 => E cl σ S2
def wDef (n k : Nat) (body : WS) : WSp := fun ws S Q E => ws.length = k ∧ body (fun c _ S' => E c S') { nx := fun _ S' => ∃ S'', Sub S'' S' ∧ Q .non S'', rt := fun w S' => ∃ S'', Sub S'' S' ∧ Q w S'' } (ws.map some ++ List.replicate (n - k) none) S
section
variable {X : Cx} {k : Nat} {f : Addr} {fd : FuncData} {ps : List Str} {c : WSp} {x : Str} {p pos : Pos} {e : Expr} {es : List Expr} {t : WA}
theorem je_call (F : FnOk X.prog X.w X.K X.mg X.base CX0 k f fd ps (liftSp X.K c)) (hr : Room k X.A) (hg : Gl X x) (hm : X.mg x = some (.ref f)) (hk : PySem.W.keepIn X.K (.ref f) = true) (hb : Binds X.K fd ps [])
    (ha : JA X (e :: es) t) (hdb : (x == ("__debug__" : Str)) = false := by decide) (he : starEach (e :: es) X.env = (false, eval e X.env) :: starEach es X.env := by rfl) (hpl : (backTo pos (starEach es X.env)).any (·.1) = false := by rfl) :
    JE X (.Call (.Name x p) (e :: es) [] pos) (wCall c t) := fun E hE =>
  (pe_call (E := E0) (dvs := []) F hr hg hm hk hb .nil pass0 (ha E hE) hdb he hpl).mono fun σ H Q ⟨σW, S, QW, hσ, hS, ht, hQ⟩ => ⟨σW, S, _, hσ, hS, ht, fun ws S1 vs H1 e1 r1 hS1 h1 => by
    rw [hE.no] at h1
    refine ⟨ws, S1, QW, by rw [List.append_nil]; exact r1, hS1, h1, hQ.from e1⟩⟩
theorem start_rep {K : PySem.W.Frag} {H : Hp} {N : List Str} {ws : List W} {vs : List V} (h : Reps K H ws vs) : RpSt K H (ws.map some ++ List.replicate (N.length - ws.length) none) (start N vs) := by
  have go : ∀ {ws : List W} {vs : List V} (m : Nat), Reps K H ws vs → RpSt K H (ws.map some ++ List.replicate m none) (vs.map some ++ List.replicate m none) := by
    intro ws
    induction ws with
    | nil =>
      intro vs m h
      cases h
      induction m with
      | zero => exact .nil
      | succ m ih => exact .cons trivial ih
    | cons w ws ih =>
      intro vs m h
      cases h with
      | cons r rs => exact .cons r (ih m rs)
  unfold start
  rw [← h.length]
  exact go _ h
theorem fn_ok {P : Program} {w : World} {K : PySem.W.Frag} {mg : Str → Option Value} {base : Heap} {x qual : Str} {st : Stmt} {f : Addr} {fd : FuncData} {N ps : List Str} {r n k : Nat} {body : WS} (F : Fun K x qual st f fd) (S : FnScope N ps (defScope st)) (hn : N.length = n) (hk : ps.length = k)
    (hbody : ∀ (cdv : Value) (A : Around) (outer : List Env) (s : Shared) (H : Hp) (E : XK), Room r (A.deeper (envOfC qual (defScope st) s.heap.objs.size f cdv)) →
      JSs (cxOf CX0 P w K mg base N qual (defScope st) f cdv A outer s H E).nox (defBody st) body) : FnOk P w K mg base CX0 (r + 1) f fd ps (liftSp K (wDef n k body)) := by
  refine F.ok S (fun vs H Q E h => ?_) fun cdv A outer s H vs Q E hr h => ?_
  · obtain ⟨ws, S, QW, rs, _, h, _⟩ := h
    rw [← rs.length, h.1, hk]
  · obtain ⟨ws, S', QW, rs, hS, h, hQ⟩ := h
    refine ⟨_, hbody cdv A outer s H E hr (fun _ _ _ => False) ⟨rfl, rfl, rfl⟩, ?_⟩
    refine ⟨_, S', { nx := fun _ S' => ∃ S'', Sub S'' S' ∧ QW .non S'', rt := fun w S' => ∃ S'', Sub S'' S' ∧ QW w S'' }, start_rep (N := N) rs, hS, by rw [hn, h.1]; exact h.2, ⟨fun σW S1 σ H1 e1 rr hS1 q => ?_, fun w S1 v H1 e1 rr hS1 q => ?_, fun _ _ _ _ _ _ _ q => q, fun _ _ _ _ _ _ _ q => q⟩⟩
    · obtain ⟨S2, sb, q⟩ := q
      exact hQ .non S2 .non H1 (e1.trans (.drop sb)) .non (hS1.sub sb) q
    · obtain ⟨S2, sb, q⟩ := q
      exact hQ w S2 v H1 (e1.trans (.drop sb)) rr (hS1.sub sb) q
end
end L2
end

section
set_option Elab.async false
set_option linter.all false
set_option maxRecDepth 100000
set_option maxHeartbeats 4000000
namespace L2
open PySem PySem.Spec PyProof.Rows

def oInt (C : Int → Int → Prop) (g : Int → Int → W) : W2
  | .int i, .int j, S, Q => C i j ∧ Q (g i j) S
  | _, _, _, _ => False
def oInt0 (g : Int → Int → W) : W2
  | .int i, .int j, S, Q => Q (g i j) S
  | _, _, _, _ => False
theorem opw_int {K : PySem.W.Frag} {C : Int → Int → Prop} {g : Int → Int → Int} : OpW K (rI C fun i j => .int (g i j)) (oInt C fun i j => .int (g i j)) := fun H x y wx wy S Q QW rx ry hS h hQ => by
  cases rx <;> cases ry <;> first | exact ⟨_, _, rfl, rfl, h.1, hQ _ S _ H .refl (.int _) hS h.2⟩ | exact h.elim
theorem opw_int0 {K : PySem.W.Frag} {g : Int → Int → Int} : OpW K (rI0 fun i j => .int (g i j)) (oInt0 fun i j => .int (g i j)) := fun H x y wx wy S Q QW rx ry hS h hQ => by
  cases rx <;> cases ry <;> first | exact ⟨_, _, rfl, rfl, hQ _ S _ H .refl (.int _) hS h⟩ | exact h.elim
theorem opw_intb {K : PySem.W.Frag} {g : Int → Int → Bool} : OpW K (rI0 fun i j => .bl (g i j)) (oInt0 fun i j => .bl (g i j)) := fun H x y wx wy S Q QW rx ry hS h hQ => by
  cases rx <;> cases ry <;> first | exact ⟨_, _, rfl, rfl, hQ _ S _ H .refl (.bl _) hS h⟩ | exact h.elim
def oAdd : W2
  | .int i, .int j, S, Q => Q (.int (i + j)) S
  | .str x, .str y, S, Q => x.length + y.length ≤ sizeLine ∧ Q (.str (x ++ y)) S
  | .tup xs, .tup ys, S, Q => xs.length + ys.length ≤ sizeLine ∧ Q (.tup (xs ++ ys)) S
  | .ref a, .ref b, S, Q => lstW S a fun xs => lstW S b fun ys => xs.length + ys.length ≤ sizeLine ∧ ∀ p, S p = none → Q (.ref p) (put S p (.lst (xs ++ ys)))
  | _, _, _, _ => False
section
variable {X : Cx}
theorem Reps.nil_r {K : PySem.W.Frag} {H : Hp} {ws : List W} (h : Reps K H ws []) : ws = [] := by cases h; rfl
theorem op_catT0 : OpR X (binaryOp .Add) (fun x y H Q => ∃ a b ys, x = .ref a ∧ y = .ref b ∧ SqT X.K H a [] ∧ SqT X.K H b ys ∧ Q (.ref b) H) := by
  intro pins s σ H x y v u Q I rx ry h
  obtain ⟨a, b, ys, rfl, rfl, ha, hb, q⟩ := h
  cases rx
  cases ry
  obtain ⟨its, r1, p1, _⟩ := I.tuple ha
  obtain ⟨its2, r2, p2, _⟩ := I.tuple hb
  cases r1
  obtain ⟨⟨cls, dd, data, sl⟩, ho, hc, n, hd⟩ := id p1
  obtain ⟨⟨cls2, dd2, data2, sl2⟩, ho2, hc2, n2, hd2⟩ := id p2
  simp only at hc hd hc2 hd2
  subst hc hd hc2 hd2
  exact concat_meets ⟨_, ho, rfl⟩ ⟨_, ho2, rfl⟩ noFill_tuple_add seq_tuple_add PySem.F.slot_tuple_add PySem.F.entry_tuple_add (PySem.F.args_tuple_add_2 _ _)
      (tuple_addW0 a b _ _ n n2 dd dd2 sl sl2 (by simp)) ⟨ho, ho2, ⟨.ref b, H, I, rfl, q⟩⟩
theorem op_addAll : OpR X (binaryOp .Add) (fun x y H Q => (rI0 fun i j => .int (i + j)) x y H Q ∨ (∃ i j, x = .str i ∧ y = .str j ∧ i.length + j.length ≤ sizeLine ∧ Q (.str (i ++ j)) H) ∨
    (∃ a b ys, x = .ref a ∧ y = .ref b ∧ SqT X.K H a [] ∧ SqT X.K H b ys ∧ Q (.ref b) H) ∨ rCatT X.K x y H Q ∨ rCat x y H Q) := op_add.or (op_add_str.or (op_catT0.or (op_catT.or op_cat)))
theorem opw_add {K : PySem.W.Frag} : OpW K (fun x y H Q => (rI0 fun i j => .int (i + j)) x y H Q ∨ (∃ i j, x = .str i ∧ y = .str j ∧ i.length + j.length ≤ sizeLine ∧ Q (.str (i ++ j)) H) ∨
    (∃ a b ys, x = .ref a ∧ y = .ref b ∧ SqT K H a [] ∧ SqT K H b ys ∧ Q (.ref b) H) ∨ rCatT K x y H Q ∨ rCat x y H Q) oAdd := fun H x y wx wy S Q QW rx ry hS h hQ => by
  cases rx with
  | int i =>
    cases ry with
    | int j => exact .inl ⟨i, j, rfl, rfl, hQ _ S _ H .refl (.int _) hS h⟩
    | _ => exact h.elim
  | str i =>
    cases ry with
    | str j => exact .inr (.inl ⟨i, j, rfl, rfl, h.1, hQ _ S _ H .refl (.str _) hS h.2⟩)
    | _ => exact h.elim
  | @tup a vs ws f hs =>
    cases ry with
    | @tup b us zs g ks =>
      cases hs with
      | nil => exact .inr (.inr (.inl ⟨a, b, us, rfl, rfl, .of f, .of g, hQ (.tup zs) S _ H .refl (.tup g ks) hS h.2⟩))
      | cons h1 h2 =>
        refine .inr (.inr (.inr (.inl ⟨a, b, _, us, rfl, rfl, .of f, .of g, by simp, ?_, fun e => ?_, fun e p hp => ?_⟩)))
        · rw [← (Reps.cons h1 h2).length, ← ks.length]; exact h.1
        · subst e
          have e' := ks.nil_r
          subst e'
          have q := h.2
          rw [List.append_nil] at q
          exact hQ _ S _ H .refl (.tup f (.cons h1 h2)) hS q
        · exact hQ _ S _ _ (.new hp) (.tup upd_same (((Reps.cons h1 h2).append ks).ext (.new (S := S) hp))) (hS.new hp) h.2
    | _ => exact h.elim
  | ref a =>
    cases ry with
    | ref b =>
      obtain ⟨xs, ea, h⟩ := lstW_ex h
      obtain ⟨ys, eb, h⟩ := lstW_ex h
      obtain ⟨vs, e1, r1⟩ := hS a _ ea
      obtain ⟨us, e2, r2⟩ := hS b _ eb
      refine .inr (.inr (.inr (.inr ⟨a, b, vs, us, rfl, rfl, e1, e2, by rw [← r1.length, ← r2.length]; exact h.1, fun p hp => ?_⟩)))
      exact hQ _ _ _ _ (.newS hp) (.ref p) (hS.put_lst hp ((r1.append r2).ext (.new (S := S) hp))) (h.2 p (hS.free hp))
    | _ => exact h.elim
  | _ => exact h.elim
variable {a b : Expr} {pos : Pos} {ta tb : WE}
theorem je_add (ha : JE X a ta) (hb : JE X b tb) : JE X (.BinOp a .Add b pos) (wOp oAdd ta tb) := je_op op_addAll opw_add ha hb
theorem je_sub (ha : JE X a ta) (hb : JE X b tb) : JE X (.BinOp a .Sub b pos) (wOp (oInt0 fun i j => .int (i - j)) ta tb) := je_op op_sub opw_int0 ha hb
theorem je_mul (ha : JE X a ta) (hb : JE X b tb) : JE X (.BinOp a .Mult b pos) (wOp (oInt CMul fun i j => .int (i * j)) ta tb) := je_op op_mul opw_int ha hb
theorem je_fdiv (ha : JE X a ta) (hb : JE X b tb) : JE X (.BinOp a .FloorDiv b pos) (wOp (oInt CDiv fun i j => .int (i / j)) ta tb) := je_op op_fdiv opw_int ha hb
theorem je_mod (ha : JE X a ta) (hb : JE X b tb) : JE X (.BinOp a .Mod b pos) (wOp (oInt (fun _ j => 0 < j) fun i j => .int (i % j)) ta tb) := je_op op_mod opw_int ha hb
theorem je_pow (ha : JE X a ta) (hb : JE X b tb) : JE X (.BinOp a .Pow b pos) (wOp (oInt CPow fun i j => .int (i ^ j.toNat)) ta tb) := je_op op_pow opw_int ha hb
def wNeg (t : WE) : WE := fun E σ S Q => t E σ S fun w S1 => match w with
  | .int i => Q (.int (-i)) S1
  | _ => False
theorem je_neg (ha : JE X a ta) : JE X (.UnaryOp .USub a pos) (wNeg ta) := fun E hE =>
  (pe_un un_neg (ha E hE)).mono fun σ H Q ⟨σW, S, QW, hσ, hS, ht, hQ⟩ => ⟨σW, S, _, hσ, hS, ht, fun w S1 v H1 e1 r1 hS1 h1 => by
    cases r1 with
    | int i => exact ⟨i, rfl, hQ _ S1 _ H1 e1 (.int _) hS1 h1⟩
    | _ => exact h1.elim⟩

end

def eqFs (f : W → W → Option Bool) : List W → List W → Option Bool
  | [], [] => some true
  | [], _ => some false
  | _, [] => some false
  | x :: xs, y :: ys => match f x y, eqFs f xs ys with
    | some a, some b => some (a && b)
    | _, _ => none
def eqF (S : Sto) : Nat → W → W → Option Bool
  | 0, _, _ => none
  | n + 1, w, u => match w, u with
    | .non, .non => some true
    | .bl a, .bl b => some (a == b)
    | .int a, .int b => some (a == b)
    | .str a, .str b => some (a == b)
    | .bl a, .int b => some ((if a then 1 else 0) == b)
    | .int a, .bl b => some (a == (if b then 1 else 0))
    | .non, .bl _ => some false
    | .non, .int _ => some false
    | .non, .str _ => some false
    | .bl _, .non => some false
    | .bl _, .str _ => some false
    | .int _, .non => some false
    | .int _, .str _ => some false
    | .str _, .non => some false
    | .str _, .bl _ => some false
    | .str _, .int _ => some false
    | .tup _, .non => some false
    | .tup _, .bl _ => some false
    | .tup _, .int _ => some false
    | .tup _, .str _ => some false
    | .non, .tup _ => some false
    | .bl _, .tup _ => some false
    | .int _, .tup _ => some false
    | .str _, .tup _ => some false
    | .tup xs, .tup ys => eqFs (eqF S n) xs ys
    | .ref a, .ref b => match S a with
      | some (.lst xs) => match S b with
        | some (.lst ys) => eqFs (eqF S n) xs ys
        | _ => none
      | _ => none
    | .ref a, .non => match S a with
      | some (.lst _) => some false
      | _ => none
    | .non, .ref a => match S a with
      | some (.lst _) => some false
      | _ => none
    | _, _ => none
theorem eqFs_all {f : W → W → Option Bool} : ∀ {xs ys : List W} {b : Bool}, eqFs f xs ys = some b →
    (∀ j, j < xs.length → j < ys.length → ∃ c, f (xs.getD j .non) (ys.getD j .non) = some c) ∧
    ((List.range (min xs.length ys.length)).all (fun j => (f (xs.getD j .non) (ys.getD j .non)).getD true) && xs.length == ys.length) = b
  | [], [], b, h => by
    have : true = b := Option.some.inj h
    subst this
    exact ⟨fun j h => absurd h (by simp), by simp⟩
  | [], y :: ys, b, h => by
    have : false = b := Option.some.inj h
    subst this
    exact ⟨fun j h => absurd h (by simp), by simp⟩
  | x :: xs, [], b, h => by
    have : false = b := Option.some.inj h
    subst this
    exact ⟨fun j _ h => absurd h (by simp), by simp⟩
  | x :: xs, y :: ys, b, h => by
    unfold eqFs at h
    split at h
    · rename_i c d e1 e2
      have hb : (c && d) = b := Option.some.inj h
      obtain ⟨h1, h2⟩ := eqFs_all e2
      refine ⟨fun j j1 j2 => ?_, ?_⟩
      · cases j with
        | zero => exact ⟨c, by simpa using e1⟩
        | succ j => simpa using h1 j (by simpa using j1) (by simpa using j2)
      · have hm : min (xs.length + 1) (ys.length + 1) = min xs.length ys.length + 1 := by omega
        have hl : (xs.length + 1 == ys.length + 1) = (xs.length == ys.length) := by simp
        rw [List.length_cons, List.length_cons, hm, List.range_succ_eq_map, List.all_cons, List.all_map, hl]
        have q : ((fun j => (f ((x :: xs).getD j .non) ((y :: ys).getD j .non)).getD true) ∘ Nat.succ) = fun j => (f (xs.getD j .non) (ys.getD j .non)).getD true := by
          funext j
          simp
        rw [q, Bool.and_assoc, h2]
        have q0 : (f ((x :: xs).getD 0 .non) ((y :: ys).getD 0 .non)).getD true = c := by simp [e1]
        rw [q0, hb]
    · cases h
section
variable {X : Cx} {pins : List (Addr × Obj)} {σ : St} {H : Hp} {s : Shared} {S : Sto}
theorem eqF_same (I : Inv X pins σ H s) : ∀ (n : Nat) {wx wy : W} {v : V} {b : Bool}, Rep X.K H wx v → Rep X.K H wy v → RepS X.K H S → eqF S n wx wy = some b → b = true
  | 0, _, _, _, _, _, _, _, h => by cases h
  | n + 1, wx, wy, v, b, rx, ry, hS, h => by
    have list : ∀ {ws us : List W} {vs : List V} {b : Bool}, Reps X.K H ws vs → Reps X.K H us vs → eqFs (eqF S n) ws us = some b → b = true := by
      intro ws
      induction ws with
      | nil =>
        intro us vs b r1 r2 e
        cases r1
        cases r2
        exact (Option.some.inj e).symm
      | cons w ws ih =>
        intro us vs b r1 r2 e
        cases r1 with
        | cons a1 a2 =>
          cases r2 with
          | cons c1 c2 =>
            unfold eqFs at e
            split at e
            · rename_i c d e1 e2
              have q1 := eqF_same I n a1 c1 hS e1
              have q2 := ih a2 c2 e2
              have := Option.some.inj e
              rw [q1, q2] at this
              exact this.symm
            · cases e
    cases rx with
    | non => cases ry; exact (Option.some.inj h).symm
    | bl k => cases ry; have := Option.some.inj h; simpa using this.symm
    | int k => cases ry; have := Option.some.inj h; simpa using this.symm
    | str k => cases ry; have := Option.some.inj h; simpa using this.symm
    | ref a =>
      cases ry with
      | ref _ =>
        have h' : (match S a with
          | some (.lst xs) => match S a with
            | some (.lst ys) => eqFs (eqF S n) xs ys
            | _ => none
          | _ => none) = some b := h
        cases e : S a with
        | none => rw [e] at h'; cases h'
        | some o =>
          rw [e] at h'
          cases o with
          | lst ws =>
            obtain ⟨vs, _, r⟩ := hS a _ e
            exact list r r h'
          | dct _ => cases h'
          | ins _ _ => cases h'
      | scr _ => cases h
      | tup _ _ => cases h
    | scr f => cases ry <;> cases h
    | tup f hs =>
      cases ry with
      | ref _ => cases h
      | scr _ => cases h
      | tup g ks =>
        have e := I.tuple_inj (.of f) (.of g)
        subst e
        exact list hs ks h
theorem in1_units {A : Around} : A.in1.units = A.units + 1 := rfl
theorem eqF_ok (I : Inv X pins σ H s) (hS : RepS X.K H S) : ∀ (n : Nat) {A : Around} {wx wy : W} {x y : V} {u v : Value} {b : Bool}, A.units + n < cLine → Rep X.K H wx x → Rep X.K H wy y → RelV x u → RelV y v → eqF S n wx wy = some b →
    SeqAt.EqAt A s u v b ∧ SeqAt.RcAt A s u v b ∧ SeqAt.RcNeAt A s u v (!b)
  | 0, _, _, _, _, _, _, _, _, _, _, _, _, _, h => by cases h
  | n + 1, A, wx, wy, x, y, u, v, b, hu, rx, ry, ru, rv, h => by
    have hu0 : A.units < cLine := by omega
    have items : ∀ {ws zs : List W} {xs ys : List V} {us vs : List Value} {b : Bool}, Reps X.K H ws xs → Reps X.K H zs ys → Vals xs us → Vals ys vs → eqFs (eqF S n) ws zs = some b →
        (∀ j (h1 : j < us.toArray.size) (h2 : j < vs.toArray.size), SeqAt.EqAt A.in1 s us.toArray[j] vs.toArray[j] ((eqF S n (ws.getD j .non) (zs.getD j .non)).getD true)) ∧
        ((List.range (min us.toArray.size vs.toArray.size)).all (fun j => (eqF S n (ws.getD j .non) (zs.getD j .non)).getD true) && us.toArray.size == vs.toArray.size) = b := by
      intro ws zs xs ys us vs b r1 r2 q1 q2 e
      obtain ⟨h1, h2⟩ := eqFs_all e
      have l1 := r1.length
      have l2 := r2.length
      have l3 := q1.length
      have l4 := q2.length
      refine ⟨fun j j1 j2 => ?_, ?_⟩
      · rw [List.size_toArray] at j1 j2
        obtain ⟨c, hc⟩ := h1 j (by omega) (by omega)
        have jw : j < ws.length := by omega
        have jz : j < zs.length := by omega
        obtain ⟨x', ex, rx'⟩ := r1.get (List.getElem?_eq_getElem jw)
        obtain ⟨y', ey, ry'⟩ := r2.get (List.getElem?_eq_getElem jz)
        obtain ⟨u', eu, ru'⟩ := q1.get ex
        obtain ⟨v', ev, rv'⟩ := q2.get ey
        have e1 : us.toArray[j] = u' := by
          obtain ⟨_, e⟩ := List.getElem?_eq_some_iff.mp eu
          simpa using e
        have e2 : vs.toArray[j] = v' := by
          obtain ⟨_, e⟩ := List.getElem?_eq_some_iff.mp ev
          simpa using e
        have g1 : ws.getD j .non = ws[j] := by rw [List.getD_eq_getElem?_getD, List.getElem?_eq_getElem jw]; rfl
        have g2 : zs.getD j .non = zs[j] := by rw [List.getD_eq_getElem?_getD, List.getElem?_eq_getElem jz]; rfl
        rw [e1, e2, hc]
        rw [g1, g2] at hc
        exact (eqF_ok I hS n (by rw [in1_units]; omega) rx' ry' ru' rv' hc).1
      · rw [List.size_toArray, List.size_toArray, ← l3, ← l4, ← l1, ← l2]
        exact h2
    cases rx with
    | non =>
      cases (show u = Value.none from ru)
      cases ry with
      | non => cases (show v = Value.none from rv); cases h; exact ⟨.same _, .none_none, .none_none⟩
      | bl k => cases (show v = Value.bool k from rv); cases h; exact ⟨.none_bool _, .none_bool _, .none_bool _⟩
      | int k => obtain ⟨t, rfl⟩ := rv; cases h; exact ⟨.none_int _ _, .none_int _ _, .none_int _ _⟩
      | str k => obtain ⟨t, rfl⟩ := rv; cases h; exact ⟨.none_str _ _, .none_str _ _, .none_str _ _⟩
      | tup f hs => cases (show v = Value.ref _ from rv); cases h; obtain ⟨its, _, p, _⟩ := I.tuple (.of f); exact ⟨.none_tuple p hu0, .none_tuple p hu0, .none_tuple p hu0⟩
      | ref a =>
        cases (show v = Value.ref _ from rv)
        have h' : (match S a with
          | some (.lst _) => some false
          | _ => none) = some b := h
        cases e : S a with
        | none => rw [e] at h'; cases h'
        | some o =>
          rw [e] at h'
          cases o with
          | lst ws =>
            cases h'
            obtain ⟨vs, f, _⟩ := hS a _ e
            obtain ⟨its, _, p, _⟩ := I.list (.of f)
            exact ⟨.none_list p.isList hu0, .none_list p.isList hu0, .none_list p.isList hu0⟩
          | dct _ => cases h'
          | ins _ _ => cases h'
      | scr _ => cases h
    | bl k =>
      cases (show u = Value.bool k from ru)
      cases ry with
      | non => cases (show v = Value.none from rv); cases h; exact ⟨.bool_none _, .bool_none _, .bool_none _⟩
      | bl j => cases (show v = Value.bool j from rv); cases h; exact ⟨.bool_bool _ _, .bool_bool _ _, .bool_bool _ _⟩
      | int j => obtain ⟨t, rfl⟩ := rv; cases h; exact ⟨.bool_int _ _ _, .bool_int _ _ _, .bool_int _ _ _⟩
      | str j => obtain ⟨t, rfl⟩ := rv; cases h; exact ⟨.bool_str _ _ _, .bool_str _ _ _, .bool_str _ _ _⟩
      | tup f hs => cases (show v = Value.ref _ from rv); cases h; obtain ⟨its, _, p, _⟩ := I.tuple (.of f); exact ⟨.bool_tuple _ p hu0, .bool_tuple _ p hu0, .bool_tuple _ p hu0⟩
      | ref a => cases h
      | scr _ => cases h
    | int k =>
      obtain ⟨t0, rfl⟩ := ru
      cases ry with
      | non => cases (show v = Value.none from rv); cases h; exact ⟨.int_none _ _, .int_none _ _, .int_none _ _⟩
      | bl j => cases (show v = Value.bool j from rv); cases h; exact ⟨.int_bool _ _ _, .int_bool _ _ _, .int_bool _ _ _⟩
      | int j => obtain ⟨t, rfl⟩ := rv; cases h; exact ⟨.int_int _ _ _ _, .int_int _ _ _ _, .int_int _ _ _ _⟩
      | str j => obtain ⟨t, rfl⟩ := rv; cases h; exact ⟨.int_str _ _ _ _, .int_str _ _ _ _, .int_str _ _ _ _⟩
      | tup f hs => cases (show v = Value.ref _ from rv); cases h; obtain ⟨its, _, p, _⟩ := I.tuple (.of f); exact ⟨.int_tuple _ _ p hu0, .int_tuple _ _ p hu0, .int_tuple _ _ p hu0⟩
      | ref a => cases h
      | scr _ => cases h
    | str k =>
      obtain ⟨t0, rfl⟩ := ru
      cases ry with
      | non => cases (show v = Value.none from rv); cases h; exact ⟨.str_none _ _, .str_none _ _, .str_none _ _⟩
      | bl j => cases (show v = Value.bool j from rv); cases h; exact ⟨.str_bool _ _ _, .str_bool _ _ _, .str_bool _ _ _⟩
      | int j => obtain ⟨t, rfl⟩ := rv; cases h; exact ⟨.str_int _ _ _ _, .str_int _ _ _ _, .str_int _ _ _ _⟩
      | str j => obtain ⟨t, rfl⟩ := rv; cases h; exact ⟨.str_str _ _ _ _, .str_str _ _ _ _, .str_str _ _ _ _⟩
      | tup f hs => cases (show v = Value.ref _ from rv); cases h; obtain ⟨its, _, p, _⟩ := I.tuple (.of f); exact ⟨.str_tuple _ _ p hu0, .str_tuple _ _ p hu0, .str_tuple _ _ p hu0⟩
      | ref a => cases h
      | scr _ => cases h
    | @tup a xs ws f hs =>
      cases (show u = Value.ref a from ru)
      obtain ⟨its, q1, p, _⟩ := I.tuple (.of f)
      cases ry with
      | non => cases (show v = Value.none from rv); cases h; exact ⟨.tuple_none p hu0, .tuple_none p hu0, .tuple_none p hu0⟩
      | bl j => cases (show v = Value.bool j from rv); cases h; exact ⟨.tuple_bool _ p hu0, .tuple_bool _ p hu0, .tuple_bool _ p hu0⟩
      | int j => obtain ⟨t, rfl⟩ := rv; cases h; exact ⟨.tuple_int _ _ p hu0, .tuple_int _ _ p hu0, .tuple_int _ _ p hu0⟩
      | str j => obtain ⟨t, rfl⟩ := rv; cases h; exact ⟨.tuple_str _ _ p hu0, .tuple_str _ _ p hu0, .tuple_str _ _ p hu0⟩
      | @tup c ys zs g ks =>
        cases (show v = Value.ref c from rv)
        obtain ⟨its2, q2, p2, _⟩ := I.tuple (.of g)
        obtain ⟨h1, h2⟩ := items hs ks q1 q2 h
        have rc : SeqAt.RcAt A s (.ref a) (.ref c) b := by
          have := SeqAt.RcAt.tuples p p2 hu0 h1
          rw [h2] at this
          exact this
        have rn : SeqAt.RcNeAt A s (.ref a) (.ref c) (!b) := by
          have := SeqAt.RcNeAt.tuples p p2 hu0 h1
          rw [h2] at this
          exact this
        refine ⟨?_, rc, rn⟩
        by_cases e : a = c
        · subst e
          have := eqF_same I (n + 1) (.tup f hs) (.tup g ks) hS h
          rw [this]
          exact .same _
        · exact .of_refs e rc
      | ref c => cases h
      | scr _ => cases h
    | ref a =>
      cases (show u = Value.ref a from ru)
      cases ry with
      | non =>
        cases (show v = Value.none from rv)
        have h' : (match S a with
          | some (.lst _) => some false
          | _ => none) = some b := h
        cases e : S a with
        | none => rw [e] at h'; cases h'
        | some o =>
          rw [e] at h'
          cases o with
          | lst ws =>
            cases h'
            obtain ⟨vs, f, _⟩ := hS a _ e
            obtain ⟨its, _, p, _⟩ := I.list (.of f)
            exact ⟨.list_none p.isList hu0, .list_none p.isList hu0, .list_none p.isList hu0⟩
          | dct _ => cases h'
          | ins _ _ => cases h'
      | ref c =>
        cases (show v = Value.ref c from rv)
        have h' : (match S a with
          | some (.lst xs) => match S c with
            | some (.lst ys) => eqFs (eqF S n) xs ys
            | _ => none
          | _ => none) = some b := h
        cases e : S a with
        | none => rw [e] at h'; cases h'
        | some o =>
          rw [e] at h'
          cases o with
          | dct _ => cases h'
          | ins _ _ => cases h'
          | lst ws =>
            cases e2 : S c with
            | none => rw [e2] at h'; cases h'
            | some o2 =>
              rw [e2] at h'
              cases o2 with
              | dct _ => cases h'
              | ins _ _ => cases h'
              | lst zs =>
                obtain ⟨xs, f, hs⟩ := hS a _ e
                obtain ⟨ys, g, ks⟩ := hS c _ e2
                obtain ⟨its, q1, p, _⟩ := I.list (.of f)
                obtain ⟨its2, q2, p2, _⟩ := I.list (.of g)
                obtain ⟨h1, h2⟩ := items hs ks q1 q2 h'
                have both : SeqAt.RcAt A s (.ref a) (.ref c) b ∧ SeqAt.RcNeAt A s (.ref a) (.ref c) (!b) := by
                  by_cases hz : its.toArray.size = its2.toArray.size
                  · have t1 := SeqAt.RcAt.lists p.isList p2.isList hz hu0 h1
                    have t2 := SeqAt.RcNeAt.lists p.isList p2.isList hz hu0 h1
                    rw [← hz, Nat.min_self, beq_self_eq_true, Bool.and_true] at h2
                    rw [h2] at t1 t2
                    exact ⟨t1, t2⟩
                  · have hz' : (its.toArray.size != its2.toArray.size) = true := by simpa using hz
                    have hz2 : (its.toArray.size == its2.toArray.size) = false := by simpa using hz
                    rw [hz2, Bool.and_false] at h2
                    subst h2
                    exact ⟨.lists_lengths p.isList p2.isList hz' hu0, .lists_lengths p.isList p2.isList hz' hu0⟩
                refine ⟨?_, both.1, both.2⟩
                by_cases ee : a = c
                · subst ee
                  have := eqF_same I (n + 1) (.ref a) (.ref a) hS h
                  rw [this]
                  exact .same _
                · exact .of_refs ee both.1
      | _ => cases h
    | scr f => cases ry <;> cases h
end
end L2
end

section
set_option Elab.async false
set_option linter.all false
set_option maxRecDepth 100000
set_option maxHeartbeats 4000000
namespace L2
open PySem PySem.Spec PyProof.Rows

def oEq (neg : Bool) : W2 := fun x y S Q => match eqF S 60 x y with
  | some b => Q (.bl (if neg then !b else b)) S
  | none => False
def rEqW (K : PySem.W.Frag) (neg : Bool) : R2 := fun x y H Q => ∃ wx wy S b, Rep K H wx x ∧ Rep K H wy y ∧ RepS K H S ∧ eqF S 60 wx wy = some b ∧ Q (.bl (if neg then !b else b)) H
section
variable {X : Cx}
theorem op_eqW (hu : X.A.units + 60 < cLine) : OpR X (compareOp .Eq) (rEqW X.K false) := by
  intro pins s σ H x y v u Q I rx ry h
  obtain ⟨wx, wy, S, b, r1, r2, hS, e, q⟩ := h
  exact (eqF_ok I hS 60 hu r1 r2 rx ry e).2.1 _ _ _ _ ⟨.bl b, H, I, rfl, q⟩
theorem op_neW (hu : X.A.units + 60 < cLine) : OpR X (compareOp .NotEq) (rEqW X.K true) := by
  intro pins s σ H x y v u Q I rx ry h
  obtain ⟨wx, wy, S, b, r1, r2, hS, e, q⟩ := h
  exact (eqF_ok I hS 60 hu r1 r2 rx ry e).2.2 _ _ _ _ ⟨.bl (!b), H, I, rfl, q⟩
theorem opw_eq {K : PySem.W.Frag} {neg : Bool} : OpW K (rEqW K neg) (oEq neg) := fun H x y wx wy S Q QW rx ry hS h hQ => by
  unfold oEq at h
  split at h
  · rename_i b e
    exact ⟨wx, wy, S, b, rx, ry, hS, e, hQ _ S _ H .refl (.bl _) hS h⟩
  · exact h.elim
variable {a b c : Expr} {pos : Pos} {ta tb tc : WE}
theorem je_eq {k : Nat} (hr : Room k X.A) (ha : JE X a ta) (hb : JE X b tb) : JE X (.Compare a [.Eq] [b] pos) (wOp (oEq false) ta tb) := je_cmp (op_eqW (by have := hr.units; omega)) opw_eq ha hb (nomark b)
theorem jt_eq {k : Nat} (hr : Room k X.A) (ha : JE X a ta) (hb : JE X b tb) : JT X (.Compare a [.Eq] [b] pos) (wTb (wOp (oEq false) ta tb)) := jt_cmp (op_eqW (by have := hr.units; omega)) opw_eq ha hb (nomark b)
theorem jt_ne {k : Nat} (hr : Room k X.A) (ha : JE X a ta) (hb : JE X b tb) : JT X (.Compare a [.NotEq] [b] pos) (wTb (wOp (oEq true) ta tb)) := jt_cmp (op_neW (by have := hr.units; omega)) opw_eq ha hb (nomark b)

abbrev oLt : W2 := oInt0 fun i j => .bl (decide (i < j))
abbrev oGt : W2 := oInt0 fun i j => .bl (decide (j < i))
def oLe : W2
  | .int i, .int j, S, Q => Q (.bl (decide (i ≤ j))) S
  | .str i, .str j, S, Q => Q (.bl (!decide (j.cps.toList < i.cps.toList))) S
  | _, _, _, _ => False
theorem opw_le {K : PySem.W.Frag} : OpW K (fun x y H Q => rI0 (fun i j => .bl (decide (i ≤ j))) x y H Q ∨ (∃ i j, x = .str i ∧ y = .str j ∧ Q (.bl (!decide (j.cps.toList < i.cps.toList))) H)) oLe := fun H x y wx wy S Q QW rx ry hS h hQ => by
  cases rx with
  | int i =>
    cases ry with
    | int j => exact .inl ⟨i, j, rfl, rfl, hQ _ S _ H .refl (.bl _) hS h⟩
    | _ => exact h.elim
  | str i =>
    cases ry with
    | str j => exact .inr ⟨i, j, rfl, rfl, hQ _ S _ H .refl (.bl _) hS h⟩
    | _ => exact h.elim
  | _ => exact h.elim
theorem jt_lt (ha : JE X a ta) (hb : JE X b tb) : JT X (.Compare a [.Lt] [b] pos) (wTb (wOp oLt ta tb)) := jt_cmp op_lt opw_intb ha hb (nomark b)
theorem jt_gt (ha : JE X a ta) (hb : JE X b tb) : JT X (.Compare a [.Gt] [b] pos) (wTb (wOp oGt ta tb)) := jt_cmp op_gt opw_intb ha hb (nomark b)
theorem je_le (ha : JE X a ta) (hb : JE X b tb) : JE X (.Compare a [.LtE] [b] pos) (wOp oLe ta tb) := je_cmp (op_le.or op_le_str) opw_le ha hb (nomark b)
def wChain (r r' : W2) (a b c : WE) : WE := fun E σ S Q => a E σ S fun x S1 => b E σ S1 fun y S2 => r x y S2 fun z S3 => match z with
  | .bl true => c E σ S3 fun u S4 => r' y u S4 Q
  | .bl false => Q (.bl false) S3
  | _ => False

def oIs (neg : Bool) : W2
  | .non, .non, S, Q => Q (.bl (!neg)) S
  | .bl a, .bl b, S, Q => Q (.bl (if neg then a != b else a == b)) S
  | .bl _, .non, S, Q => Q (.bl neg) S
  | .int _, .non, S, Q => Q (.bl neg) S
  | .str _, .non, S, Q => Q (.bl neg) S
  | .tup _, .non, S, Q => Q (.bl neg) S
  | .ref _, .non, S, Q => Q (.bl neg) S
  | _, _, _, _ => False
end

def inF (S : Sto) (x : W) : List W → Option Bool
  | [] => some false
  | w :: ws => match eqF S 59 w x with
    | some a => match inF S x ws with
      | some b => some (a || b)
      | none => none
    | none => none
section
variable {X : Cx} {pins : List (Addr × Obj)} {σ : St} {H : Hp} {s : Shared} {S : Sto}
open Classical in
end
def oIn (neg : Bool) : W2 := fun x y S Q => match y with
  | .str j => match x with
    | .str i => Q (.bl (if neg then !(!(Builtin.Str.occurrences j i 0 j.length 1).isEmpty) else !(Builtin.Str.occurrences j i 0 j.length 1).isEmpty)) S
    | _ => False
  | .tup ws => match inF S x ws with
    | some b => Q (.bl (if neg then !b else b)) S
    | none => False
  | .ref a => lstW S a fun ws => match inF S x ws with
    | some b => Q (.bl (if neg then !b else b)) S
    | none => False
  | _ => False
section
variable {X : Cx} {a b c : Expr} {pos : Pos} {ta tb tc : WE}
end
end L2
end

section
set_option Elab.async false
set_option linter.all false
set_option maxRecDepth 100000
set_option maxHeartbeats 4000000
namespace L2
open PySem PySem.Spec PyProof.Rows

def oIx : W2 := fun x y S Q => match y with
  | .int i => match x with
    | .tup ws => match atI ws i with
      | some w => Q w S
      | none => False
    | .ref a => lstW S a fun ws => match atI ws i with
      | some w => Q w S
      | none => False
    | .scr ns => match atI ns i with
      | some n => Q (.int n) S
      | none => False
    | .str x => x.length ≤ sizeLine ∧ match atI x.cps.toList i with
      | some c => Q (.str ⟨#[c]⟩) S
      | none => False
    | _ => False
  | _ => False
theorem atI_rep {K : PySem.W.Frag} {H : Hp} {ws : List W} {vs : List V} {i : Int} {w : W} (r : Reps K H ws vs) (e : atI ws i = some w) : ∃ v, atI vs i = some v ∧ Rep K H w v := by
  unfold atI at e ⊢
  rw [← r.length]
  cases q : ixN ws.length i with
  | none => rw [q] at e; cases e
  | some j => rw [q] at e; exact r.get e
theorem atI_map {α β : Type} {f : α → β} {xs : List α} {i : Int} {x : α} (e : atI xs i = some x) : atI (xs.map f) i = some (f x) := by
  unfold atI at e ⊢
  rw [List.length_map]
  cases q : ixN xs.length i with
  | none => rw [q] at e; cases e
  | some j =>
    rw [q] at e
    show (xs.map f)[j]? = _
    rw [List.getElem?_map, show xs[j]? = some x from e]; rfl
theorem opw_ix {K : PySem.W.Frag} : OpW K (rIx K) oIx := fun H x y wx wy S Q QW rx ry hS h hQ => by
  cases ry with
  | int i =>
    cases rx with
    | tup f hs =>
      unfold oIx at h
      dsimp only at h
      split at h
      · obtain ⟨v, ev, r⟩ := atI_rep hs ‹_›
        exact .inr (.inl ⟨_, _, i, v, rfl, rfl, .of f, ev, hQ _ S _ H .refl r hS h⟩)
      · exact h.elim
    | ref a =>
      obtain ⟨ws, e, h⟩ := lstW_ex h
      obtain ⟨vs, f, hs⟩ := hS a _ e
      split at h
      · obtain ⟨v, ev, r⟩ := atI_rep hs ‹_›
        exact .inl ⟨_, _, i, v, rfl, rfl, .of f, ev, hQ _ S _ H .refl r hS h⟩
      · exact h.elim
    | scr f =>
      unfold oIx at h
      dsimp only at h
      split at h
      · exact .inl ⟨_, _, i, _, rfl, rfl, f.sq, atI_map ‹_›, hQ _ S _ H .refl (.int _) hS h⟩
      · exact h.elim
    | str z =>
      unfold oIx at h
      dsimp only at h
      obtain ⟨hz, h⟩ := h
      split at h
      · exact .inr (.inr ⟨z, i, _, rfl, rfl, hz, ‹_›, hQ _ S _ H .refl (.str _) hS h⟩)
      · exact h.elim
    | _ => exact h.elim
  | _ => exact h.elim
section
variable {X : Cx} {a b e : Expr} {pos p2 : Pos} {ta tb te : WE} {lo hi : Option Expr}
theorem je_ix (ha : JE X a ta) (hb : JE X b tb) (hs : PlainIx b := by intro _ _; rfl) : JE X (.Subscript a b pos) (wOp oIx ta tb) := fun E hE =>
  (pe_ix ix_seq (ha E hE) (hb E hE) hs).mono fun σ H Q h => lift_two h fun H2 x y wx wy S QW rx ry hS q hQ => opw_ix H2 x y wx wy S Q QW rx ry hS q hQ

abbrev WO := WX → WSt → Sto → (Option Int → Sto → Prop) → Prop
def liftO (K : PySem.W.Frag) (t : WSt → Sto → (Option Int → Sto → Prop) → Prop) : TO := fun σ H Q => ∃ σW S QW, RpSt K H σW σ ∧ RepS K H S ∧ t σW S QW ∧ ∀ b S' H', Ext H S H' S' → RepS K H' S' → QW b S' → Q b H'
def JO (X : Cx) (e : Option Expr) (t : WO) : Prop := ∀ E, Hook X E → PO X e (liftO X.K (t E))
def woN : WO := fun _ _ S Q => Q none S
def woS (t : WE) : WO := fun E σ S Q => t E σ S fun w S1 => match w with
  | .int i => Q (some i) S1
  | _ => False
theorem PO.mono {X : Cx} {e : Option Expr} {t t' : TO} (h : PO X e t) (q : ∀ σ H Q, t' σ H Q → t σ H Q) : PO X e t' := fun pins s σ H Q I z => h pins s σ H Q I (q σ H Q z)
theorem jo_none : JO X none woN := fun E hE => po_none.mono fun σ H Q ⟨σW, S, QW, hσ, hS, ht, hQ⟩ => hQ none S H .refl hS ht
theorem jo_some (h : JE X e te) : JO X (some e) (woS te) := fun E hE => (po_some (h E hE)).mono fun σ H Q ⟨σW, S, QW, hσ, hS, ht, hQ⟩ => ⟨σW, S, _, hσ, hS, ht, fun w S1 v H1 e1 r1 hS1 h1 => by
  cases r1 with
  | int i => exact ⟨i, rfl, hQ _ S1 H1 e1 hS1 h1⟩
  | _ => exact h1.elim⟩
def cutA {α : Type} (xs : List α) (lo hi : Option Int) : List α := (xs.drop (HT.sIx xs.length 0 lo)).take (HT.sIx xs.length xs.length hi - HT.sIx xs.length 0 lo)
theorem cutA_rep {K : PySem.W.Frag} {H : Hp} {ws : List W} {vs : List V} {lo hi : Option Int} (r : Reps K H ws vs) : Reps K H (cutA ws lo hi) (cutV vs lo hi) := by
  unfold cutA cutV
  rw [r.length]
  exact (r.drop _).take _
theorem cutA_map {α β : Type} {f : α → β} {xs : List α} {lo hi : Option Int} : cutA (xs.map f) lo hi = (cutA xs lo hi).map f := by
  unfold cutA
  rw [List.length_map, List.map_take, List.map_drop]
theorem getItem_tuple_whole {prog : Program} {w : World} {A : Around} {E : Value → Shared → Prop} {s : Shared} {t sl : Addr} {items : Array Value} {vl vu : Value} {lo hi : Option Int} {Q : Value → Shared → Prop} (ht : IsTup s.heap t items) (hs : s.heap.IsSliceOf sl vl vu .none) (pl : IsPart vl lo) (pu : IsPart vu hi)
    (hw : HT.sIx items.size 0 lo = 0 ∧ HT.sIx items.size items.size hi = items.size) (h : Q (.ref t) s) : wpAny (model prog w) A (getItem (.ref t) (.ref sl)) Q E s := by
  obtain ⟨os, hos, hcs, hds⟩ := id hs
  have hTs : s.TypeIs (.ref sl) "slice" := ⟨os, hos, hcs⟩
  unfold getItem
  try with_reducible refine wpAny_holding ?_
  first | refine wpAny_bind (wpAny_pure ?_) | skip
  refine wpAny_bind (wpAny_sequenceKey ht.typeIs (by decide) ?_)
  refine wpAny_bind (wpAny_callSpecial?_slot (name := Str.ofString "__getitem__") ht.typeIs PyProof.Rows.slot_tuple_getitem
    (wpAny_call_entry PyProof.Rows.slot_tuple_getitem ht.typeIs entry_tuple_getitem ?_ (args_tuple_getitem _ _)))
  show wpAny _ _ (Builtin.Tuple.tupleItemsOf (.ref t) >>= _) _ _ s
  refine wpAny_bind (tupleItemsOf_ ht ?_)
  refine wpAny_bind (wpAny_typeOf hTs ?_)
  rw [if_pos (by decide)]
  refine wpAny_bind (HT.sliceApplied_gen hs pl pu ?_)
  show wpAny _ _ (if (((HT.sIx items.size 0 lo : Nat) : Int) == 0 && (1 : Int) == 1 && (HT.sIx items.size items.size hi - HT.sIx items.size 0 lo) == items.size) = true then _ else _) _ _ s
  rw [hw.1, hw.2, if_pos (by simp)]
  unfold Builtin.Tuple.tupleIsExact
  refine wpAny_bind (wpAny_bind (wpAny_typeOf ht.typeIs (wpAny_pure ?_)))
  rw [if_pos (by decide)]
  exact wpAny_bind (wpAny_rule (wpAny_pure ⟨_, rfl, wpAny_pure h⟩))
theorem sl_tupW : SlR X (fun x lo hi H Q => ∃ a xs, x = .ref a ∧ SqT X.K H a xs ∧ ((HT.sIx xs.length 0 lo = 0 ∧ HT.sIx xs.length xs.length hi = xs.length) ∧ Q (.ref a) H ∨ ¬ (HT.sIx xs.length 0 lo = 0 ∧ HT.sIx xs.length xs.length hi = xs.length) ∧ ∀ p, H p = none → Q (.ref p) (upd H p (.tup (cutV xs lo hi))))) := by
  intro pins s σ H x v vl vu lo hi sl Q I rx hs pl pu h
  obtain ⟨a, xs, rfl, hx, ⟨hw, q⟩ | ⟨hw, q⟩⟩ := h
  · cases rx
    obtain ⟨its, r, ht, hz⟩ := I.tuple hx
    have hlen : its.toArray.size = xs.length := by rw [List.size_toArray]; exact r.length.symm
    refine ⟨"tuple", _, PyProof.Rows.slot_tuple_getitem.lookup, ht.typeIs, ?_⟩
    exact getItem_tuple_whole ht hs pl pu (by rw [hlen]; exact hw) ⟨.ref a, H, I, rfl, q⟩
  · exact sl_tup pins s σ H _ v vl vu lo hi sl Q I rx hs pl pu ⟨a, xs, rfl, hx, hw, q⟩
def oSl : W → Option Int → Option Int → Sto → WK → Prop
  | .tup ws, lo, hi, S, Q => Q (.tup (cutA ws lo hi)) S
  | .str z, lo, hi, S, Q => z.length ≤ sizeLine ∧ Q (.str (Txt.slice z lo hi)) S
  | .ref a, lo, hi, S, Q => lstW S a fun ws => ∀ p, S p = none → Q (.ref p) (put S p (.lst (cutA ws lo hi)))
  | .scr ns, lo, hi, S, Q => ∀ p, S p = none → Q (.ref p) (put S p (.lst ((cutA ns lo hi).map W.int)))
  | _, _, _, _, _ => False
def wSl (t : WE) (l h : WO) : WE := fun E σ S Q => t E σ S fun x S1 => l E σ S1 fun lo S2 => h E σ S2 fun hi S3 => oSl x lo hi S3 Q
theorem cutA_whole {α : Type} {xs : List α} {lo hi : Option Int} (h : HT.sIx xs.length 0 lo = 0 ∧ HT.sIx xs.length xs.length hi = xs.length) : cutA xs lo hi = xs := by
  unfold cutA
  rw [h.1, h.2, List.drop_zero, Nat.sub_zero, List.take_length]
theorem je_sl {tl th : WO} (he : JE X e te) (hl : JO X lo tl) (hh : JO X hi th) : JE X (.Subscript e (.Slice lo hi none p2) pos) (wSl te tl th) := fun E hE =>
  (pe_slice (sl_tupW.or (sl_str.or sl_list)) (he E hE) (hl E hE) (hh E hE)).mono fun σ H Q ⟨σW, S, QW, hσ, hS, ht, hQ⟩ =>
    ⟨σW, S, _, hσ, hS, ht, fun w S1 v H1 e1 r1 hS1 h1 => ⟨σW, S1, _, hσ.ext e1, hS1, h1, fun lo S2 H2 e2 hS2 h2 => ⟨σW, S2, _, (hσ.ext e1).ext e2, hS2, h2, fun hi S3 H3 e3 hS3 h3 => by
      have hQ' := hQ.from (e1.trans (e2.trans e3))
      have r3 := (r1.ext e2).ext e3
      cases r3 with
      | @tup a vs ws f hs =>
        refine .inl ⟨a, vs, rfl, .of f, ?_⟩
        by_cases hw : HT.sIx vs.length 0 lo = 0 ∧ HT.sIx vs.length vs.length hi = vs.length
        · refine .inl ⟨hw, hQ' (.tup ws) S3 _ H3 .refl (.tup f hs) hS3 ?_⟩
          have := cutA_whole (xs := ws) (lo := lo) (hi := hi) (by rw [hs.length]; exact hw)
          have h3' : QW (.tup (cutA ws lo hi)) S3 := h3
          rw [this] at h3'
          exact h3'
        · exact .inr ⟨hw, fun p hp => hQ' _ S3 _ _ (.new hp) (.tup upd_same ((cutA_rep hs).ext (.new (S := S3) hp))) (hS3.new hp) h3⟩
      | str z => exact .inr (.inl ⟨z, rfl, h3.1, hQ' _ S3 _ H3 .refl (.str _) hS3 h3.2⟩)
      | ref a =>
        obtain ⟨ws, ea, h⟩ := lstW_ex h3
        obtain ⟨vs, f, hs⟩ := hS3 a _ ea
        exact .inr (.inr ⟨a, vs, rfl, .of f, fun p hp => hQ' _ _ _ _ (.newS hp) (.ref p) (hS3.put_lst hp ((cutA_rep hs).ext (.new (S := S3) hp))) (h p (hS3.free hp))⟩)
      | @scr a ns f =>
        refine .inr (.inr ⟨a, _, rfl, f.sq, fun p hp => hQ' _ _ _ _ (.newS hp) (.ref p) (hS3.put_lst hp ?_) (h3 p (hS3.free hp))⟩)
        have q : cutV (ns.map V.int) lo hi = (cutA ns lo hi).map V.int := cutA_map
        rw [q]
        exact Reps.ofInts _
      | _ => exact h3.elim⟩⟩⟩
def wSlL (t : WE) (l h : WO) : WL := fun E σ S Q => t E σ S fun x S1 => l E σ S1 fun lo S2 => h E σ S2 fun hi S3 => match x with
  | .ref a => lstW S3 a fun ws => Q (cutA ws lo hi) S3
  | .scr ns => Q ((cutA ns lo hi).map W.int) S3
  | _ => False
theorem jl_sl {tl th : WO} (he : JE X e te) (hl : JO X lo tl) (hh : JO X hi th) : JL X (.Subscript e (.Slice lo hi none p2) pos) (wSlL te tl th) := fun E hE =>
  (pe_slice sl_list (he E hE) (hl E hE) (hh E hE)).mono fun σ H Q ⟨σW, S, QW, hσ, hS, ht, hQ⟩ =>
    ⟨σW, S, _, hσ, hS, ht, fun w S1 v H1 e1 r1 hS1 h1 => ⟨σW, S1, _, hσ.ext e1, hS1, h1, fun lo S2 H2 e2 hS2 h2 => ⟨σW, S2, _, (hσ.ext e1).ext e2, hS2, h2, fun hi S3 H3 e3 hS3 h3 => by
      have e' := e1.trans (e2.trans e3)
      have r3 := (r1.ext e2).ext e3
      cases r3 with
      | ref a =>
        obtain ⟨ws, ea, h⟩ := lstW_ex h3
        obtain ⟨vs, f, hs⟩ := hS3 a _ ea
        exact ⟨a, vs, rfl, .of f, fun p hp => hQ _ S3 _ p _ (e'.trans (.new hp)) (e'.free hp) upd_same (hS3.free hp) ((cutA_rep hs).ext (.new (S := S3) hp)) (hS3.new hp) h⟩
      | @scr a ns f =>
        refine ⟨a, _, rfl, f.sq, fun p hp => hQ _ S3 _ p _ (e'.trans (.new hp)) (e'.free hp) upd_same (hS3.free hp) ?_ (hS3.new hp) h3⟩
        have q : cutV (ns.map V.int) lo hi = (cutA ns lo hi).map V.int := cutA_map
        rw [q]
        exact Reps.ofInts _
      | _ => exact h3.elim⟩⟩⟩
end

abbrev WF := List W → Sto → WK → Prop
def wB (f : WF) (t : WA) : WE := fun E σ S Q => t E σ S fun ws S1 => f ws S1 Q
def CallW (K : PySem.W.Frag) (r : List V → Hp → VK → Prop) (f : WF) : Prop := ∀ H vs ws S (Q : VK) (QW : WK), Reps K H ws vs → RepS K H S → f ws S QW → Wish K H S QW Q → r vs H Q
def wBL (f : WF) (t : WL) : WE := fun E σ S Q => t E σ S fun ws S1 => f ws S1 Q
def CallL (K : PySem.W.Frag) (r : List V → Hp → VK → Prop) (f : WF) : Prop := ∀ H a vs ws S (Q : VK) (QW : WK), H a = some (.lst vs) → S a = none → Reps K H ws vs → RepS K H S → f ws S QW → Wish K H S QW Q → r [.ref a] H Q
section
variable {X : Cx} {x : Str} {p pos : Pos} {e : Expr} {es : List Expr} {t : WA} {tl : WL} {id T : String} {r : List V → Hp → VK → Prop} {f : WF}
theorem je_blt (hc : CallR X (.builtin id) r) (hw : CallW X.K r f) (hg : Gl X x) (hm : X.mg x = none) (hv : bootBuiltins x = some (.builtin id)) (ha : JA X (e :: es) t) (hn : x ≠ "__name__" := by decide) (hdb : (x == ("__debug__" : Str)) = false := by decide)
    (he : starEach (e :: es) X.env = (false, eval e X.env) :: starEach es X.env := by rfl) (hpl : (backTo pos (starEach es X.env)).any (·.1) = false := by rfl) : JE X (.Call (.Name x p) (e :: es) [] pos) (wB f t) := fun E hE =>
  (pe_callB hc hg hm hv (ha E hE) hn hdb he hpl).mono fun σ H Q ⟨σW, S, QW, hσ, hS, ht, hQ⟩ => ⟨σW, S, _, hσ, hS, ht, fun ws S1 vs H1 e1 r1 hS1 h1 => hw H1 vs ws S1 Q QW r1 hS1 h1 (hQ.from e1)⟩
theorem je_ty (hc : CallR X (.type T) r) (hw : CallW X.K r f) (hg : Gl X x) (hm : X.mg x = none) (hv : bootBuiltins x = some (.type T)) (ha : JA X (e :: es) t) (hn : x ≠ "__name__" := by decide) (hdb : (x == ("__debug__" : Str)) = false := by decide)
    (he : starEach (e :: es) X.env = (false, eval e X.env) :: starEach es X.env := by rfl) (hpl : (backTo pos (starEach es X.env)).any (·.1) = false := by rfl) : JE X (.Call (.Name x p) (e :: es) [] pos) (wB f t) := fun E hE =>
  (pe_callTy hc hg hm hv (ha E hE) hn hdb he hpl).mono fun σ H Q ⟨σW, S, QW, hσ, hS, ht, hQ⟩ => ⟨σW, S, _, hσ, hS, ht, fun ws S1 vs H1 e1 r1 hS1 h1 => hw H1 vs ws S1 Q QW r1 hS1 h1 (hQ.from e1)⟩
theorem je_tyL (hc : CallR X (.type T) r) (hw : CallL X.K r f) (hg : Gl X x) (hm : X.mg x = none) (hv : bootBuiltins x = some (.type T)) (ha : JL X e tl) (hn : x ≠ "__name__" := by decide) (hdb : (x == ("__debug__" : Str)) = false := by decide)
    (he : starEach [e] X.env = (false, eval e X.env) :: starEach [] X.env := by rfl) (hpl : (backTo pos (starEach [] X.env)).any (·.1) = false := by rfl) : JE X (.Call (.Name x p) [e] [] pos) (wBL f tl) := fun E hE =>
  (pe_callTy hc hg hm hv (pa_cons (ha E hE) pa_nil he) hn hdb he hpl).mono fun σ H Q ⟨σW, S, QW, hσ, hS, ht, hQ⟩ => ⟨σW, S, _, hσ, hS, ht, fun ws S1 vs a H1 e1 fa ea na r1 hS1 h1 => hw H1 a vs ws S1 Q QW ea na r1 hS1 h1 (hQ.from e1)⟩

def fLen : WF := fun ws S Q => match ws with
  | [.tup us] => Q (.int us.length) S
  | [.ref a] => lstW S a fun us => Q (.int us.length) S
  | [.scr ns] => Q (.int ns.length) S
  | [.str z] => z.length ≤ sizeLine ∧ Q (.int z.length) S
  | _ => False
theorem callw_len {K : PySem.W.Frag} : CallW K (fun xs H Q => (∃ p ys, xs = [.ref p] ∧ (SqL K H p ys ∨ SqT K H p ys) ∧ Q (.int ys.length) H) ∨ ∃ z, xs = [.str z] ∧ z.length ≤ sizeLine ∧ Q (.int z.length) H) fLen := fun H vs ws S Q QW r hS h hQ => by
  cases r with
  | nil => exact h.elim
  | cons r1 r2 =>
    cases r2 with
    | cons _ _ => cases r1 <;> exact h.elim
    | nil =>
      cases r1 with
      | tup f hs => exact .inl ⟨_, _, rfl, .inr (.of f), by rw [← hs.length]; exact hQ _ S _ H .refl (.int _) hS h⟩
      | ref a =>
        obtain ⟨us, e, h⟩ := lstW_ex h
        obtain ⟨vs, f, hs⟩ := hS a _ e
        exact .inl ⟨_, _, rfl, .inl (.of f), by rw [← hs.length]; exact hQ _ S _ H .refl (.int _) hS h⟩
      | scr f => exact .inl ⟨_, _, rfl, .inl f.sq, by rw [List.length_map]; exact hQ _ S _ H .refl (.int _) hS h⟩
      | str z => exact .inr ⟨z, rfl, h.1, hQ _ S _ H .refl (.int _) hS h.2⟩
      | _ => exact h.elim
theorem je_len (hg : Gl X "len") (hm : X.mg "len" = none) (ha : JA X (e :: es) t) 
    (he : starEach (e :: es) X.env = (false, eval e X.env) :: starEach es X.env := by rfl) (hpl : (backTo pos (starEach es X.env)).any (·.1) = false := by rfl) : JE X (.Call (.Name "len" p) (e :: es) [] pos) (wB fLen t) :=
  je_blt (call_len_seq.or call_len_str) callw_len hg hm PySem.boot_len ha (by decide) (by decide) he hpl

def fTuple : WF := fun ws S Q => match ws with
  | [.tup us] => Q (.tup us) S
  | [.ref a] => lstW S a fun us => Q (.tup us) S
  | _ => False
def fTupleL : WF := fun ws S Q => Q (.tup ws) S
theorem calll_tuple {K : PySem.W.Frag} : CallL K (fun xs H Q => ∃ p ys, xs = [.ref p] ∧ ((SqL K H p ys ∧ ∀ l, H l = none → Q (.ref l) (upd H l (.tup ys))) ∨ (SqT K H p ys ∧ Q (.ref p) H))) fTupleL := fun H a vs ws S Q QW ea na r hS h hQ =>
  ⟨a, vs, rfl, .inl ⟨.of ea, fun l hl => hQ _ S _ _ (.new hl) (.tup upd_same (r.ext (.new (S := S) hl))) (hS.new hl) h⟩⟩
def wListOf (t : WE) : WL := fun E σ S Q => t E σ S fun w S1 => match w with
  | .tup ws => Q ws S1
  | .ref a => lstW S1 a fun ws => Q ws S1
  | .scr ns => Q (ns.map W.int) S1
  | _ => False
def blsOf : List W → Option (List Bool)
  | [] => some []
  | .bl b :: ws => (blsOf ws).map (b :: ·)
  | _ => none
def fAllL : WF := fun ws S Q => match blsOf ws with
  | some bs => Q (.bl (bs.all _root_.id)) S
  | none => False
def tyW : W → Sto → (String → Prop) → Prop
  | .non, _, Q => Q "NoneType"
  | .bl _, _, Q => Q "bool"
  | .int _, _, Q => Q "int"
  | .str _, _, Q => Q "str"
  | .tup _, _, Q => Q "tuple"
  | .ref a, S, Q => lstW S a fun _ => Q "list"
  | .scr _, _, _ => False
def subTy (A B : String) : Bool := A == B || (A == "bool" && B == "int")
def wIsi (T : String) (t : WE) : WE := fun E σ S Q => t E σ S fun w S1 => tyW w S1 fun A => Q (.bl (subTy A T)) S1
theorem je_isi {a : Expr} {ta : WE} {p2 : Pos} {T : Str} {T' : String} (hg : Gl X "isinstance") (hm : X.mg "isinstance" = none) (hgT : Gl X T) (hmT : X.mg T = none) (hv : bootBuiltins T = some (.type T')) (ha : JE X a ta) (hn : T ≠ "__name__") (hd : (T == ("__debug__" : Str)) = false)
    (hk : ∀ A ∈ ["NoneType", "bool", "int", "str", "tuple", "list"], PySem.W.kitOne X.K (.type A) (.type T') = some (subTy A T'))
    (he : starEach [a, .Name T p2] X.env = (false, eval a X.env) :: starEach [.Name T p2] X.env := by rfl) (he2 : starEach [.Name T p2] X.env = (false, eval (.Name T p2) X.env) :: starEach [] X.env := by rfl) (hpl : (backTo pos (starEach [.Name T p2] X.env)).any (·.1) = false := by rfl) :
    JE X (.Call (.Name "isinstance" p) [a, .Name T p2] [] pos) (wIsi T' ta) := fun E hE =>
  (pe_callB call_isi hg hm PyProof.Rows.boot_isinstance (pa_cons (ha E hE) (pa_cons (pe_bltn (v := .ty T') hgT hmT hv rfl hn hd) pa_nil he2) he) (by decide) (by decide) he hpl).mono fun σ H Q ⟨σW, S, QW, hσ, hS, ht, hQ⟩ => ⟨σW, S, _, hσ, hS, ht, fun w S1 v H1 e1 r1 hS1 h1 => by
    have fin : ∀ {t : Value} (A : String), t = .type A → A ∈ ["NoneType", "bool", "int", "str", "tuple", "list"] → TyOf X.K H1 v t → QW (.bl (subTy A T')) S1 → ∃ x t c b, [v, V.ty T'] = [x, .ty c] ∧ TyOf X.K H1 x t ∧ PySem.W.kitOne X.K t (.type c) = some b ∧ Q (.bl b) H1 := fun A e hA ty q => by
      subst e
      exact ⟨v, _, T', _, rfl, ty, hk A hA, hQ _ S1 _ H1 e1 (.bl _) hS1 q⟩
    cases r1 with
    | non => exact fin _ rfl (by simp) .non h1
    | bl b => exact fin _ rfl (by simp) (.bl b) h1
    | int i => exact fin _ rfl (by simp) (.int i) h1
    | str z => exact fin _ rfl (by simp) (.str z) h1
    | tup f hs => exact fin _ rfl (by simp) (.tup f) h1
    | ref a =>
      obtain ⟨ws, ea, h⟩ := lstW_ex h1
      obtain ⟨vs, f, hs⟩ := hS1 a _ ea
      exact fin _ rfl (by simp) (.lst f) h
    | scr f => exact h1.elim⟩
end
end L2
end

section
set_option Elab.async false
set_option linter.all false
set_option maxRecDepth 100000
set_option maxHeartbeats 4000000
namespace L2
open PySem PySem.Spec PyProof.Rows

abbrev WMf := W → List W → Sto → WK → Prop
def rvL : W → Sto → Prop
  | .ref a, S => lstW S a fun _ => True
  | _, _ => False
def rvS : W → Sto → Prop
  | .str _, _ => True
  | _, _ => False
def wM (rv : W → Sto → Prop) (f : WMf) (to : WE) (t : WA) : WE := fun E σ S Q => to E σ S fun w S1 => rv w S1 ∧ t E σ S1 fun ws S2 => f w ws S2 Q
def wML (rv : W → Sto → Prop) (f : WMf) (to : WE) (t : WL) : WE := fun E σ S Q => to E σ S fun w S1 => rv w S1 ∧ t E σ S1 fun ws S2 => f w ws S2 Q
def MtW (K : PySem.W.Frag) (r : V → List V → Hp → VK → Prop) (f : WMf) : Prop := ∀ H x w vs ws S (Q : VK) (QW : WK), Rep K H w x → Reps K H ws vs → RepS K H S → f w ws S QW → Wish K H S QW Q → r x vs H Q
def MtL (K : PySem.W.Frag) (r : V → List V → Hp → VK → Prop) (f : WMf) : Prop := ∀ H x w a vs ws S (Q : VK) (QW : WK), Rep K H w x → H a = some (.lst vs) → S a = none → Reps K H ws vs → RepS K H S → f w ws S QW → Wish K H S QW Q → r x [.ref a] H Q
def RvOk (K : PySem.W.Frag) (T : String) (rv : W → Sto → Prop) : Prop := ∀ H w v S, Rep K H w v → RepS K H S → rv w S → tyV K T v H
theorem rvL_ok {K : PySem.W.Frag} : RvOk K "list" rvL := fun H w v S r hS h => by
  cases r with
  | ref a =>
    obtain ⟨ws, e, _⟩ := lstW_ex h
    obtain ⟨vs, f, _⟩ := hS a _ e
    exact .inl ⟨rfl, vs, .of f⟩
  | _ => exact h.elim
theorem rvS_ok {K : PySem.W.Frag} : RvOk K "str" rvS := fun H w v S r hS h => by
  cases r with
  | str x => exact rfl
  | _ => exact h.elim
section
variable {X : Cx} {o e : Expr} {es : List Expr} {to : WE} {t : WA} {tl : WL} {name : Str} {apos cpos : Pos} {id T : String} {r : V → List V → Hp → VK → Prop} {f : WMf} {rv : W → Sto → Prop}
theorem je_m (pa : PlainAttrs T) (slot : Slot T name id) (hty : typeOf (.builtin id) = pure (.type "method_descriptor")) (hrv : RvOk X.K T rv) (hm : MtR X id r) (hw : MtW X.K r f) (ho : JE X o to) (ha : JA X (e :: es) t)
    (hbase : attributeBase o name X.env (eval o X.env) = eval o X.env := by rfl)
    (hfew : ((backTo cpos (starEach (e :: es) X.env)).all (fun x => !x.1) && (backToKw cpos (keywordEach [] X.env)).all (fun x => x.1.isSome)
      && decide ((e :: es).length + ([] : List Keyword).length + (if ([] : List Keyword).isEmpty then 0 else 1) < 30)) = true := by rfl)
    (hline : (apos.endLine == cpos.line) = true := by rfl) (hs : starEach (e :: es) X.env = (false, eval e X.env) :: starEach es X.env := by rfl) (hplain : (backTo cpos (starEach es X.env)).any (·.1) = false := by rfl) :
    JE X (.Call (.Attribute o name apos) (e :: es) [] cpos) (wM rv f to t) := fun E hE =>
  (pe_bm pa slot hty hm (ho E hE) (ha E hE) hbase hfew hline hs hplain).mono fun σ H Q ⟨σW, S, QW, hσ, hS, ht, hQ⟩ => ⟨σW, S, _, hσ, hS, ht, fun w S1 v H1 e1 r1 hS1 h1 =>
    ⟨hrv H1 w v S1 r1 hS1 h1.1, σW, S1, _, hσ.ext e1, hS1, h1.2, fun ws S2 vs H2 e2 r2 hS2 h2 => hw H2 v w vs ws S2 Q QW (r1.ext e2) r2 hS2 h2 (hQ.from (e1.trans e2))⟩⟩
theorem je_mL (pa : PlainAttrs T) (slot : Slot T name id) (hty : typeOf (.builtin id) = pure (.type "method_descriptor")) (hrv : RvOk X.K T rv) (hm : MtR X id r) (hw : MtL X.K r f) (ho : JE X o to) (ha : JL X e tl)
    (hbase : attributeBase o name X.env (eval o X.env) = eval o X.env := by rfl)
    (hfew : ((backTo cpos (starEach [e] X.env)).all (fun x => !x.1) && (backToKw cpos (keywordEach [] X.env)).all (fun x => x.1.isSome)
      && decide ([e].length + ([] : List Keyword).length + (if ([] : List Keyword).isEmpty then 0 else 1) < 30)) = true := by rfl)
    (hline : (apos.endLine == cpos.line) = true := by rfl) (hs : starEach [e] X.env = (false, eval e X.env) :: starEach [] X.env := by rfl) (hplain : (backTo cpos (starEach [] X.env)).any (·.1) = false := by rfl) :
    JE X (.Call (.Attribute o name apos) [e] [] cpos) (wML rv f to tl) := fun E hE =>
  (pe_bm pa slot hty hm (ho E hE) (pa_cons (ha E hE) pa_nil hs) hbase hfew hline hs hplain).mono fun σ H Q ⟨σW, S, QW, hσ, hS, ht, hQ⟩ => ⟨σW, S, _, hσ, hS, ht, fun w S1 v H1 e1 r1 hS1 h1 =>
    ⟨hrv H1 w v S1 r1 hS1 h1.1, σW, S1, _, hσ.ext e1, hS1, h1.2, fun ws S2 vs a H2 e2 fa ea na r2 hS2 h2 => hw H2 v w a vs ws S2 Q QW (r1.ext e2) ea na r2 hS2 h2 (hQ.from (e1.trans e2))⟩⟩
theorem je_m0 (pa : PlainAttrs T) (slot : Slot T name id) (hty : typeOf (.builtin id) = pure (.type "method_descriptor")) (hrv : RvOk X.K T rv) (hm : MtR X id r) (hw : MtW X.K r f) (ho : JE X o to)
    (hbase : attributeBase o name X.env (eval o X.env) = eval o X.env := by rfl) (hline : (apos.endLine == cpos.line) = true := by rfl) : JE X (.Call (.Attribute o name apos) [] [] cpos) (wM rv f to waNil) := fun E hE =>
  (pe_bm0 pa slot hty hm (ho E hE) hbase hline).mono fun σ H Q ⟨σW, S, QW, hσ, hS, ht, hQ⟩ => ⟨σW, S, _, hσ, hS, ht, fun w S1 v H1 e1 r1 hS1 h1 =>
    ⟨hrv H1 w v S1 r1 hS1 h1.1, hw H1 v w [] [] S1 Q QW r1 .nil hS1 h1.2 (hQ.from e1)⟩⟩

def mAppend : WMf := fun w ws S Q => match w with
  | .ref a => lstW S a fun xs => match ws with
    | [y] => xs.length < sizeLine ∧ Q .non (put S a (.lst (xs ++ [y])))
    | _ => False
  | _ => False
theorem mtw_append {K : PySem.W.Frag} : MtW K rAppend mAppend := fun H x w vs ws S Q QW r rs hS h hQ => by
  cases r with
  | ref a =>
    obtain ⟨xs, ea, h⟩ := lstW_ex h
    obtain ⟨us, f, hs⟩ := hS a _ ea
    cases rs with
    | nil => exact h.elim
    | cons r1 r2 =>
      cases r2 with
      | cons _ _ => exact h.elim
      | nil =>
        obtain ⟨e, hS'⟩ := hS.set_lst ea (hs.append (.one r1))
        exact ⟨a, us, _, rfl, rfl, f, by rw [← hs.length]; exact h.1, hQ _ _ _ _ e .non hS' h.2⟩
  | _ => exact h.elim
theorem je_append (ho : JE X o to) (ha : JA X (e :: es) t)
    (hbase : attributeBase o "append" X.env (eval o X.env) = eval o X.env := by rfl)
    (hfew : ((backTo cpos (starEach (e :: es) X.env)).all (fun x => !x.1) && (backToKw cpos (keywordEach [] X.env)).all (fun x => x.1.isSome)
      && decide ((e :: es).length + ([] : List Keyword).length + (if ([] : List Keyword).isEmpty then 0 else 1) < 30)) = true := by rfl)
    (hline : (apos.endLine == cpos.line) = true := by rfl) (hs : starEach (e :: es) X.env = (false, eval e X.env) :: starEach es X.env := by rfl) (hplain : (backTo cpos (starEach es X.env)).any (·.1) = false := by rfl) :
    JE X (.Call (.Attribute o "append" apos) (e :: es) [] cpos) (wM rvL mAppend to t) := je_m PySem.F.plainAttrs_list PySem.F.slot_list_append PySem.F.type_list_append rvL_ok mt_append mtw_append ho ha hbase hfew hline hs hplain
def mPop : WMf := fun w ws S Q => match w with
  | .ref a => lstW S a fun xs => match ws with
    | [] => match xs[xs.length - 1]? with
      | some y => Q y (put S a (.lst xs.dropLast))
      | none => False
    | _ => False
  | _ => False
theorem mtw_pop {K : PySem.W.Frag} : MtW K rPop mPop := fun H x w vs ws S Q QW r rs hS h hQ => by
  cases r with
  | ref a =>
    obtain ⟨xs, ea, h⟩ := lstW_ex h
    obtain ⟨us, f, hs⟩ := hS a _ ea
    cases rs with
    | cons _ _ => exact h.elim
    | nil =>
      dsimp only at h
      split at h
      · rename_i y ey
        obtain ⟨v, ev, rv⟩ := hs.get ey
        obtain ⟨e, hS'⟩ := hS.set_lst ea hs.dropLast
        exact ⟨a, us, v, rfl, rfl, f, by rw [← hs.length]; exact ev, hQ _ _ _ _ e (rv.ext e) hS' h⟩
      · exact h.elim
  | _ => exact h.elim
theorem je_pop (ho : JE X o to) (hbase : attributeBase o "pop" X.env (eval o X.env) = eval o X.env := by rfl) (hline : (apos.endLine == cpos.line) = true := by rfl) : JE X (.Call (.Attribute o "pop" apos) [] [] cpos) (wM rvL mPop to waNil) :=
  je_m0 PySem.F.plainAttrs_list PySem.F.slot_list_pop PySem.F.type_list_pop rvL_ok mt_pop mtw_pop ho hbase hline
def mExtend : WMf := fun w ws S Q => match w with
  | .ref a => lstW S a fun xs => match ws with
    | [.tup ys] => xs.length + ys.length ≤ sizeLine ∧ Q .non (put S a (.lst (xs ++ ys)))
    | [.ref b] => lstW S b fun ys => xs.length + ys.length ≤ sizeLine ∧ Q .non (put S a (.lst (xs ++ ys)))
    | _ => False
  | _ => False
theorem mtw_extend {K : PySem.W.Frag} : MtW K (fun x vs H Q => rExtend x vs H Q ∨ rExtendT K x vs H Q) mExtend := fun H x w vs ws S Q QW r rs hS h hQ => by
  cases r with
  | ref a =>
    obtain ⟨xs, ea, h⟩ := lstW_ex h
    obtain ⟨us, f, hs⟩ := hS a _ ea
    cases rs with
    | nil => exact h.elim
    | cons r1 r2 =>
      cases r2 with
      | cons _ _ => cases r1 <;> exact h.elim
      | nil =>
        cases r1 with
        | tup g ks =>
          obtain ⟨e, hS'⟩ := hS.set_lst ea (hs.append ks)
          exact .inr ⟨a, _, us, _, rfl, rfl, f, .of g, by rw [← hs.length, ← ks.length]; exact h.1, hQ _ _ _ _ e .non hS' h.2⟩
        | ref b =>
          obtain ⟨ys, eb, h⟩ := lstW_ex h
          obtain ⟨zs, g, ks⟩ := hS b _ eb
          obtain ⟨e, hS'⟩ := hS.set_lst ea (hs.append ks)
          exact .inl ⟨a, b, us, zs, rfl, rfl, f, g, by rw [← hs.length, ← ks.length]; exact h.1, hQ _ _ _ _ e .non hS' h.2⟩
        | _ => exact h.elim
  | _ => exact h.elim
theorem je_extend (ho : JE X o to) (ha : JA X (e :: es) t)
    (hbase : attributeBase o "extend" X.env (eval o X.env) = eval o X.env := by rfl)
    (hfew : ((backTo cpos (starEach (e :: es) X.env)).all (fun x => !x.1) && (backToKw cpos (keywordEach [] X.env)).all (fun x => x.1.isSome)
      && decide ((e :: es).length + ([] : List Keyword).length + (if ([] : List Keyword).isEmpty then 0 else 1) < 30)) = true := by rfl)
    (hline : (apos.endLine == cpos.line) = true := by rfl) (hs : starEach (e :: es) X.env = (false, eval e X.env) :: starEach es X.env := by rfl) (hplain : (backTo cpos (starEach es X.env)).any (·.1) = false := by rfl) :
    JE X (.Call (.Attribute o "extend" apos) (e :: es) [] cpos) (wM rvL mExtend to t) := je_m PySem.F.plainAttrs_list PySem.F.slot_list_extend PySem.F.type_list_extend rvL_ok (MtR.or mt_extend mt_extendT) mtw_extend ho ha hbase hfew hline hs hplain
def mExtendL : WMf := fun w ws S Q => match w with
  | .ref a => lstW S a fun xs => xs.length + ws.length ≤ sizeLine ∧ Q .non (put S a (.lst (xs ++ ws)))
  | _ => False
def strsOf : List W → Option (List Str)
  | [] => some []
  | .str b :: ws => (strsOf ws).map (b :: ·)
  | _ => none
theorem strs_rep {K : PySem.W.Frag} {H : Hp} : ∀ {ws : List W} {vs : List V} {bs : List Str}, Reps K H ws vs → strsOf ws = some bs → vs = bs.map V.str
  | [], _, _, .nil, e => by have := Option.some.inj e; subst this; rfl
  | w :: ws, _, _, .cons r rs, e => by
    cases r with
    | str b =>
      have e' : (strsOf ws).map (b :: ·) = some _ := e
      cases q : strsOf ws with
      | none => rw [q] at e'; cases e'
      | some cs =>
        rw [q] at e'
        have := Option.some.inj e'
        subst this
        rw [List.map_cons, strs_rep rs q]
    | _ => cases e
def mJoinL : WMf := fun w ws S Q => match w with
  | .str z => match strsOf ws with
    | some ys => (ys.map (·.length)).sum + ys.length * z.length ≤ 16777216 ∧ Q (.str (Str.join z ys)) S
    | none => False
  | _ => False
theorem mtl_join {K : PySem.W.Frag} : MtL K (rJoin K) mJoinL := fun H x w a vs ws S Q QW r ea na rs hS h hQ => by
  cases r with
  | str z =>
    unfold mJoinL at h
    dsimp only at h
    split at h
    · rename_i ys e
      have := strs_rep rs e
      subst this
      exact ⟨z, a, ys, rfl, rfl, .of ea, h.1, hQ _ S _ H .refl (.str _) hS h.2⟩
    · exact h.elim
  | _ => exact h.elim
theorem je_joinL (ho : JE X o to) (ha : JL X e tl)
    (hbase : attributeBase o "join" X.env (eval o X.env) = eval o X.env := by rfl)
    (hfew : ((backTo cpos (starEach [e] X.env)).all (fun x => !x.1) && (backToKw cpos (keywordEach [] X.env)).all (fun x => x.1.isSome)
      && decide ([e].length + ([] : List Keyword).length + (if ([] : List Keyword).isEmpty then 0 else 1) < 30)) = true := by rfl)
    (hline : (apos.endLine == cpos.line) = true := by rfl) (hs : starEach [e] X.env = (false, eval e X.env) :: starEach [] X.env := by rfl) (hplain : (backTo cpos (starEach [] X.env)).any (·.1) = false := by rfl) :
    JE X (.Call (.Attribute o "join" apos) [e] [] cpos) (wML rvS mJoinL to tl) := je_mL PySem.F.plainAttrs_str PySem.F.slot_str_join PySem.F.type_str_join rvS_ok mt_join mtl_join ho ha hbase hfew hline hs hplain
def mIndex : WMf := fun w ws S Q => match w with
  | .str z => match ws with
    | [.str y] => match Builtin.Str.occurrences z y 0 z.length 1 with
      | i :: _ => Q (.int i) S
      | [] => False
    | _ => False
  | _ => False
theorem mtw_index {K : PySem.W.Frag} : MtW K rIndex mIndex := fun H x w vs ws S Q QW r rs hS h hQ => by
  cases r with
  | str z =>
    cases rs with
    | nil => exact h.elim
    | cons r1 r2 =>
      cases r2 with
      | cons _ _ => cases r1 <;> exact h.elim
      | nil =>
        cases r1 with
        | str y =>
          unfold mIndex at h
          dsimp only at h
          split at h
          · exact ⟨z, y, _, _, rfl, rfl, ‹_›, hQ _ S _ H .refl (.int _) hS h⟩
          · exact h.elim
        | _ => exact h.elim
  | _ => exact h.elim
theorem je_index (ho : JE X o to) (ha : JA X (e :: es) t)
    (hbase : attributeBase o "index" X.env (eval o X.env) = eval o X.env := by rfl)
    (hfew : ((backTo cpos (starEach (e :: es) X.env)).all (fun x => !x.1) && (backToKw cpos (keywordEach [] X.env)).all (fun x => x.1.isSome)
      && decide ((e :: es).length + ([] : List Keyword).length + (if ([] : List Keyword).isEmpty then 0 else 1) < 30)) = true := by rfl)
    (hline : (apos.endLine == cpos.line) = true := by rfl) (hs : starEach (e :: es) X.env = (false, eval e X.env) :: starEach es X.env := by rfl) (hplain : (backTo cpos (starEach es X.env)).any (·.1) = false := by rfl) :
    JE X (.Call (.Attribute o "index" apos) (e :: es) [] cpos) (wM rvS mIndex to t) := je_m PySem.F.plainAttrs_str PySem.F.slot_str_index PySem.F.type_str_index rvS_ok mt_index mtw_index ho ha hbase hfew hline hs hplain
end

def wAug (i : Nat) (g : Int → Int → Int) (e : WE) : WS := fun E D σ S => match σ[i]? with
  | some (some (.int a)) => e E σ S fun w S1 => match w with
    | .int b => D.nx (σ.set i (some (.int (g a b)))) S1
    | _ => False
  | _ => False
section
variable {X : Cx} {e : Expr} {te : WE} {pos pos' : Pos}
theorem js_aug {i : Nat} {x : Str} (hN : X.N.Nodup) (hi : X.N[i]? = some x) (hx : Loc X.env.scope x) (he : JE X e te) (hf : X.fn x = true ∨ X.env.scope.names.lookup x = some .local := by first | exact .inl rfl | exact .inr rfl | assumption) :
    JS X (.AugAssign (.Name x pos') .Add e pos) (wAug i (fun a b => a + b) te) := fun E hE =>
  (ps_aug hN hi hx (he E hE) ip_add hf).mono fun D σ H ⟨σW, S, DW, hσ, hS, ht, hD⟩ => by
    unfold wAug at ht
    split at ht
    · rename_i a ea
      obtain ⟨v, ev, rv⟩ := hσ.get ea
      cases rv
      refine ⟨_, ev, σW, S, _, hσ, hS, ht, fun w S1 v H1 e1 r1 hS1 h1 => ?_⟩
      cases r1 with
      | int b => exact ⟨a, b, rfl, rfl, hD.nx _ S1 _ H1 e1 ((hσ.ext e1).set (.int _) i) hS1 h1⟩
      | _ => exact h1.elim
    · exact ht.elim
end

def wWhile (c : WT) (b : WS) : WS := fun E D σ S => ∃ I : Nat → WSt → Sto → Prop, (∃ m, I m σ S) ∧ ∀ m σ S, I m σ S → c E σ S fun k S1 => if k = true then
  b E { D with nx := fun σ' S' => ∃ m' S'', m' < m ∧ Sub S'' S' ∧ I m' σ' S'', ct := fun σ' S' => ∃ m' S'', m' < m ∧ Sub S'' S' ∧ I m' σ' S'', bk := D.nx } σ S1 else D.nx σ S1
section
variable {X : Cx} {c : Expr} {body : List Stmt} {tc : WT} {tb : WS} {pos : Pos}
theorem js_while (hc : JT X c tc) (hb : JSs X body tb) (hp : PassesOwn (model X.prog X.w) X.A X.env (fun _ _ => False) := by exact PassesOwn.never) : JS X (.While c body [] pos) (wWhile tc tb) := fun E hE =>
  (ps_while (by rw [hE.xe]; exact hp) (hc E hE) (hb E hE)).mono fun D σ H ⟨σW, S, DW, hσ, hS, ⟨J, ⟨n, ht⟩, step⟩, hD⟩ => by
    refine ⟨fun m σ1 H1 => ∃ σW1 S1, Ext H S H1 S1 ∧ RpSt X.K H1 σW1 σ1 ∧ RepS X.K H1 S1 ∧ J m σW1 S1, ⟨n, σW, S, .refl, hσ, hS, ht⟩, ?_⟩
    rintro m σ1 H1 ⟨σW1, S1, e1, hσ1, hS1, h1⟩
    refine ⟨σW1, S1, _, hσ1, hS1, step m σW1 S1 h1, fun k S2 H2 e2 hS2 h2 => ?_⟩
    cases k with
    | false => exact hD.nx σW1 S2 σ1 H2 (e1.trans e2) (hσ1.ext e2) hS2 h2
    | true =>
      rw [if_pos rfl] at h2 ⊢
      refine ⟨fun σ' H' => ∃ m', m' < m ∧ ∃ σW1 S1, Ext H S H' S1 ∧ RpSt X.K H' σW1 σ' ∧ RepS X.K H' S1 ∧ J m' σW1 S1, fun σ' H' n' => n', σW1, S2, _, hσ1.ext e2, hS2, h2, ?_⟩
      have e12 := e1.trans e2
      have go : Goes X.K H2 S2 (fun σ' S' => ∃ m' S'', m' < m ∧ Sub S'' S' ∧ J m' σ' S'') (fun σ' H' => ∃ m', m' < m ∧ ∃ σW1 S1, Ext H S H' S1 ∧ RpSt X.K H' σW1 σ' ∧ RepS X.K H' S1 ∧ J m' σW1 S1) := fun σW3 S3 σ3 H3 e3 hσ3 hS3 ⟨m', S4, hm, sb, q⟩ =>
        ⟨m', hm, σW3, S4, (e12.trans e3).trans (.drop sb), hσ3, hS3.sub sb, q⟩
      exact ⟨go, hD.rt.from e12, hD.nx.from e12, go⟩
end

def forL (g : WG) (b : WS) (E : WX) (D : WEnds) (G : Sto → Prop) : List W → WSt → Sto → Prop
  | [], σ, S => D.nx σ S
  | w :: ws, σ, S => g w σ S fun σ1 S1 => b E { D with nx := fun σ' S' => ∃ S'', Sub S'' S' ∧ G S'' ∧ forL g b E D G ws σ' S'', ct := fun σ' S' => ∃ S'', Sub S'' S' ∧ G S'' ∧ forL g b E D G ws σ' S'', bk := D.nx } σ1 S1
def wFor (q : WI) (g : WG) (b : WS) : WS := fun E D σ S => q E σ S fun ws G S1 => forL g b E D G ws σ S1
section
variable {X : Cx} {tg iter : Expr} {body : List Stmt} {q : WI} {g : WG} {tb : WS} {pos : Pos}
theorem js_for (hi : JI X tg iter q) (hg : JG X tg g) (hb : JSs X body tb) (hp : PassesOwn (model X.prog X.w) X.A X.env (fun _ _ => False) := by exact PassesOwn.never)
    (hs : ∀ x, foldedSetIterable iter X.env x = pure x := by intro _; rfl) : JS X (.For tg iter body [] pos) (wFor q g tb) := fun E hE =>
  (ps_for (by rw [hE.xe]; exact hp) hE.calm (hi E hE) (hg E hE) (hb E hE) hs).mono fun D σ H ⟨σW, S, DW, hσ, hS, ht, hD⟩ => by
    refine ⟨σW, S, _, hσ, hS, ht, fun ws G S1 J H1 e1 hS1 hG1 hJ h1 => ?_⟩
    refine ⟨fun i m σ2 H2 => ∃ σW2 S2, Ext H1 S1 H2 S2 ∧ RpSt X.K H2 σW2 σ2 ∧ RepS X.K H2 S2 ∧ G S2 ∧ m = ws.length - i ∧ i ≤ ws.length ∧ forL g tb E DW G (ws.drop i) σW2 S2,
      ⟨ws.length, σW, S1, .refl, hσ.ext e1, hS1, hG1, rfl, Nat.zero_le _, h1⟩, ?_⟩
    rintro i m σ2 H2 ⟨σW2, S2, e2, hσ2, hS2, hG2, rfl, hi2, h2⟩
    obtain ⟨ji, js⟩ := hJ i S2 H2 e2 hS2 hG2
    by_cases hlt : i < ws.length
    · obtain ⟨jgo, jy⟩ := ji ws[i] (List.getElem?_eq_getElem hlt)
      refine .inr ⟨jgo, fun σ' H' => ∃ σW2 S2, Ext H1 S1 H' S2 ∧ RpSt X.K H' σW2 σ' ∧ RepS X.K H' S2 ∧ G S2 ∧ ws.length - (i + 1) = ws.length - (i + 1) ∧ i + 1 ≤ ws.length ∧ forL g tb E DW G (ws.drop (i + 1)) σW2 S2, fun σ' H' z => ⟨_, by omega, z⟩, fun x H3 y3 => ?_⟩
      obtain ⟨e3, hS3, r3⟩ := jy x H3 y3
      rw [List.drop_eq_getElem_cons hlt] at h2
      refine ⟨_, σW2, S2, _, r3, hσ2.ext e3, hS3, h2, fun σW4 S4 σ4 H4 e4 hσ4 hS4 h4 => ?_⟩
      have e14 : Ext H1 S1 H4 S4 := (e2.trans e3).trans e4
      refine ⟨σW4, S4, _, hσ4, hS4, h4, ?_⟩
      have go : Goes X.K H4 S4 (fun σ' S' => ∃ S'', Sub S'' S' ∧ G S'' ∧ forL g tb E DW G (ws.drop (i + 1)) σ' S'') (fun σ' H' => ∃ σW2 S2, Ext H1 S1 H' S2 ∧ RpSt X.K H' σW2 σ' ∧ RepS X.K H' S2 ∧ G S2 ∧ ws.length - (i + 1) = ws.length - (i + 1) ∧ i + 1 ≤ ws.length ∧ forL g tb E DW G (ws.drop (i + 1)) σW2 S2) :=
        fun σW5 S5 σ5 H5 e5 hσ5 hS5 ⟨S6, sb, hG6, q⟩ => ⟨σW5, S6, (e14.trans e5).trans (.drop sb), hσ5, hS5.sub sb, hG6, rfl, hlt, q⟩
      exact ⟨go, hD.rt.from (e1.trans e14), hD.nx.from (e1.trans e14), go⟩
    · have hl : i = ws.length := by omega
      rw [List.drop_of_length_le (Nat.le_of_eq hl.symm)] at h2
      exact .inl ⟨js hl, hD.nx σW2 S2 σ2 H2 (e1.trans e2) hσ2 hS2 h2⟩
end
end L2
end

section
set_option Elab.async false
set_option linter.all false
set_option maxRecDepth 100000
set_option maxHeartbeats 4000000
namespace L2
open PySem PySem.Spec PyProof.Rows

section
variable {X : Cx} {tg : Expr}
def iAny (K : PySem.W.Frag) (tl : TE) : TI := fun σ H R => tl σ H fun x H1 => (∃ a, x = .ref a ∧ (∃ xs, SqL K H1 a xs) ∧ R (Itl K a) H1) ∨ (∃ a, x = .ref a ∧ (∃ xs, SqT K H1 a xs) ∧ R (Itt K a) H1) ∨ ∃ z, x = .str z ∧ R (Its z) H1
theorem pi_any {l : Expr} {tl : TE} (hl : PE X l tl) : PI X tg l (iAny X.K tl) := by
  intro pins s σ H R I h
  refine thn (hl pins s σ H _ I h) fun v s1 ⟨x, H1, I1, r1, q1⟩ => ?_
  have fp : ∀ b ∈ [s1.heap.objs.size], FpOk X pins H1 b := fun b hb => by
    have e : b = s1.heap.objs.size := by simpa using hb
    subst e
    exact I1.fpOk (Nat.le_refl _) (I1.hok.fresh (Nat.le_refl _))
  rcases q1 with ⟨a, e, ⟨xs, hq⟩, q⟩ | ⟨a, e, ⟨xs, hq⟩, q⟩ | ⟨z, e, q⟩
  · subst e
    cases r1
    obtain ⟨its, rv, p, hz⟩ := I1.list hq
    refine wpAny_pyIter_list p.isList ?_
    exact ⟨s1.heap.objs.size, [s1.heap.objs.size], _, _, H1, rfl, I1.kept (t' := s1.toks) fun b o e => Heap.get?_push_of_some _ e, turn_list a _, ⟨_, Heap.get?_push_size _ rfl, rfl, rfl⟩, fp, q⟩
  · subst e
    cases r1
    obtain ⟨its, rv, p, hz⟩ := I1.tuple hq
    refine wpAny_pyIter_tuple (show s1.heap.IsTuple a its.toArray from p) ?_
    exact ⟨s1.heap.objs.size, [s1.heap.objs.size], _, _, H1, rfl, I1.kept (t' := s1.toks) fun b o e => Heap.get?_push_of_some _ e, turn_tuple a _, ⟨_, Heap.get?_push_size _ rfl, rfl, rfl⟩, fp, q⟩
  · subst e
    obtain ⟨t, rfl⟩ := r1
    cases ha : z.cps.all (· < 128)
    · refine wpAny_pyIter_wide ha ?_
      exact ⟨s1.heap.objs.size, [s1.heap.objs.size], _, _, H1, rfl, I1.kept (t' := s1.toks) fun b o e => Heap.get?_push_of_some _ e,
        turn_str _ z t "str_iterator" (by decide) (fun A' hA => Walks.strWide hA _ z t) (fun _ _ _ _ _ st h => wpAny_pyIter_striter_wide st h), ⟨_, Heap.get?_push_size _ rfl, rfl, rfl⟩, fp, q⟩
    · refine wpAny_pyIter_ascii ha ?_
      exact ⟨s1.heap.objs.size, [s1.heap.objs.size], _, _, H1, rfl, I1.kept (t' := s1.toks) fun b o e => Heap.get?_push_of_some _ e,
        turn_str _ z t "str_ascii_iterator" (by decide) (fun A' hA => Walks.strAscii hA _ z t) (fun _ _ _ _ _ st h => wpAny_pyIter_striter_ascii st h), ⟨_, Heap.get?_push_size _ rfl, rfl, rfl⟩, fp, q⟩
def signs (z : Str) : List W := z.cps.toList.map fun c => .str ⟨#[c]⟩
def wIv (t : WE) : WI := fun E σ S Q => t E σ S fun w S1 => match w with
  | .tup ws => Q ws (fun _ => True) S1
  | .ref a => lstW S1 a fun ws => Q ws (fun S' => S' a = some (.lst ws)) S1
  | .scr ns => Q (ns.map W.int) (fun _ => True) S1
  | .str z => Q (signs z) (fun _ => True) S1
  | _ => False
theorem it_list {K : PySem.W.Frag} {a : Addr} {ws : List W} {G : Sto → Prop} {H0 : Hp} {S0 : Sto} (h : ∀ S H, Ext H0 S0 H S → RepS K H S → G S → ∃ vs, SqL K H a vs ∧ Reps K H ws vs) : ItW K (Itl K a) ws G H0 S0 := fun i S H e hS hG => by
  obtain ⟨vs, hq, r⟩ := h S H e hS hG
  refine ⟨fun w ew => ?_, fun hl => ⟨vs, hq, by rw [← r.length, hl]; exact Nat.le_refl _⟩⟩
  obtain ⟨v, ev, rv⟩ := r.get ew
  refine ⟨⟨vs, v, hq, ev⟩, fun x H' ⟨e1, e2⟩ => ?_⟩
  subst e1
  have e3 := e2 vs hq
  rw [ev] at e3; cases e3
  exact ⟨.refl, hS, rv⟩
theorem it_tup {K : PySem.W.Frag} {a : Addr} {ws : List W} {vs : List V} {H0 : Hp} {S0 : Sto} (f : H0 a = some (.tup vs)) (r : Reps K H0 ws vs) : ItW K (Itt K a) ws (fun _ => True) H0 S0 := fun i S H e hS hG => by
  have f' := e.tup _ _ f
  have r' := r.ext e
  refine ⟨fun w ew => ?_, fun hl => ⟨vs, .of f', by rw [← r'.length, hl]; exact Nat.le_refl _⟩⟩
  obtain ⟨v, ev, rv⟩ := r'.get ew
  refine ⟨⟨vs, v, .of f', ev⟩, fun x H' ⟨e1, e2⟩ => ?_⟩
  subst e1
  have e3 := e2 vs (.of f')
  rw [ev] at e3; cases e3
  exact ⟨.refl, hS, rv⟩
theorem it_str {K : PySem.W.Frag} {z : Str} {H0 : Hp} {S0 : Sto} : ItW K (Its z) (signs z) (fun _ => True) H0 S0 := fun i S H e hS hG => by
  unfold signs
  refine ⟨fun w ew => ?_, fun hl => ?_⟩
  · rw [List.getElem?_map] at ew
    cases ec : z.cps.toList[i]? with
    | none => rw [ec] at ew; cases ew
    | some c =>
      rw [ec] at ew
      have ew' := Option.some.inj ew
      subst ew'
      have hi : i < z.cps.size := by
        have := (List.getElem?_eq_some_iff.mp ec).1
        simpa using this
      refine ⟨hi, fun x H' ⟨e1, c', e2, e3⟩ => ?_⟩
      subst e1 e3
      have : c' = c := by
        have q : z.cps.toList[i]? = some c' := by rw [← e2]; simp
        rw [ec] at q; exact (Option.some.inj q).symm
      subst this
      exact ⟨.refl, hS, .str _⟩
  · show i = z.cps.size
    simpa using hl
theorem ji_val {l : Expr} {tl : WE} (hl : JE X l tl) : JI X tg l (wIv tl) := fun E hE =>
  (pi_any (hl E hE)).mono fun σ H R ⟨σW, S, QW, hσ, hS, ht, hR⟩ => ⟨σW, S, _, hσ, hS, ht, fun w S1 v H1 e1 r1 hS1 h1 => by
    cases r1 with
    | tup f hs => exact .inr (.inl ⟨_, rfl, ⟨_, .of f⟩, hR _ _ S1 _ H1 e1 hS1 trivial (it_tup f hs) h1⟩)
    | ref a =>
      obtain ⟨ws, ea, h⟩ := lstW_ex h1
      obtain ⟨vs, f, hs⟩ := hS1 a _ ea
      refine .inl ⟨_, rfl, ⟨_, .of f⟩, hR _ _ S1 _ H1 e1 hS1 ea (it_list fun S2 H2 e2 hS2 g2 => ?_) h⟩
      obtain ⟨vs2, f2, hs2⟩ := hS2 a _ g2
      exact ⟨vs2, .of f2, hs2⟩
    | scr f => exact .inl ⟨_, rfl, ⟨_, f.sq⟩, hR _ _ S1 _ H1 e1 hS1 trivial (it_list fun S2 H2 e2 hS2 g2 => ⟨_, (e2.fz f).sq, Reps.ofInts _⟩) h1⟩
    | str z => exact .inr (.inr ⟨z, rfl, hR _ _ S1 _ H1 e1 hS1 trivial it_str h1⟩)
    | _ => exact h1.elim⟩
def wIl (t : WL) : WI := fun E σ S Q => t E σ S fun ws S1 => Q ws (fun _ => True) S1
def upto (lo : Int) (n : Nat) : List W := (List.range n).map fun (i : Nat) => .int (lo + (i : Int))
theorem it_rng {K : PySem.W.Frag} {lo : Int} {n : Nat} {H0 : Hp} {S0 : Sto} : ItW K (Itr lo n) (upto lo n) (fun _ => True) H0 S0 := fun i S H e hS hG => by
  unfold upto
  refine ⟨fun w ew => ?_, fun hl => by
    have : i = n := by simpa using hl
    exact Nat.le_of_eq this.symm⟩
  rw [List.getElem?_map] at ew
  by_cases hi : i < n
  · rw [List.getElem?_range hi] at ew
    have ew' := Option.some.inj ew
    subst ew'
    refine ⟨hi, fun x H' ⟨e1, e2⟩ => ?_⟩
    subst e1 e2
    exact ⟨.refl, hS, .int _⟩
  · rw [List.getElem?_eq_none (by simpa using hi)] at ew; cases ew
def wRng (t : WA) : WI := fun E σ S Q => t E σ S fun ws S1 => match ws with
  | [.int j] => (-(2 ^ 62) ≤ j ∧ j < 2 ^ 62) ∧ Q (upto 0 j.toNat) (fun _ => True) S1
  | _ => False
theorem ji_range {a : Expr} {ta : WA} {p pos : Pos} (hg : Gl X "range") (hm : X.mg "range" = none) (ha : JA X [a] ta) (hs : starEach [a] X.env = [(false, eval a X.env)] := by rfl) : JI X tg (.Call (.Name "range" p) [a] [] pos) (wRng ta) := fun E hE =>
  (pi_range1 hg hm (ha E hE) hs).mono fun σ H R ⟨σW, S, QW, hσ, hS, ht, hR⟩ => ⟨σW, S, _, hσ, hS, ht, fun ws S1 vs H1 e1 r1 hS1 h1 => by
    cases r1 with
    | nil => exact h1.elim
    | cons r2 r3 =>
      cases r3 with
      | cons _ _ => cases r2 <;> exact h1.elim
      | nil =>
        cases r2 with
        | int j => exact ⟨j, rfl, h1.1.1, h1.1.2, hR _ _ S1 _ H1 e1 hS1 trivial it_rng h1.2⟩
        | _ => exact h1.elim⟩
end

def wYes : WT := fun _ _ S Q => Q true S
def JTs (X : Cx) (ifs : List Expr) (t : WT) : Prop := ∀ E, Hook X E → PTs X ifs (liftT X.K (t E))
theorem jts_nil {X : Cx} : JTs X [] wYes := fun E hE pins s σ H Q I ⟨σW, S, QW, hσ, hS, ht, hQ⟩ => pts_nil pins s σ H Q I (hQ true S H .refl hS ht)
def compL (g : WG) (c : WT) (e : WE) (E : WX) (G : Sto → Prop) (Q : List W → Sto → Prop) : List W → List W → WSt → Sto → Prop
  | [], acc, _, S => Q acc S
  | w :: ws, acc, σ, S => g w σ S fun σ1 S1 => c E σ1 S1 fun b S2 => if b = true then e E σ1 S2 fun y S3 => acc.length < sizeLine ∧ ∃ S4, Sub S4 S3 ∧ G S4 ∧ compL g c e E G Q ws (acc ++ [y]) σ1 S4
      else ∃ S4, Sub S4 S2 ∧ G S4 ∧ compL g c e E G Q ws acc σ1 S4
def wComp (k : Nat) (fr : List Nat) (q : WI) (g : WG) (c : WT) (e : WE) : WL := fun E σ S Q => q E σ S fun ws G S1 => compL g c e E G Q ws [] (List.replicate k none ++ fr.map fun j => (σ[j]?).join) S1
theorem startC_rep {K : PySem.W.Frag} {H : Hp} {σW : WSt} {σ : St} {k : Nat} {fr : List Nat} (h : RpSt K H σW σ) : RpSt K H (List.replicate k none ++ fr.map fun j => (σW[j]?).join) (startC σ k fr) := by
  have one : ∀ j : Nat, RpO K H (σW[j]?).join (σ[j]?).join := fun j => by
    cases e : σW[j]? with
    | none => exact trivial
    | some w =>
      cases w with
      | none => exact trivial
      | some w =>
        obtain ⟨v, ev, r⟩ := h.get e
        rw [ev]
        exact r
  have go : ∀ fr : List Nat, RpSt K H (fr.map fun j => (σW[j]?).join) (frVals σ fr) := by
    intro fr
    induction fr with
    | nil => exact .nil
    | cons j fr ih => exact .cons (one j) ih
  unfold startC
  induction k with
  | zero => exact go fr
  | succ k ih => exact .cons trivial ih
section
variable {X : Cx} {scope : Scope} {N : List Str} {k : Nat} {fr : List Nat} {tg iter elt : Expr} {ifs : List Expr} {pos : Pos} {q : WI} {g : WG} {c : WT} {e : WE}
theorem Ext.loose {H H' : Hp} (a : ∀ b xs, H b = some (.tup xs) → H' b = some (.tup xs)) (b : ∀ c o u, H c = some (.frz o u) → H' c = some (.frz o u)) (d : ∀ b o, H b = some o → ∃ o', H' b = some o') : Ext H (fun _ => some (.lst [])) H' (fun _ => some (.lst [])) :=
  ⟨a, b, (fun _ _ _ g => nomatch g), d⟩
theorem Ext.over {H H' : Hp} {S S' : Sto} {l : Addr} {o : HO} (e : Ext H S H' S') (h : H l = none) : Ext H S (upd H' l o) S' :=
  ⟨fun b xs q => by rw [upd_ne (ne_of_none q h)]; exact e.tup b xs q, fun b ob u q => by rw [upd_ne (ne_of_none q h)]; exact e.frz b ob u q, fun b ob q z => by rw [upd_ne (ne_of_none q h)]; exact e.fr b ob q z, fun b ob q => by rw [upd_ne (ne_of_none q h)]; exact e.all b ob q⟩
theorem comp_lift (hg : ∀ s₀ H₀ fp pn, JG (cxComp X scope N s₀ H₀ fp pn) tg g) (hc : ∀ s₀ H₀ fp pn, JTs (cxComp X scope N s₀ H₀ fp pn) ifs c) (he : ∀ s₀ H₀ fp pn, JE (cxComp X scope N s₀ H₀ fp pn) elt e)
    {E : WX} (hE : Hook X E) (σ : St) (H : Hp) (Q : VK) : liftL X.K (wComp k fr q g c e E) σ H Q → tComp X scope N k fr tg ifs elt (liftI X.K (q E)) σ H Q := fun ⟨σW, S0, QW, hσ, hS, ht, hQ⟩ => by
    refine ⟨σW, S0, _, hσ, hS, ht, fun ws G S1 J H1 e1 hS1 hG1 hJ h1 l hl => ?_⟩
    have upl : ∀ {H' : Hp} {vs us : List V} {S' : Sto}, H' l = some (.lst vs) → S' l = none → RepS X.K H' S' → Ext H' (fun _ => some (.lst [])) (upd H' l (.lst us)) (fun _ => some (.lst [])) ∧ RepS X.K (upd H' l (.lst us)) S' := fun {H' vs us S'} f n hS' => by
      have x : Ext H' (fun _ => some (.lst [])) (upd H' l (.lst us)) (fun _ => some (.lst [])) := .loose (fun b xs q => by rw [upd_ne (ne_of q f fun z => nomatch z)]; exact q) (fun b o u q => by rw [upd_ne (ne_of q f fun z => nomatch z)]; exact q) fun b o q => by
        by_cases hb : b = l
        · subst hb; exact ⟨_, upd_same⟩
        · exact ⟨o, by rw [upd_ne hb]; exact q⟩
      refine ⟨x, fun a o q => (hS' a o q).keep x fun u z => ?_⟩
      have ha : a ≠ l := by rintro rfl; rw [n] at q; cases q
      rw [upd_ne ha]; exact z
    refine ⟨fun i m σ' H' => ∃ σW' S' acc vs, Ext H1 S1 H' S' ∧ H' l = some (.lst vs) ∧ S' l = none ∧ Reps X.K H' acc vs ∧ RpSt X.K H' σW' σ' ∧ RepS X.K H' S' ∧ G S' ∧ m = ws.length - i ∧ i ≤ ws.length ∧ compL g c e E G QW (ws.drop i) acc σW' S',
      ⟨ws.length, _, S1, [], [], .new hl, upd_same, hS1.free hl, .nil, startC_rep (hσ.ext (e1.trans (.new (S := S1) hl))), hS1.new hl, hG1, rfl, Nat.zero_le _, h1⟩, ?_⟩
    rintro i m σ' H' ⟨σW', S', acc, vs, e2, f2, n2, ra, hσ2, hS2, hG2, rfl, hi2, h2⟩
    obtain ⟨ji, js⟩ := hJ i S' H' e2 hS2 hG2
    by_cases hlt : i < ws.length
    · obtain ⟨jgo, jy⟩ := ji ws[i] (List.getElem?_eq_getElem hlt)
      refine .inr ⟨jgo, fun σ'' H'' => ∃ σW' S' acc vs, Ext H1 S1 H'' S' ∧ H'' l = some (.lst vs) ∧ S' l = none ∧ Reps X.K H'' acc vs ∧ RpSt X.K H'' σW' σ'' ∧ RepS X.K H'' S' ∧ G S' ∧ ws.length - (i + 1) = ws.length - (i + 1) ∧ i + 1 ≤ ws.length ∧ compL g c e E G QW (ws.drop (i + 1)) acc σW' S',
        fun σ'' H'' z => ⟨_, by omega, z⟩, fun x H3 y3 => ?_⟩
      obtain ⟨e3, hS3, r3⟩ := jy x H3 y3
      rw [List.drop_eq_getElem_cons hlt] at h2
      intro s₀ H₀ fp pn
      have hk : Hook (cxComp X scope N s₀ H₀ fp pn) E := ⟨hE.no, rfl, hE.calm⟩
      refine ⟨_, _, _, hg s₀ H₀ fp pn E hk, hc s₀ H₀ fp pn E hk, he s₀ H₀ fp pn E hk, ?_⟩
      refine ⟨_, σW', S', _, r3, hσ2.ext e3, hS3, h2, fun σW4 S4 σ4 H4 e4 hσ4 hS4 h4 => ?_⟩
      refine ⟨σW4, S4, _, hσ4, hS4, h4, fun b S5 H5 e5 hS5 h5 => ?_⟩
      have e15 : Ext H' S' H5 S5 := (e3.trans e4).trans e5
      have hσ5 := hσ4.ext e5
      obtain ⟨f5, n5⟩ := e15.fr l _ f2 n2
      cases b with
      | false =>
        have h5 : ∃ S4, Sub S4 S5 ∧ G S4 ∧ compL g c e E G QW (ws.drop (i + 1)) acc σW4 S4 := h5
        refine iteF ?_
        obtain ⟨S6, sb, hG6, h6⟩ := h5
        have e16 := e15.trans (.drop sb)
        exact ⟨σW4, S6, acc, vs, e2.trans e16, f5, (e16.fr l _ f2 n2).2, ra.ext e15, hσ5, hS5.sub sb, hG6, rfl, hlt, h6⟩
      | true =>
        rw [if_pos rfl] at h5
        refine iteT ?_
        refine ⟨σW4, S5, _, hσ5, hS5, h5, fun y S6 v H6 e6 r6 hS6 h6 => ?_⟩
        have e17 := e15.trans e6
        obtain ⟨f6, n6⟩ := e17.fr l _ f2 n2
        obtain ⟨hz, S7, sb, hG7, h7⟩ := h6
        obtain ⟨x6, hS6'⟩ := upl (us := vs ++ [v]) f6 n6 hS6
        have ra6 : Reps X.K H6 (acc ++ [y]) (vs ++ [v]) := (ra.ext e17).append (.one r6)
        refine ⟨vs, f6, by rw [← ra.length]; exact hz, σW4, S7, acc ++ [y], vs ++ [v], ?_, upd_same, ((e17.trans (.drop sb)).fr l _ f2 n2).2, ra6.ext x6, (hσ5.ext e6).ext x6, hS6'.sub sb, hG7, rfl, hlt, h7⟩
        exact (e2.trans (e17.trans (.drop sb))).over hl
    · have hll : i = ws.length := by omega
      rw [List.drop_of_length_le (Nat.le_of_eq hll.symm)] at h2
      exact .inl ⟨js hll, hQ acc S' vs l H' (e1.trans e2) (e1.free hl) f2 n2 ra hS2 h2⟩
theorem jl_comp (S : CompSc X scope N k fr) (hi : JI X tg iter q) (hg : ∀ s₀ H₀ fp pn, JG (cxComp X scope N s₀ H₀ fp pn) tg g) (hc : ∀ s₀ H₀ fp pn, JTs (cxComp X scope N s₀ H₀ fp pn) ifs c) (he : ∀ s₀ H₀ fp pn, JE (cxComp X scope N s₀ H₀ fp pn) elt e)
    (hs : ∀ x, foldedSetIterable iter X.env x = pure x := by intro _; rfl) : JL X (.ListComp elt [⟨tg, iter, ifs, 0⟩] scope pos) (wComp k fr q g c e) := fun E hE =>
  (pe_comp hE.xe hE.calm S (hi E hE) hs).mono (comp_lift hg hc he hE)
end
end L2
end

section
set_option Elab.async false
set_option linter.all false
set_option maxRecDepth 100000
set_option maxHeartbeats 4000000
namespace L2
open PySem PySem.Spec PyProof.Rows

def SeqIt (k : Bool) (h : Heap) (it a : Addr) (i : Nat) : Prop := if k = true then h.IsListIter it a i else h.IsTupleIter it a i
def SeqIs (k : Bool) (h : Heap) (a : Addr) (its : Array Value) : Prop := if k = true then h.IsList a its else h.IsTuple a its
section
variable {k : Bool} {h h' : Heap} {it a b : Addr} {i : Nat} {its : Array Value}
theorem SeqIt.at (x : SeqIt k h it a i) (e : ∀ o, h.get? it = some o → h'.get? it = some o) : SeqIt k h' it a i := by
  cases k with
  | true => exact Heap.IsListIter.at (show h.IsListIter it a i from x) e
  | false => exact Heap.IsTupleIter.at (show h.IsTupleIter it a i from x) e
theorem SeqIs.at (x : SeqIs k h a its) (e : ∀ o, h.get? a = some o → h'.get? a = some o) : SeqIs k h' a its := by
  cases k with
  | true => exact Heap.IsList.at (show h.IsList a its from x) e
  | false => obtain ⟨o, ho, r⟩ := (show h.IsTuple a its from x); exact ⟨o, e o ho, r⟩
theorem SeqIt.ob (x : SeqIt k h it a i) : ∃ o vs, h.get? it = some o ∧ o.data = .fields vs := by
  cases k with
  | true => obtain ⟨o, ho, _, hd⟩ := (show h.IsListIter it a i from x); exact ⟨o, _, ho, hd⟩
  | false => obtain ⟨o, ho, _, hd⟩ := (show h.IsTupleIter it a i from x); exact ⟨o, _, ho, hd⟩
end
section
variable {prog : Program} {w : World} {A : Around} {E : Value → Shared → Prop} {s : Shared}
end
end L2
end

section
set_option Elab.async false
set_option linter.all false
set_option maxRecDepth 100000
set_option maxHeartbeats 4000000
namespace L2
open PySem PySem.Spec PyProof.Rows

section
variable {prog : Program} {w : World} {A : Around} {E : Value → Shared → Prop} {s : Shared}
end
theorem SeqIs.push {k : Bool} {h : Heap} {a : Addr} {its : Array Value} (x : SeqIs k h a its) (o : Obj) : SeqIs k (h.push o) a its := x.at fun _ e => Heap.get?_push_of_some _ e
section
variable {prog : Program} {w : World} {A : Around} {E : Value → Shared → Prop} {s : Shared}
end

section
variable {X : Cx} {pins : List (Addr × Obj)} {σ : St} {H : Hp} {s : Shared} {g : Heap} {fp : List Addr}
def SqK (k : Bool) (K : PySem.W.Frag) (H : Hp) (a : Addr) (xs : List V) : Prop := if k = true then SqL K H a xs else SqT K H a xs
theorem Inv.seq {k : Bool} {a : Addr} {xs : List V} (I : Inv X pins σ H s) (h : SqK k X.K H a xs) : ∃ its : List Value, Vals xs its ∧ SeqIs k s.heap a its.toArray ∧ xs.length ≤ sizeLine := by
  cases k with
  | true => obtain ⟨its, r, p, z⟩ := I.list h; exact ⟨its, r, p.isList, z⟩
  | false => obtain ⟨its, r, p, z⟩ := I.tuple h; exact ⟨its, r, p, z⟩
end

section
variable {X : Cx} {es : List Expr} {x1 : Nat} {tpos : Pos}
def nums : Nat → List W → List W
  | _, [] => []
  | n, w :: ws => .tup [.int n, w] :: nums (n + 1) ws
def seqW : W → Sto → (List W → (Sto → Prop) → Prop) → Prop
  | .tup ws, _, Q => Q ws fun _ => True
  | .ref a, S, Q => lstW S a fun ws => Q ws fun S' => S' a = some (.lst ws)
  | .scr ns, _, Q => Q (ns.map W.int) fun _ => True
  | _, _, _ => False
def wEnum (t : WE) : WI := fun E σ S Q => t E σ S fun w S1 => seqW w S1 fun ws G => Q (nums 0 ws) G S1
end
end L2
end

section
set_option Elab.async false
set_option linter.all false
set_option maxRecDepth 100000
set_option maxHeartbeats 4000000
namespace L2
open PySem PySem.Spec PyProof.Rows

section
variable {prog : Program} {w : World} {A : Around} {E : Value → Shared → Prop} {s : Shared}
end
section
variable {prog : Program} {w : World} {A : Around} {E : Value → Shared → Prop} {s : Shared}
end
end L2
end

section
set_option Elab.async false
set_option linter.all false
set_option maxRecDepth 100000
set_option maxHeartbeats 4000000
namespace L2
open PySem PySem.Spec PyProof.Rows

def SqZ (k : Bool) (K : PySem.W.Frag) (H : Hp) (a : Addr) (xs : List V) : Prop := if k = true then SqL K H a xs else H a = some (.tup xs)
theorem SqZ.sq {k : Bool} {K : PySem.W.Frag} {H : Hp} {a : Addr} {xs : List V} (h : SqZ k K H a xs) : SqK k K H a xs := by
  cases k with
  | true => exact h
  | false => exact .of h
theorem SeqIs.ob {k : Bool} {h : Heap} {a : Addr} {its : Array Value} (x : SeqIs k h a its) : ∃ o n, h.get? a = some o ∧ o.data = .seq its n ∧ (k = true → o.cls = .type "list") := by
  cases k with
  | true => obtain ⟨o, ho, hc, n, hd⟩ := (show h.IsList a its from x); exact ⟨o, n, ho, hd, fun _ => hc⟩
  | false => obtain ⟨o, ho, hc, n, hd⟩ := (show h.IsTuple a its from x); exact ⟨o, n, ho, hd, fun z => by cases z⟩
structure ZipFar (z TI TO i1 i2 : Addr) : Prop where
  TIz : TI ≠ z
  TOz : TO ≠ z
  i1z : i1 ≠ z
  i2z : i2 ≠ z
  TITO : TI ≠ TO
  TIi1 : TI ≠ i1
  TIi2 : TI ≠ i2
  TOi1 : TO ≠ i1
  TOi2 : TO ≠ i2
  i12 : i1 ≠ i2
section
variable {X : Cx} {pins : List (Addr × Obj)} {σ : St} {H : Hp} {s : Shared}
end
section
variable {X : Cx} {es : List Expr} {x1 : Nat} {tpos : Pos}
def pairs : List W → List W → List W
  | x :: xs, y :: ys => .tup [x, y] :: pairs xs ys
  | _, _ => []
def wZip (t u : WE) : WI := fun E σ S Q => t E σ S fun x S1 => u E σ S1 fun y S2 => seqW x S2 fun xs G => seqW y S2 fun ys G' => Q (pairs xs ys) (fun S' => G S' ∧ G' S') S2
end
end L2
end

section
set_option Elab.async false
set_option linter.all false
set_option maxRecDepth 100000
set_option maxHeartbeats 4000000
namespace L2
open PySem PySem.Spec PyProof.Rows

section
variable {X : Cx} {tg : Expr}
def downto (hi : Int) (n : Nat) : List W := (List.range n).map fun (i : Nat) => .int (hi - (i : Int))
def wDown (t : WA) : WI := fun E σ S Q => t E σ S fun ws S1 => match ws with
  | [.int i, .int j, .int c] => c = -1 ∧ (-(2 ^ 62) ≤ i ∧ i < 2 ^ 62 ∧ -(2 ^ 62) ≤ j ∧ j < 2 ^ 62) ∧ Q (downto i (i - j).toNat) (fun _ => True) S1
  | _ => False
end

section
variable {X : Cx} {a b c : Expr} {pos : Pos} {ta tb tc : WE}
end

section
variable {X : Cx} {e : Expr} {es : List Expr} {t : WA} {p pos : Pos}
def fInt : WF := fun ws S Q => match ws with
  | [.int i] => Q (.int i) S
  | [.bl b] => Q (.int (if b then 1 else 0)) S
  | _ => False
theorem callw_int {K : PySem.W.Frag} : CallW K (fun xs H Q => (∃ i, xs = [.int i] ∧ Q (.int i) H) ∨ ∃ k, xs = [.bl k] ∧ Q (.int (if k then 1 else 0)) H) fInt := fun H vs ws S Q QW r hS h hQ => by
  cases r with
  | nil => exact h.elim
  | cons r1 r2 =>
    cases r2 with
    | cons _ _ => cases r1 <;> exact h.elim
    | nil =>
      cases r1 with
      | int i => exact .inl ⟨i, rfl, hQ _ S _ H .refl (.int _) hS h⟩
      | bl b => exact .inr ⟨b, rfl, hQ _ S _ H .refl (.int _) hS h⟩
      | _ => exact h.elim
theorem je_int1 (hg : Gl X "int") (hm : X.mg "int" = none) (ha : JA X (e :: es) t)
    (he : starEach (e :: es) X.env = (false, eval e X.env) :: starEach es X.env := by rfl) (hpl : (backTo pos (starEach es X.env)).any (·.1) = false := by rfl) : JE X (.Call (.Name "int" p) (e :: es) [] pos) (wB fInt t) :=
  je_ty call_int1 callw_int hg hm PyProof.Rows.boot_int ha (by decide) (by decide) he hpl
def fMax2 : WF := fun ws S Q => match ws with
  | [.int i, .int j] => Q (.int (if j > i then j else i)) S
  | _ => False
def fMin2 : WF := fun ws S Q => match ws with
  | [.int i, .int j] => Q (.int (if j < i then j else i)) S
  | _ => False
theorem callw_max2 {K : PySem.W.Frag} : CallW K (fun xs H Q => ∃ i j, xs = [.int i, .int j] ∧ Q (.int (if j > i then j else i)) H) fMax2 := fun H vs ws S Q QW r hS h hQ => by
  unfold fMax2 at h
  split at h
  · cases r with
    | cons r1 r2 => cases r2 with
      | cons r2 r3 => cases r3; cases r1; cases r2; exact ⟨_, _, rfl, hQ _ S _ H .refl (.int _) hS h⟩
  · exact h.elim
theorem call_blt' {id : String} {r : List V → Hp → VK → Prop} {f : WF} {x : Str} (hc : X.calm = true → CallR X (.builtin id) r) (hw : CallW X.K r f) (hg : Gl X x) (hm : X.mg x = none) (hv : bootBuiltins x = some (.builtin id)) (ha : JA X (e :: es) t) (hn : x ≠ "__name__" := by decide) (hdb : (x == ("__debug__" : Str)) = false := by decide)
    (he : starEach (e :: es) X.env = (false, eval e X.env) :: starEach es X.env := by rfl) (hpl : (backTo pos (starEach es X.env)).any (·.1) = false := by rfl) : JE X (.Call (.Name x p) (e :: es) [] pos) (wB f t) := fun E hE => je_blt (hc hE.calm) hw hg hm hv ha hn hdb he hpl E hE
theorem je_max2 (hg : Gl X "max") (hm : X.mg "max" = none) (ha : JA X (e :: es) t)
    (he : starEach (e :: es) X.env = (false, eval e X.env) :: starEach es X.env := by rfl) (hpl : (backTo pos (starEach es X.env)).any (·.1) = false := by rfl) : JE X (.Call (.Name "max" p) (e :: es) [] pos) (wB fMax2 t) := call_blt' call_max2 callw_max2 hg hm PyProof.Rows.boot_max ha (by decide) (by decide) he hpl
theorem je_tupleL {tl : WL} (hg : Gl X "tuple") (hm : X.mg "tuple" = none) (ha : JL X e tl)
    (he : starEach [e] X.env = (false, eval e X.env) :: starEach [] X.env := by rfl) (hpl : (backTo pos (starEach [] X.env)).any (·.1) = false := by rfl) : JE X (.Call (.Name "tuple" p) [e] [] pos) (wBL fTupleL tl) := je_tyL call_tuple_of calll_tuple hg hm PyProof.Rows.boot_tuple ha (by decide) (by decide) he hpl
end
theorem kitA {K : PySem.W.Frag} : ∀ T ∈ ["int", "bool", "str", "tuple", "list"], ∀ A ∈ ["NoneType", "bool", "int", "str", "tuple", "list"], PySem.W.kitOne K (.type A) (.type T) = some (subTy A T) := by
  intro T hT A hA
  simp only [List.mem_cons, List.not_mem_nil, or_false] at hT hA
  rcases hT with rfl | rfl | rfl | rfl | rfl <;> rcases hA with rfl | rfl | rfl | rfl | rfl | rfl <;> rfl
theorem gl0 : ∀ (ws : List W) (σ : WSt) (S : Sto) (P : WSt → Sto → Prop), wGnil ws σ S P → ws.length = 0 := fun ws σ S P h => by
  cases ws with
  | nil => rfl
  | cons _ _ => exact h.elim
theorem glS {i n : Nat} {u : WGs} (h : ∀ (ws : List W) (σ : WSt) (S : Sto) (P : WSt → Sto → Prop), u ws σ S P → ws.length = n) : ∀ (ws : List W) (σ : WSt) (S : Sto) (P : WSt → Sto → Prop), wGcons (wGN i) u ws σ S P → ws.length = n + 1 := fun ws σ S P q => by
  cases ws with
  | nil => exact q.elim
  | cons w ws => exact congrArg (· + 1) (h _ _ _ _ q)
def wOut : WSp := fun _ _ _ _ => False
theorem fn_out {P : Program} {w : World} {K : PySem.W.Frag} {mg : Str → Option Value} {base : Heap} {f : Addr} {fd : FuncData} {ps : List Str} {k : Nat} : FnOk P w K mg base CX0 k f fd ps (liftSp K wOut) :=
  ⟨fun vs H Q E ⟨_, _, _, _, _, h, _⟩ => h.elim, fun A outer s H args us vs Q E _ _ _ _ ⟨_, _, _, _, _, h, _⟩ => h.elim⟩
section
variable {X : Cx} {a b : Expr} {pos : Pos} {ta tb : WE} {la lb : WL}
def wIxL (t : WL) (u : WE) : WE := fun E σ S Q => t E σ S fun ws S1 => u E σ S1 fun y S2 => match y with
  | .int i => match atI ws i with
    | some w => Q w S2
    | none => False
  | _ => False
theorem je_ixL (ha : JL X a la) (hb : JE X b tb) (hs : PlainIx b := by intro _ _; rfl) : JE X (.Subscript a b pos) (wIxL la tb) := fun E hE =>
  (pe_ix ix_seq (ha E hE) (hb E hE) hs).mono fun σ H Q ⟨σW, S, QW, hσ, hS, ht, hQ⟩ => ⟨σW, S, _, hσ, hS, ht, fun ws S1 vs p H1 e1 fp ep np r1 hS1 h1 => ⟨σW, S1, _, hσ.ext e1, hS1, h1, fun y S2 v2 H2 e2 r2 hS2 h2 => by
    cases r2 with
    | int i =>
      dsimp only at h2
      split at h2
      · obtain ⟨v, ev, r⟩ := atI_rep (r1.ext e2) ‹_›
        exact .inl ⟨p, vs, i, v, rfl, rfl, .of (e2.fr p _ ep np).1, ev, hQ _ S2 _ H2 (e1.trans e2) r hS2 h2⟩
      · exact h2.elim
    | _ => exact h2.elim⟩⟩
def wCatR (t : WE) (u : WL) : WL := fun E σ S Q => t E σ S fun x S1 => u E σ S1 fun ys S2 => match x with
  | .ref a => lstW S2 a fun xs => xs.length + ys.length ≤ sizeLine ∧ Q (xs ++ ys) S2
  | _ => False
def wCatB (t u : WL) : WL := fun E σ S Q => t E σ S fun xs S1 => u E σ S1 fun ys S2 => xs.length + ys.length ≤ sizeLine ∧ Q (xs ++ ys) S2
def wCatF (t : WL) (u : WE) : WL := fun E σ S Q => t E σ S fun xs S1 => u E σ S1 fun y S2 => match y with
  | .ref a => lstW S2 a fun ys => xs.length + ys.length ≤ sizeLine ∧ Q (xs ++ ys) S2
  | _ => False
theorem jl_catR (ha : JE X a ta) (hb : JL X b lb) : JL X (.BinOp a .Add b pos) (wCatR ta lb) := fun E hE =>
  (pe_op op_cat (ha E hE) (hb E hE)).mono fun σ H Q ⟨σW, S, QW, hσ, hS, ht, hQ⟩ => ⟨σW, S, _, hσ, hS, ht, fun w1 S1 v1 H1 e1 r1 hS1 h1 => ⟨σW, S1, _, hσ.ext e1, hS1, h1, fun ys S2 us q H2 e2 fq eq nq r2 hS2 h2 => by
    cases r1 with
    | ref p =>
      obtain ⟨xs, ea, h⟩ := lstW_ex h2
      obtain ⟨vs, f1, q1⟩ := hS2 p _ ea
      exact ⟨p, q, vs, us, rfl, rfl, f1, eq, by rw [← q1.length, ← r2.length]; exact h.1, fun p hp => hQ _ S2 _ p _ ((e1.trans e2).trans (.new hp)) ((e1.trans e2).free hp) upd_same (hS2.free hp) ((q1.append r2).ext (.new (S := S2) hp)) (hS2.new hp) h.2⟩
    | _ => exact h2.elim⟩⟩
theorem jl_catB (ha : JL X a la) (hb : JL X b lb) : JL X (.BinOp a .Add b pos) (wCatB la lb) := fun E hE =>
  (pe_op op_cat (ha E hE) (hb E hE)).mono fun σ H Q ⟨σW, S, QW, hσ, hS, ht, hQ⟩ => ⟨σW, S, _, hσ, hS, ht, fun xs S1 vs p H1 e1 fp ep np r1 hS1 h1 => ⟨σW, S1, _, hσ.ext e1, hS1, h1, fun ys S2 us q H2 e2 fq eq nq r2 hS2 h2 =>
    ⟨p, q, vs, us, rfl, rfl, (e2.fr p _ ep np).1, eq, by rw [← r1.length, ← r2.length]; exact h2.1, fun z hz => hQ _ S2 _ z _ ((e1.trans e2).trans (.new hz)) ((e1.trans e2).free hz) upd_same (hS2.free hz) (((r1.ext e2).append r2).ext (.new (S := S2) hz)) (hS2.new hz) h2.2⟩⟩⟩
def wRepL (t : WL) (u : WE) : WL := fun E σ S Q => t E σ S fun xs S1 => u E σ S1 fun y S2 => match y with
  | .int k => (-(2 ^ 63) ≤ k ∧ k < 2 ^ 63 ∧ xs.length * k.toNat ≤ sizeLine) ∧ Q (List.replicate k.toNat xs).flatten S2
  | _ => False
theorem Reps.rep {K : PySem.W.Frag} {H : Hp} {ws : List W} {vs : List V} (h : Reps K H ws vs) : ∀ k : Nat, Reps K H (List.replicate k ws).flatten (List.replicate k vs).flatten
  | 0 => .nil
  | k + 1 => by
    rw [List.replicate_succ, List.replicate_succ, List.flatten_cons, List.flatten_cons]
    exact h.append (Reps.rep h k)
end
theorem law_true {K : PySem.W.Frag} {H : Hp} {a : Addr} {ns : List Int} {c : WSp} {E : XK} (hO : Only H) (hS : SqL K H a (ns.map V.int)) (h : c [.scr ns] (fun _ => none) (fun w _ => w = .bl true) (fun _ _ => False)) : liftSp K c [.ref a] H (fun v _ => v = .bl true) E := by
  have fz : FzL K H a (ns.map V.int) := by
    rcases hS with (hS | ⟨o, hS⟩) | hS
    · rcases hO a with z | ⟨o, xs, z⟩
      · rw [hS] at z; cases z
      · rw [hS] at z; cases z
    · exact .inl ⟨o, hS⟩
    · exact .inr hS
  refine ⟨[.scr ns], fun _ => none, _, .one (.scr fz), (fun a o e => by cases e), h, fun w S v H' e r hS' q => ?_⟩
  subst q
  cases r
  rfl
end L2
end

section
set_option Elab.async false
set_option linter.all false
set_option maxRecDepth 100000
set_option maxHeartbeats 4000000
namespace L2
open PySem PySem.Spec PyProof.Rows
section
variable {X : Cx} {a b e : Expr} {p pos p2 pos2 : Pos}
def oRepT : W2
  | .tup xs, .int k, S, Q => (xs ≠ [] ∧ -(2 ^ 63) ≤ k ∧ k < 2 ^ 63 ∧ xs.length * k.toNat ≤ sizeLine) ∧ Q (.tup (List.replicate k.toNat xs).flatten) S
  | _, _, _, _ => False
theorem opw_repT {K : PySem.W.Frag} : OpW K (rRepT K) oRepT := fun H x y wx wy S Q QW rx ry hS h hQ => by
  cases rx with
  | @tup a vs ws f hs =>
    cases ry with
    | int k =>
      obtain ⟨⟨h0, h1, h2, h3⟩, h⟩ := h
      have hl := hs.length
      refine ⟨a, k, vs, rfl, rfl, .of f, ?_, h1, h2, by rw [← hl]; exact h3, fun hk => ?_, fun hk p hp => ?_⟩
      · rintro rfl
        cases hs
        exact h0 rfl
      · subst hk
        have : (List.replicate (Int.toNat 1) ws).flatten = ws := by simp
        rw [this] at h
        exact hQ _ S _ H .refl (.tup f hs) hS h
      · exact hQ _ S _ _ (.new hp) (.tup upd_same ((hs.rep k.toNat).ext (.new (S := S) hp))) (hS.new hp) h
    | _ => exact h.elim
  | _ => cases ry <;> exact h.elim
theorem je_repT {ta tb : WE} (ha : JE X a ta) (hb : JE X b tb) : JE X (.BinOp a .Mult b pos) (wOp oRepT ta tb) := je_op op_repT opw_repT ha hb
def wListrange (t : WE) : WL := fun E σ S Q => t E σ S fun w S1 => match w with
  | .int j => (-(2 ^ 62) ≤ j ∧ j ≤ 16777216) ∧ Q (upto 0 j.toNat) S1
  | _ => False
end
end L2
end

section
set_option Elab.async false
set_option linter.all false
set_option maxRecDepth 100000
set_option maxHeartbeats 4000000
namespace L2
open PySem PySem.Spec PyProof.Rows
def valW (kvs : List (List Int × W)) (k : List Int) : Option W := (kvs.find? fun kv => decide (kv.1 = k)).map (·.2)
def putW (kvs : List (List Int × W)) (k : List Int) (v : W) : List (List Int × W) :=
  if (kvs.any fun kv => decide (kv.1 = k)) = true then kvs.map (fun kv => if kv.1 = k then (kv.1, v) else kv) else kvs ++ [(k, v)]
def intsOf : List W → Option (List Int)
  | [] => some []
  | .int i :: ws => (intsOf ws).map (i :: ·)
  | _ => none
def keyW : W → Option (List Int)
  | .tup ws => intsOf ws
  | _ => none
def dctW (S : Sto) (a : Addr) (P : List (List Int × W) → Prop) : Prop := match S a with
  | some (.dct kvs) => P kvs
  | _ => False
theorem dctW_of {S : Sto} {a : Addr} {kvs : List (List Int × W)} {P : List (List Int × W) → Prop} (e : S a = some (.dct kvs)) : dctW S a P = P kvs := by unfold dctW; rw [e]
section
variable {K : PySem.W.Frag} {H : Hp}
abbrev RepD (K : PySem.W.Frag) (H : Hp) : List (List Int × W) → List (List Key × V) → Prop := Paired fun q p => p.1 = q.1.map Sum.inl ∧ Rep K H q.2 p.2
theorem inl_inj : ∀ {a b : List Int}, a.map (Sum.inl : Int → Key) = b.map Sum.inl → a = b
  | [], [], _ => rfl
  | [], _ :: _, h => by simp at h
  | _ :: _, [], h => by simp at h
  | x :: xs, y :: ys, h => by
    simp only [List.map_cons, List.cons.injEq, Sum.inl.injEq] at h
    rw [h.1, inl_inj h.2]
theorem RepD.val {kvs : List (List Int × W)} {ps : List (List Key × V)} (r : RepD K H kvs ps) (k : List Int) : (∀ w, valW kvs k = some w → ∃ v, valV ps (k.map Sum.inl) = some v ∧ Rep K H w v) ∧ (valW kvs k = none → valV ps (k.map Sum.inl) = none) := by
  induction r with
  | nil => exact ⟨fun w h => by simp [valW] at h, fun _ => rfl⟩
  | @cons q p kvs ps h t ih =>
    by_cases hk : q.1 = k
    · have e : p.1 = k.map Sum.inl := by rw [h.1, hk]
      rw [valV_pos e]
      have ew : valW (q :: kvs) k = some q.2 := by simp [valW, List.find?_cons, hk]
      rw [ew]
      exact ⟨fun w z => by cases z; exact ⟨_, rfl, h.2⟩, fun z => by cases z⟩
    · have e : ¬ p.1 = k.map Sum.inl := by rw [h.1]; exact fun z => hk (inl_inj z)
      rw [valV_neg e]
      have ew : valW (q :: kvs) k = valW kvs k := by simp [valW, List.find?_cons, hk]
      rw [ew]
      exact ih
theorem RepD.any {kvs : List (List Int × W)} {ps : List (List Key × V)} (r : RepD K H kvs ps) (k : List Int) : (ps.any fun kv => decide (kv.1 = k.map Sum.inl)) = kvs.any fun kv => decide (kv.1 = k) := by
  induction r with
  | nil => rfl
  | @cons q p kvs ps h t ih =>
    rw [List.any_cons, List.any_cons, ih]
    congr 1
    apply decide_eq_decide.mpr
    rw [h.1]
    exact ⟨inl_inj, fun z => by rw [z]⟩
theorem RepD.put {kvs : List (List Int × W)} {ps : List (List Key × V)} (r : RepD K H kvs ps) (k : List Int) {w : W} {v : V} (rw' : Rep K H w v) : RepD K H (putW kvs k w) (putK ps (k.map Sum.inl) v) := by
  unfold putW putK
  rw [r.any k]
  split
  · rename_i hany
    clear hany
    induction r with
    | nil => exact .nil
    | @cons q p kvs ps h t ih =>
      rw [List.map_cons, List.map_cons]
      refine .cons ?_ ih
      by_cases hk : q.1 = k
      · rw [if_pos hk, if_pos (by rw [h.1, hk])]
        exact ⟨h.1, rw'⟩
      · rw [if_neg hk, if_neg (by rw [h.1]; exact fun z => hk (inl_inj z))]
        exact h
  · rename_i hany
    clear hany
    induction r with
    | nil => exact .cons ⟨rfl, rw'⟩ .nil
    | cons h t ih => exact .cons h ih
theorem RepD.length {kvs : List (List Int × W)} {ps : List (List Key × V)} (r : RepD K H kvs ps) : kvs.length = ps.length := Paired.length r
end
def wDNew : WE := fun _ _ S Q => ∀ a, S a = none → Q (.ref a) (put S a (.dct []))
def oDIn (neg : Bool) : W2 := fun y x S Q => match x with
  | .ref a => match keyW y with
    | some k => dctW S a fun kvs => Q (.bl (if neg then !(valW kvs k).isSome else (valW kvs k).isSome)) S
    | none => False
  | _ => False
def oDGet : W2 := fun x y S Q => match x with
  | .ref a => match keyW y with
    | some k => dctW S a fun kvs => match valW kvs k with
      | some w => Q w S
      | none => False
    | none => False
  | _ => False
def wDPut (td ty tv : WE) : WS := fun E D σ S => tv E σ S fun v S1 => td E σ S1 fun x S2 => ty E σ S2 fun y S3 => match x with
  | .ref a => match keyW y with
    | some k => dctW S3 a fun kvs => kvs.length < sizeLine ∧ D.nx σ (put S3 a (.dct (putW kvs k v)))
    | none => False
  | _ => False
section
variable {X : Cx} {a b o i e value : Expr} {pos pos' p2 : Pos} {ta tb td ty tv : WE}
end
end L2
end

section
set_option Elab.async false
set_option linter.all false
set_option maxRecDepth 100000
set_option maxHeartbeats 4000000
namespace L2
open PySem PySem.Spec PyProof.Rows
section
variable {X : Cx} {o e : Expr} {to : WE} {tl : WL} {apos cpos p pos : Pos}
def mUpper : WMf := fun w ws S Q => match w, ws with
  | .str z, [] => z.length ≤ 5592405 ∧ Q (.str (Txt.upper z)) S
  | _, _ => False
def fSumL : WF := fun ws S Q => match intsOf ws with
  | some ns => Q (.int ns.sum) S
  | none => False
end
end L2
end

section
set_option Elab.async false
set_option linter.all false
set_option maxRecDepth 100000
set_option maxHeartbeats 4000000
namespace L2
open PySem PySem.Spec PyProof.Rows
inductive Tr where
  | bl (n : Int)
  | nd (s : Str) (ts : List Tr)
def Tr.kids : Tr → List Tr
  | .bl _ => []
  | .nd _ ts => ts
mutual
def Tr.weight : Tr → Nat
  | .bl _ => 1
  | .nd _ ts => 1 + wts ts
def wts : List Tr → Nat
  | [] => 0
  | t :: ts => t.weight + wts ts
end
mutual
def Tr.depth : Tr → Nat
  | .bl _ => 1
  | .nd _ ts => 1 + dts ts
def dts : List Tr → Nat
  | [] => 0
  | t :: ts => max t.depth (dts ts)
end
theorem wts_nil : wts [] = 0 := by unfold wts; rfl
theorem wts_cons (t : Tr) (ts : List Tr) : wts (t :: ts) = t.weight + wts ts := by
  conv => lhs; unfold wts
theorem wts_append : ∀ (ts us : List Tr), wts (ts ++ us) = wts ts + wts us
  | [], us => by
    show wts us = wts [] + wts us
    rw [wts_nil]
    omega
  | t :: ts, us => by
    show wts (t :: (ts ++ us)) = _
    rw [wts_cons, wts_cons, wts_append ts us]
    omega
theorem dts_nil : dts [] = 0 := by unfold dts; rfl
theorem dts_cons (t : Tr) (ts : List Tr) : dts (t :: ts) = max t.depth (dts ts) := by
  conv => lhs; unfold dts
theorem weight_kids (t : Tr) : t.weight = 1 + wts t.kids := by
  cases t with
  | bl n =>
    show Tr.weight (.bl n) = 1 + wts []
    unfold Tr.weight wts
    rfl
  | nd s ts =>
    show Tr.weight (.nd s ts) = 1 + wts ts
    conv => lhs; unfold Tr.weight
theorem depth_kids (t : Tr) : t.depth = 1 + dts t.kids := by
  cases t with
  | bl n =>
    show Tr.depth (.bl n) = 1 + dts []
    unfold Tr.depth dts
    rfl
  | nd s ts =>
    show Tr.depth (.nd s ts) = 1 + dts ts
    conv => lhs; unfold Tr.depth
theorem weight_pos (t : Tr) : 1 ≤ t.weight := by rw [weight_kids]; omega
theorem depth_pos (t : Tr) : 1 ≤ t.depth := by rw [depth_kids]; omega
theorem dts_append : ∀ (ts us : List Tr), dts (ts ++ us) = max (dts ts) (dts us)
  | [], us => by
    show dts us = max (dts []) (dts us)
    rw [dts_nil]
    omega
  | t :: ts, us => by
    show dts (t :: (ts ++ us)) = _
    rw [dts_cons, dts_cons, dts_append ts us]
    omega
theorem wts_len : ∀ (ts : List Tr), ts.length ≤ wts ts
  | [] => Nat.zero_le _
  | t :: ts => by
    have := wts_len ts
    have := weight_pos t
    rw [wts_cons, List.length_cons]
    omega
theorem dts_flat : ∀ {ts : List Tr}, ts ≠ [] → dts ts = 1 + dts (ts.flatMap Tr.kids)
  | [], h => absurd rfl h
  | [t], _ => by
    rw [List.flatMap_cons, List.flatMap_nil, List.append_nil, dts_cons, dts_nil, depth_kids]
    omega
  | t :: u :: r, _ => by
    have ih := dts_flat (ts := u :: r) (by simp)
    have e : (t :: u :: r).flatMap Tr.kids = t.kids ++ (u :: r).flatMap Tr.kids := List.flatMap_cons ..
    rw [dts_cons, ih, e, dts_append, depth_kids]
    omega
theorem wts_flat : ∀ (ts : List Tr), wts (ts.flatMap Tr.kids) + ts.length = wts ts
  | [] => by rw [List.flatMap_nil, wts_nil]; rfl
  | t :: ts => by
    have ih := wts_flat ts
    rw [List.flatMap_cons, wts_append, wts_cons, List.length_cons, weight_kids]
    omega
mutual
def enc : Tr → W
  | .bl n => .int n
  | .nd s ts => .tup (.str s :: encs ts)
def encs : List Tr → List W
  | [] => []
  | t :: ts => enc t :: encs ts
end
theorem encs_map : ∀ ts : List Tr, encs ts = ts.map enc
  | [] => by simp [encs]
  | t :: ts => by simp [encs, encs_map ts]
theorem encs_len (ts : List Tr) : (encs ts).length = ts.length := by rw [encs_map, List.length_map]
def encP (p : List Int) : W := .tup (p.map W.int)
end L2
end

section
set_option Elab.async false
set_option linter.all false
set_option maxRecDepth 100000
set_option maxHeartbeats 4000000
namespace L2
open PySem PySem.Spec PyProof.Rows
theorem sub_int_int : subTy "int" "int" = true := by decide +kernel
theorem sub_int_bool : subTy "int" "bool" = false := by decide +kernel
theorem sub_int_str : subTy "int" "str" = false := by decide +kernel
theorem sub_int_tuple : subTy "int" "tuple" = false := by decide +kernel
theorem sub_int_list : subTy "int" "list" = false := by decide +kernel
theorem sub_bool_int : subTy "bool" "int" = true := by decide +kernel
theorem sub_bool_bool : subTy "bool" "bool" = true := by decide +kernel
theorem sub_bool_str : subTy "bool" "str" = false := by decide +kernel
theorem sub_bool_tuple : subTy "bool" "tuple" = false := by decide +kernel
theorem sub_bool_list : subTy "bool" "list" = false := by decide +kernel
theorem sub_str_int : subTy "str" "int" = false := by decide +kernel
theorem sub_str_bool : subTy "str" "bool" = false := by decide +kernel
theorem sub_str_str : subTy "str" "str" = true := by decide +kernel
theorem sub_str_tuple : subTy "str" "tuple" = false := by decide +kernel
theorem sub_str_list : subTy "str" "list" = false := by decide +kernel
theorem sub_tuple_int : subTy "tuple" "int" = false := by decide +kernel
theorem sub_tuple_bool : subTy "tuple" "bool" = false := by decide +kernel
theorem sub_tuple_str : subTy "tuple" "str" = false := by decide +kernel
theorem sub_tuple_tuple : subTy "tuple" "tuple" = true := by decide +kernel
theorem sub_tuple_list : subTy "tuple" "list" = false := by decide +kernel
theorem sub_list_int : subTy "list" "int" = false := by decide +kernel
theorem sub_list_bool : subTy "list" "bool" = false := by decide +kernel
theorem sub_list_str : subTy "list" "str" = false := by decide +kernel
theorem sub_list_tuple : subTy "list" "tuple" = false := by decide +kernel
theorem sub_list_list : subTy "list" "list" = true := by decide +kernel
section
variable {α : Type} {x : α} {xs : List α}
theorem cut_from (n : Nat) : cutA xs (some (n : Int)) none = xs.drop n := by
  unfold cutA
  rw [HT.sIx_nat, HT.sIx_none]
  by_cases h : n ≤ xs.length
  · rw [Nat.min_eq_left h, List.take_of_length_le (by rw [List.length_drop]; omega)]
  · rw [Nat.min_eq_right (by omega), List.drop_of_length_le (Nat.le_refl _), List.drop_of_length_le (by omega), List.take_nil]
theorem cut_upto (n : Nat) : cutA xs none (some (n : Int)) = xs.take n := by
  unfold cutA
  rw [HT.sIx_nat, HT.sIx_none, List.drop_zero, Nat.sub_zero]
  by_cases h : n ≤ xs.length
  · rw [Nat.min_eq_left h]
  · rw [Nat.min_eq_right (by omega), List.take_length, List.take_of_length_le (by omega)]
theorem cut_mid (n m : Nat) : cutA xs (some (n : Int)) (some (m : Int)) = (xs.drop n).take (m - n) := by
  unfold cutA
  rw [HT.sIx_nat, HT.sIx_nat]
  by_cases h : n ≤ xs.length
  · rw [Nat.min_eq_left h]
    by_cases h2 : m ≤ xs.length
    · rw [Nat.min_eq_left h2]
    · rw [Nat.min_eq_right (by omega), List.take_of_length_le (by rw [List.length_drop]; omega), List.take_of_length_le (by rw [List.length_drop]; omega)]
  · rw [Nat.min_eq_right (show xs.length ≤ n by omega), List.drop_of_length_le (Nat.le_refl _), List.drop_of_length_le (show xs.length ≤ n by omega), List.take_nil, List.take_nil]
theorem cut_one : cutA (x :: xs) (some 1) none = xs := by rw [show (1 : Int) = ((1 : Nat) : Int) from rfl, cut_from]; rfl
theorem sIx_neg {n d k : Nat} (h : 0 < k) : HT.sIx n d (some (-(k : Int))) = n - k := by
  show (if (-(k : Int)) < 0 then (-(k : Int) + (n : Int)).toNat else min (-(k : Int)).toNat n) = n - k
  rw [if_pos (by omega)]
  omega
theorem cut_butlast (k : Nat) (h : 0 < k) : cutA xs none (some (-(k : Int))) = xs.take (xs.length - k) := by
  unfold cutA
  rw [sIx_neg h, HT.sIx_none, List.drop_zero, Nat.sub_zero]
theorem cut_lasts (k : Nat) (h : 0 < k) : cutA xs (some (-(k : Int))) none = xs.drop (xs.length - k) := by
  unfold cutA
  rw [sIx_neg h, HT.sIx_none, List.take_of_length_le (by rw [List.length_drop]; omega)]
theorem atI_nat' {n : Nat} : atI xs (n : Int) = xs[n]? := by
  unfold atI ixN
  rw [if_pos (by omega)]
  by_cases h : n < xs.length
  · rw [if_pos (by omega)]; simp
  · rw [if_neg (by omega)]; simp; omega
theorem atI_zero : atI (x :: xs) 0 = some x := atI_nat' (n := 0)
theorem atI_neg {k : Nat} (h : 0 < k) (hk : k ≤ xs.length) : atI xs (-(k : Int)) = xs[xs.length - k]? := by
  unfold atI ixN
  rw [if_neg (by omega), if_pos (by omega)]
  simp
  congr 1
  omega
end
section
variable {S S' : Sto} {a b : Addr} {o : Ob} {Q : List W → Prop} {ws : List W}
theorem lstW_put : lstW (put S a (.lst ws)) a Q = Q ws := lstW_of put_same
theorem lstW_ne (h : b ≠ a) : lstW (put S a o) b Q = lstW S b Q := by unfold lstW; rw [put_ne h]
theorem put_none (h : put S a o b = none) : S b = none ∧ b ≠ a := by
  have hb : b ≠ a := by rintro rfl; rw [put_same] at h; cases h
  rw [put_ne hb] at h
  exact ⟨h, hb⟩
theorem ne_st {u : Ob} (h : S a = some u) (n : S b = none) : a ≠ b := by rintro rfl; rw [h] at n; cases n
theorem Sub.put (h : Sub S S') (n : S a = none) : Sub S (L2.put S' a o) := fun b u e => by rw [put_ne (ne_st e n)]; exact h b u e
theorem Sub.put2 {u : Ob} (h : Sub S S') : Sub (L2.put S a u) (L2.put S' a u) := fun b w e => by
  by_cases hb : b = a
  · subst hb; rw [put_same] at e ⊢; exact e
  · rw [put_ne hb] at e ⊢; exact h b w e
theorem Sub.get {u : Ob} (h : Sub S S') (e : S a = some u) : S' a = some u := h a u e
end
theorem eq_int (S : Sto) (a b : Int) : eqF S 60 (.int a) (.int b) = some (a == b) := by have h : eqF S 60 (.int a) (.int b) = some (a == b) := rfl; exact h
theorem eq_str (S : Sto) (a b : Str) : eqF S 60 (.str a) (.str b) = some (a == b) := by have h : eqF S 60 (.str a) (.str b) = some (a == b) := rfl; exact h
theorem eq_bl (S : Sto) (a b : Bool) : eqF S 60 (.bl a) (.bl b) = some (a == b) := by have h : eqF S 60 (.bl a) (.bl b) = some (a == b) := rfl; exact h
theorem line_le {n : Nat} (h : n ≤ 16777216) : n ≤ sizeLine := by rw [sizeLine_eq]; exact h
theorem line_lt {n : Nat} (h : n < 16777216) : n < sizeLine := by rw [sizeLine_eq]; exact h
section
variable {S : Sto} {Q : WK} {QB : Bool → Sto → Prop} {QS : List W → (Sto → Prop) → Prop} {QT : String → Prop}
theorem put_id {a : Addr} {o : Ob} (h : S a = some o) : put S a o = S := by
  funext b
  unfold put
  split
  · rename_i e; rw [e, h]
  · rfl
theorem e_tru_bl {b : Bool} : truW (.bl b) S QB = QB b S := propext ⟨fun h => h, fun h => h⟩
theorem e_tru_int {i : Int} : truW (.int i) S QB = QB (i != 0) S := propext ⟨fun h => h, fun h => h⟩
theorem e_tru_tup {ws : List W} : truW (.tup ws) S QB = QB (!ws.isEmpty) S := propext ⟨fun h => h, fun h => h⟩
theorem e_tru_ref {a : Addr} : truW (.ref a) S QB = lstW S a fun ws => QB (!ws.isEmpty) S := propext ⟨fun h => h, fun h => h⟩
theorem e_tru_non : truW .non S QB = QB false S := propext ⟨fun h => h, fun h => h⟩
theorem e_seq_tup {ws : List W} : seqW (.tup ws) S QS = QS ws fun _ => True := propext ⟨fun h => h, fun h => h⟩
theorem e_seq_ref {a : Addr} : seqW (.ref a) S QS = lstW S a fun ws => QS ws fun S' => S' a = some (.lst ws) := propext ⟨fun h => h, fun h => h⟩
theorem e_ty_bl {b : Bool} : tyW (.bl b) S QT = QT "bool" := propext ⟨fun h => h, fun h => h⟩
theorem e_ty_int {i : Int} : tyW (.int i) S QT = QT "int" := propext ⟨fun h => h, fun h => h⟩
theorem e_ty_str {i : Str} : tyW (.str i) S QT = QT "str" := propext ⟨fun h => h, fun h => h⟩
theorem e_ty_tup {i : List W} : tyW (.tup i) S QT = QT "tuple" := propext ⟨fun h => h, fun h => h⟩
theorem e_ty_non : tyW .non S QT = QT "NoneType" := propext ⟨fun h => h, fun h => h⟩
theorem e_ty_ref {a : Addr} : tyW (.ref a) S QT = lstW S a fun _ => QT "list" := propext ⟨fun h => h, fun h => h⟩
theorem e_add_int {i j : Int} : oAdd (.int i) (.int j) S Q = Q (.int (i + j)) S := propext ⟨fun h => h, fun h => h⟩
theorem e_add_str {i j : Str} : oAdd (.str i) (.str j) S Q = (i.length + j.length ≤ sizeLine ∧ Q (.str (i ++ j)) S) := propext ⟨fun h => h, fun h => h⟩
theorem e_add_tup {i j : List W} : oAdd (.tup i) (.tup j) S Q = (i.length + j.length ≤ sizeLine ∧ Q (.tup (i ++ j)) S) := propext ⟨fun h => h, fun h => h⟩
theorem e_add_lst {a b : Addr} : oAdd (.ref a) (.ref b) S Q = lstW S a fun xs => lstW S b fun ys => xs.length + ys.length ≤ sizeLine ∧ ∀ p, S p = none → Q (.ref p) (put S p (.lst (xs ++ ys))) := propext ⟨fun h => h, fun h => h⟩
theorem e_int {C : Int → Int → Prop} {g : Int → Int → W} {i j : Int} : oInt C g (.int i) (.int j) S Q = (C i j ∧ Q (g i j) S) := propext ⟨fun h => h, fun h => h⟩
theorem e_int0 {g : Int → Int → W} {i j : Int} : oInt0 g (.int i) (.int j) S Q = Q (g i j) S := propext ⟨fun h => h, fun h => h⟩
theorem e_le_int {i j : Int} : oLe (.int i) (.int j) S Q = Q (.bl (decide (i ≤ j))) S := propext ⟨fun h => h, fun h => h⟩
theorem e_le_str {i j : Str} : oLe (.str i) (.str j) S Q = Q (.bl (!decide (j.cps.toList < i.cps.toList))) S := propext ⟨fun h => h, fun h => h⟩
theorem e_len_tup {us : List W} : fLen [.tup us] S Q = Q (.int us.length) S := propext ⟨fun h => h, fun h => h⟩
theorem e_len_ref {a : Addr} : fLen [.ref a] S Q = lstW S a fun us => Q (.int us.length) S := propext ⟨fun h => h, fun h => h⟩
theorem e_len_scr {ns : List Int} : fLen [.scr ns] S Q = Q (.int ns.length) S := propext ⟨fun h => h, fun h => h⟩
theorem e_len_str {z : Str} : fLen [.str z] S Q = (z.length ≤ sizeLine ∧ Q (.int z.length) S) := propext ⟨fun h => h, fun h => h⟩
theorem e_ix_tup {ws : List W} {i : Int} : oIx (.tup ws) (.int i) S Q = match atI ws i with
  | some w => Q w S
  | none => False := propext ⟨fun h => h, fun h => h⟩
theorem e_ix_ref {a : Addr} {i : Int} : oIx (.ref a) (.int i) S Q = lstW S a fun ws => match atI ws i with
  | some w => Q w S
  | none => False := propext ⟨fun h => h, fun h => h⟩
theorem e_ix_scr {ns : List Int} {i : Int} : oIx (.scr ns) (.int i) S Q = match atI ns i with
  | some n => Q (.int n) S
  | none => False := propext ⟨fun h => h, fun h => h⟩
theorem e_ix_str {x : Str} {i : Int} : oIx (.str x) (.int i) S Q = (x.length ≤ sizeLine ∧ match atI x.cps.toList i with
  | some c => Q (.str ⟨#[c]⟩) S
  | none => False) := propext ⟨fun h => h, fun h => h⟩
theorem e_sl_tup {ws : List W} {lo hi : Option Int} : oSl (.tup ws) lo hi S Q = Q (.tup (cutA ws lo hi)) S := propext ⟨fun h => h, fun h => h⟩
theorem e_sl_str {z : Str} {lo hi : Option Int} : oSl (.str z) lo hi S Q = (z.length ≤ sizeLine ∧ Q (.str (Txt.slice z lo hi)) S) := propext ⟨fun h => h, fun h => h⟩
theorem e_sl_ref {a : Addr} {lo hi : Option Int} : oSl (.ref a) lo hi S Q = lstW S a fun ws => ∀ p, S p = none → Q (.ref p) (put S p (.lst (cutA ws lo hi))) := propext ⟨fun h => h, fun h => h⟩
theorem e_sl_scr {ns : List Int} {lo hi : Option Int} : oSl (.scr ns) lo hi S Q = ∀ p, S p = none → Q (.ref p) (put S p (.lst ((cutA ns lo hi).map W.int))) := propext ⟨fun h => h, fun h => h⟩
theorem e_tuple_tup {us : List W} : fTuple [.tup us] S Q = Q (.tup us) S := propext ⟨fun h => h, fun h => h⟩
theorem e_tuple_ref {a : Addr} : fTuple [.ref a] S Q = lstW S a fun us => Q (.tup us) S := propext ⟨fun h => h, fun h => h⟩
theorem e_append {a : Addr} {y : W} : mAppend (.ref a) [y] S Q = lstW S a fun xs => xs.length < sizeLine ∧ Q .non (put S a (.lst (xs ++ [y]))) := propext ⟨fun h => h, fun h => h⟩
theorem e_pop {a : Addr} : mPop (.ref a) [] S Q = lstW S a fun xs => match xs[xs.length - 1]? with
  | some y => Q y (put S a (.lst xs.dropLast))
  | none => False := propext ⟨fun h => h, fun h => h⟩
theorem e_extend_tup {a : Addr} {ys : List W} : mExtend (.ref a) [.tup ys] S Q = lstW S a fun xs => xs.length + ys.length ≤ sizeLine ∧ Q .non (put S a (.lst (xs ++ ys))) := propext ⟨fun h => h, fun h => h⟩
theorem e_extend_ref {a b : Addr} : mExtend (.ref a) [.ref b] S Q = lstW S a fun xs => lstW S b fun ys => xs.length + ys.length ≤ sizeLine ∧ Q .non (put S a (.lst (xs ++ ys))) := propext ⟨fun h => h, fun h => h⟩
theorem e_extendL {a : Addr} {ws : List W} : mExtendL (.ref a) ws S Q = lstW S a fun xs => xs.length + ws.length ≤ sizeLine ∧ Q .non (put S a (.lst (xs ++ ws))) := propext ⟨fun h => h, fun h => h⟩
theorem e_rvL {a : Addr} : rvL (.ref a) S = lstW S a fun _ => True := propext ⟨fun h => h, fun h => h⟩
theorem e_rvS {x : Str} : rvS (.str x) S = True := propext ⟨fun h => h, fun h => h⟩
theorem e_int_bl {b : Bool} : fInt [.bl b] S Q = Q (.int (if b then 1 else 0)) S := propext ⟨fun h => h, fun h => h⟩
theorem e_int_int {i : Int} : fInt [.int i] S Q = Q (.int i) S := propext ⟨fun h => h, fun h => h⟩
theorem e_max2 {i j : Int} : fMax2 [.int i, .int j] S Q = Q (.int (if j > i then j else i)) S := propext ⟨fun h => h, fun h => h⟩
theorem e_min2 {i j : Int} : fMin2 [.int i, .int j] S Q = Q (.int (if j < i then j else i)) S := propext ⟨fun h => h, fun h => h⟩
theorem e_join {z : Str} {ws : List W} : mJoinL (.str z) ws S Q = match strsOf ws with
  | some ys => (ys.map (·.length)).sum + ys.length * z.length ≤ 16777216 ∧ Q (.str (Str.join z ys)) S
  | none => False := propext ⟨fun h => h, fun h => h⟩
theorem e_index {z y : Str} : mIndex (.str z) [.str y] S Q = match Builtin.Str.occurrences z y 0 z.length 1 with
  | i :: _ => Q (.int i) S
  | [] => False := propext ⟨fun h => h, fun h => h⟩
theorem e_is_non {neg : Bool} : oIs neg .non .non S Q = Q (.bl (!neg)) S := propext ⟨fun h => h, fun h => h⟩
theorem e_is_bl {neg a b : Bool} : oIs neg (.bl a) (.bl b) S Q = Q (.bl (if neg then a != b else a == b)) S := propext ⟨fun h => h, fun h => h⟩
theorem e_is_bn {neg a : Bool} : oIs neg (.bl a) .non S Q = Q (.bl neg) S := propext ⟨fun h => h, fun h => h⟩
theorem e_is_tn {neg : Bool} {ws : List W} : oIs neg (.tup ws) .non S Q = Q (.bl neg) S := propext ⟨fun h => h, fun h => h⟩
theorem e_is_rn {neg : Bool} {a : Addr} : oIs neg (.ref a) .non S Q = Q (.bl neg) S := propext ⟨fun h => h, fun h => h⟩
theorem e_is_in {neg : Bool} {a : Int} : oIs neg (.int a) .non S Q = Q (.bl neg) S := propext ⟨fun h => h, fun h => h⟩
theorem e_in_tup {neg : Bool} {x : W} {ws : List W} : oIn neg x (.tup ws) S Q = match inF S x ws with
  | some b => Q (.bl (if neg then !b else b)) S
  | none => False := propext ⟨fun h => h, fun h => h⟩
theorem e_in_ref {neg : Bool} {x : W} {a : Addr} : oIn neg x (.ref a) S Q = lstW S a fun ws => match inF S x ws with
  | some b => Q (.bl (if neg then !b else b)) S
  | none => False := propext ⟨fun h => h, fun h => h⟩
theorem e_in_str {neg : Bool} {i j : Str} : oIn neg (.str i) (.str j) S Q = Q (.bl (if neg then !(!(Builtin.Str.occurrences j i 0 j.length 1).isEmpty) else !(Builtin.Str.occurrences j i 0 j.length 1).isEmpty)) S := propext ⟨fun h => h, fun h => h⟩
end
theorem for_inv {g : WG} {b : WS} {E : WX} {D : WEnds} {G : Sto → Prop} (I : List W → WSt → Sto → Prop)
    (step : ∀ w ws σ S (N : WSt → Sto → Prop), I (w :: ws) σ S → (∀ σ' S' S'', Sub S'' S' → G S'' → I ws σ' S'' → N σ' S') → g w σ S fun σ1 S1 => b E { D with nx := N, ct := N, bk := D.nx } σ1 S1)
    (done : ∀ σ S, I [] σ S → D.nx σ S) : ∀ (ws : List W) (σ : WSt) (S : Sto), I ws σ S → forL g b E D G ws σ S
  | [], σ, S, h => done σ S h
  | w :: ws, σ, S, h => step w ws σ S _ h fun σ' S' S'' sb hG hI => ⟨S'', sb, hG, for_inv I step done ws σ' S'' hI⟩
theorem comp_each {g : WG} {e : WE} {E : WX} {G : Sto → Prop} {Q : List W → Sto → Prop} {S : Sto} (I : WSt → Prop) (P : W → W → Prop) (hG : G S) :
    ∀ (ws acc : List W) (σ : WSt), I σ → acc.length + ws.length ≤ 1000000 →
    (∀ w ∈ ws, ∀ σ (R : WSt → W → Sto → Prop), I σ → (∀ σ1 y S3, I σ1 → P w y → Sub S S3 → R σ1 y S3) → g w σ S fun σ1 S1 => e E σ1 S1 fun y S3 => R σ1 y S3) →
    (∀ ys, Paired P ws ys → Q (acc ++ ys) S) → compL g wYes e E G Q ws acc σ S
  | [], acc, σ, hI, hl, step, hQ => by
    have := hQ [] .nil
    rw [List.append_nil] at this
    exact this
  | w :: ws, acc, σ, hI, hl, step, hQ => by
    simp only [compL, wYes, if_true]
    refine step w List.mem_cons_self σ _ hI fun σ1 y S3 hI1 hP sb => ?_
    simp only [List.length_cons] at hl
    refine ⟨line_lt (by omega), S, sb, hG, comp_each I P hG ws (acc ++ [y]) σ1 hI1 (by simp; omega) (fun w' hw => step w' (List.mem_cons_of_mem _ hw)) fun ys hp => ?_⟩
    rw [List.append_assoc]
    exact hQ (y :: ys) (.cons hP hp)
section
variable {E : WX} {σ : WSt} {S : Sto} {Q : WK} {QB : Bool → Sto → Prop} {QA : List W → Sto → Prop} {QI : List W → (Sto → Prop) → Sto → Prop} {QO : Option Int → Sto → Prop} {P : WSt → Sto → Prop} {D : WEnds} {w x y : W} {ws : List W} {EX : Str → Sto → Prop}
theorem u_wVar {i : Nat} : (wVar i E σ S Q) = (match σ[i]? with
  | some (some w) => Q w S
  | _ => False) := propext ⟨fun h => h, fun h => h⟩
theorem u_wC {w : W} : (wC w E σ S Q) = (Q w S) := propext ⟨fun h => h, fun h => h⟩
theorem u_wOp {r : W2} {a b : WE} : (wOp r a b E σ S Q) = (a E σ S fun x S1 => b E σ S1 fun y S2 => r x y S2 Q) := propext ⟨fun h => h, fun h => h⟩
theorem u_wTru {t : WE} : (wTru t E σ S QB) = (t E σ S fun w S' => truW w S' QB) := propext ⟨fun h => h, fun h => h⟩
theorem u_wTb {t : WE} : (wTb t E σ S QB) = (t E σ S fun w S' => match w with
  | .bl b => QB b S'
  | _ => False) := propext ⟨fun h => h, fun h => h⟩
theorem u_wAnd {t u : WT} : (wAnd t u E σ S QB) = (t E σ S fun c S1 => if c = true then u E σ S1 QB else QB false S1) := propext ⟨fun h => h, fun h => h⟩
theorem u_wOr {t u : WT} : (wOr t u E σ S QB) = (t E σ S fun c S1 => if c = true then QB true S1 else u E σ S1 QB) := propext ⟨fun h => h, fun h => h⟩
theorem u_wNot {t : WT} : (wNot t E σ S QB) = (t E σ S fun c S1 => QB (!c) S1) := propext ⟨fun h => h, fun h => h⟩
theorem u_wAndV {t u : WE} : (wAndV t u E σ S Q) = (t E σ S fun w S1 => match w with
  | .bl true => u E σ S1 Q
  | .bl false => Q (.bl false) S1
  | _ => False) := propext ⟨fun h => h, fun h => h⟩
theorem u_wOrV {t u : WE} : (wOrV t u E σ S Q) = (t E σ S fun w S1 => match w with
  | .bl false => u E σ S1 Q
  | .bl true => Q (.bl true) S1
  | _ => False) := propext ⟨fun h => h, fun h => h⟩
theorem u_wNotV {t : WE} : (wNotV t E σ S Q) = (t E σ S fun w S1 => match w with
  | .bl b => Q (.bl !b) S1
  | _ => False) := propext ⟨fun h => h, fun h => h⟩
theorem u_wIf {c : WT} {t u : WE} : (wIf c t u E σ S Q) = (c E σ S fun b S1 => if b = true then t E σ S1 Q else u E σ S1 Q) := propext ⟨fun h => h, fun h => h⟩
theorem u_wIfS {c : WT} {t u : WS} : (wIfS c t u E D σ S) = (c E σ S fun b S1 => if b = true then t E D σ S1 else u E D σ S1) := propext ⟨fun h => h, fun h => h⟩
theorem u_wNext : (wNext  E D σ S) = (D.nx σ S) := propext ⟨fun h => h, fun h => h⟩
theorem u_wSeq {t u : WS} : (wSeq t u E D σ S) = (t E { D with nx := u E D } σ S) := propext ⟨fun h => h, fun h => h⟩
theorem u_wRet {e : WE} : (wRet e E D σ S) = (e E σ S D.rt) := propext ⟨fun h => h, fun h => h⟩
theorem u_wRetN : (wRetN  E D σ S) = (D.rt .non S) := propext ⟨fun h => h, fun h => h⟩
theorem u_wDrop {e : WE} : (wDrop e E D σ S) = (e E σ S fun _ S1 => D.nx σ S1) := propext ⟨fun h => h, fun h => h⟩
theorem u_wGN {i : Nat} : (wGN i w σ S P) = (P (σ.set i (some w)) S) := propext ⟨fun h => h, fun h => h⟩
theorem u_wAsg {e : WE} {g : WG} : (wAsg e g E D σ S) = (e E σ S fun w S1 => g w σ S1 D.nx) := propext ⟨fun h => h, fun h => h⟩
theorem u_wGnil : (wGnil  ws σ S P) = (match ws with
  | [] => P σ S
  | _ => False) := propext ⟨fun h => h, fun h => h⟩
theorem u_wGcons {g : WG} {u : WGs} : (wGcons g u ws σ S P) = (match ws with
  | [] => False
  | w :: r => g w σ S fun σ' S' => u r σ' S' P) := propext ⟨fun h => h, fun h => h⟩
theorem u_wGT {u : WGs} : (wGT u w σ S P) = (match w with
  | .tup ws => u ws σ S P
  | _ => False) := propext ⟨fun h => h, fun h => h⟩
theorem u_waNil : (waNil  E σ S QA) = (QA [] S) := propext ⟨fun h => h, fun h => h⟩
theorem u_waCons {t : WE} {u : WA} : (waCons t u E σ S QA) = (t E σ S fun w S1 => u E σ S1 fun ws S2 => QA (w :: ws) S2) := propext ⟨fun h => h, fun h => h⟩
theorem u_wTup {t : WA} : (wTup t E σ S Q) = (t E σ S fun ws S1 => ws.length ≤ sizeLine ∧ Q (.tup ws) S1) := propext ⟨fun h => h, fun h => h⟩
theorem u_wLst {t : WA} : (wLst t E σ S QA) = (t E σ S fun ws S1 => ws.length ≤ sizeLine ∧ QA ws S1) := propext ⟨fun h => h, fun h => h⟩
theorem u_wNew {t : WL} : (wNew t E σ S Q) = (t E σ S fun ws S1 => ∀ a, S1 a = none → Q (.ref a) (put S1 a (.lst ws))) := propext ⟨fun h => h, fun h => h⟩
theorem u_wCall {c : WSp} {t : WA} : (wCall c t E σ S Q) = (t E σ S fun ws S1 => c ws S1 Q fun cl S2 => E cl σ S2) := propext ⟨fun h => h, fun h => h⟩
theorem u_wDef {n k : Nat} {body : WS} : (wDef n k body ws S Q EX) = (ws.length = k ∧ body (fun c _ S' => EX c S') { nx := fun _ S' => ∃ S'', Sub S'' S' ∧ Q .non S'', rt := fun w S' => ∃ S'', Sub S'' S' ∧ Q w S'' } (ws.map some ++ List.replicate (n - k) none) S) := propext ⟨fun h => h, fun h => h⟩
theorem u_wNeg {t : WE} : (wNeg t E σ S Q) = (t E σ S fun w S1 => match w with
  | .int i => Q (.int (-i)) S1
  | _ => False) := propext ⟨fun h => h, fun h => h⟩
theorem u_oEq {neg : Bool} : (oEq neg x y S Q) = (match eqF S 60 x y with
  | some b => Q (.bl (if neg then !b else b)) S
  | none => False) := propext ⟨fun h => h, fun h => h⟩
theorem u_wChain {r r' : W2} {a b c : WE} : (wChain r r' a b c E σ S Q) = (a E σ S fun x S1 => b E σ S1 fun y S2 => r x y S2 fun z S3 => match z with
  | .bl true => c E σ S3 fun u S4 => r' y u S4 Q
  | .bl false => Q (.bl false) S3
  | _ => False) := propext ⟨fun h => h, fun h => h⟩
theorem u_woN : (woN  E σ S QO) = (QO none S) := propext ⟨fun h => h, fun h => h⟩
theorem u_woS {t : WE} : (woS t E σ S QO) = (t E σ S fun w S1 => match w with
  | .int i => QO (some i) S1
  | _ => False) := propext ⟨fun h => h, fun h => h⟩
theorem u_wSl {t : WE} {l h : WO} : (wSl t l h E σ S Q) = (t E σ S fun x S1 => l E σ S1 fun lo S2 => h E σ S2 fun hi S3 => oSl x lo hi S3 Q) := propext ⟨fun h => h, fun h => h⟩
theorem u_wB {f : WF} {t : WA} : (wB f t E σ S Q) = (t E σ S fun ws S1 => f ws S1 Q) := propext ⟨fun h => h, fun h => h⟩
theorem u_wBL {f : WF} {t : WL} : (wBL f t E σ S Q) = (t E σ S fun ws S1 => f ws S1 Q) := propext ⟨fun h => h, fun h => h⟩
theorem u_fTupleL : (fTupleL  ws S Q) = (Q (.tup ws) S) := propext ⟨fun h => h, fun h => h⟩
theorem u_wListOf {t : WE} : (wListOf t E σ S QA) = (t E σ S fun w S1 => match w with
  | .tup ws => QA ws S1
  | .ref a => lstW S1 a fun ws => QA ws S1
  | .scr ns => QA (ns.map W.int) S1
  | _ => False) := propext ⟨fun h => h, fun h => h⟩
theorem u_fAllL : (fAllL  ws S Q) = (match blsOf ws with
  | some bs => Q (.bl (bs.all _root_.id)) S
  | none => False) := propext ⟨fun h => h, fun h => h⟩
theorem u_wIsi {T : String} {t : WE} : (wIsi T t E σ S Q) = (t E σ S fun w S1 => tyW w S1 fun A => Q (.bl (subTy A T)) S1) := propext ⟨fun h => h, fun h => h⟩
theorem u_wM {rv : W → Sto → Prop} {f : WMf} {to : WE} {t : WA} : (wM rv f to t E σ S Q) = (to E σ S fun w S1 => rv w S1 ∧ t E σ S1 fun ws S2 => f w ws S2 Q) := propext ⟨fun h => h, fun h => h⟩
theorem u_wML {rv : W → Sto → Prop} {f : WMf} {to : WE} {t : WL} : (wML rv f to t E σ S Q) = (to E σ S fun w S1 => rv w S1 ∧ t E σ S1 fun ws S2 => f w ws S2 Q) := propext ⟨fun h => h, fun h => h⟩
theorem u_wAug {i : Nat} {g : Int → Int → Int} {e : WE} : (wAug i g e E D σ S) = (match σ[i]? with
  | some (some (.int a)) => e E σ S fun w S1 => match w with
    | .int b => D.nx (σ.set i (some (.int (g a b)))) S1
    | _ => False
  | _ => False) := propext ⟨fun h => h, fun h => h⟩
theorem u_wFor {q : WI} {g : WG} {b : WS} : (wFor q g b E D σ S) = (q E σ S fun ws G S1 => forL g b E D G ws σ S1) := propext ⟨fun h => h, fun h => h⟩
theorem u_wIv {t : WE} : (wIv t E σ S QI) = (t E σ S fun w S1 => match w with
  | .tup ws => QI ws (fun _ => True) S1
  | .ref a => lstW S1 a fun ws => QI ws (fun S' => S' a = some (.lst ws)) S1
  | .scr ns => QI (ns.map W.int) (fun _ => True) S1
  | .str z => QI (signs z) (fun _ => True) S1
  | _ => False) := propext ⟨fun h => h, fun h => h⟩
theorem u_wIl {t : WL} : (wIl t E σ S QI) = (t E σ S fun ws S1 => QI ws (fun _ => True) S1) := propext ⟨fun h => h, fun h => h⟩
theorem u_wRng {t : WA} : (wRng t E σ S QI) = (t E σ S fun ws S1 => match ws with
  | [.int j] => (-(2 ^ 62) ≤ j ∧ j < 2 ^ 62) ∧ QI (upto 0 j.toNat) (fun _ => True) S1
  | _ => False) := propext ⟨fun h => h, fun h => h⟩
theorem u_wYes : (wYes  E σ S QB) = (QB true S) := propext ⟨fun h => h, fun h => h⟩
theorem u_wComp {k : Nat} {fr : List Nat} {q : WI} {g : WG} {c : WT} {e : WE} : (wComp k fr q g c e E σ S QA) = (q E σ S fun ws G S1 => compL g c e E G QA ws [] (List.replicate k none ++ fr.map fun j => (σ[j]?).join) S1) := propext ⟨fun h => h, fun h => h⟩
theorem u_wEnum {t : WE} : (wEnum t E σ S QI) = (t E σ S fun w S1 => seqW w S1 fun ws G => QI (nums 0 ws) G S1) := propext ⟨fun h => h, fun h => h⟩
theorem u_wZip {t u : WE} : (wZip t u E σ S QI) = (t E σ S fun x S1 => u E σ S1 fun y S2 => seqW x S2 fun xs G => seqW y S2 fun ys G' => QI (pairs xs ys) (fun S' => G S' ∧ G' S') S2) := propext ⟨fun h => h, fun h => h⟩
theorem u_wDown {t : WA} : (wDown t E σ S QI) = (t E σ S fun ws S1 => match ws with
  | [.int i, .int j, .int c] => c = -1 ∧ (-(2 ^ 62) ≤ i ∧ i < 2 ^ 62 ∧ -(2 ^ 62) ≤ j ∧ j < 2 ^ 62) ∧ QI (downto i (i - j).toNat) (fun _ => True) S1
  | _ => False) := propext ⟨fun h => h, fun h => h⟩
theorem u_wSlL' {t : WE} {l h : WO} : (wSlL t l h E σ S QA) = (t E σ S fun x S1 => l E σ S1 fun lo S2 => h E σ S2 fun hi S3 => match x with
  | .ref a => lstW S3 a fun ws => QA (cutA ws lo hi) S3
  | .scr ns => QA ((cutA ns lo hi).map W.int) S3
  | _ => False) := propext ⟨fun h => h, fun h => h⟩
theorem u_wIxL {t : WL} {u : WE} : (wIxL t u E σ S Q) = (t E σ S fun ws S1 => u E σ S1 fun y S2 => match y with
  | .int i => match atI ws i with
    | some w => Q w S2
    | none => False
  | _ => False) := propext ⟨fun h => h, fun h => h⟩
theorem u_wCatR {t : WE} {u : WL} : (wCatR t u E σ S QA) = (t E σ S fun x S1 => u E σ S1 fun ys S2 => match x with
  | .ref a => lstW S2 a fun xs => xs.length + ys.length ≤ sizeLine ∧ QA (xs ++ ys) S2
  | _ => False) := propext ⟨fun h => h, fun h => h⟩
theorem u_wCatB {t u : WL} : (wCatB t u E σ S QA) = (t E σ S fun xs S1 => u E σ S1 fun ys S2 => xs.length + ys.length ≤ sizeLine ∧ QA (xs ++ ys) S2) := propext ⟨fun h => h, fun h => h⟩
theorem u_wCatF {t : WL} {u : WE} : (wCatF t u E σ S QA) = (t E σ S fun xs S1 => u E σ S1 fun y S2 => match y with
  | .ref a => lstW S2 a fun ys => xs.length + ys.length ≤ sizeLine ∧ QA (xs ++ ys) S2
  | _ => False) := propext ⟨fun h => h, fun h => h⟩
theorem u_wRepL {t : WL} {u : WE} : (wRepL t u E σ S QA) = (t E σ S fun xs S1 => u E σ S1 fun y S2 => match y with
  | .int k => (-(2 ^ 63) ≤ k ∧ k < 2 ^ 63 ∧ xs.length * k.toNat ≤ sizeLine) ∧ QA (List.replicate k.toNat xs).flatten S2
  | _ => False) := propext ⟨fun h => h, fun h => h⟩
end
end L2
end

section
set_option Elab.async false
set_option linter.all false
set_option maxRecDepth 100000
set_option maxHeartbeats 4000000
namespace L2
open PySem PySem.Spec PyProof.Rows
section
variable {E : WX} {σ : WSt} {S : Sto} {Q : WK} {QA : List W → Sto → Prop}
theorem e_repT {xs : List W} {k : Int} : oRepT (.tup xs) (.int k) S Q = ((xs ≠ [] ∧ -(2 ^ 63) ≤ k ∧ k < 2 ^ 63 ∧ xs.length * k.toNat ≤ sizeLine) ∧ Q (.tup (List.replicate k.toNat xs).flatten) S) := propext ⟨fun h => h, fun h => h⟩
theorem u_wListrange {t : WE} : (wListrange t E σ S QA) = (t E σ S fun w S1 => match w with
  | .int j => (-(2 ^ 62) ≤ j ∧ j ≤ 16777216) ∧ QA (upto 0 j.toNat) S1
  | _ => False) := propext ⟨fun h => h, fun h => h⟩
theorem u_wDNew : (wDNew E σ S Q) = (∀ a, S a = none → Q (.ref a) (put S a (.dct []))) := propext ⟨fun h => h, fun h => h⟩
theorem e_din {neg : Bool} {y : W} {a : Addr} : oDIn neg y (.ref a) S Q = (match keyW y with
  | some k => dctW S a fun kvs => Q (.bl (if neg then !(valW kvs k).isSome else (valW kvs k).isSome)) S
  | none => False) := propext ⟨fun h => h, fun h => h⟩
theorem e_dget {y : W} {a : Addr} : oDGet (.ref a) y S Q = (match keyW y with
  | some k => dctW S a fun kvs => match valW kvs k with
    | some w => Q w S
    | none => False
  | none => False) := propext ⟨fun h => h, fun h => h⟩
theorem u_wDPut {td ty tv : WE} {D : WEnds} : (wDPut td ty tv E D σ S) = (tv E σ S fun v S1 => td E σ S1 fun x S2 => ty E σ S2 fun y S3 => match x with
  | .ref a => match keyW y with
    | some k => dctW S3 a fun kvs => kvs.length < sizeLine ∧ D.nx σ (put S3 a (.dct (putW kvs k v)))
    | none => False
  | _ => False) := propext ⟨fun h => h, fun h => h⟩
theorem u_fSumL {ws : List W} : (fSumL ws S Q) = (match intsOf ws with
  | some ns => Q (.int ns.sum) S
  | none => False) := propext ⟨fun h => h, fun h => h⟩
theorem e_upper {z : Str} : mUpper (.str z) [] S Q = (z.length ≤ 5592405 ∧ Q (.str (Txt.upper z)) S) := propext ⟨fun h => h, fun h => h⟩
theorem intsOf_map : ∀ p : List Int, intsOf (p.map W.int) = some p
  | [] => rfl
  | i :: p => by rw [List.map_cons, intsOf, intsOf_map p]; rfl
theorem key_P (p : List Int) : keyW (encP p) = some p := intsOf_map p
theorem dctW_put {a : Addr} {kvs : List (List Int × W)} {P : List (List Int × W) → Prop} : dctW (put S a (.dct kvs)) a P = P kvs := dctW_of put_same
end
end L2
end

section
set_option Elab.async false
set_option linter.all false
set_option maxRecDepth 100000
set_option maxHeartbeats 4000000
namespace L2
open PySem PySem.Spec PyProof.Rows
def c_parts_of : Nat → WSp
  | 0 => wOut
  | r + 1 => wDef 1 1 (wSeq (wIfS (wTru (wIsi "int" (wVar 0))) (wRet (wTup waNil)) wNext)
    (wRet (wSl (wVar 0) (woS (wC (.int 1))) woN)))

def b_weight_1 (r : Nat) (self : WSp) : WS := (wSeq (wAug 1 (fun a b => a + b) (wC (.int 1)))
    (wSeq (wAsg (wM rvL mPop (wVar 2) waNil) (wGN 3))
    (wDrop (wM rvL mExtend (wVar 2) (waCons (wCall (c_parts_of r) (waCons (wVar 3) waNil)) waNil)))))
def c_weight : Nat → WSp
  | 0 => wOut
  | r + 1 => wDef 4 1 (wSeq (wAsg (wC (.int 0)) (wGN 1))
    (wSeq (wAsg (wNew (wLst (waCons (wVar 0) waNil))) (wGN 2))
    (wSeq (wWhile (wTru (wVar 2)) (b_weight_1 r wOut))
    (wRet (wVar 1)))))

def b_parts_of_all_1 (r : Nat) (self : WSp) : WS := (wDrop (wM rvL mExtend (wVar 1) (waCons (wCall (c_parts_of r) (waCons (wVar 2) waNil)) waNil)))
def c_parts_of_all : Nat → WSp
  | 0 => wOut
  | r + 1 => wDef 3 1 (wSeq (wAsg (wNew (wLst waNil)) (wGN 1))
    (wSeq (wFor (wIv (wVar 0)) (wGN 2) (b_parts_of_all_1 r wOut))
    (wRet (wVar 1))))

def b_depth_1 (r : Nat) (self : WSp) : WS := (wSeq (wAug 1 (fun a b => a + b) (wC (.int 1)))
    (wAsg (wCall (c_parts_of_all r) (waCons (wVar 2) waNil)) (wGN 2)))
def c_depth : Nat → WSp
  | 0 => wOut
  | r + 1 => wDef 3 1 (wSeq (wAsg (wC (.int 0)) (wGN 1))
    (wSeq (wAsg (wNew (wLst (waCons (wVar 0) waNil))) (wGN 2))
    (wSeq (wWhile (wTru (wVar 2)) (b_depth_1 r wOut))
    (wRet (wVar 1)))))

def b_is_small_1 (r : Nat) (self : WSp) : WS := (wSeq (wAug 1 (fun a b => a + b) (wB fLen (waCons (wVar 3) waNil)))
    (wSeq (wAug 2 (fun a b => a + b) (wC (.int 1)))
    (wSeq (wIfS (wOr (wTb (wOp oGt (wVar 1) (wC (.int 400)))) (wTb (wOp oGt (wVar 2) (wC (.int 40))))) (wRet (wC (.bl false))) wNext)
    (wAsg (wCall (c_parts_of_all r) (waCons (wVar 3) waNil)) (wGN 3)))))
def c_is_small : Nat → WSp
  | 0 => wOut
  | r + 1 => wDef 4 1 (wSeq (wAsg (wC (.int 0)) (wGN 1))
    (wSeq (wAsg (wC (.int 0)) (wGN 2))
    (wSeq (wAsg (wNew (wLst (waCons (wVar 0) waNil))) (wGN 3))
    (wSeq (wWhile (wTru (wVar 3)) (b_is_small_1 r wOut))
    (wRet (wC (.bl true)))))))

def c__law_draw : Nat → WSp
  | 0 => wOut
  | r + 1 => wDef 4 2 (wSeq (wIfS (wTb (wOp (oEq false) (wB fLen (waCons (wVar 0) waNil)) (wC (.int 0)))) (wRet (wC (.int 0))) wNext)
    (wSeq (wAsg (wOp (oInt (fun _ j => 0 < j) fun i j => .int (i % j)) (wOp oIx (wVar 0) (wOp (oInt (fun _ j => 0 < j) fun i j => .int (i % j)) (wVar 1) (wB fLen (waCons (wVar 0) waNil)))) (wOp (oInt CPow fun i j => .int (i ^ j.toNat)) (wC (.int 10)) (wC (.int 60)))) (wGN 2))
    (wSeq (wIfS (wTb (wOp oLt (wVar 1) (wB fLen (waCons (wVar 0) waNil)))) (wRet (wVar 2)) wNext)
    (wSeq (wAsg (wOp (oInt (fun _ j => 0 < j) fun i j => .int (i % j)) (wOp oAdd (wOp oAdd (wVar 2) (wOp (oInt CMul fun i j => .int (i * j)) (wOp (oInt CMul fun i j => .int (i * j)) (wC (.int 7919)) (wVar 1)) (wVar 1))) (wC (.int 1))) (wC (.int 2147483647))) (wGN 3))
    (wRet (wOp (oInt (fun _ j => 0 < j) fun i j => .int (i % j)) (wOp (oInt CMul fun i j => .int (i * j)) (wVar 3) (wVar 3)) (wC (.int 2147483647))))))))

def b__law_signs_1 (r : Nat) (self : WSp) : WE := (wOp oIx (wVar 1) (wOp (oInt (fun _ j => 0 < j) fun i j => .int (i % j)) (wOp oAdd (wOp oIx (wVar 2) (wVar 0)) (wOp (oInt CMul fun i j => .int (i * j)) (wVar 3) (wB fInt (waCons (wOp (oEq false) (wVar 0) (wVar 4)) waNil)))) (wC (.int 26))))
def b__law_signs_2 (r : Nat) (self : WSp) : WS := (wDrop (wM rvL mAppend (wVar 10) (waCons (wML rvS mJoinL (wC (.str "")) (wComp 1 [3, 6, 11, 9] (wRng (waCons (wVar 8) waNil)) (wGN 0) wYes (b__law_signs_1 r wOut))) waNil)))
def b__law_signs_3 (r : Nat) (self : WSp) : WE := (wOp oIx (wVar 1) (wVar 0))
def b__law_signs_4 (r : Nat) (self : WSp) : WE := (wML rvS mJoinL (wC (.str "")) (wComp 1 [1] (wIv (wSl (wVar 2) woN (woS (wOp oAdd (wVar 0) (wC (.int 1)))))) (wGN 0) wYes (b__law_signs_3 r wOut)))
def b__law_signs_5 (r : Nat) (self : WSp) : WS := (wSeq (wDrop (wM rvL mAppend (wVar 6) (waCons (wOp (oInt (fun _ j => 0 < j) fun i j => .int (i % j)) (wVar 5) (wC (.int 26))) waNil)))
    (wAsg (wOp (oInt CDiv fun i j => .int (i / j)) (wVar 5) (wC (.int 26))) (wGN 5)))
def c__law_signs : Nat → WSp
  | 0 => wOut
  | r + 1 => wDef 12 3 (wSeq (wAsg (wC (.str "abcdefghijklmnopqrstuvwxyz")) (wGN 3))
    (wSeq (wAsg (wCall (c__law_draw r) (waCons (wVar 0) (waCons (wVar 1) waNil))) (wGN 4))
    (wSeq (wAsg (wOp (oInt (fun _ j => 0 < j) fun i j => .int (i % j)) (wOp (oInt CMul fun i j => .int (i * j)) (wCall (c__law_draw r) (waCons (wVar 0) (waCons (wOp oAdd (wVar 1) (wC (.int 1))) waNil))) (wC (.int 982451653))) (wOp (oInt CPow fun i j => .int (i ^ j.toNat)) (wC (.int 26)) (wC (.int 8)))) (wGN 5))
    (wSeq (wAsg (wNew (wLst waNil)) (wGN 6))
    (wSeq (wFor (wRng (waCons (wC (.int 8)) waNil)) (wGN 7) (b__law_signs_5 r wOut))
    (wSeq (wIfS (wTb (wOp (oEq false) (wOp (oInt (fun _ j => 0 < j) fun i j => .int (i % j)) (wVar 4) (wC (.int 3))) (wC (.int 0)))) (wRet (wNew (wComp 1 [3, 6] (wRng (waCons (wVar 2) waNil)) (wGN 0) wYes (b__law_signs_4 r wOut)))) wNext)
    (wSeq (wAsg (wOp oAdd (wC (.int 1)) (wOp (oInt (fun _ j => 0 < j) fun i j => .int (i % j)) (wOp (oInt CDiv fun i j => .int (i / j)) (wVar 4) (wC (.int 3))) (wC (.int 8)))) (wGN 8))
    (wSeq (wAsg (wOp (oInt (fun _ j => 0 < j) fun i j => .int (i % j)) (wOp (oInt CDiv fun i j => .int (i / j)) (wVar 4) (wC (.int 24))) (wVar 8)) (wGN 9))
    (wSeq (wAsg (wNew (wLst waNil)) (wGN 10))
    (wSeq (wFor (wRng (waCons (wVar 2) waNil)) (wGN 11) (b__law_signs_2 r wOut))
    (wRet (wVar 10))))))))))))

def b__law_titles_1 (r : Nat) (self : WSp) : WE := (wOp oAdd (wOp oIx (wVar 1) (wM rvS mIndex (wVar 2) (waCons (wOp oIx (wVar 0) (wC (.int 0))) waNil))) (wSl (wVar 0) (woS (wC (.int 1))) woN))
def c__law_titles : Nat → WSp
  | 0 => wOut
  | r + 1 => wDef 5 3 (wSeq (wAsg (wC (.str "abcdefghijklmnopqrstuvwxyz")) (wGN 3))
    (wSeq (wAsg (wC (.str "ABCDEFGHIJKLMNOPQRSTUVWXYZ")) (wGN 4))
    (wRet (wNew (wComp 1 [4, 3] (wIv (wCall (c__law_signs r) (waCons (wVar 0) (waCons (wVar 1) (waCons (wVar 2) waNil))))) (wGN 0) wYes (b__law_titles_1 r wOut))))))

def c__law_pushed : Nat → WSp
  | 0 => wOut
  | r + 1 => wDef 6 4 (wSeq (wAsg (wIxL (wLst (waCons (wC (.int 0)) (waCons (wC (.int 0)) (waCons (wC (.int 1)) (waCons (wC (.int 2)) (waCons (wC (.int 3)) waNil)))))) (wOp (oInt (fun _ j => 0 < j) fun i j => .int (i % j)) (wVar 1) (wC (.int 5)))) (wGN 4))
    (wSeq (wAsg (wOp (oInt CDiv fun i j => .int (i / j)) (wVar 1) (wC (.int 5))) (wGN 5))
    (wSeq (wIfS (wOr (wTb (wOp (oEq false) (wVar 4) (wC (.int 0)))) (wTb (wOp oLt (wB fLen (waCons (wVar 0) waNil)) (wVar 4)))) (wRet (wNew (wCatR (wVar 0) (wLst (waCons (wOp oIx (wVar 3) (wOp (oInt (fun _ j => 0 < j) fun i j => .int (i % j)) (wVar 5) (wB fLen (waCons (wVar 3) waNil)))) waNil))))) wNext)
    (wRet (wNew (wCatB (wSlL (wVar 0) woN (woS (wNeg (wVar 4)))) (wLst (waCons (wOp oAdd (wTup (waCons (wOp oIx (wVar 2) (wOp (oInt (fun _ j => 0 < j) fun i j => .int (i % j)) (wVar 5) (wB fLen (waCons (wVar 2) waNil)))) waNil)) (wBL fTupleL (wSlL (wVar 0) (woS (wNeg (wVar 4))) woN))) waNil))))))))

def b__law_thing_1 (r : Nat) (self : WSp) : WS := (wAsg (wNew (wCatB (wSlL (wVar 3) woN (woS (wNeg (wC (.int 2))))) (wLst (waCons (wTup (waCons (wOp oIx (wVar 1) (wC (.int 0))) (waCons (wOp oIx (wVar 3) (wNeg (wC (.int 2)))) (waCons (wOp oIx (wVar 3) (wNeg (wC (.int 1)))) waNil)))) waNil)))) (wGN 3))
def b__law_thing_2 (r : Nat) (self : WSp) : WS := (wAsg (wCall (c__law_pushed r) (waCons (wVar 3) (waCons (wOp (oInt (fun _ j => 0 < j) fun i j => .int (i % j)) (wVar 4) (wOp (oInt CPow fun i j => .int (i ^ j.toNat)) (wC (.int 10)) (wC (.int 60)))) (waCons (wVar 1) (waCons (wVar 2) waNil))))) (wGN 3))
def c__law_thing : Nat → WSp
  | 0 => wOut
  | r + 1 => wDef 5 3 (wSeq (wAsg (wNew (wLst waNil)) (wGN 3))
    (wSeq (wFor (wIv (wVar 0)) (wGN 4) (b__law_thing_2 r wOut))
    (wSeq (wIfS (wTb (wOp (oEq false) (wB fLen (waCons (wVar 3) waNil)) (wC (.int 0)))) (wRet (wOp oIx (wVar 2) (wC (.int 0)))) wNext)
    (wSeq (wWhile (wTb (wOp oGt (wB fLen (waCons (wVar 3) waNil)) (wC (.int 1)))) (b__law_thing_1 r wOut))
    (wRet (wOp oIx (wVar 3) (wC (.int 0))))))))

def b__law_count_1 (r : Nat) (self : WSp) : WS := (wDrop (wM rvL mAppend (wVar 3) (waCons (wTup (waCons (wVar 6) (waCons (wOp oAdd (wVar 5) (wC (.int 1))) waNil))) waNil)))
def b__law_count_2 (r : Nat) (self : WSp) : WS := (wSeq (wAsg (wM rvL mPop (wVar 3) waNil) (wGT (wGcons (wGN 4) (wGcons (wGN 5) wGnil))))
    (wSeq (wAsg (wOp oAdd (wVar 1) (wC (.int 1))) (wGN 1))
    (wSeq (wAsg (wB fMax2 (waCons (wVar 2) (waCons (wVar 5) waNil))) (wGN 2))
    (wIfS (wNot (wTru (wIsi "int" (wVar 4)))) (wFor (wIv (wSl (wVar 4) (woS (wC (.int 1))) woN)) (wGN 6) (b__law_count_1 r wOut)) wNext))))
def c__law_count : Nat → WSp
  | 0 => wOut
  | r + 1 => wDef 7 1 (wSeq (wAsg (wC (.int 0)) (wGN 1))
    (wSeq (wAsg (wC (.int 0)) (wGN 2))
    (wSeq (wAsg (wNew (wLst (waCons (wTup (waCons (wVar 0) (waCons (wC (.int 1)) waNil))) waNil))) (wGN 3))
    (wSeq (wWhile (wTb (wOp oGt (wB fLen (waCons (wVar 3) waNil)) (wC (.int 0)))) (b__law_count_2 r wOut))
    (wRet (wTup (waCons (wVar 1) (waCons (wVar 2) waNil))))))))

def b__law_hung_1 (r : Nat) (self : WSp) : WS := (wAsg (wTup (waCons (wOp oIx (wVar 2) (wOp (oInt (fun _ j => 0 < j) fun i j => .int (i % j)) (wVar 6) (wB fLen (waCons (wVar 2) waNil)))) (waCons (wVar 0) waNil))) (wGN 0))
def c__law_hung : Nat → WSp
  | 0 => wOut
  | r + 1 => wDef 7 3 (wSeq (wAsg (wOp (oInt (fun _ j => 0 < j) fun i j => .int (i % j)) (wOp (oInt CDiv fun i j => .int (i / j)) (wVar 1) (wC (.int 3))) (wC (.int 1700))) (wGN 3))
    (wSeq (wIfS (wTb (wOp (oEq false) (wOp (oInt (fun _ j => 0 < j) fun i j => .int (i % j)) (wOp (oInt CDiv fun i j => .int (i / j)) (wOp (oInt CDiv fun i j => .int (i / j)) (wVar 1) (wC (.int 3))) (wC (.int 1700))) (wC (.int 2))) (wC (.int 1)))) (wAsg (wOp (oInt0 fun i j => .int (i - j)) (wOp (oInt0 fun i j => .int (i - j)) (wC (.int 400)) (wOp oIx (wCall (c__law_count r) (waCons (wVar 0) waNil)) (wC (.int 0)))) (wOp (oInt (fun _ j => 0 < j) fun i j => .int (i % j)) (wOp (oInt CDiv fun i j => .int (i / j)) (wVar 1) (wC (.int 10200))) (wC (.int 60)))) (wGN 3)) wNext)
    (wSeq (wAsg (wB fMax2 (waCons (wC (.int 0)) (waCons (wVar 3) waNil))) (wGN 3))
    (wSeq (wAsg (wOp (oInt (fun _ j => 0 < j) fun i j => .int (i % j)) (wOp (oInt CDiv fun i j => .int (i / j)) (wVar 1) (wC (.int 612000))) (wOp oAdd (wVar 3) (wC (.int 1)))) (wGN 4))
    (wSeq (wAsg (wTup (waCons (wOp oIx (wVar 2) (wC (.int 0))) waNil)) (wGN 5))
    (wSeq (wAsg (wOp oAdd (wOp oAdd (wOp oAdd (wTup (waCons (wOp oIx (wVar 2) (wC (.int 1))) waNil)) (wOp oRepT (wTup (waCons (wVar 5) waNil)) (wVar 4))) (wTup (waCons (wVar 0) waNil))) (wOp oRepT (wTup (waCons (wVar 5) waNil)) (wOp (oInt0 fun i j => .int (i - j)) (wVar 3) (wVar 4)))) (wGN 0))
    (wSeq (wFor (wRng (waCons (wOp (oInt (fun _ j => 0 < j) fun i j => .int (i % j)) (wOp (oInt CDiv fun i j => .int (i / j)) (wVar 1) (wC (.int 1000003))) (wC (.int 36))) waNil)) (wGN 6) (b__law_hung_1 r wOut))
    (wRet (wVar 0)))))))))

def c_law_k01 : Nat → WSp
  | 0 => wOut
  | r + 1 => wDef 10 1 (wSeq (wAsg (wCall (c__law_signs r) (waCons (wVar 0) (waCons (wC (.int 0)) (waCons (wC (.int 4)) waNil)))) (wGN 1))
    (wSeq (wAsg (wCall (c__law_titles r) (waCons (wVar 0) (waCons (wC (.int 2)) (waCons (wC (.int 2)) waNil)))) (wGN 2))
    (wSeq (wAsg (wNew (wLst (waCons (wTup (waCons (wOp oIx (wVar 1) (wC (.int 0))) waNil)) (waCons (wTup (waCons (wOp oIx (wVar 1) (wC (.int 2))) waNil)) (waCons (wTup (waCons (wOp oIx (wVar 2) (wC (.int 0))) waNil)) (waCons (wC (.int 0)) (waCons (wC (.int 1)) waNil))))))) (wGN 3))
    (wSeq (wAsg (wCall (c__law_thing r) (waCons (wSl (wVar 0) (woS (wC (.int 4))) (woS (wC (.int 63)))) (waCons (wOp oAdd (wVar 1) (wVar 2)) (waCons (wVar 3) waNil)))) (wGN 4))
    (wSeq (wAsg (wCall (c__law_draw r) (waCons (wVar 0) (waCons (wC (.int 3)) waNil))) (wGN 5))
    (wSeq (wIfS (wTb (wOp (oEq false) (wOp (oInt (fun _ j => 0 < j) fun i j => .int (i % j)) (wVar 5) (wC (.int 3))) (wC (.int 1)))) (wAsg (wCall (c__law_hung r) (waCons (wVar 4) (waCons (wVar 5) (waCons (wVar 1) waNil)))) (wGN 4)) wNext)
    (wSeq (wAsg (wCall (c__law_count r) (waCons (wVar 4) waNil)) (wGT (wGcons (wGN 6) (wGcons (wGN 7) wGnil))))
    (wSeq (wAsg (wTup (waCons (wCall (c_weight r) (waCons (wVar 4) waNil)) (waCons (wCall (c_depth r) (waCons (wVar 4) waNil)) waNil))) (wGN 8))
    (wSeq (wIfS (wOr (wTru (wIsi "bool" (wOp oIx (wVar 8) (wC (.int 0))))) (wOr (wTru (wIsi "bool" (wOp oIx (wVar 8) (wC (.int 1))))) (wTb (wOp (oEq true) (wVar 8) (wTup (waCons (wVar 6) (waCons (wVar 7) waNil))))))) (wRet (wC (.bl false))) wNext)
    (wSeq (wAsg (wCall (c_is_small r) (waCons (wVar 4) waNil)) (wGN 9))
    (wRet (wAndV (wIsi "bool" (wVar 9)) (wOp (oEq false) (wVar 9) (wAndV (wOp oLe (wVar 6) (wC (.int 400))) (wOp oLe (wVar 7) (wC (.int 40)))))))))))))))))

end L2
end

section
set_option Elab.async false
set_option linter.all false
set_option maxRecDepth 100000
set_option maxHeartbeats 4000000
namespace L2
open PySem PySem.Spec PyProof.Rows
local macro_rules | `(tactic| walk_at "wp") => `(tactic| simp only [u_wVar, u_wC, u_wOp, u_wTru, u_wTb, u_wAnd, u_wOr, u_wNot, u_wAndV, u_wOrV, u_wNotV, u_wIf, u_wIfS, u_wNext, u_wSeq, u_wRet, u_wRetN, u_wDrop, u_wGN, u_wAsg, u_wGnil, u_wGcons, u_wGT, u_waNil, u_waCons, u_wTup, u_wLst, u_wNew, u_wCall, u_wDef, u_wNeg, u_oEq, u_wChain, u_woN, u_woS, u_wSl, u_wB, u_wBL, u_fTupleL, u_wListOf, u_fAllL, u_wIsi, u_wM, u_wML, u_wAug, u_wFor, u_wIv, u_wIl, u_wRng, u_wYes, u_wComp, u_wEnum, u_wZip, u_wDown, u_wSlL', u_wIxL, u_wCatR, u_wCatB, u_wCatF, u_wRepL, u_wListrange, e_repT, u_wDNew, e_din, e_dget, u_wDPut, u_fSumL, e_upper, key_P, dctW_put, lstW_put, put_put, eq_int, eq_str, eq_bl, cut_one, atI_zero, sub_int_int, sub_int_bool, sub_int_str, sub_int_tuple, sub_int_list, sub_bool_int, sub_bool_bool, sub_bool_str, sub_bool_tuple, sub_bool_list, sub_str_int, sub_str_bool, sub_str_str, sub_str_tuple, sub_str_list, sub_tuple_int, sub_tuple_bool, sub_tuple_str, sub_tuple_tuple, sub_tuple_list, sub_list_int, sub_list_bool, sub_list_str, sub_list_tuple, sub_list_list, e_tru_bl, e_tru_int, e_tru_tup, e_tru_ref, e_tru_non, e_seq_tup, e_seq_ref, e_ty_bl, e_ty_int, e_ty_str, e_ty_tup, e_ty_non, e_ty_ref, e_add_int, e_add_str, e_add_tup, e_add_lst, e_int, e_int0, e_le_int, e_le_str, e_len_tup, e_len_ref, e_len_scr, e_len_str, e_ix_tup, e_ix_ref, e_ix_scr, e_ix_str, e_sl_tup, e_sl_str, e_sl_ref, e_sl_scr, e_tuple_tup, e_tuple_ref, e_append, e_pop, e_extend_tup, e_extend_ref, e_extendL, e_rvL, e_rvS, e_int_bl, e_int_int, e_max2, e_min2, e_join, e_index, e_is_non, e_is_bl, e_is_bn, e_is_tn, e_is_rn, e_is_in, e_in_tup, e_in_ref, e_in_str, List.map_cons, List.map_nil, List.length_cons, List.length_nil, List.cons_append, List.nil_append, List.append_nil, List.replicate, List.getElem?_cons_zero, List.getElem?_cons_succ, List.getElem?_nil, List.set_cons_zero, List.set_cons_succ, Nat.reduceAdd, Nat.reduceSub, true_and, and_true, if_true, if_false, Bool.false_eq_true, reduceIte, Bool.not_true, Bool.not_false, Option.join_some, Option.join_none, decide_eq_true_eq, and_self])
theorem ok_parts {r : Nat} {t : Tr} {S : Sto} {Q : WK} {E : Str → Sto → Prop} (h : Q (.tup (encs t.kids)) S) : c_parts_of (r + 1) [enc t] S Q E := by
  rw [c_parts_of]
  cases t with
  | bl n =>
    simp only [enc]
    walk_at "wp"
    exact ⟨Nat.zero_le _, S, .refl, h⟩
  | nd s ts =>
    simp only [enc]
    walk_at "wp"
    exact ⟨S, .refl, h⟩
mutual
def Tr.pl (p : List Int) : Tr → List (List Int)
  | .bl _ => [p]
  | .nd _ ts => p :: pls p 0 ts
def pls (p : List Int) (i : Nat) : List Tr → List (List Int)
  | [] => []
  | t :: ts => t.pl (p ++ [(i : Int)]) ++ pls p (i + 1) ts
end
def Tr.at : Tr → List Int → Option Tr
  | t, [] => some t
  | .bl _, _ :: _ => none
  | .nd _ ts, i :: p => if i < 0 then none else match ts[i.toNat]? with
    | some u => u.at p
    | none => none
end L2
end

section
set_option Elab.async false
set_option linter.all false
set_option maxRecDepth 100000
set_option maxHeartbeats 4000000
namespace L2
open PySem PySem.Spec PyProof.Rows
local macro_rules | `(tactic| walk_at "wp") => `(tactic| simp only [u_wVar, u_wC, u_wOp, u_wTru, u_wTb, u_wAnd, u_wOr, u_wNot, u_wAndV, u_wOrV, u_wNotV, u_wIf, u_wIfS, u_wNext, u_wSeq, u_wRet, u_wRetN, u_wDrop, u_wGN, u_wAsg, u_wGnil, u_wGcons, u_wGT, u_waNil, u_waCons, u_wTup, u_wLst, u_wNew, u_wCall, u_wDef, u_wNeg, u_oEq, u_wChain, u_woN, u_woS, u_wSl, u_wB, u_wBL, u_fTupleL, u_wListOf, u_fAllL, u_wIsi, u_wM, u_wML, u_wAug, u_wFor, u_wIv, u_wIl, u_wRng, u_wYes, u_wComp, u_wEnum, u_wZip, u_wDown, u_wSlL', u_wIxL, u_wCatR, u_wCatB, u_wCatF, u_wRepL, u_wListrange, e_repT, u_wDNew, e_din, e_dget, u_wDPut, u_fSumL, e_upper, key_P, dctW_put, lstW_put, put_put, eq_int, eq_str, eq_bl, cut_one, atI_zero, sub_int_int, sub_int_bool, sub_int_str, sub_int_tuple, sub_int_list, sub_bool_int, sub_bool_bool, sub_bool_str, sub_bool_tuple, sub_bool_list, sub_str_int, sub_str_bool, sub_str_str, sub_str_tuple, sub_str_list, sub_tuple_int, sub_tuple_bool, sub_tuple_str, sub_tuple_tuple, sub_tuple_list, sub_list_int, sub_list_bool, sub_list_str, sub_list_tuple, sub_list_list, e_tru_bl, e_tru_int, e_tru_tup, e_tru_ref, e_tru_non, e_seq_tup, e_seq_ref, e_ty_bl, e_ty_int, e_ty_str, e_ty_tup, e_ty_non, e_ty_ref, e_add_int, e_add_str, e_add_tup, e_add_lst, e_int, e_int0, e_le_int, e_le_str, e_len_tup, e_len_ref, e_len_scr, e_len_str, e_ix_tup, e_ix_ref, e_ix_scr, e_ix_str, e_sl_tup, e_sl_str, e_sl_ref, e_sl_scr, e_tuple_tup, e_tuple_ref, e_append, e_pop, e_extend_tup, e_extend_ref, e_extendL, e_rvL, e_rvS, e_int_bl, e_int_int, e_max2, e_min2, e_join, e_index, e_is_non, e_is_bl, e_is_bn, e_is_tn, e_is_rn, e_is_in, e_in_tup, e_in_ref, e_in_str, List.map_cons, List.map_nil, List.length_cons, List.length_nil, List.cons_append, List.nil_append, List.append_nil, List.replicate, List.getElem?_cons_zero, List.getElem?_cons_succ, List.getElem?_nil, List.set_cons_zero, List.set_cons_succ, Nat.reduceAdd, Nat.reduceSub, true_and, and_true, if_true, if_false, Bool.false_eq_true, reduceIte, Bool.not_true, Bool.not_false, Option.join_some, Option.join_none, decide_eq_true_eq, and_self])
theorem ok_draw {ns : List Int} {k : Int} {r : Nat} {S : Sto} {Q : WK} {E : Str → Sto → Prop} (h0 : 0 ≤ k) (h1 : k ≤ 100000) (h : ∀ n : Int, 0 ≤ n → n < 10 ^ 60 → Q (.int n) S) : c__law_draw (r + 1) [.scr ns, .int k] S Q E := by
  rw [c__law_draw]
  walk_at "wp"
  have e60 : (10 : Int) ^ Int.toNat 60 = 10 ^ 60 := rfl
  by_cases hn : ns.length = 0
  · rw [if_pos (by simp [hn])]
    exact ⟨S, .refl, h 0 (by decide) (by decide)⟩
  · rw [if_neg (by simpa using hn)]
    have hm0 : 0 ≤ k % (ns.length : Int) := Int.emod_nonneg _ (by omega)
    have hm1 : k % (ns.length : Int) < (ns.length : Int) := Int.emod_lt_of_pos _ (by omega)
    have q := atI_nat' (xs := ns) (n := (k % (ns.length : Int)).toNat)
    rw [Int.toNat_of_nonneg hm0, List.getElem?_eq_getElem (by omega)] at q
    rw [q]
    generalize ns[(k % (ns.length : Int)).toNat]'(by omega) = n
    have v0 : 0 ≤ n % (10 : Int) ^ 60 := Int.emod_nonneg _ (by decide)
    have v1 : n % (10 : Int) ^ 60 < 10 ^ 60 := Int.emod_lt_of_pos _ (by decide)
    refine ⟨by omega, ⟨by decide, by decide, by decide⟩, by decide, ?_⟩
    rw [e60]
    split
    · exact ⟨S, .refl, h _ v0 v1⟩
    · have m0 : 0 ≤ (n % (10 : Int) ^ 60 + 7919 * k * k + 1) % 2147483647 := Int.emod_nonneg _ (by decide)
      have m1 : (n % (10 : Int) ^ 60 + 7919 * k * k + 1) % 2147483647 < 2147483647 := Int.emod_lt_of_pos _ (by decide)
      refine ⟨.inl ⟨by decide, by decide⟩, .inr ⟨by omega, by omega⟩, by decide, .inl ⟨Int.lt_of_lt_of_le (by decide) m0, Int.lt_trans m1 (by decide)⟩, by decide, S, .refl, h _ (Int.emod_nonneg _ (by decide)) ?_⟩
      exact Int.lt_of_lt_of_le (Int.emod_lt_of_pos _ (by decide)) (by decide)
def Low (c : Nat) : Prop := 97 ≤ c ∧ c ≤ 122
def SignW (x : Str) : Prop := 1 ≤ x.cps.toList.length ∧ x.cps.toList.length ≤ 8 ∧ ∀ c ∈ x.cps.toList, Low c
def TitleW (x : Str) : Prop := ∃ c r, x.cps.toList = c :: r ∧ 65 ≤ c ∧ c ≤ 90 ∧ r.length ≤ 7 ∧ ∀ d ∈ r, Low d
theorem code_az : (Str.ofString "abcdefghijklmnopqrstuvwxyz").cps.toList = List.range' 97 26 := by decide +kernel
theorem code_AZ : (Str.ofString "ABCDEFGHIJKLMNOPQRSTUVWXYZ").cps.toList = List.range' 65 26 := by decide +kernel
theorem az_len : (Str.ofString "abcdefghijklmnopqrstuvwxyz").length = 26 := by decide +kernel
theorem AZ_len : (Str.ofString "ABCDEFGHIJKLMNOPQRSTUVWXYZ").length = 26 := by decide +kernel
theorem at_az {n : Int} (h0 : 0 ≤ n) (h1 : n < 26) : ∃ c, atI (Str.ofString "abcdefghijklmnopqrstuvwxyz").cps.toList n = some c ∧ Low c := by
  refine ⟨97 + n.toNat, ?_, by constructor <;> omega⟩
  have e := atI_nat (xs := (Str.ofString "abcdefghijklmnopqrstuvwxyz").cps.toList) (j := n.toNat) (v := 97 + n.toNat) (by
    rw [code_az, List.getElem?_range' (by omega)]
    simp)
  rw [Int.toNat_of_nonneg h0] at e
  exact e
theorem at_AZ {n : Nat} (h1 : n < 26) : atI (Str.ofString "ABCDEFGHIJKLMNOPQRSTUVWXYZ").cps.toList (n : Int) = some (65 + n) :=
  atI_nat (by
    rw [code_AZ, List.getElem?_range' (by omega)]
    simp)
theorem idx_az {c : Nat} (h : Low c) : Builtin.Str.occurrences (Str.ofString "abcdefghijklmnopqrstuvwxyz") ⟨#[c]⟩ 0 (Str.ofString "abcdefghijklmnopqrstuvwxyz").length 1 = [c - 97] := by
  have all : ((List.range 26).all fun i => decide (Builtin.Str.occurrences (Str.ofString "abcdefghijklmnopqrstuvwxyz") ⟨#[97 + i]⟩ 0 (Str.ofString "abcdefghijklmnopqrstuvwxyz").length 1 = [i])) = true := by decide +kernel
  have q := of_decide_eq_true (List.all_eq_true.mp all (c - 97) (List.mem_range.mpr (by have := h.1; have := h.2; omega)))
  have e : 97 + (c - 97) = c := by have := h.1; omega
  rw [e] at q
  exact q
theorem join_ones : ∀ cs : List Nat, (Str.join (Str.ofString "") (cs.map fun c => (⟨#[c]⟩ : Str))).cps.toList = cs
  | [] => rfl
  | [c] => rfl
  | c :: d :: r => by
    have ih := join_ones (d :: r)
    show ((⟨#[c]⟩ : Str) ++ Str.ofString "" ++ Str.join (Str.ofString "") ((d :: r).map fun c => (⟨#[c]⟩ : Str))).cps.toList = _
    show (#[c] ++ (Str.ofString "").cps ++ (Str.join (Str.ofString "") ((d :: r).map fun c => (⟨#[c]⟩ : Str))).cps).toList = _
    rw [Array.toList_append, Array.toList_append, ih]
    rfl
theorem ones_len (cs : List Nat) : ((cs.map fun c => (⟨#[c]⟩ : Str)).map (·.length)).sum = cs.length := by
  induction cs with
  | nil => rfl
  | cons c r ih =>
    rw [List.map_cons, List.map_cons, List.sum_cons, ih, List.length_cons]
    show 1 + r.length = r.length + 1
    omega
theorem sign_join {cs : List Nat} (h1 : 1 ≤ cs.length) (h2 : cs.length ≤ 8) (h : ∀ c ∈ cs, Low c) : SignW (Str.join (Str.ofString "") (cs.map fun c => (⟨#[c]⟩ : Str))) := by
  unfold SignW
  rw [join_ones]
  exact ⟨h1, h2, h⟩
theorem signs_row : ∀ (ws : List W) {rs : List Int} {sp : Int} {a : Addr} {r : Nat} {S : Sto} {E : WX} {D : WEnds} {x0 x1 x2 x3 x4 x7 x8 x9 x10 x11 : Option W}, S a = some (.lst (rs.map W.int)) → rs.length + ws.length ≤ 1000 → (∀ v ∈ rs, 0 ≤ v ∧ v < 26) → 0 ≤ sp →
    (∀ (rs' : List Int) sp' x7', rs'.length = rs.length + ws.length → (∀ v ∈ rs', 0 ≤ v ∧ v < 26) → D.nx [x0, x1, x2, x3, x4, some (.int sp'), some (.ref a), x7', x8, x9, x10, x11] (put S a (.lst (rs'.map W.int)))) →
    forL (wGN 7) (b__law_signs_5 r wOut) E D (fun _ => True) ws [x0, x1, x2, x3, x4, some (.int sp), some (.ref a), x7, x8, x9, x10, x11] S
  | [], rs, sp, a, r, S, E, D, x0, x1, x2, x3, x4, x7, x8, x9, x10, x11, ha, hl, hv, hs, h => by
    simp only [forL]
    have := h rs sp x7 (by simp) hv
    rw [put_id ha] at this
    exact this
  | w :: ws, rs, sp, a, r, S, E, D, x0, x1, x2, x3, x4, x7, x8, x9, x10, x11, ha, hl, hv, hs, h => by
    simp only [forL, b__law_signs_5]
    walk_at "wp"
    simp only [List.length_cons] at hl h
    simp only [lstW_of ha, true_and]
    have m0 : 0 ≤ sp % 26 := Int.emod_nonneg _ (by decide)
    have m1 : sp % 26 < 26 := Int.emod_lt_of_pos _ (by decide)
    have d0 : 0 ≤ sp / 26 := Int.ediv_nonneg hs (by decide)
    refine ⟨by decide, line_lt (by simp; omega), ⟨by decide, by decide⟩, _, .refl, ?_⟩
    refine signs_row (r := r) ws (rs := rs ++ [sp % 26]) (by rw [put_same]; simp) (by simp; omega) (fun v hm => ?_) d0 fun rs' sp' x7' h1 h2 => ?_
    · rcases List.mem_append.mp hm with z | z
      · exact hv v z
      · have : v = sp % 26 := by simpa using z
        omega
    · rw [put_put]
      exact h rs' sp' x7' (by simp at h1; omega) h2
theorem strsOf_ones : ∀ cs : List Nat, strsOf (cs.map fun c => W.str ⟨#[c]⟩) = some (cs.map fun c => (⟨#[c]⟩ : Str))
  | [] => rfl
  | c :: cs => by rw [List.map_cons, strsOf, strsOf_ones cs]; rfl
theorem ones_ex {P : W → W → Prop} (hP : ∀ w y, P w y → ∃ c, y = W.str ⟨#[c]⟩ ∧ Low c) : ∀ {ws ys : List W}, Paired P ws ys → ∃ cs : List Nat, cs.length = ws.length ∧ (∀ c ∈ cs, Low c) ∧ ys = cs.map fun c => W.str ⟨#[c]⟩
  | _, _, .nil => ⟨[], rfl, (fun _ h => nomatch h), rfl⟩
  | _, _, .cons h t => by
    obtain ⟨c, rfl, hc⟩ := hP _ _ h
    obtain ⟨cs, h1, h2, rfl⟩ := ones_ex hP t
    exact ⟨c :: cs, by simp [h1], fun d hd => (List.mem_cons.mp hd).elim (fun e => e ▸ hc) (h2 d), rfl⟩
theorem strs_ex {P : W → W → Prop} {G : Str → Prop} (hP : ∀ w y, P w y → ∃ x, y = W.str x ∧ G x) : ∀ {ws ys : List W}, Paired P ws ys → ∃ xs : List Str, xs.length = ws.length ∧ (∀ x ∈ xs, G x) ∧ ys = xs.map W.str
  | _, _, .nil => ⟨[], rfl, (fun _ h => nomatch h), rfl⟩
  | _, _, .cons h t => by
    obtain ⟨x, rfl, hx⟩ := hP _ _ h
    obtain ⟨xs, h1, h2, rfl⟩ := strs_ex hP t
    exact ⟨x :: xs, by simp [h1], fun d hd => (List.mem_cons.mp hd).elim (fun e => e ▸ hx) (h2 d), rfl⟩
theorem join_fits (cs : List Nat) (h : cs.length ≤ 1000) : (List.map (fun x => x.length) (cs.map fun c => (⟨#[c]⟩ : Str))).sum + (cs.map fun c => (⟨#[c]⟩ : Str)).length * (Str.ofString "").length ≤ 16777216 := by
  have e := ones_len cs
  have z : (Str.ofString "").length = 0 := by decide +kernel
  rw [e, z]
  omega
theorem upto_mem {lo : Int} {n : Nat} {w : W} (h : w ∈ upto lo n) : ∃ i : Nat, i < n ∧ w = .int (lo + i) := by
  unfold upto at h
  obtain ⟨i, hi, rfl⟩ := List.mem_map.mp h
  exact ⟨i, List.mem_range.mp hi, rfl⟩
theorem upto_len {lo : Int} {n : Nat} : (upto lo n).length = n := by simp [upto]
theorem ok_signs {ns : List Int} {k : Int} {many : Nat} {r : Nat} {S : Sto} {Q : WK} {E : Str → Sto → Prop} (h0 : 0 ≤ k) (h1 : k ≤ 1000) (hm : many ≤ 8) (h : ∀ (a : Addr) (ws : List Str), S a = none → ws.length = many → (∀ x ∈ ws, SignW x) → Q (.ref a) (put S a (.lst (ws.map W.str)))) : c__law_signs (r + 2) [.scr ns, .int k, .int many] S Q E := by
  rw [c__law_signs]
  walk_at "wp"
  refine ok_draw h0 (by omega) fun first f0 f1 => ok_draw (by omega) (by omega) fun sp p0 p1 => ?_
  walk_at "wp"
  have sp0 : 0 ≤ sp * 982451653 % (26 : Int) ^ Int.toNat 8 := Int.emod_nonneg _ (by decide)
  refine ⟨.inr ⟨by decide, by decide⟩, ⟨by decide, by decide, by decide⟩, by decide, Nat.zero_le _, fun a ha => ⟨⟨by decide, by decide⟩, ?_⟩⟩
  refine signs_row _ (rs := []) put_same (by decide) (fun _ h => nomatch h) sp0 fun rs sp' x7 hl hv => ?_
  have hl8 : rs.length = 8 := by simpa [upto_len] using hl
  rw [put_put]
  walk_at "wp"
  refine ⟨by decide, ?_⟩
  split
  · refine ⟨⟨by omega, by omega⟩, ?_⟩
    rw [Int.toNat_natCast]
    refine comp_each (fun σ => ∃ x, σ = [x, some (.str (Str.ofString "abcdefghijklmnopqrstuvwxyz")), some (.ref a)]) (fun w y => ∃ x, y = W.str x ∧ SignW x) trivial _ [] _ ⟨none, rfl⟩ (by simp [upto_len]; omega) (fun w hw σ R ⟨x, hσ⟩ hR => ?_) fun ys hp => ?_
    · obtain ⟨i, hi, rfl⟩ := upto_mem hw
      subst hσ
      simp only [b__law_signs_4]
      walk_at "wp"
      intro p hp'
      obtain ⟨hp1, hp2⟩ := put_none hp'
      have e1 : cutA (List.map W.int rs) none (some (0 + (i : Int) + 1)) = (rs.take (i + 1)).map W.int := by
        rw [show (0 + (i : Int) + 1) = ((i + 1 : Nat) : Int) by omega, cut_upto, List.map_take]
      rw [e1]
      refine comp_each (fun σ => ∃ x, σ = [x, some (.str (Str.ofString "abcdefghijklmnopqrstuvwxyz"))]) (fun w y => ∃ c, y = W.str ⟨#[c]⟩ ∧ Low c) put_same _ [] _ ⟨none, rfl⟩ (by simp; omega) (fun w hw σ R ⟨x, hσ⟩ hR => ?_) fun ys hp => ?_
      · subst hσ
        obtain ⟨v, hv', rfl⟩ := List.mem_map.mp hw
        obtain ⟨v0, v1⟩ := hv v (List.mem_of_mem_take hv')
        obtain ⟨c, ec, lc⟩ := at_az v0 v1
        simp only [b__law_signs_3]
        walk_at "wp"
        rw [ec]
        exact ⟨line_le (by rw [az_len]; decide), hR _ _ _ ⟨_, rfl⟩ ⟨c, rfl, lc⟩ .refl⟩
      · obtain ⟨cs, c1, c2, rfl⟩ := ones_ex (fun w y h => h) hp
        have c3 : cs.length = i + 1 := by simp at c1; omega
        rw [List.nil_append, strsOf_ones]
        refine ⟨join_fits cs (by omega), hR _ _ _ ⟨_, rfl⟩ ⟨_, rfl, sign_join (by omega) (by omega) c2⟩ (.put .refl hp')⟩
    · obtain ⟨xs, x1, x2, rfl⟩ := strs_ex (fun w y h => h) hp
      rw [List.nil_append]
      intro b hb
      obtain ⟨hb1, hb2⟩ := put_none hb
      exact ⟨_, .put2 (.put .refl ha), h b xs hb1 (by simpa [upto_len] using x1) x2⟩
  · have hs0 : 0 ≤ first / 3 % 8 := Int.emod_nonneg _ (by decide)
    have hs1 : first / 3 % 8 < 8 := Int.emod_lt_of_pos _ (by decide)
    refine ⟨⟨by decide, by decide⟩, by decide, ⟨by decide, by decide⟩, by omega, Nat.zero_le _, fun b hb => ⟨⟨by omega, by omega⟩, ?_⟩⟩
    obtain ⟨hb1, hb2⟩ := put_none hb
    rw [Int.toNat_natCast]
    refine for_inv (fun ws σ S' => ∃ (xs : List Str) (x11 : Option W), (∀ x ∈ xs, SignW x) ∧ xs.length + ws.length = many ∧ (∀ w ∈ ws, ∃ i : Nat, i < many ∧ w = .int (0 + i)) ∧ S' = put (put S a (.lst (rs.map W.int))) b (.lst (xs.map W.str)) ∧
      σ = [some (.scr ns), some (.int k), some (.int many), some (.str (Str.ofString "abcdefghijklmnopqrstuvwxyz")), some (.int first), some (.int sp'), some (.ref a), x7, some (.int (1 + first / 3 % 8)), some (.int (first / 24 % (1 + first / 3 % 8))), some (.ref b), x11]) ?_ ?_ _ _ _
      ⟨[], none, (fun _ h => nomatch h), by simp [upto_len], fun w hw => upto_mem hw, rfl, rfl⟩
    · rintro w ws σ S' N ⟨xs, x11, hx, hlen, hws, rfl, rfl⟩ hN
      obtain ⟨j, hj, rfl⟩ := hws w List.mem_cons_self
      simp only [b__law_signs_2]
      walk_at "wp"
      refine ⟨⟨by omega, by omega⟩, ?_⟩
      have ea : put (put S a (Ob.lst (List.map W.int rs))) b (Ob.lst (List.map W.str xs)) a = some (.lst (rs.map W.int)) := by rw [put_ne (Ne.symm hb2), put_same]
      refine comp_each (fun σ => ∃ x, σ = [x, some (.str (Str.ofString "abcdefghijklmnopqrstuvwxyz")), some (.ref a), some (.int (0 + (j : Int))), some (.int (first / 24 % (1 + first / 3 % 8)))]) (fun w y => ∃ c, y = W.str ⟨#[c]⟩ ∧ Low c) trivial _ [] _ ⟨none, rfl⟩ (by simp [upto_len]; omega) (fun w hw σ R ⟨x, hσ⟩ hR => ?_) fun ys hp => ?_
      · obtain ⟨i, hi, rfl⟩ := upto_mem hw
        subst hσ
        simp only [b__law_signs_1]
        walk_at "wp"
        have e := atI_nat' (xs := rs.map W.int) (n := i)
        rw [show (i : Int) = 0 + (i : Int) by omega, List.getElem?_map, List.getElem?_eq_getElem (show i < rs.length by omega)] at e
        rw [lstW_of ea, e]
        dsimp only [Option.map]
        walk_at "wp"
        obtain ⟨c, ec, lc⟩ := at_az (n := (rs[i]'(by omega) + (0 + (j : Int)) * (if (0 + (i : Int) == first / 24 % (1 + first / 3 % 8)) = true then 1 else 0)) % 26) (Int.emod_nonneg _ (by decide)) (Int.emod_lt_of_pos _ (by decide))
        rw [ec]
        exact ⟨.inl ⟨by omega, by omega⟩, by decide, line_le (by rw [az_len]; decide), hR _ _ _ ⟨_, rfl⟩ ⟨c, rfl, lc⟩ .refl⟩
      · obtain ⟨cs, c1, c2, rfl⟩ := ones_ex (fun w y h => h) hp
        rw [upto_len] at c1
        have c3 : (cs.length : Int) = 1 + first / 3 % 8 := by rw [c1]; omega
        rw [List.nil_append, strsOf_ones]
        have hz := sign_join (cs := cs) (by omega) (by omega) c2
        refine ⟨join_fits cs (by omega), ?_⟩
        generalize Str.join (Str.ofString "") (cs.map fun c => (⟨#[c]⟩ : Str)) = z at hz ⊢
        simp only [lstW_put, put_put]
        simp only [List.length_cons] at hlen
        have hxl : (List.map W.str xs).length < sizeLine := line_lt (by rw [List.length_map]; omega)
        refine ⟨hxl, hN _ _ _ .refl trivial ⟨xs ++ [z], some (.int (0 + (j : Int))), fun x hx' => ?_, by rw [List.length_append, List.length_singleton]; omega, fun w hw => hws w (List.mem_cons_of_mem _ hw), by rw [List.map_append, List.map_cons, List.map_nil], rfl⟩⟩
        rcases List.mem_append.mp hx' with y | y
        · exact hx x y
        · rw [List.mem_singleton.mp y]
          exact hz
    · rintro σ S' ⟨xs, x11, hx, hlen, hws, rfl, rfl⟩
      walk_at "wp"
      exact ⟨_, .put2 (.put .refl ha), h b xs hb1 (by simpa using hlen) hx⟩
theorem at_mod {α : Type} {xs : List α} (n : Int) (h : xs ≠ []) : ∃ (i : Nat) (x : α), xs[i]? = some x ∧ atI xs (n % (xs.length : Int)) = some x := by
  have hp : 0 < xs.length := List.length_pos_iff.mpr h
  have h0 : 0 ≤ n % (xs.length : Int) := Int.emod_nonneg _ (by omega)
  have h1 : n % (xs.length : Int) < (xs.length : Int) := Int.emod_lt_of_pos _ (by omega)
  have hlt : (n % (xs.length : Int)).toNat < xs.length := by omega
  refine ⟨(n % (xs.length : Int)).toNat, xs[(n % (xs.length : Int)).toNat], List.getElem?_eq_getElem hlt, ?_⟩
  have e := atI_nat (xs := xs) (j := (n % (xs.length : Int)).toNat) (v := xs[(n % (xs.length : Int)).toNat]) (List.getElem?_eq_getElem hlt)
  rw [Int.toNat_of_nonneg h0] at e
  exact e
end L2
end

section
set_option Elab.async false
set_option linter.all false
set_option maxRecDepth 100000
set_option maxHeartbeats 4000000
namespace L2
open PySem PySem.Spec PyProof.Rows
local macro_rules | `(tactic| walk_at "wp") => `(tactic| simp only [u_wVar, u_wC, u_wOp, u_wTru, u_wTb, u_wAnd, u_wOr, u_wNot, u_wAndV, u_wOrV, u_wNotV, u_wIf, u_wIfS, u_wNext, u_wSeq, u_wRet, u_wRetN, u_wDrop, u_wGN, u_wAsg, u_wGnil, u_wGcons, u_wGT, u_waNil, u_waCons, u_wTup, u_wLst, u_wNew, u_wCall, u_wDef, u_wNeg, u_oEq, u_wChain, u_woN, u_woS, u_wSl, u_wB, u_wBL, u_fTupleL, u_wListOf, u_fAllL, u_wIsi, u_wM, u_wML, u_wAug, u_wFor, u_wIv, u_wIl, u_wRng, u_wYes, u_wComp, u_wEnum, u_wZip, u_wDown, u_wSlL', u_wIxL, u_wCatR, u_wCatB, u_wCatF, u_wRepL, u_wListrange, e_repT, u_wDNew, e_din, e_dget, u_wDPut, u_fSumL, e_upper, key_P, dctW_put, lstW_put, put_put, eq_int, eq_str, eq_bl, cut_one, atI_zero, sub_int_int, sub_int_bool, sub_int_str, sub_int_tuple, sub_int_list, sub_bool_int, sub_bool_bool, sub_bool_str, sub_bool_tuple, sub_bool_list, sub_str_int, sub_str_bool, sub_str_str, sub_str_tuple, sub_str_list, sub_tuple_int, sub_tuple_bool, sub_tuple_str, sub_tuple_tuple, sub_tuple_list, sub_list_int, sub_list_bool, sub_list_str, sub_list_tuple, sub_list_list, e_tru_bl, e_tru_int, e_tru_tup, e_tru_ref, e_tru_non, e_seq_tup, e_seq_ref, e_ty_bl, e_ty_int, e_ty_str, e_ty_tup, e_ty_non, e_ty_ref, e_add_int, e_add_str, e_add_tup, e_add_lst, e_int, e_int0, e_le_int, e_le_str, e_len_tup, e_len_ref, e_len_scr, e_len_str, e_ix_tup, e_ix_ref, e_ix_scr, e_ix_str, e_sl_tup, e_sl_str, e_sl_ref, e_sl_scr, e_tuple_tup, e_tuple_ref, e_append, e_pop, e_extend_tup, e_extend_ref, e_extendL, e_rvL, e_rvS, e_int_bl, e_int_int, e_max2, e_min2, e_join, e_index, e_is_non, e_is_bl, e_is_bn, e_is_tn, e_is_rn, e_is_in, e_in_tup, e_in_ref, e_in_str, List.map_cons, List.map_nil, List.length_cons, List.length_nil, List.cons_append, List.nil_append, List.append_nil, List.replicate, List.getElem?_cons_zero, List.getElem?_cons_succ, List.getElem?_nil, List.set_cons_zero, List.set_cons_succ, Nat.reduceAdd, Nat.reduceSub, true_and, and_true, if_true, if_false, Bool.false_eq_true, reduceIte, Bool.not_true, Bool.not_false, Option.join_some, Option.join_none, decide_eq_true_eq, and_self])
theorem ok_titles {ns : List Int} {k : Int} {many : Nat} {r : Nat} {S : Sto} {Q : WK} {E : Str → Sto → Prop} (h0 : 0 ≤ k) (h1 : k ≤ 1000) (hm : many ≤ 8) (h : ∀ (a : Addr) (ws : List Str), S a = none → ws.length = many → (∀ x ∈ ws, TitleW x) → Q (.ref a) (put S a (.lst (ws.map W.str)))) : c__law_titles (r + 3) [.scr ns, .int k, .int many] S Q E := by
  rw [c__law_titles]
  walk_at "wp"
  refine ok_signs h0 h1 hm fun a ws ha hl hw => ?_
  walk_at "wp"
  refine comp_each (fun σ => ∃ x, σ = [x, some (.str (Str.ofString "ABCDEFGHIJKLMNOPQRSTUVWXYZ")), some (.str (Str.ofString "abcdefghijklmnopqrstuvwxyz"))]) (fun w y => ∃ x, y = W.str x ∧ TitleW x) put_same _ [] _ ⟨none, rfl⟩ (by simp; omega) (fun w hw' σ R ⟨x, hσ⟩ hR => ?_) fun ys hp => ?_
  · subst hσ
    obtain ⟨z, hz, rfl⟩ := List.mem_map.mp hw'
    obtain ⟨l1, l2, w3⟩ := hw z hz
    obtain ⟨c0, rest, hc⟩ : ∃ c0 rest, z.cps.toList = c0 :: rest := by
      cases e : z.cps.toList with
      | nil => rw [e] at l1; simp at l1
      | cons c0 rest => exact ⟨c0, rest, rfl⟩
    have hlow : Low c0 := w3 c0 (by rw [hc]; exact List.mem_cons_self)
    have hwl : z.length = rest.length + 1 := by
      have : z.length = z.cps.toList.length := by simp [Str.length]
      rw [this, hc, List.length_cons]
    rw [hc, List.length_cons] at l2
    have hsl := Txt.slice_le z (some 1) none
    simp only [b__law_titles_1]
    walk_at "wp"
    rw [hc]
    walk_at "wp"
    rw [idx_az hlow]
    dsimp only
    rw [at_AZ (by have := hlow.2; omega)]
    dsimp only
    refine ⟨line_le (by omega), line_le (by rw [AZ_len]; decide), line_le (by omega), ?_, hR _ _ _ ⟨_, rfl⟩ ⟨_, rfl, 65 + (c0 - 97), rest, ?_, by omega, by have := hlow.2; omega, by omega, fun d hd => w3 d (by rw [hc]; exact List.mem_cons_of_mem _ hd)⟩ .refl⟩
    · show 1 + (Txt.slice z (some 1) none).length ≤ sizeLine
      exact line_le (by omega)
    · show (#[65 + (c0 - 97)] ++ (Txt.slice z (some 1) none).cps).toList = _
      rw [Array.toList_append, slice_cut, hc]
      have ez : cutN (c0 :: rest) (some 1) none = rest := cut_one
      rw [ez]
      rfl
  · obtain ⟨xs, x1, x2, rfl⟩ := strs_ex (fun w y h => h) hp
    rw [List.nil_append]
    intro b hb
    obtain ⟨hb1, hb2⟩ := put_none hb
    exact ⟨_, .put2 (.put .refl ha), h b xs hb1 (by simpa [hl] using x1) x2⟩
inductive Made (hs : List Str) (ls : List Tr) : Tr → Prop where
  | leaf {t : Tr} : t ∈ ls → Made hs ls t
  | node {h : Str} {ts : List Tr} : h ∈ hs → 1 ≤ ts.length → ts.length ≤ 3 → (∀ t ∈ ts, Made hs ls t) → Made hs ls (.nd h ts)
def Pushed (ts : List Tr) (hs : List Str) (ls ts' : List Tr) : Prop :=
  (∃ l ∈ ls, ts' = ts ++ [l]) ∨ ∃ pre kids h, ts = pre ++ kids ∧ 1 ≤ kids.length ∧ kids.length ≤ 3 ∧ h ∈ hs ∧ ts' = pre ++ [.nd h kids]
theorem at_manyW (n : Int) : ∃ m : Nat, m ≤ 3 ∧ atI [W.int 0, W.int 0, W.int 1, W.int 2, W.int 3] (n % 5) = some (W.int (m : Int)) := by
  have h0 : 0 ≤ n % 5 := Int.emod_nonneg _ (by decide)
  have h1 : n % 5 < 5 := Int.emod_lt_of_pos _ (by decide)
  have : n % 5 = 0 ∨ n % 5 = 1 ∨ n % 5 = 2 ∨ n % 5 = 3 ∨ n % 5 = 4 := by omega
  rcases this with e | e | e | e | e <;> rw [e]
  · exact ⟨0, by decide, rfl⟩
  · exact ⟨0, by decide, rfl⟩
  · exact ⟨1, by decide, rfl⟩
  · exact ⟨2, by decide, rfl⟩
  · exact ⟨3, by decide, rfl⟩
theorem encs_append (ts us : List Tr) : encs (ts ++ us) = encs ts ++ encs us := by rw [encs_map, encs_map, encs_map, List.map_append]
theorem encs_take (ts : List Tr) (n : Nat) : (encs ts).take n = encs (ts.take n) := by rw [encs_map, encs_map, List.map_take]
theorem encs_drop (ts : List Tr) (n : Nat) : (encs ts).drop n = encs (ts.drop n) := by rw [encs_map, encs_map, List.map_drop]
theorem ok_pushed {a b c : Addr} {ts ls : List Tr} {hs : List Str} {cell : Int} {r : Nat} {S : Sto} {Q : WK} {E : Str → Sto → Prop} (ha : S a = some (.lst (encs ts))) (hb : S b = some (.lst (hs.map W.str))) (hc : S c = some (.lst (encs ls))) (hh : hs ≠ []) (hl : ls ≠ []) (hn : ts.length ≤ 100000)
    (h : ∀ p ts', S p = none → Pushed ts hs ls ts' → Q (.ref p) (put S p (.lst (encs ts')))) : c__law_pushed (r + 1) [.ref a, .int cell, .ref b, .ref c] S Q E := by
  rw [c__law_pushed]
  walk_at "wp"
  obtain ⟨m, hm, e⟩ := at_manyW cell
  rw [e]
  walk_at "wp"
  simp only [lstW_of ha, lstW_of hb, lstW_of hc]
  obtain ⟨i, l, el, al⟩ := at_mod (xs := encs ls) (cell / 5) (by rw [encs_map]; simpa using hl)
  obtain ⟨t, et, rfl⟩ : ∃ t, ls[i]? = some t ∧ l = enc t := by
    rw [encs_map, List.getElem?_map] at el
    cases q : ls[i]? with
    | none => rw [q] at el; cases el
    | some t => rw [q] at el; exact ⟨t, rfl, (Option.some.inj el).symm⟩
  obtain ⟨j, hw, ej, ah⟩ := at_mod (xs := hs.map W.str) (cell / 5) (by simpa using hh)
  obtain ⟨x, ex, rfl⟩ : ∃ x, hs[j]? = some x ∧ hw = .str x := by
    rw [List.getElem?_map] at ej
    cases q : hs[j]? with
    | none => rw [q] at ej; cases ej
    | some t => rw [q] at ej; exact ⟨t, rfl, (Option.some.inj ej).symm⟩
  have hl0 : 0 < ls.length := List.length_pos_iff.mpr hl
  have hh0 : 0 < hs.length := List.length_pos_iff.mpr hh
  simp only [al, ah]
  have leaf : 0 < ((encs ls).length : Int) ∧ 1 ≤ sizeLine ∧ (encs ts).length + 1 ≤ sizeLine ∧ ∀ p, S p = none → ∃ S'', Sub S'' (put S p (.lst (encs ts ++ [enc t]))) ∧ Q (.ref p) S'' := by
    rw [encs_len, encs_len]
    refine ⟨by omega, line_le (by decide), line_le (by omega), fun p hp => ⟨_, .refl, ?_⟩⟩
    have := h p (ts ++ [t]) hp (.inl ⟨t, List.mem_of_getElem? et, rfl⟩)
    rw [encs_append] at this
    exact this
  refine ⟨line_le (by decide), by decide, ⟨by decide, by decide⟩, ?_⟩
  split
  · exact leaf
  · rename_i hm0
    split
    · exact leaf
    · rename_i hlt
      have hm1 : 0 < m := by
        rcases Nat.eq_zero_or_pos m with z | z
        · rw [z] at hm0; simp at hm0
        · exact z
      rw [encs_len] at hlt
      have hk : m ≤ ts.length := by omega
      rw [cut_butlast m hm1, cut_lasts m hm1, encs_len, encs_take, encs_drop]
      simp only [encs_len, List.length_map]
      refine ⟨by omega, line_le (by decide), line_le (by simp; omega), line_le (by decide), line_le (by simp; omega), fun p hp => ⟨_, .refl, ?_⟩⟩
      have := h p (ts.take (ts.length - m) ++ [.nd x (ts.drop (ts.length - m))]) hp (.inr ⟨_, _, x, (List.take_append_drop _ _).symm, by simp; omega, by simp; omega, List.mem_of_getElem? ex, rfl⟩)
      rw [encs_append] at this
      exact this
theorem pushed_made {ts : List Tr} {hs : List Str} {ls ts' : List Tr} (h : Pushed ts hs ls ts') (hm : ∀ t ∈ ts, Made hs ls t) (hw : ∀ t ∈ ls, t.weight = 1) : (∀ t ∈ ts', Made hs ls t) ∧ wts ts' = wts ts + 1 ∧ ts'.length ≤ ts.length + 1 := by
  rcases h with ⟨l, hl, rfl⟩ | ⟨pre, kids, h, rfl, h1, h2, h3, rfl⟩
  · refine ⟨fun t ht => ?_, ?_, by simp⟩
    · rcases List.mem_append.mp ht with z | z
      · exact hm t z
      · rw [List.mem_singleton.mp z]
        exact .leaf hl
    · rw [wts_append, wts_cons, wts_nil, hw l hl]
  · refine ⟨fun t ht => ?_, ?_, by simp only [List.length_append, List.length_cons, List.length_nil]; omega⟩
    · rcases List.mem_append.mp ht with z | z
      · exact hm t (List.mem_append_left _ z)
      · rw [List.mem_singleton.mp z]
        exact .node h3 h1 h2 fun u hu => hm u (List.mem_append_right _ hu)
    · rw [wts_append, wts_append, wts_cons, wts_nil, weight_kids]
      show wts pre + (1 + wts kids + 0) = _
      omega
theorem ok_thing {cs b c : Addr} {ns : List Int} {ls : List Tr} {hs : List Str} {r : Nat} {S : Sto} {Q : WK} {E : Str → Sto → Prop} (hcs : S cs = some (.lst (ns.map W.int))) (hb : S b = some (.lst (hs.map W.str))) (hc : S c = some (.lst (encs ls))) (hh : hs ≠ []) (hl : ls ≠ []) (hw : ∀ t ∈ ls, t.weight = 1) (hn : ns.length ≤ 1000)
    (h : ∀ t, Made hs ls t → t.weight ≤ 2 * ns.length + 1 → Q (enc t) S) : c__law_thing (r + 2) [.ref cs, .ref b, .ref c] S Q E := by
  rw [c__law_thing]
  walk_at "wp"
  refine ⟨Nat.zero_le _, fun a ha => ?_⟩
  simp only [lstW_ne (ne_st hcs ha), lstW_of hcs]
  refine for_inv (fun ws σ S' => ∃ (a : Addr) (ts : List Tr) (ms : List Int) (x4 : Option W), S a = none ∧ S' = put S a (.lst (encs ts)) ∧ ws = ms.map W.int ∧ (∀ t ∈ ts, Made hs ls t) ∧ wts ts + ms.length = ns.length ∧ ts.length + ms.length ≤ ns.length ∧ σ = [some (.ref cs), some (.ref b), some (.ref c), some (.ref a), x4]) ?_ ?_ _ _ _
    ⟨a, [], ns, none, ha, by simp [encs], rfl, (fun _ h => nomatch h), by simp [wts_nil], by simp, rfl⟩
  · rintro w ws σ S' N ⟨a, ts, ms, x4, ha, rfl, ew, hm, h1, h2, rfl⟩ hN
    cases ms with
    | nil => cases ew
    | cons n ms =>
      simp only [List.map_cons, List.cons.injEq] at ew
      obtain ⟨rfl, rfl⟩ := ew
      simp only [b__law_thing_2]
      walk_at "wp"
      simp only [List.length_cons] at h1 h2
      refine ⟨⟨by decide, by decide, by decide⟩, by decide, ?_⟩
      refine ok_pushed put_same (by rw [put_ne (ne_st hb ha)]; exact hb) (by rw [put_ne (ne_st hc ha)]; exact hc) hh hl (by omega) fun p ts' hp hps => ?_
      obtain ⟨hp1, hp2⟩ := put_none hp
      obtain ⟨p1, p2, p3⟩ := pushed_made hps hm hw
      exact hN _ _ _ (.put2 (.put .refl ha)) (by rw [put_ne (ne_st hcs hp1)]; exact hcs) ⟨p, ts', ms, _, hp1, rfl, rfl, p1, by omega, by omega, rfl⟩
  · rintro σ S' ⟨a, ts, ms, x4, ha, rfl, ew, hm, h1, h2, rfl⟩
    cases ms with
    | cons n ms => cases ew
    | nil =>
      simp only [List.length_nil, Nat.add_zero] at h1 h2
      walk_at "wp"
      rw [encs_len]
      have leaf0 : ∃ t, ls[0]? = some t := ⟨ls[0]'(List.length_pos_iff.mpr hl), List.getElem?_eq_getElem _⟩
      split
      · obtain ⟨t, et⟩ := leaf0
        have e0 : atI (encs ls) 0 = some (enc t) := by
          have := atI_nat' (xs := encs ls) (n := 0)
          rw [encs_map, List.getElem?_map, et] at this
          rw [encs_map]; exact this
        rw [lstW_ne (ne_st hc ha), lstW_of hc, e0]
        have ht := List.mem_of_getElem? et
        exact ⟨S, .put .refl ha, h t (.leaf ht) (by rw [hw t ht]; omega)⟩
      · rename_i hts
        have hpos : 1 ≤ ts.length := by
          rcases Nat.eq_zero_or_pos ts.length with z | z
          · rw [z] at hts; simp at hts
          · exact z
        refine ⟨fun m σ S' => ∃ (a : Addr) (ts : List Tr), m = ts.length ∧ S a = none ∧ S' = put S a (.lst (encs ts)) ∧ (∀ t ∈ ts, Made hs ls t) ∧ 1 ≤ ts.length ∧ wts ts + ts.length ≤ 2 * ns.length + 1 ∧ ts.length ≤ ns.length ∧ σ = [some (.ref cs), some (.ref b), some (.ref c), some (.ref a), x4], ⟨_, a, ts, rfl, ha, rfl, hm, hpos, by omega, by omega, rfl⟩, ?_⟩
        rintro m σ S' ⟨a, ts, rfl, ha, rfl, hm, hpos, h1, h2, rfl⟩
        walk_at "wp"
        rw [encs_len]
        obtain ⟨x0, ex0⟩ : ∃ x, hs[0]? = some x := ⟨hs[0]'(List.length_pos_iff.mpr hh), List.getElem?_eq_getElem _⟩
        split
        · rename_i hlt
          have hl2 : 2 ≤ ts.length := by omega
          have q1 : ts[ts.length - 2]? = some (ts[ts.length - 2]'(by omega)) := List.getElem?_eq_getElem _
          have q2 : ts[ts.length - 1]? = some (ts[ts.length - 1]'(by omega)) := List.getElem?_eq_getElem _
          generalize ts[ts.length - 2]'(by omega) = u at q1
          generalize ts[ts.length - 1]'(by omega) = v at q2
          have dec : ts = ts.take (ts.length - 2) ++ [u, v] := by
            apply List.ext_getElem?
            intro i
            by_cases hi : i < ts.length - 2
            · rw [List.getElem?_append_left (by simp; omega), List.getElem?_take_of_lt hi]
            · rw [List.getElem?_append_right (by simp; omega), List.length_take, Nat.min_eq_left (by omega)]
              by_cases h0 : i = ts.length - 2
              · subst h0; rw [q1]; simp
              · by_cases h1 : i = ts.length - 1
                · subst h1; rw [q2, show ts.length - 1 - (ts.length - 2) = 1 by omega]; rfl
                · rw [List.getElem?_eq_none (by omega), List.getElem?_eq_none (by simp; omega)]
          have e2 : atI (encs ts) (-2) = some (enc u) := by
            have := atI_neg (xs := encs ts) (k := 2) (by decide) (by rw [encs_len]; omega)
            rw [encs_len, encs_map, List.getElem?_map, q1] at this
            rw [encs_map]; exact this
          have e1 : atI (encs ts) (-1) = some (enc v) := by
            have := atI_neg (xs := encs ts) (k := 1) (by decide) (by rw [encs_len]; omega)
            rw [encs_len, encs_map, List.getElem?_map, q2] at this
            rw [encs_map]; exact this
          have e0 : atI (hs.map W.str) 0 = some (.str x0) := by
            have := atI_nat' (xs := hs.map W.str) (n := 0)
            rw [List.getElem?_map, ex0] at this
            exact this
          have ec : cutA (encs ts) none (some (-2)) = encs (ts.take (ts.length - 2)) := by
            have := cut_butlast (xs := encs ts) 2 (by decide)
            rw [encs_len, encs_take] at this
            exact this
          simp only [b__law_thing_1]
          walk_at "wp"
          simp only [lstW_ne (ne_st hb ha), lstW_of hb, e0, e1, e2, ec]
          have hw1 : wts ts = wts (ts.take (ts.length - 2)) + (u.weight + (v.weight + 0)) := by
            conv => lhs; rw [dec]
            rw [wts_append, wts_cons, wts_cons, wts_nil]
          refine ⟨line_le (by decide), line_le (by decide), line_le (by rw [encs_len]; simp; omega), fun p hp => ?_⟩
          obtain ⟨hp1, hp2⟩ := put_none hp
          refine ⟨_, put S p (.lst (encs (ts.take (ts.length - 2) ++ [.nd x0 [u, v]]))), ?_, ?_, p, _, rfl, hp1, rfl, fun t ht => ?_, by simp, ?_, by simp; omega, rfl⟩
          · simp; omega
          · rw [encs_append]
            exact .put2 (.put .refl ha)
          · rcases List.mem_append.mp ht with z | z
            · exact hm t (List.mem_of_mem_take z)
            · rw [List.mem_singleton.mp z]
              refine .node (List.mem_of_getElem? ex0) (by simp) (by simp) fun w hw' => ?_
              rcases List.mem_cons.mp hw' with rfl | z
              · exact hm _ (List.mem_of_getElem? q1)
              · rw [List.mem_singleton.mp z]; exact hm _ (List.mem_of_getElem? q2)
          · rw [wts_append, wts_cons, wts_nil, weight_kids]
            show wts (ts.take (ts.length - 2)) + (1 + wts [u, v] + 0) + _ ≤ _
            rw [wts_cons, wts_cons, wts_nil]
            simp
            omega
        · rename_i hlt
          have hl1 : ts.length = 1 := by omega
          obtain ⟨t, rfl⟩ := List.length_eq_one_iff.mp hl1
          simp only [encs, atI_zero]
          rw [wts_cons, wts_nil] at h1
          simp at h1
          exact ⟨S, .put .refl ha, h t (hm t List.mem_cons_self) (by omega)⟩
end L2
end

section
set_option Elab.async false
set_option linter.all false
set_option maxRecDepth 100000
set_option maxHeartbeats 4000000
namespace L2
open PySem PySem.Spec PyProof.Rows
local macro_rules | `(tactic| walk_at "wp") => `(tactic| simp only [u_wVar, u_wC, u_wOp, u_wTru, u_wTb, u_wAnd, u_wOr, u_wNot, u_wAndV, u_wOrV, u_wNotV, u_wIf, u_wIfS, u_wNext, u_wSeq, u_wRet, u_wRetN, u_wDrop, u_wGN, u_wAsg, u_wGnil, u_wGcons, u_wGT, u_waNil, u_waCons, u_wTup, u_wLst, u_wNew, u_wCall, u_wDef, u_wNeg, u_oEq, u_wChain, u_woN, u_woS, u_wSl, u_wB, u_wBL, u_fTupleL, u_wListOf, u_fAllL, u_wIsi, u_wM, u_wML, u_wAug, u_wFor, u_wIv, u_wIl, u_wRng, u_wYes, u_wComp, u_wEnum, u_wZip, u_wDown, u_wSlL', u_wIxL, u_wCatR, u_wCatB, u_wCatF, u_wRepL, u_wListrange, e_repT, u_wDNew, e_din, e_dget, u_wDPut, u_fSumL, e_upper, key_P, dctW_put, lstW_put, put_put, eq_int, eq_str, eq_bl, cut_one, atI_zero, sub_int_int, sub_int_bool, sub_int_str, sub_int_tuple, sub_int_list, sub_bool_int, sub_bool_bool, sub_bool_str, sub_bool_tuple, sub_bool_list, sub_str_int, sub_str_bool, sub_str_str, sub_str_tuple, sub_str_list, sub_tuple_int, sub_tuple_bool, sub_tuple_str, sub_tuple_tuple, sub_tuple_list, sub_list_int, sub_list_bool, sub_list_str, sub_list_tuple, sub_list_list, e_tru_bl, e_tru_int, e_tru_tup, e_tru_ref, e_tru_non, e_seq_tup, e_seq_ref, e_ty_bl, e_ty_int, e_ty_str, e_ty_tup, e_ty_non, e_ty_ref, e_add_int, e_add_str, e_add_tup, e_add_lst, e_int, e_int0, e_le_int, e_le_str, e_len_tup, e_len_ref, e_len_scr, e_len_str, e_ix_tup, e_ix_ref, e_ix_scr, e_ix_str, e_sl_tup, e_sl_str, e_sl_ref, e_sl_scr, e_tuple_tup, e_tuple_ref, e_append, e_pop, e_extend_tup, e_extend_ref, e_extendL, e_rvL, e_rvS, e_int_bl, e_int_int, e_max2, e_min2, e_join, e_index, e_is_non, e_is_bl, e_is_bn, e_is_tn, e_is_rn, e_is_in, e_in_tup, e_in_ref, e_in_str, List.map_cons, List.map_nil, List.length_cons, List.length_nil, List.cons_append, List.nil_append, List.append_nil, List.replicate, List.getElem?_cons_zero, List.getElem?_cons_succ, List.getElem?_nil, List.set_cons_zero, List.set_cons_succ, Nat.reduceAdd, Nat.reduceSub, true_and, and_true, if_true, if_false, Bool.false_eq_true, reduceIte, Bool.not_true, Bool.not_false, Option.join_some, Option.join_none, decide_eq_true_eq, and_self])
mutual
inductive Alk (S : Sto) : Nat → W → W → Prop
  | str (n : Nat) (x : Str) : Alk S (n + 1) (.str x) (.str x)
  | int (n : Nat) (i : Int) : Alk S (n + 1) (.int i) (.int i)
  | tup {n : Nat} {xs ys : List W} : xs.length ≤ 100000 → Alks S n xs ys → Alk S (n + 1) (.tup xs) (.tup ys)
  | lst {n : Nat} {a b : Addr} {xs ys : List W} : S a = some (.lst xs) → S b = some (.lst ys) → xs.length ≤ 100000 → Alks S n xs ys → Alk S (n + 1) (.ref a) (.ref b)
inductive Alks (S : Sto) : Nat → List W → List W → Prop
  | nil (n : Nat) : Alks S n [] []
  | cons {n : Nat} {x y : W} {xs ys : List W} : Alk S n x y → Alks S n xs ys → Alks S n (x :: xs) (y :: ys)
end
theorem Alks.len {S : Sto} {n : Nat} : ∀ {xs ys : List W}, Alks S n xs ys → xs.length = ys.length
  | _, _, .nil _ => rfl
  | _, _, .cons _ h => congrArg (· + 1) (Alks.len h)
mutual
def Tr.plt (p : List Int) : Tr → List (List Int × Tr)
  | .bl n => [(p, .bl n)]
  | .nd s ts => (p, .nd s ts) :: plts p 0 ts
def plts (p : List Int) (i : Nat) : List Tr → List (List Int × Tr)
  | [] => []
  | t :: ts => t.plt (p ++ [(i : Int)]) ++ plts p (i + 1) ts
end
theorem at_cons {s : Str} {ts : List Tr} {i : Nat} {q : List Int} {u : Tr} (h : ts[i]? = some u) : (Tr.nd s ts).at ((i : Int) :: q) = u.at q := by
  rw [Tr.at, if_neg (by omega)]
  simp [h]
end L2
end

section
set_option Elab.async false
set_option linter.all false
set_option maxRecDepth 100000
set_option maxHeartbeats 4000000
namespace L2
open PySem PySem.Spec PyProof.Rows
local macro_rules | `(tactic| walk_at "wp") => `(tactic| simp only [u_wVar, u_wC, u_wOp, u_wTru, u_wTb, u_wAnd, u_wOr, u_wNot, u_wAndV, u_wOrV, u_wNotV, u_wIf, u_wIfS, u_wNext, u_wSeq, u_wRet, u_wRetN, u_wDrop, u_wGN, u_wAsg, u_wGnil, u_wGcons, u_wGT, u_waNil, u_waCons, u_wTup, u_wLst, u_wNew, u_wCall, u_wDef, u_wNeg, u_oEq, u_wChain, u_woN, u_woS, u_wSl, u_wB, u_wBL, u_fTupleL, u_wListOf, u_fAllL, u_wIsi, u_wM, u_wML, u_wAug, u_wFor, u_wIv, u_wIl, u_wRng, u_wYes, u_wComp, u_wEnum, u_wZip, u_wDown, u_wSlL', u_wIxL, u_wCatR, u_wCatB, u_wCatF, u_wRepL, u_wListrange, e_repT, u_wDNew, e_din, e_dget, u_wDPut, u_fSumL, e_upper, key_P, dctW_put, lstW_put, put_put, eq_int, eq_str, eq_bl, cut_one, atI_zero, sub_int_int, sub_int_bool, sub_int_str, sub_int_tuple, sub_int_list, sub_bool_int, sub_bool_bool, sub_bool_str, sub_bool_tuple, sub_bool_list, sub_str_int, sub_str_bool, sub_str_str, sub_str_tuple, sub_str_list, sub_tuple_int, sub_tuple_bool, sub_tuple_str, sub_tuple_tuple, sub_tuple_list, sub_list_int, sub_list_bool, sub_list_str, sub_list_tuple, sub_list_list, e_tru_bl, e_tru_int, e_tru_tup, e_tru_ref, e_tru_non, e_seq_tup, e_seq_ref, e_ty_bl, e_ty_int, e_ty_str, e_ty_tup, e_ty_non, e_ty_ref, e_add_int, e_add_str, e_add_tup, e_add_lst, e_int, e_int0, e_le_int, e_le_str, e_len_tup, e_len_ref, e_len_scr, e_len_str, e_ix_tup, e_ix_ref, e_ix_scr, e_ix_str, e_sl_tup, e_sl_str, e_sl_ref, e_sl_scr, e_tuple_tup, e_tuple_ref, e_append, e_pop, e_extend_tup, e_extend_ref, e_extendL, e_rvL, e_rvS, e_int_bl, e_int_int, e_max2, e_min2, e_join, e_index, e_is_non, e_is_bl, e_is_bn, e_is_tn, e_is_rn, e_is_in, e_in_tup, e_in_ref, e_in_str, List.map_cons, List.map_nil, List.length_cons, List.length_nil, List.cons_append, List.nil_append, List.append_nil, List.replicate, List.getElem?_cons_zero, List.getElem?_cons_succ, List.getElem?_nil, List.set_cons_zero, List.set_cons_succ, Nat.reduceAdd, Nat.reduceSub, true_and, and_true, if_true, if_false, Bool.false_eq_true, reduceIte, Bool.not_true, Bool.not_false, Option.join_some, Option.join_none, decide_eq_true_eq, and_self])
theorem keep {S : Sto} {a p : Addr} {o x : Ob} (f : S a = some o) (h : S p = none) : put S p x a = some o := by rw [put_ne (ne_st f h)]; exact f
end L2
end

section
set_option Elab.async false
set_option linter.all false
set_option maxRecDepth 100000
set_option maxHeartbeats 4000000
namespace L2
open PySem PySem.Spec PyProof.Rows
local macro_rules | `(tactic| walk_at "wp") => `(tactic| simp only [u_wVar, u_wC, u_wOp, u_wTru, u_wTb, u_wAnd, u_wOr, u_wNot, u_wAndV, u_wOrV, u_wNotV, u_wIf, u_wIfS, u_wNext, u_wSeq, u_wRet, u_wRetN, u_wDrop, u_wGN, u_wAsg, u_wGnil, u_wGcons, u_wGT, u_waNil, u_waCons, u_wTup, u_wLst, u_wNew, u_wCall, u_wDef, u_wNeg, u_oEq, u_wChain, u_woN, u_woS, u_wSl, u_wB, u_wBL, u_fTupleL, u_wListOf, u_fAllL, u_wIsi, u_wM, u_wML, u_wAug, u_wFor, u_wIv, u_wIl, u_wRng, u_wYes, u_wComp, u_wEnum, u_wZip, u_wDown, u_wSlL', u_wIxL, u_wCatR, u_wCatB, u_wCatF, u_wRepL, u_wListrange, e_repT, u_wDNew, e_din, e_dget, u_wDPut, u_fSumL, e_upper, key_P, dctW_put, lstW_put, put_put, eq_int, eq_str, eq_bl, cut_one, atI_zero, sub_int_int, sub_int_bool, sub_int_str, sub_int_tuple, sub_int_list, sub_bool_int, sub_bool_bool, sub_bool_str, sub_bool_tuple, sub_bool_list, sub_str_int, sub_str_bool, sub_str_str, sub_str_tuple, sub_str_list, sub_tuple_int, sub_tuple_bool, sub_tuple_str, sub_tuple_tuple, sub_tuple_list, sub_list_int, sub_list_bool, sub_list_str, sub_list_tuple, sub_list_list, e_tru_bl, e_tru_int, e_tru_tup, e_tru_ref, e_tru_non, e_seq_tup, e_seq_ref, e_ty_bl, e_ty_int, e_ty_str, e_ty_tup, e_ty_non, e_ty_ref, e_add_int, e_add_str, e_add_tup, e_add_lst, e_int, e_int0, e_le_int, e_le_str, e_len_tup, e_len_ref, e_len_scr, e_len_str, e_ix_tup, e_ix_ref, e_ix_scr, e_ix_str, e_sl_tup, e_sl_str, e_sl_ref, e_sl_scr, e_tuple_tup, e_tuple_ref, e_append, e_pop, e_extend_tup, e_extend_ref, e_extendL, e_rvL, e_rvS, e_int_bl, e_int_int, e_max2, e_min2, e_join, e_index, e_is_non, e_is_bl, e_is_bn, e_is_tn, e_is_rn, e_is_in, e_in_tup, e_in_ref, e_in_str, List.map_cons, List.map_nil, List.length_cons, List.length_nil, List.cons_append, List.nil_append, List.append_nil, List.replicate, List.getElem?_cons_zero, List.getElem?_cons_succ, List.getElem?_nil, List.set_cons_zero, List.set_cons_succ, Nat.reduceAdd, Nat.reduceSub, true_and, and_true, if_true, if_false, Bool.false_eq_true, reduceIte, Bool.not_true, Bool.not_false, Option.join_some, Option.join_none, decide_eq_true_eq, and_self])
def Tr.isBl : Tr → Bool
  | .bl _ => true
  | .nd _ _ => false
def Tr.num : Tr → Int
  | .bl n => n
  | .nd _ _ => 0
def Tr.bls (t : Tr) : List (List Int × Tr) := (t.plt []).filter fun x => x.2.isBl
end L2
end

section
set_option Elab.async false
set_option linter.all false
set_option maxRecDepth 100000
set_option maxHeartbeats 4000000
namespace L2
open PySem PySem.Spec PyProof.Rows
local macro_rules | `(tactic| walk_at "wp") => `(tactic| simp only [u_wVar, u_wC, u_wOp, u_wTru, u_wTb, u_wAnd, u_wOr, u_wNot, u_wAndV, u_wOrV, u_wNotV, u_wIf, u_wIfS, u_wNext, u_wSeq, u_wRet, u_wRetN, u_wDrop, u_wGN, u_wAsg, u_wGnil, u_wGcons, u_wGT, u_waNil, u_waCons, u_wTup, u_wLst, u_wNew, u_wCall, u_wDef, u_wNeg, u_oEq, u_wChain, u_woN, u_woS, u_wSl, u_wB, u_wBL, u_fTupleL, u_wListOf, u_fAllL, u_wIsi, u_wM, u_wML, u_wAug, u_wFor, u_wIv, u_wIl, u_wRng, u_wYes, u_wComp, u_wEnum, u_wZip, u_wDown, u_wSlL', u_wIxL, u_wCatR, u_wCatB, u_wCatF, u_wRepL, u_wListrange, e_repT, u_wDNew, e_din, e_dget, u_wDPut, u_fSumL, e_upper, key_P, dctW_put, lstW_put, put_put, eq_int, eq_str, eq_bl, cut_one, atI_zero, sub_int_int, sub_int_bool, sub_int_str, sub_int_tuple, sub_int_list, sub_bool_int, sub_bool_bool, sub_bool_str, sub_bool_tuple, sub_bool_list, sub_str_int, sub_str_bool, sub_str_str, sub_str_tuple, sub_str_list, sub_tuple_int, sub_tuple_bool, sub_tuple_str, sub_tuple_tuple, sub_tuple_list, sub_list_int, sub_list_bool, sub_list_str, sub_list_tuple, sub_list_list, e_tru_bl, e_tru_int, e_tru_tup, e_tru_ref, e_tru_non, e_seq_tup, e_seq_ref, e_ty_bl, e_ty_int, e_ty_str, e_ty_tup, e_ty_non, e_ty_ref, e_add_int, e_add_str, e_add_tup, e_add_lst, e_int, e_int0, e_le_int, e_le_str, e_len_tup, e_len_ref, e_len_scr, e_len_str, e_ix_tup, e_ix_ref, e_ix_scr, e_ix_str, e_sl_tup, e_sl_str, e_sl_ref, e_sl_scr, e_tuple_tup, e_tuple_ref, e_append, e_pop, e_extend_tup, e_extend_ref, e_extendL, e_rvL, e_rvS, e_int_bl, e_int_int, e_max2, e_min2, e_join, e_index, e_is_non, e_is_bl, e_is_bn, e_is_tn, e_is_rn, e_is_in, e_in_tup, e_in_ref, e_in_str, List.map_cons, List.map_nil, List.length_cons, List.length_nil, List.cons_append, List.nil_append, List.append_nil, List.replicate, List.getElem?_cons_zero, List.getElem?_cons_succ, List.getElem?_nil, List.set_cons_zero, List.set_cons_succ, Nat.reduceAdd, Nat.reduceSub, true_and, and_true, if_true, if_false, Bool.false_eq_true, reduceIte, Bool.not_true, Bool.not_false, Option.join_some, Option.join_none, decide_eq_true_eq, and_self])
def Tr.put : Tr → List Int → Tr → Tr
  | _, [], u => u
  | .bl n, _ :: _, _ => .bl n
  | .nd s ts, i :: p, u => match ts[i.toNat]? with
    | some v => .nd s (ts.set i.toNat (v.put p u))
    | none => .nd s ts
theorem at_nil (t : Tr) : t.at [] = some t := by cases t <;> rfl
theorem at_nd {s : Str} {ts : List Tr} {i : Int} {p : List Int} {u : Tr} (h : (Tr.nd s ts).at (i :: p) = some u) : ∃ v, 0 ≤ i ∧ ts[i.toNat]? = some v ∧ v.at p = some u := by
  unfold Tr.at at h
  split at h
  · cases h
  · split at h
    · exact ⟨_, by omega, ‹_›, h⟩
    · cases h
theorem at_app : ∀ (q : List Int) {D t : Tr} (r : List Int), D.at q = some t → D.at (q ++ r) = t.at r
  | [], D, t, r, h => by rw [at_nil] at h; cases h; rfl
  | i :: q, .bl n, t, r, h => by cases h
  | i :: q, .nd s ts, t, r, h => by
    obtain ⟨v, h0, h1, h2⟩ := at_nd h
    rw [List.cons_append]
    have e : (i : Int) = ((i.toNat : Nat) : Int) := (Int.toNat_of_nonneg h0).symm
    rw [e, at_cons h1]
    exact at_app q r h2
end L2
end

section
set_option Elab.async false
set_option linter.all false
set_option maxRecDepth 100000
set_option maxHeartbeats 4000000
namespace L2
open PySem PySem.Spec PyProof.Rows
local macro_rules | `(tactic| walk_at "wp") => `(tactic| simp only [u_wVar, u_wC, u_wOp, u_wTru, u_wTb, u_wAnd, u_wOr, u_wNot, u_wAndV, u_wOrV, u_wNotV, u_wIf, u_wIfS, u_wNext, u_wSeq, u_wRet, u_wRetN, u_wDrop, u_wGN, u_wAsg, u_wGnil, u_wGcons, u_wGT, u_waNil, u_waCons, u_wTup, u_wLst, u_wNew, u_wCall, u_wDef, u_wNeg, u_oEq, u_wChain, u_woN, u_woS, u_wSl, u_wB, u_wBL, u_fTupleL, u_wListOf, u_fAllL, u_wIsi, u_wM, u_wML, u_wAug, u_wFor, u_wIv, u_wIl, u_wRng, u_wYes, u_wComp, u_wEnum, u_wZip, u_wDown, u_wSlL', u_wIxL, u_wCatR, u_wCatB, u_wCatF, u_wRepL, u_wListrange, e_repT, u_wDNew, e_din, e_dget, u_wDPut, u_fSumL, e_upper, key_P, dctW_put, lstW_put, put_put, eq_int, eq_str, eq_bl, cut_one, atI_zero, sub_int_int, sub_int_bool, sub_int_str, sub_int_tuple, sub_int_list, sub_bool_int, sub_bool_bool, sub_bool_str, sub_bool_tuple, sub_bool_list, sub_str_int, sub_str_bool, sub_str_str, sub_str_tuple, sub_str_list, sub_tuple_int, sub_tuple_bool, sub_tuple_str, sub_tuple_tuple, sub_tuple_list, sub_list_int, sub_list_bool, sub_list_str, sub_list_tuple, sub_list_list, e_tru_bl, e_tru_int, e_tru_tup, e_tru_ref, e_tru_non, e_seq_tup, e_seq_ref, e_ty_bl, e_ty_int, e_ty_str, e_ty_tup, e_ty_non, e_ty_ref, e_add_int, e_add_str, e_add_tup, e_add_lst, e_int, e_int0, e_le_int, e_le_str, e_len_tup, e_len_ref, e_len_scr, e_len_str, e_ix_tup, e_ix_ref, e_ix_scr, e_ix_str, e_sl_tup, e_sl_str, e_sl_ref, e_sl_scr, e_tuple_tup, e_tuple_ref, e_append, e_pop, e_extend_tup, e_extend_ref, e_extendL, e_rvL, e_rvS, e_int_bl, e_int_int, e_max2, e_min2, e_join, e_index, e_is_non, e_is_bl, e_is_bn, e_is_tn, e_is_rn, e_is_in, e_in_tup, e_in_ref, e_in_str, List.map_cons, List.map_nil, List.length_cons, List.length_nil, List.cons_append, List.nil_append, List.append_nil, List.replicate, List.getElem?_cons_zero, List.getElem?_cons_succ, List.getElem?_nil, List.set_cons_zero, List.set_cons_succ, Nat.reduceAdd, Nat.reduceSub, true_and, and_true, if_true, if_false, Bool.false_eq_true, reduceIte, Bool.not_true, Bool.not_false, Option.join_some, Option.join_none, decide_eq_true_eq, and_self])
mutual
def Tr.same : Tr → Tr → Bool
  | .bl n, .bl m => n == m
  | .nd s ts, .nd z us => s == z && sames ts us
  | _, _ => false
def sames : List Tr → List Tr → Bool
  | [], [] => true
  | t :: ts, u :: us => t.same u && sames ts us
  | _, _ => false
end
theorem eqF_tt {S : Sto} {n : Nat} {xs ys : List W} : eqF S (n + 1) (.tup xs) (.tup ys) = eqFs (eqF S n) xs ys := by rw [eqF]
theorem eqF_ii {S : Sto} {n : Nat} {x y : Int} : eqF S (n + 1) (.int x) (.int y) = some (x == y) := by rw [eqF]
theorem upto_succ (j : Int) (m : Nat) : upto j (m + 1) = .int j :: upto (j + 1) m := by
  unfold upto
  rw [List.range_succ_eq_map, List.map_cons, List.map_map]
  congr 1
  · simp
  · apply List.map_congr_left
    intro i _
    simp only [Function.comp, W.int.injEq]
    omega
theorem atI_small {α : Type} {xs : List α} {i : Int} (h0 : 0 ≤ i) (h1 : i < xs.length) : ∃ x, atI xs i = some x ∧ x ∈ xs := by
  have q := atI_nat' (xs := xs) (n := i.toNat)
  rw [Int.toNat_of_nonneg h0, List.getElem?_eq_getElem (by omega)] at q
  exact ⟨_, q, List.getElem_mem ..⟩
theorem strs_at {ss : List Str} {i : Int} (h0 : 0 ≤ i) (h1 : i < ss.length) : ∃ x, atI (ss.map W.str) i = some (.str x) ∧ x ∈ ss := by
  obtain ⟨w, h, m⟩ := atI_small (xs := ss.map W.str) h0 (by simpa using h1)
  obtain ⟨x, hx, rfl⟩ := List.mem_map.mp m
  exact ⟨x, h, hx⟩
theorem for_rng {g : WG} {b : WS} {E : WX} {D : WEnds} (I : Nat → WSt → Sto → Prop) (n : Nat)
    (step : ∀ i, i < n → ∀ σ S (N : WSt → Sto → Prop), I i σ S → (∀ σ' S' S'', Sub S'' S' → I (i + 1) σ' S'' → N σ' S') → g (.int i) σ S fun σ1 S1 => b E { D with nx := N, ct := N, bk := D.nx } σ1 S1)
    (done : ∀ σ S, I n σ S → D.nx σ S) {σ : WSt} {S : Sto} (h : I 0 σ S) : forL g b E D (fun _ => True) (upto 0 n) σ S := by
  refine for_inv (fun ws σ S => ∃ i, i ≤ n ∧ ws = upto (i : Int) (n - i) ∧ I i σ S) ?_ ?_ _ _ _ ⟨0, Nat.zero_le _, rfl, h⟩
  · rintro w ws σ S N ⟨i, hi, e, hI⟩ hN
    obtain ⟨m, hm⟩ : ∃ m, n - i = m + 1 := by
      rcases Nat.eq_zero_or_pos (n - i) with z | z
      · rw [z] at e; cases e
      · exact ⟨n - i - 1, by omega⟩
    rw [hm, upto_succ] at e
    cases e
    exact step i (by omega) σ S N hI fun σ' S' S'' sb h' => hN σ' S' S'' sb trivial ⟨i + 1, by omega, by rw [show n - (i + 1) = m by omega]; push_cast; rfl, h'⟩
  · rintro σ S ⟨i, hi, e, hI⟩
    have : n - i = 0 := by
      rcases Nat.eq_zero_or_pos (n - i) with z | z
      · exact z
      · obtain ⟨m, hm⟩ : ∃ m, n - i = m + 1 := ⟨n - i - 1, by omega⟩
        rw [hm, upto_succ] at e
        cases e
    rw [show i = n by omega] at hI
    exact done σ S hI
theorem apart {D : Tr} {p q : List Int} {n m : Int} (hp : D.at p = some (.bl n)) (hq : D.at q = some (.bl m)) (h : p ≠ q) : ¬ p <+: q := by
  rintro ⟨r, rfl⟩
  rw [at_app p r hp] at hq
  cases r with
  | nil => simp at h
  | cons i r => cases hq
end L2
end

section
set_option Elab.async false
set_option linter.all false
set_option maxRecDepth 100000
set_option maxHeartbeats 4000000
namespace L2
open PySem PySem.Spec PyProof.Rows
local macro_rules | `(tactic| walk_at "wp") => `(tactic| simp only [u_wVar, u_wC, u_wOp, u_wTru, u_wTb, u_wAnd, u_wOr, u_wNot, u_wAndV, u_wOrV, u_wNotV, u_wIf, u_wIfS, u_wNext, u_wSeq, u_wRet, u_wRetN, u_wDrop, u_wGN, u_wAsg, u_wGnil, u_wGcons, u_wGT, u_waNil, u_waCons, u_wTup, u_wLst, u_wNew, u_wCall, u_wDef, u_wNeg, u_oEq, u_wChain, u_woN, u_woS, u_wSl, u_wB, u_wBL, u_fTupleL, u_wListOf, u_fAllL, u_wIsi, u_wM, u_wML, u_wAug, u_wFor, u_wIv, u_wIl, u_wRng, u_wYes, u_wComp, u_wEnum, u_wZip, u_wDown, u_wSlL', u_wIxL, u_wCatR, u_wCatB, u_wCatF, u_wRepL, u_wListrange, e_repT, u_wDNew, e_din, e_dget, u_wDPut, u_fSumL, e_upper, key_P, dctW_put, lstW_put, put_put, eq_int, eq_str, eq_bl, cut_one, atI_zero, sub_int_int, sub_int_bool, sub_int_str, sub_int_tuple, sub_int_list, sub_bool_int, sub_bool_bool, sub_bool_str, sub_bool_tuple, sub_bool_list, sub_str_int, sub_str_bool, sub_str_str, sub_str_tuple, sub_str_list, sub_tuple_int, sub_tuple_bool, sub_tuple_str, sub_tuple_tuple, sub_tuple_list, sub_list_int, sub_list_bool, sub_list_str, sub_list_tuple, sub_list_list, e_tru_bl, e_tru_int, e_tru_tup, e_tru_ref, e_tru_non, e_seq_tup, e_seq_ref, e_ty_bl, e_ty_int, e_ty_str, e_ty_tup, e_ty_non, e_ty_ref, e_add_int, e_add_str, e_add_tup, e_add_lst, e_int, e_int0, e_le_int, e_le_str, e_len_tup, e_len_ref, e_len_scr, e_len_str, e_ix_tup, e_ix_ref, e_ix_scr, e_ix_str, e_sl_tup, e_sl_str, e_sl_ref, e_sl_scr, e_tuple_tup, e_tuple_ref, e_append, e_pop, e_extend_tup, e_extend_ref, e_extendL, e_rvL, e_rvS, e_int_bl, e_int_int, e_max2, e_min2, e_join, e_index, e_is_non, e_is_bl, e_is_bn, e_is_tn, e_is_rn, e_is_in, e_in_tup, e_in_ref, e_in_str, List.map_cons, List.map_nil, List.length_cons, List.length_nil, List.cons_append, List.nil_append, List.append_nil, List.replicate, List.getElem?_cons_zero, List.getElem?_cons_succ, List.getElem?_nil, List.set_cons_zero, List.set_cons_succ, Nat.reduceAdd, Nat.reduceSub, true_and, and_true, if_true, if_false, Bool.false_eq_true, reduceIte, Bool.not_true, Bool.not_false, Option.join_some, Option.join_none, decide_eq_true_eq, and_self])
theorem for_cons {g : WG} {b : WS} {E : WX} {D : WEnds} {G : Sto → Prop} {w : W} {ws : List W} {σ : WSt} {S : Sto} (h : ∀ N : WSt → Sto → Prop, (∀ σ S S', Sub S' S → G S' → forL g b E D G ws σ S' → N σ S) → g w σ S fun σ1 S1 => b E { D with nx := N, ct := N, bk := D.nx } σ1 S1) : forL g b E D G (w :: ws) σ S := h _ fun σ S S' a c d => ⟨S', a, c, d⟩
end L2
end

section
set_option Elab.async false
set_option linter.all false
set_option maxRecDepth 100000
set_option maxHeartbeats 4000000
namespace L2
open PySem PySem.Spec PyProof.Rows
local macro_rules | `(tactic| walk_at "wp") => `(tactic| simp only [u_wVar, u_wC, u_wOp, u_wTru, u_wTb, u_wAnd, u_wOr, u_wNot, u_wAndV, u_wOrV, u_wNotV, u_wIf, u_wIfS, u_wNext, u_wSeq, u_wRet, u_wRetN, u_wDrop, u_wGN, u_wAsg, u_wGnil, u_wGcons, u_wGT, u_waNil, u_waCons, u_wTup, u_wLst, u_wNew, u_wCall, u_wDef, u_wNeg, u_oEq, u_wChain, u_woN, u_woS, u_wSl, u_wB, u_wBL, u_fTupleL, u_wListOf, u_fAllL, u_wIsi, u_wM, u_wML, u_wAug, u_wFor, u_wIv, u_wIl, u_wRng, u_wYes, u_wComp, u_wEnum, u_wZip, u_wDown, u_wSlL', u_wIxL, u_wCatR, u_wCatB, u_wCatF, u_wRepL, u_wListrange, e_repT, u_wDNew, e_din, e_dget, u_wDPut, u_fSumL, e_upper, key_P, dctW_put, lstW_put, put_put, eq_int, eq_str, eq_bl, cut_one, atI_zero, sub_int_int, sub_int_bool, sub_int_str, sub_int_tuple, sub_int_list, sub_bool_int, sub_bool_bool, sub_bool_str, sub_bool_tuple, sub_bool_list, sub_str_int, sub_str_bool, sub_str_str, sub_str_tuple, sub_str_list, sub_tuple_int, sub_tuple_bool, sub_tuple_str, sub_tuple_tuple, sub_tuple_list, sub_list_int, sub_list_bool, sub_list_str, sub_list_tuple, sub_list_list, e_tru_bl, e_tru_int, e_tru_tup, e_tru_ref, e_tru_non, e_seq_tup, e_seq_ref, e_ty_bl, e_ty_int, e_ty_str, e_ty_tup, e_ty_non, e_ty_ref, e_add_int, e_add_str, e_add_tup, e_add_lst, e_int, e_int0, e_le_int, e_le_str, e_len_tup, e_len_ref, e_len_scr, e_len_str, e_ix_tup, e_ix_ref, e_ix_scr, e_ix_str, e_sl_tup, e_sl_str, e_sl_ref, e_sl_scr, e_tuple_tup, e_tuple_ref, e_append, e_pop, e_extend_tup, e_extend_ref, e_extendL, e_rvL, e_rvS, e_int_bl, e_int_int, e_max2, e_min2, e_join, e_index, e_is_non, e_is_bl, e_is_bn, e_is_tn, e_is_rn, e_is_in, e_in_tup, e_in_ref, e_in_str, List.map_cons, List.map_nil, List.length_cons, List.length_nil, List.cons_append, List.nil_append, List.append_nil, List.replicate, List.getElem?_cons_zero, List.getElem?_cons_succ, List.getElem?_nil, List.set_cons_zero, List.set_cons_succ, Nat.reduceAdd, Nat.reduceSub, true_and, and_true, if_true, if_false, Bool.false_eq_true, reduceIte, Bool.not_true, Bool.not_false, Option.join_some, Option.join_none, decide_eq_true_eq, and_self])
end L2
end

section
set_option Elab.async false
set_option linter.all false
set_option maxRecDepth 100000
set_option maxHeartbeats 4000000
namespace L2
open PySem PySem.Spec PyProof.Rows
local macro_rules | `(tactic| walk_at "wp") => `(tactic| simp only [u_wVar, u_wC, u_wOp, u_wTru, u_wTb, u_wAnd, u_wOr, u_wNot, u_wAndV, u_wOrV, u_wNotV, u_wIf, u_wIfS, u_wNext, u_wSeq, u_wRet, u_wRetN, u_wDrop, u_wGN, u_wAsg, u_wGnil, u_wGcons, u_wGT, u_waNil, u_waCons, u_wTup, u_wLst, u_wNew, u_wCall, u_wDef, u_wNeg, u_oEq, u_wChain, u_woN, u_woS, u_wSl, u_wB, u_wBL, u_fTupleL, u_wListOf, u_fAllL, u_wIsi, u_wM, u_wML, u_wAug, u_wFor, u_wIv, u_wIl, u_wRng, u_wYes, u_wComp, u_wEnum, u_wZip, u_wDown, u_wSlL', u_wIxL, u_wCatR, u_wCatB, u_wCatF, u_wRepL, u_wListrange, e_repT, u_wDNew, e_din, e_dget, u_wDPut, u_fSumL, e_upper, key_P, dctW_put, lstW_put, put_put, eq_int, eq_str, eq_bl, cut_one, atI_zero, sub_int_int, sub_int_bool, sub_int_str, sub_int_tuple, sub_int_list, sub_bool_int, sub_bool_bool, sub_bool_str, sub_bool_tuple, sub_bool_list, sub_str_int, sub_str_bool, sub_str_str, sub_str_tuple, sub_str_list, sub_tuple_int, sub_tuple_bool, sub_tuple_str, sub_tuple_tuple, sub_tuple_list, sub_list_int, sub_list_bool, sub_list_str, sub_list_tuple, sub_list_list, e_tru_bl, e_tru_int, e_tru_tup, e_tru_ref, e_tru_non, e_seq_tup, e_seq_ref, e_ty_bl, e_ty_int, e_ty_str, e_ty_tup, e_ty_non, e_ty_ref, e_add_int, e_add_str, e_add_tup, e_add_lst, e_int, e_int0, e_le_int, e_le_str, e_len_tup, e_len_ref, e_len_scr, e_len_str, e_ix_tup, e_ix_ref, e_ix_scr, e_ix_str, e_sl_tup, e_sl_str, e_sl_ref, e_sl_scr, e_tuple_tup, e_tuple_ref, e_append, e_pop, e_extend_tup, e_extend_ref, e_extendL, e_rvL, e_rvS, e_int_bl, e_int_int, e_max2, e_min2, e_join, e_index, e_is_non, e_is_bl, e_is_bn, e_is_tn, e_is_rn, e_is_in, e_in_tup, e_in_ref, e_in_str, List.map_cons, List.map_nil, List.length_cons, List.length_nil, List.cons_append, List.nil_append, List.append_nil, List.replicate, List.getElem?_cons_zero, List.getElem?_cons_succ, List.getElem?_nil, List.set_cons_zero, List.set_cons_succ, Nat.reduceAdd, Nat.reduceSub, true_and, and_true, if_true, if_false, Bool.false_eq_true, reduceIte, Bool.not_true, Bool.not_false, Option.join_some, Option.join_none, decide_eq_true_eq, and_self])
end L2
end

section
set_option Elab.async false
set_option linter.all false
set_option maxRecDepth 100000
set_option maxHeartbeats 4000000
namespace L2
open PySem PySem.Spec PyProof.Rows
local macro_rules | `(tactic| walk_at "wp") => `(tactic| simp only [u_wVar, u_wC, u_wOp, u_wTru, u_wTb, u_wAnd, u_wOr, u_wNot, u_wAndV, u_wOrV, u_wNotV, u_wIf, u_wIfS, u_wNext, u_wSeq, u_wRet, u_wRetN, u_wDrop, u_wGN, u_wAsg, u_wGnil, u_wGcons, u_wGT, u_waNil, u_waCons, u_wTup, u_wLst, u_wNew, u_wCall, u_wDef, u_wNeg, u_oEq, u_wChain, u_woN, u_woS, u_wSl, u_wB, u_wBL, u_fTupleL, u_wListOf, u_fAllL, u_wIsi, u_wM, u_wML, u_wAug, u_wFor, u_wIv, u_wIl, u_wRng, u_wYes, u_wComp, u_wEnum, u_wZip, u_wDown, u_wSlL', u_wIxL, u_wCatR, u_wCatB, u_wCatF, u_wRepL, u_wListrange, e_repT, u_wDNew, e_din, e_dget, u_wDPut, u_fSumL, e_upper, key_P, dctW_put, lstW_put, put_put, eq_int, eq_str, eq_bl, cut_one, atI_zero, sub_int_int, sub_int_bool, sub_int_str, sub_int_tuple, sub_int_list, sub_bool_int, sub_bool_bool, sub_bool_str, sub_bool_tuple, sub_bool_list, sub_str_int, sub_str_bool, sub_str_str, sub_str_tuple, sub_str_list, sub_tuple_int, sub_tuple_bool, sub_tuple_str, sub_tuple_tuple, sub_tuple_list, sub_list_int, sub_list_bool, sub_list_str, sub_list_tuple, sub_list_list, e_tru_bl, e_tru_int, e_tru_tup, e_tru_ref, e_tru_non, e_seq_tup, e_seq_ref, e_ty_bl, e_ty_int, e_ty_str, e_ty_tup, e_ty_non, e_ty_ref, e_add_int, e_add_str, e_add_tup, e_add_lst, e_int, e_int0, e_le_int, e_le_str, e_len_tup, e_len_ref, e_len_scr, e_len_str, e_ix_tup, e_ix_ref, e_ix_scr, e_ix_str, e_sl_tup, e_sl_str, e_sl_ref, e_sl_scr, e_tuple_tup, e_tuple_ref, e_append, e_pop, e_extend_tup, e_extend_ref, e_extendL, e_rvL, e_rvS, e_int_bl, e_int_int, e_max2, e_min2, e_join, e_index, e_is_non, e_is_bl, e_is_bn, e_is_tn, e_is_rn, e_is_in, e_in_tup, e_in_ref, e_in_str, List.map_cons, List.map_nil, List.length_cons, List.length_nil, List.cons_append, List.nil_append, List.append_nil, List.replicate, List.getElem?_cons_zero, List.getElem?_cons_succ, List.getElem?_nil, List.set_cons_zero, List.set_cons_succ, Nat.reduceAdd, Nat.reduceSub, true_and, and_true, if_true, if_false, Bool.false_eq_true, reduceIte, Bool.not_true, Bool.not_false, Option.join_some, Option.join_none, decide_eq_true_eq, and_self])
end L2
end

section
set_option Elab.async false
set_option linter.all false
set_option maxRecDepth 100000
set_option maxHeartbeats 4000000
namespace L2
open PySem PySem.Spec PyProof.Rows
local macro_rules | `(tactic| walk_at "wp") => `(tactic| simp only [u_wVar, u_wC, u_wOp, u_wTru, u_wTb, u_wAnd, u_wOr, u_wNot, u_wAndV, u_wOrV, u_wNotV, u_wIf, u_wIfS, u_wNext, u_wSeq, u_wRet, u_wRetN, u_wDrop, u_wGN, u_wAsg, u_wGnil, u_wGcons, u_wGT, u_waNil, u_waCons, u_wTup, u_wLst, u_wNew, u_wCall, u_wDef, u_wNeg, u_oEq, u_wChain, u_woN, u_woS, u_wSl, u_wB, u_wBL, u_fTupleL, u_wListOf, u_fAllL, u_wIsi, u_wM, u_wML, u_wAug, u_wFor, u_wIv, u_wIl, u_wRng, u_wYes, u_wComp, u_wEnum, u_wZip, u_wDown, u_wSlL', u_wIxL, u_wCatR, u_wCatB, u_wCatF, u_wRepL, u_wListrange, e_repT, u_wDNew, e_din, e_dget, u_wDPut, u_fSumL, e_upper, key_P, dctW_put, lstW_put, put_put, eq_int, eq_str, eq_bl, cut_one, atI_zero, sub_int_int, sub_int_bool, sub_int_str, sub_int_tuple, sub_int_list, sub_bool_int, sub_bool_bool, sub_bool_str, sub_bool_tuple, sub_bool_list, sub_str_int, sub_str_bool, sub_str_str, sub_str_tuple, sub_str_list, sub_tuple_int, sub_tuple_bool, sub_tuple_str, sub_tuple_tuple, sub_tuple_list, sub_list_int, sub_list_bool, sub_list_str, sub_list_tuple, sub_list_list, e_tru_bl, e_tru_int, e_tru_tup, e_tru_ref, e_tru_non, e_seq_tup, e_seq_ref, e_ty_bl, e_ty_int, e_ty_str, e_ty_tup, e_ty_non, e_ty_ref, e_add_int, e_add_str, e_add_tup, e_add_lst, e_int, e_int0, e_le_int, e_le_str, e_len_tup, e_len_ref, e_len_scr, e_len_str, e_ix_tup, e_ix_ref, e_ix_scr, e_ix_str, e_sl_tup, e_sl_str, e_sl_ref, e_sl_scr, e_tuple_tup, e_tuple_ref, e_append, e_pop, e_extend_tup, e_extend_ref, e_extendL, e_rvL, e_rvS, e_int_bl, e_int_int, e_max2, e_min2, e_join, e_index, e_is_non, e_is_bl, e_is_bn, e_is_tn, e_is_rn, e_is_in, e_in_tup, e_in_ref, e_in_str, List.map_cons, List.map_nil, List.length_cons, List.length_nil, List.cons_append, List.nil_append, List.append_nil, List.replicate, List.getElem?_cons_zero, List.getElem?_cons_succ, List.getElem?_nil, List.set_cons_zero, List.set_cons_succ, Nat.reduceAdd, Nat.reduceSub, true_and, and_true, if_true, if_false, Bool.false_eq_true, reduceIte, Bool.not_true, Bool.not_false, Option.join_some, Option.join_none, decide_eq_true_eq, and_self])
def smallC (c : Nat) : Bool := decide (97 ≤ c) && decide (c ≤ 122)
def small (xs : List Nat) : Bool := xs.all smallC
theorem ok_weight {t : Tr} {r : Nat} {S : Sto} {Q : WK} {E : Str → Sto → Prop} (hw : t.weight ≤ 90000) (h : Q (.int t.weight) S) : c_weight (r + 2) [enc t] S Q E := by
  rw [c_weight]
  walk_at "wp"
  refine ⟨line_le (by decide), fun a ha => ?_⟩
  refine ⟨fun m σ S' => ∃ (ts : List Tr) (k : Nat) (x3 : Option W), m = wts ts ∧ k + wts ts = t.weight ∧ S' = put S a (.lst (encs ts)) ∧ σ = [some (enc t), some (.int k), some (.ref a), x3], ⟨_, [t], 0, none, rfl, by simp [wts], by simp [encs], rfl⟩, ?_⟩
  rintro m σ S' ⟨ts, k, x3, rfl, hk, rfl, rfl⟩
  walk_at "wp"
  have hl := wts_len ts
  rcases List.eq_nil_or_concat ts with rfl | ⟨us, u, rfl⟩
  · simp only [encs, List.isEmpty_nil]
    walk_at "wp"
    simp only [wts, Nat.add_zero] at hk
    subst hk
    exact ⟨_, .put .refl ha, h⟩
  · have hwu := weight_kids u
    simp only [List.concat_eq_append, wts_append, wts_cons, wts_nil, Nat.add_zero] at hk hl ⊢
    have hne : (encs (us ++ [u])).isEmpty = false := by rw [encs_append]; simp [encs]
    rw [hne]
    simp only [b_weight_1]
    walk_at "wp"
    rw [encs_append, List.length_append]
    simp only [encs, List.length_singleton, Nat.add_sub_cancel, encs_len, List.dropLast_concat]
    rw [List.getElem?_append_right (by rw [encs_len]; exact Nat.le_refl _), encs_len, Nat.sub_self]
    dsimp only [List.getElem?_cons_zero]
    refine ok_parts ?_
    walk_at "wp"
    simp only [encs_len, ← encs_append]
    have hkl := wts_len u.kids
    have hul := wts_len us
    refine ⟨line_le (by omega), wts (us ++ u.kids), _, ?_, .refl, us ++ u.kids, k + 1, some (enc u), rfl, ?_, rfl, ?_⟩
    · rw [wts_append]; omega
    · rw [wts_append]; omega
    · push_cast; rfl
def Tr.nums (t : Tr) : List Int := t.bls.map fun x => x.2.num
end L2
end

section
set_option Elab.async false
set_option linter.all false
set_option maxRecDepth 100000
set_option maxHeartbeats 4000000
namespace L2
open PySem PySem.Spec PyProof.Rows
local macro_rules | `(tactic| walk_at "wp") => `(tactic| simp only [u_wVar, u_wC, u_wOp, u_wTru, u_wTb, u_wAnd, u_wOr, u_wNot, u_wAndV, u_wOrV, u_wNotV, u_wIf, u_wIfS, u_wNext, u_wSeq, u_wRet, u_wRetN, u_wDrop, u_wGN, u_wAsg, u_wGnil, u_wGcons, u_wGT, u_waNil, u_waCons, u_wTup, u_wLst, u_wNew, u_wCall, u_wDef, u_wNeg, u_oEq, u_wChain, u_woN, u_woS, u_wSl, u_wB, u_wBL, u_fTupleL, u_wListOf, u_fAllL, u_wIsi, u_wM, u_wML, u_wAug, u_wFor, u_wIv, u_wIl, u_wRng, u_wYes, u_wComp, u_wEnum, u_wZip, u_wDown, u_wSlL', u_wIxL, u_wCatR, u_wCatB, u_wCatF, u_wRepL, u_wListrange, e_repT, u_wDNew, e_din, e_dget, u_wDPut, u_fSumL, e_upper, key_P, dctW_put, lstW_put, put_put, eq_int, eq_str, eq_bl, cut_one, atI_zero, sub_int_int, sub_int_bool, sub_int_str, sub_int_tuple, sub_int_list, sub_bool_int, sub_bool_bool, sub_bool_str, sub_bool_tuple, sub_bool_list, sub_str_int, sub_str_bool, sub_str_str, sub_str_tuple, sub_str_list, sub_tuple_int, sub_tuple_bool, sub_tuple_str, sub_tuple_tuple, sub_tuple_list, sub_list_int, sub_list_bool, sub_list_str, sub_list_tuple, sub_list_list, e_tru_bl, e_tru_int, e_tru_tup, e_tru_ref, e_tru_non, e_seq_tup, e_seq_ref, e_ty_bl, e_ty_int, e_ty_str, e_ty_tup, e_ty_non, e_ty_ref, e_add_int, e_add_str, e_add_tup, e_add_lst, e_int, e_int0, e_le_int, e_le_str, e_len_tup, e_len_ref, e_len_scr, e_len_str, e_ix_tup, e_ix_ref, e_ix_scr, e_ix_str, e_sl_tup, e_sl_str, e_sl_ref, e_sl_scr, e_tuple_tup, e_tuple_ref, e_append, e_pop, e_extend_tup, e_extend_ref, e_extendL, e_rvL, e_rvS, e_int_bl, e_int_int, e_max2, e_min2, e_join, e_index, e_is_non, e_is_bl, e_is_bn, e_is_tn, e_is_rn, e_is_in, e_in_tup, e_in_ref, e_in_str, List.map_cons, List.map_nil, List.length_cons, List.length_nil, List.cons_append, List.nil_append, List.append_nil, List.replicate, List.getElem?_cons_zero, List.getElem?_cons_succ, List.getElem?_nil, List.set_cons_zero, List.set_cons_succ, Nat.reduceAdd, Nat.reduceSub, true_and, and_true, if_true, if_false, Bool.false_eq_true, reduceIte, Bool.not_true, Bool.not_false, Option.join_some, Option.join_none, decide_eq_true_eq, and_self])
end L2
end

section
set_option Elab.async false
set_option linter.all false
set_option maxRecDepth 100000
set_option maxHeartbeats 4000000
namespace L2
open PySem PySem.Spec PyProof.Rows
local macro_rules | `(tactic| walk_at "wp") => `(tactic| simp only [u_wVar, u_wC, u_wOp, u_wTru, u_wTb, u_wAnd, u_wOr, u_wNot, u_wAndV, u_wOrV, u_wNotV, u_wIf, u_wIfS, u_wNext, u_wSeq, u_wRet, u_wRetN, u_wDrop, u_wGN, u_wAsg, u_wGnil, u_wGcons, u_wGT, u_waNil, u_waCons, u_wTup, u_wLst, u_wNew, u_wCall, u_wDef, u_wNeg, u_oEq, u_wChain, u_woN, u_woS, u_wSl, u_wB, u_wBL, u_fTupleL, u_wListOf, u_fAllL, u_wIsi, u_wM, u_wML, u_wAug, u_wFor, u_wIv, u_wIl, u_wRng, u_wYes, u_wComp, u_wEnum, u_wZip, u_wDown, u_wSlL', u_wIxL, u_wCatR, u_wCatB, u_wCatF, u_wRepL, u_wListrange, e_repT, u_wDNew, e_din, e_dget, u_wDPut, u_fSumL, e_upper, key_P, dctW_put, lstW_put, put_put, eq_int, eq_str, eq_bl, cut_one, atI_zero, sub_int_int, sub_int_bool, sub_int_str, sub_int_tuple, sub_int_list, sub_bool_int, sub_bool_bool, sub_bool_str, sub_bool_tuple, sub_bool_list, sub_str_int, sub_str_bool, sub_str_str, sub_str_tuple, sub_str_list, sub_tuple_int, sub_tuple_bool, sub_tuple_str, sub_tuple_tuple, sub_tuple_list, sub_list_int, sub_list_bool, sub_list_str, sub_list_tuple, sub_list_list, e_tru_bl, e_tru_int, e_tru_tup, e_tru_ref, e_tru_non, e_seq_tup, e_seq_ref, e_ty_bl, e_ty_int, e_ty_str, e_ty_tup, e_ty_non, e_ty_ref, e_add_int, e_add_str, e_add_tup, e_add_lst, e_int, e_int0, e_le_int, e_le_str, e_len_tup, e_len_ref, e_len_scr, e_len_str, e_ix_tup, e_ix_ref, e_ix_scr, e_ix_str, e_sl_tup, e_sl_str, e_sl_ref, e_sl_scr, e_tuple_tup, e_tuple_ref, e_append, e_pop, e_extend_tup, e_extend_ref, e_extendL, e_rvL, e_rvS, e_int_bl, e_int_int, e_max2, e_min2, e_join, e_index, e_is_non, e_is_bl, e_is_bn, e_is_tn, e_is_rn, e_is_in, e_in_tup, e_in_ref, e_in_str, List.map_cons, List.map_nil, List.length_cons, List.length_nil, List.cons_append, List.nil_append, List.append_nil, List.replicate, List.getElem?_cons_zero, List.getElem?_cons_succ, List.getElem?_nil, List.set_cons_zero, List.set_cons_succ, Nat.reduceAdd, Nat.reduceSub, true_and, and_true, if_true, if_false, Bool.false_eq_true, reduceIte, Bool.not_true, Bool.not_false, Option.join_some, Option.join_none, decide_eq_true_eq, and_self])
mutual
inductive Cut : Tr → Tr → Prop
  | bl (t : Tr) (n : Int) : Cut t (.bl n)
  | nd (s : Str) {ts us : List Tr} : Cuts ts us → Cut (.nd s ts) (.nd s us)
inductive Cuts : List Tr → List Tr → Prop
  | nil : Cuts [] []
  | cons {t u : Tr} {ts us : List Tr} : Cut t u → Cuts ts us → Cuts (t :: ts) (u :: us)
end
theorem Cuts.len : ∀ {ts us : List Tr}, Cuts ts us → ts.length = us.length
  | _, _, .nil => rfl
  | _, _, .cons _ h => congrArg (· + 1) (Cuts.len h)
mutual
theorem Cut.refl : ∀ t : Tr, Cut t t
  | .bl n => .bl _ n
  | .nd s ts => .nd s (Cuts.refl ts)
theorem Cuts.refl : ∀ ts : List Tr, Cuts ts ts
  | [] => .nil
  | t :: ts => .cons (Cut.refl t) (Cuts.refl ts)
end
theorem Cuts.get : ∀ {ts us : List Tr} {i : Nat} {t : Tr}, Cuts ts us → ts[i]? = some t → ∃ u, us[i]? = some u ∧ Cut t u
  | _, _, _, _, .nil, h => by simp at h
  | _, _, 0, _, .cons c _, h => by simp at h; subst h; exact ⟨_, rfl, c⟩
  | _, _, i + 1, _, .cons _ cs, h => by
    obtain ⟨u, e, c⟩ := cs.get (i := i) (by simpa using h)
    exact ⟨u, by simpa using e, c⟩
theorem Cuts.put : ∀ {ts us : List Tr} {i : Nat} {t u : Tr}, Cuts ts us → ts[i]? = some t → Cut t u → Cuts ts (us.set i u)
  | _, _, _, _, _, .nil, h, _ => by simp at h
  | _, _, 0, _, _, .cons c cs, h, d => by simp at h; subst h; exact .cons d cs
  | _, _, i + 1, _, _, .cons c cs, h, d => .cons c (cs.put (i := i) (by simpa using h) d)
end L2
end

section
set_option Elab.async false
set_option linter.all false
set_option maxRecDepth 100000
set_option maxHeartbeats 4000000
namespace L2
open PySem PySem.Spec PyProof.Rows
local macro_rules | `(tactic| walk_at "wp") => `(tactic| simp only [u_wVar, u_wC, u_wOp, u_wTru, u_wTb, u_wAnd, u_wOr, u_wNot, u_wAndV, u_wOrV, u_wNotV, u_wIf, u_wIfS, u_wNext, u_wSeq, u_wRet, u_wRetN, u_wDrop, u_wGN, u_wAsg, u_wGnil, u_wGcons, u_wGT, u_waNil, u_waCons, u_wTup, u_wLst, u_wNew, u_wCall, u_wDef, u_wNeg, u_oEq, u_wChain, u_woN, u_woS, u_wSl, u_wB, u_wBL, u_fTupleL, u_wListOf, u_fAllL, u_wIsi, u_wM, u_wML, u_wAug, u_wFor, u_wIv, u_wIl, u_wRng, u_wYes, u_wComp, u_wEnum, u_wZip, u_wDown, u_wSlL', u_wIxL, u_wCatR, u_wCatB, u_wCatF, u_wRepL, u_wListrange, e_repT, u_wDNew, e_din, e_dget, u_wDPut, u_fSumL, e_upper, key_P, dctW_put, lstW_put, put_put, eq_int, eq_str, eq_bl, cut_one, atI_zero, sub_int_int, sub_int_bool, sub_int_str, sub_int_tuple, sub_int_list, sub_bool_int, sub_bool_bool, sub_bool_str, sub_bool_tuple, sub_bool_list, sub_str_int, sub_str_bool, sub_str_str, sub_str_tuple, sub_str_list, sub_tuple_int, sub_tuple_bool, sub_tuple_str, sub_tuple_tuple, sub_tuple_list, sub_list_int, sub_list_bool, sub_list_str, sub_list_tuple, sub_list_list, e_tru_bl, e_tru_int, e_tru_tup, e_tru_ref, e_tru_non, e_seq_tup, e_seq_ref, e_ty_bl, e_ty_int, e_ty_str, e_ty_tup, e_ty_non, e_ty_ref, e_add_int, e_add_str, e_add_tup, e_add_lst, e_int, e_int0, e_le_int, e_le_str, e_len_tup, e_len_ref, e_len_scr, e_len_str, e_ix_tup, e_ix_ref, e_ix_scr, e_ix_str, e_sl_tup, e_sl_str, e_sl_ref, e_sl_scr, e_tuple_tup, e_tuple_ref, e_append, e_pop, e_extend_tup, e_extend_ref, e_extendL, e_rvL, e_rvS, e_int_bl, e_int_int, e_max2, e_min2, e_join, e_index, e_is_non, e_is_bl, e_is_bn, e_is_tn, e_is_rn, e_is_in, e_in_tup, e_in_ref, e_in_str, List.map_cons, List.map_nil, List.length_cons, List.length_nil, List.cons_append, List.nil_append, List.append_nil, List.replicate, List.getElem?_cons_zero, List.getElem?_cons_succ, List.getElem?_nil, List.set_cons_zero, List.set_cons_succ, Nat.reduceAdd, Nat.reduceSub, true_and, and_true, if_true, if_false, Bool.false_eq_true, reduceIte, Bool.not_true, Bool.not_false, Option.join_some, Option.join_none, decide_eq_true_eq, and_self])
end L2
end

section
set_option Elab.async false
set_option linter.all false
set_option maxRecDepth 100000
set_option maxHeartbeats 4000000
namespace L2
open PySem PySem.Spec PyProof.Rows
local macro_rules | `(tactic| walk_at "wp") => `(tactic| simp only [u_wVar, u_wC, u_wOp, u_wTru, u_wTb, u_wAnd, u_wOr, u_wNot, u_wAndV, u_wOrV, u_wNotV, u_wIf, u_wIfS, u_wNext, u_wSeq, u_wRet, u_wRetN, u_wDrop, u_wGN, u_wAsg, u_wGnil, u_wGcons, u_wGT, u_waNil, u_waCons, u_wTup, u_wLst, u_wNew, u_wCall, u_wDef, u_wNeg, u_oEq, u_wChain, u_woN, u_woS, u_wSl, u_wB, u_wBL, u_fTupleL, u_wListOf, u_fAllL, u_wIsi, u_wM, u_wML, u_wAug, u_wFor, u_wIv, u_wIl, u_wRng, u_wYes, u_wComp, u_wEnum, u_wZip, u_wDown, u_wSlL', u_wIxL, u_wCatR, u_wCatB, u_wCatF, u_wRepL, u_wListrange, e_repT, u_wDNew, e_din, e_dget, u_wDPut, u_fSumL, e_upper, key_P, dctW_put, lstW_put, put_put, eq_int, eq_str, eq_bl, cut_one, atI_zero, sub_int_int, sub_int_bool, sub_int_str, sub_int_tuple, sub_int_list, sub_bool_int, sub_bool_bool, sub_bool_str, sub_bool_tuple, sub_bool_list, sub_str_int, sub_str_bool, sub_str_str, sub_str_tuple, sub_str_list, sub_tuple_int, sub_tuple_bool, sub_tuple_str, sub_tuple_tuple, sub_tuple_list, sub_list_int, sub_list_bool, sub_list_str, sub_list_tuple, sub_list_list, e_tru_bl, e_tru_int, e_tru_tup, e_tru_ref, e_tru_non, e_seq_tup, e_seq_ref, e_ty_bl, e_ty_int, e_ty_str, e_ty_tup, e_ty_non, e_ty_ref, e_add_int, e_add_str, e_add_tup, e_add_lst, e_int, e_int0, e_le_int, e_le_str, e_len_tup, e_len_ref, e_len_scr, e_len_str, e_ix_tup, e_ix_ref, e_ix_scr, e_ix_str, e_sl_tup, e_sl_str, e_sl_ref, e_sl_scr, e_tuple_tup, e_tuple_ref, e_append, e_pop, e_extend_tup, e_extend_ref, e_extendL, e_rvL, e_rvS, e_int_bl, e_int_int, e_max2, e_min2, e_join, e_index, e_is_non, e_is_bl, e_is_bn, e_is_tn, e_is_rn, e_is_in, e_in_tup, e_in_ref, e_in_str, List.map_cons, List.map_nil, List.length_cons, List.length_nil, List.cons_append, List.nil_append, List.append_nil, List.replicate, List.getElem?_cons_zero, List.getElem?_cons_succ, List.getElem?_nil, List.set_cons_zero, List.set_cons_succ, Nat.reduceAdd, Nat.reduceSub, true_and, and_true, if_true, if_false, Bool.false_eq_true, reduceIte, Bool.not_true, Bool.not_false, Option.join_some, Option.join_none, decide_eq_true_eq, and_self])
end L2
end

section
set_option Elab.async false
set_option linter.all false
set_option maxRecDepth 100000
set_option maxHeartbeats 4000000
namespace L2
open PySem PySem.Spec PyProof.Rows
local macro_rules | `(tactic| walk_at "wp") => `(tactic| simp only [u_wVar, u_wC, u_wOp, u_wTru, u_wTb, u_wAnd, u_wOr, u_wNot, u_wAndV, u_wOrV, u_wNotV, u_wIf, u_wIfS, u_wNext, u_wSeq, u_wRet, u_wRetN, u_wDrop, u_wGN, u_wAsg, u_wGnil, u_wGcons, u_wGT, u_waNil, u_waCons, u_wTup, u_wLst, u_wNew, u_wCall, u_wDef, u_wNeg, u_oEq, u_wChain, u_woN, u_woS, u_wSl, u_wB, u_wBL, u_fTupleL, u_wListOf, u_fAllL, u_wIsi, u_wM, u_wML, u_wAug, u_wFor, u_wIv, u_wIl, u_wRng, u_wYes, u_wComp, u_wEnum, u_wZip, u_wDown, u_wSlL', u_wIxL, u_wCatR, u_wCatB, u_wCatF, u_wRepL, u_wListrange, e_repT, u_wDNew, e_din, e_dget, u_wDPut, u_fSumL, e_upper, key_P, dctW_put, lstW_put, put_put, eq_int, eq_str, eq_bl, cut_one, atI_zero, sub_int_int, sub_int_bool, sub_int_str, sub_int_tuple, sub_int_list, sub_bool_int, sub_bool_bool, sub_bool_str, sub_bool_tuple, sub_bool_list, sub_str_int, sub_str_bool, sub_str_str, sub_str_tuple, sub_str_list, sub_tuple_int, sub_tuple_bool, sub_tuple_str, sub_tuple_tuple, sub_tuple_list, sub_list_int, sub_list_bool, sub_list_str, sub_list_tuple, sub_list_list, e_tru_bl, e_tru_int, e_tru_tup, e_tru_ref, e_tru_non, e_seq_tup, e_seq_ref, e_ty_bl, e_ty_int, e_ty_str, e_ty_tup, e_ty_non, e_ty_ref, e_add_int, e_add_str, e_add_tup, e_add_lst, e_int, e_int0, e_le_int, e_le_str, e_len_tup, e_len_ref, e_len_scr, e_len_str, e_ix_tup, e_ix_ref, e_ix_scr, e_ix_str, e_sl_tup, e_sl_str, e_sl_ref, e_sl_scr, e_tuple_tup, e_tuple_ref, e_append, e_pop, e_extend_tup, e_extend_ref, e_extendL, e_rvL, e_rvS, e_int_bl, e_int_int, e_max2, e_min2, e_join, e_index, e_is_non, e_is_bl, e_is_bn, e_is_tn, e_is_rn, e_is_in, e_in_tup, e_in_ref, e_in_str, List.map_cons, List.map_nil, List.length_cons, List.length_nil, List.cons_append, List.nil_append, List.append_nil, List.replicate, List.getElem?_cons_zero, List.getElem?_cons_succ, List.getElem?_nil, List.set_cons_zero, List.set_cons_succ, Nat.reduceAdd, Nat.reduceSub, true_and, and_true, if_true, if_false, Bool.false_eq_true, reduceIte, Bool.not_true, Bool.not_false, Option.join_some, Option.join_none, decide_eq_true_eq, and_self])
local macro_rules | `(tactic| walk_at "wq") => `(tactic| simp only [u_wVar, u_wC, u_wOp, u_wTru, u_wTb, u_wAnd, u_wOr, u_wNot, u_wAndV, u_wOrV, u_wNotV, u_wIf, u_wIfS, u_wNext, u_wSeq, u_wRet, u_wRetN, u_wGN, u_wAsg, u_wGnil, u_wGcons, u_wGT, u_waNil, u_waCons, u_wTup, u_wLst, u_wNew, u_wCall, u_wDef, u_wNeg, u_oEq, u_wChain, u_woN, u_woS, u_wSl, u_wB, u_wBL, u_fTupleL, u_wListOf, u_fAllL, u_wIsi, u_wM, u_wML, u_wAug, u_wFor, u_wIv, u_wIl, u_wRng, u_wYes, u_wComp, u_wEnum, u_wZip, u_wDown, u_wSlL', u_wIxL, u_wCatR, u_wCatB, u_wCatF, u_wRepL, u_wListrange, e_repT, u_wDNew, e_din, e_dget, u_wDPut, u_fSumL, e_upper, key_P, dctW_put, lstW_put, put_put, eq_int, eq_str, eq_bl, cut_one, atI_zero, sub_int_int, sub_int_bool, sub_int_str, sub_int_tuple, sub_int_list, sub_bool_int, sub_bool_bool, sub_bool_str, sub_bool_tuple, sub_bool_list, sub_str_int, sub_str_bool, sub_str_str, sub_str_tuple, sub_str_list, sub_tuple_int, sub_tuple_bool, sub_tuple_str, sub_tuple_tuple, sub_tuple_list, sub_list_int, sub_list_bool, sub_list_str, sub_list_tuple, sub_list_list, e_tru_bl, e_tru_int, e_tru_tup, e_tru_ref, e_tru_non, e_seq_tup, e_seq_ref, e_ty_bl, e_ty_int, e_ty_str, e_ty_tup, e_ty_non, e_ty_ref, e_add_int, e_add_str, e_add_tup, e_add_lst, e_int, e_int0, e_le_int, e_le_str, e_len_tup, e_len_ref, e_len_scr, e_len_str, e_ix_tup, e_ix_ref, e_ix_scr, e_ix_str, e_sl_tup, e_sl_str, e_sl_ref, e_sl_scr, e_tuple_tup, e_tuple_ref, e_append, e_pop, e_extend_tup, e_extend_ref, e_extendL, e_rvL, e_rvS, e_int_bl, e_int_int, e_max2, e_min2, e_join, e_index, e_is_non, e_is_bl, e_is_bn, e_is_tn, e_is_rn, e_is_in, e_in_tup, e_in_ref, e_in_str, List.map_cons, List.map_nil, List.length_cons, List.length_nil, List.cons_append, List.nil_append, List.append_nil, List.replicate, List.getElem?_cons_zero, List.getElem?_cons_succ, List.getElem?_nil, List.set_cons_zero, List.set_cons_succ, Nat.reduceAdd, Nat.reduceSub, true_and, and_true, if_true, if_false, Bool.false_eq_true, reduceIte, Bool.not_true, Bool.not_false, Option.join_some, Option.join_none, decide_eq_true_eq, and_self])
end L2
end

section
set_option Elab.async false
set_option linter.all false
set_option maxRecDepth 100000
set_option maxHeartbeats 4000000
namespace L2
open PySem PySem.Spec PyProof.Rows
local macro_rules | `(tactic| walk_at "wp") => `(tactic| simp only [u_wVar, u_wC, u_wOp, u_wTru, u_wTb, u_wAnd, u_wOr, u_wNot, u_wAndV, u_wOrV, u_wNotV, u_wIf, u_wIfS, u_wNext, u_wSeq, u_wRet, u_wRetN, u_wDrop, u_wGN, u_wAsg, u_wGnil, u_wGcons, u_wGT, u_waNil, u_waCons, u_wTup, u_wLst, u_wNew, u_wCall, u_wDef, u_wNeg, u_oEq, u_wChain, u_woN, u_woS, u_wSl, u_wB, u_wBL, u_fTupleL, u_wListOf, u_fAllL, u_wIsi, u_wM, u_wML, u_wAug, u_wFor, u_wIv, u_wIl, u_wRng, u_wYes, u_wComp, u_wEnum, u_wZip, u_wDown, u_wSlL', u_wIxL, u_wCatR, u_wCatB, u_wCatF, u_wRepL, u_wListrange, e_repT, u_wDNew, e_din, e_dget, u_wDPut, u_fSumL, e_upper, key_P, dctW_put, lstW_put, put_put, eq_int, eq_str, eq_bl, cut_one, atI_zero, sub_int_int, sub_int_bool, sub_int_str, sub_int_tuple, sub_int_list, sub_bool_int, sub_bool_bool, sub_bool_str, sub_bool_tuple, sub_bool_list, sub_str_int, sub_str_bool, sub_str_str, sub_str_tuple, sub_str_list, sub_tuple_int, sub_tuple_bool, sub_tuple_str, sub_tuple_tuple, sub_tuple_list, sub_list_int, sub_list_bool, sub_list_str, sub_list_tuple, sub_list_list, e_tru_bl, e_tru_int, e_tru_tup, e_tru_ref, e_tru_non, e_seq_tup, e_seq_ref, e_ty_bl, e_ty_int, e_ty_str, e_ty_tup, e_ty_non, e_ty_ref, e_add_int, e_add_str, e_add_tup, e_add_lst, e_int, e_int0, e_le_int, e_le_str, e_len_tup, e_len_ref, e_len_scr, e_len_str, e_ix_tup, e_ix_ref, e_ix_scr, e_ix_str, e_sl_tup, e_sl_str, e_sl_ref, e_sl_scr, e_tuple_tup, e_tuple_ref, e_append, e_pop, e_extend_tup, e_extend_ref, e_extendL, e_rvL, e_rvS, e_int_bl, e_int_int, e_max2, e_min2, e_join, e_index, e_is_non, e_is_bl, e_is_bn, e_is_tn, e_is_rn, e_is_in, e_in_tup, e_in_ref, e_in_str, List.map_cons, List.map_nil, List.length_cons, List.length_nil, List.cons_append, List.nil_append, List.append_nil, List.replicate, List.getElem?_cons_zero, List.getElem?_cons_succ, List.getElem?_nil, List.set_cons_zero, List.set_cons_succ, Nat.reduceAdd, Nat.reduceSub, true_and, and_true, if_true, if_false, Bool.false_eq_true, reduceIte, Bool.not_true, Bool.not_false, Option.join_some, Option.join_none, decide_eq_true_eq, and_self])
theorem parts_loop {r : Nat} {a b : Addr} {ps : List W} {E : WX} {D : WEnds} {x0 : Option W} (hba : b ≠ a) : ∀ (ts : List Tr) {S : Sto} {us : List Tr} {x2 : Option W}, S a = some (.lst (encs us)) → S b = some (.lst ps) → us.length + wts ts ≤ 200000 →
    (∀ x2, D.nx [x0, some (.ref a), x2] (put S a (.lst (encs (us ++ ts.flatMap Tr.kids))))) →
    forL (wGN 2) (b_parts_of_all_1 (r + 1) wOut) E D (fun S' => S' b = some (.lst ps)) (encs ts) [x0, some (.ref a), x2] S
  | [], S, us, x2, ha, hb, hl, h => by
    have := h x2
    simp only [List.flatMap_nil, List.append_nil, put_id ha] at this
    simpa [encs, forL] using this
  | t :: ts, S, us, x2, ha, hb, hl, h => by
    simp only [wts] at hl
    have hk := wts_len t.kids
    have hw := weight_kids t
    simp only [encs]
    refine for_cons fun N hN => ?_
    simp only [b_parts_of_all_1]
    walk_at "wp"
    simp only [lstW_of ha, true_and]
    refine ok_parts ?_
    walk_at "wp"
    rw [lstW_of ha]
    refine ⟨line_le (by rw [encs_len, encs_len]; omega), hN _ _ _ .refl (by rw [put_ne hba]; exact hb) ?_⟩
    rw [← encs_append]
    refine parts_loop hba ts put_same (by rw [put_ne hba]; exact hb) (by rw [List.length_append]; omega) fun x2 => ?_
    rw [put_put]
    have := h x2
    rw [List.flatMap_cons, ← List.append_assoc] at this
    exact this
theorem ok_partsall {ts : List Tr} {b : Addr} {r : Nat} {S : Sto} {Q : WK} {E : Str → Sto → Prop} (hb : S b = some (.lst (encs ts))) (hw : wts ts ≤ 100000) (h : ∀ a, S a = none → Q (.ref a) (put S a (.lst (encs (ts.flatMap Tr.kids))))) : c_parts_of_all (r + 2) [.ref b] S Q E := by
  rw [c_parts_of_all]
  walk_at "wp"
  refine ⟨Nat.zero_le _, fun a ha => ?_⟩
  have hba := ne_st hb ha
  rw [lstW_of (keep hb ha)]
  refine parts_loop (us := []) hba ts (by simp [put_same, encs]) (keep hb ha) (by simpa using (by omega : wts ts ≤ 200000)) fun x2 => ?_
  rw [put_put]
  walk_at "wp"
  exact ⟨_, .refl, h a ha⟩
theorem ok_depth {t : Tr} {r : Nat} {S : Sto} {Q : WK} {E : Str → Sto → Prop} (hw : t.weight ≤ 90000) (h : Q (.int t.depth) S) : c_depth (r + 3) [enc t] S Q E := by
  rw [c_depth]
  walk_at "wp"
  refine ⟨line_le (by decide), fun a ha => ?_⟩
  refine ⟨fun m σ S' => ∃ (ts : List Tr) (k : Nat) (b : Addr), m = wts ts ∧ wts ts ≤ t.weight ∧ k + dts ts = t.depth ∧ S b = none ∧ S' = put S b (.lst (encs ts)) ∧ σ = [some (enc t), some (.int k), some (.ref b)], ⟨_, [t], 0, a, rfl, by simp [wts], by simp [dts], ha, by simp [encs], rfl⟩, ?_⟩
  rintro m σ S' ⟨ts, k, b, rfl, hwt, hk, hb, rfl, rfl⟩
  walk_at "wp"
  cases ts with
  | nil =>
    simp only [encs, List.isEmpty_nil]
    walk_at "wp"
    simp only [dts, Nat.add_zero] at hk
    subst hk
    exact ⟨_, .put .refl hb, h⟩
  | cons u us =>
    have hne : (encs (u :: us)).isEmpty = false := by simp [encs]
    rw [hne]
    have hfl := wts_flat (u :: us)
    have hdf := dts_flat (ts := u :: us) (by simp)
    simp only [List.length_cons] at hfl
    simp only [b_depth_1]
    walk_at "wp"
    refine ok_partsall put_same (by omega) fun c hc => ?_
    obtain ⟨hc1, hc2⟩ := put_none hc
    refine ⟨wts ((u :: us).flatMap Tr.kids), put S c (.lst (encs ((u :: us).flatMap Tr.kids))), by omega, .put2 (.put .refl hb), _, k + 1, c, rfl, by omega, by omega, hc1, rfl, ?_⟩
    push_cast
    rfl
def Tr.small (t : Tr) : Bool := decide (t.weight ≤ 400) && decide (t.depth ≤ 40)
theorem ok_issmall {t : Tr} {r : Nat} {S : Sto} {Q : WK} {E : Str → Sto → Prop} (hw : t.weight ≤ 90000) (h : Q (.bl t.small) S) : c_is_small (r + 3) [enc t] S Q E := by
  rw [c_is_small]
  walk_at "wp"
  refine ⟨line_le (by decide), fun a ha => ?_⟩
  refine ⟨fun m σ S' => ∃ (ts : List Tr) (k d : Nat) (b : Addr), m = wts ts ∧ k + wts ts = t.weight ∧ d + dts ts = t.depth ∧ k ≤ 400 ∧ d ≤ 40 ∧ S b = none ∧ S' = put S b (.lst (encs ts)) ∧ σ = [some (enc t), some (.int k), some (.int d), some (.ref b)], ⟨_, [t], 0, 0, a, rfl, by simp [wts], by simp [dts], by decide, by decide, ha, by simp [encs], rfl⟩, ?_⟩
  rintro m σ S' ⟨ts, k, d, b, rfl, hwt, hk, hk4, hd4, hb, rfl, rfl⟩
  walk_at "wp"
  cases ts with
  | nil =>
    simp only [encs, List.isEmpty_nil]
    walk_at "wp"
    simp only [dts, wts, Nat.add_zero] at hk hwt
    have e : t.small = true := by unfold Tr.small; rw [decide_eq_true (by omega), decide_eq_true (by omega)]; rfl
    rw [e] at h
    exact ⟨_, .put .refl hb, h⟩
  | cons u us =>
    have hne : (encs (u :: us)).isEmpty = false := by simp [encs]
    rw [hne]
    have hfl := wts_flat (u :: us)
    have hdf := dts_flat (ts := u :: us) (by simp)
    have hlw := wts_len (u :: us)
    simp only [b_is_small_1]
    walk_at "wp"
    rw [encs_len]
    have no : 400 < t.weight ∨ 40 < t.depth → ∃ S'', Sub S'' (put S b (Ob.lst (encs (u :: us)))) ∧ Q (W.bl false) S'' := fun z => by
      have e : t.small = false := by
        unfold Tr.small
        rcases z with z | z
        · rw [decide_eq_false (by omega)]; rfl
        · rw [decide_eq_false (p := t.depth ≤ 40) (by omega), Bool.and_false]
      rw [e] at h
      exact ⟨_, .put .refl hb, h⟩
    split
    · exact no (.inl (by omega))
    · split
      · exact no (.inr (by omega))
      · refine ok_partsall put_same (by omega) fun c hc => ?_
        obtain ⟨hc1, hc2⟩ := put_none hc
        refine ⟨wts ((u :: us).flatMap Tr.kids), put S c (.lst (encs ((u :: us).flatMap Tr.kids))), by simp only [List.length_cons] at hfl; omega, .put2 (.put .refl hb), _, k + (u :: us).length, d + 1, c, rfl, by omega, by omega, by omega, by omega, hc1, rfl, ?_⟩
        push_cast
        rfl
end L2
end

section
set_option Elab.async false
set_option linter.all false
set_option maxRecDepth 100000
set_option maxHeartbeats 4000000
namespace L2
open PySem PySem.Spec PyProof.Rows
local macro_rules | `(tactic| walk_at "wp") => `(tactic| simp only [u_wVar, u_wC, u_wOp, u_wTru, u_wTb, u_wAnd, u_wOr, u_wNot, u_wAndV, u_wOrV, u_wNotV, u_wIf, u_wIfS, u_wNext, u_wSeq, u_wRet, u_wRetN, u_wDrop, u_wGN, u_wAsg, u_wGnil, u_wGcons, u_wGT, u_waNil, u_waCons, u_wTup, u_wLst, u_wNew, u_wCall, u_wDef, u_wNeg, u_oEq, u_wChain, u_woN, u_woS, u_wSl, u_wB, u_wBL, u_fTupleL, u_wListOf, u_fAllL, u_wIsi, u_wM, u_wML, u_wAug, u_wFor, u_wIv, u_wIl, u_wRng, u_wYes, u_wComp, u_wEnum, u_wZip, u_wDown, u_wSlL', u_wIxL, u_wCatR, u_wCatB, u_wCatF, u_wRepL, u_wListrange, e_repT, u_wDNew, e_din, e_dget, u_wDPut, u_fSumL, e_upper, key_P, dctW_put, lstW_put, put_put, eq_int, eq_str, eq_bl, cut_one, atI_zero, sub_int_int, sub_int_bool, sub_int_str, sub_int_tuple, sub_int_list, sub_bool_int, sub_bool_bool, sub_bool_str, sub_bool_tuple, sub_bool_list, sub_str_int, sub_str_bool, sub_str_str, sub_str_tuple, sub_str_list, sub_tuple_int, sub_tuple_bool, sub_tuple_str, sub_tuple_tuple, sub_tuple_list, sub_list_int, sub_list_bool, sub_list_str, sub_list_tuple, sub_list_list, e_tru_bl, e_tru_int, e_tru_tup, e_tru_ref, e_tru_non, e_seq_tup, e_seq_ref, e_ty_bl, e_ty_int, e_ty_str, e_ty_tup, e_ty_non, e_ty_ref, e_add_int, e_add_str, e_add_tup, e_add_lst, e_int, e_int0, e_le_int, e_le_str, e_len_tup, e_len_ref, e_len_scr, e_len_str, e_ix_tup, e_ix_ref, e_ix_scr, e_ix_str, e_sl_tup, e_sl_str, e_sl_ref, e_sl_scr, e_tuple_tup, e_tuple_ref, e_append, e_pop, e_extend_tup, e_extend_ref, e_extendL, e_rvL, e_rvS, e_int_bl, e_int_int, e_max2, e_min2, e_join, e_index, e_is_non, e_is_bl, e_is_bn, e_is_tn, e_is_rn, e_is_in, e_in_tup, e_in_ref, e_in_str, List.map_cons, List.map_nil, List.length_cons, List.length_nil, List.cons_append, List.nil_append, List.append_nil, List.replicate, List.getElem?_cons_zero, List.getElem?_cons_succ, List.getElem?_nil, List.set_cons_zero, List.set_cons_succ, Nat.reduceAdd, Nat.reduceSub, true_and, and_true, if_true, if_false, Bool.false_eq_true, reduceIte, Bool.not_true, Bool.not_false, Option.join_some, Option.join_none, decide_eq_true_eq, and_self])
local macro_rules | `(tactic| walk_at "wr") => `(tactic| simp only [u_wVar, u_wC, u_wOp, u_wTru, u_wTb, u_wAnd, u_wOr, u_wNot, u_wAndV, u_wOrV, u_wNotV, u_wIf, u_wIfS, u_wNext, u_wRet, u_wRetN, u_wDrop, u_wGN, u_wAsg, u_wGnil, u_wGcons, u_wGT, u_waNil, u_waCons, u_wTup, u_wLst, u_wNew, u_wCall, u_wDef, u_wNeg, u_oEq, u_wChain, u_woN, u_woS, u_wSl, u_wB, u_wBL, u_fTupleL, u_wListOf, u_fAllL, u_wIsi, u_wM, u_wML, u_wAug, u_wFor, u_wIv, u_wIl, u_wRng, u_wYes, u_wComp, u_wEnum, u_wZip, u_wDown, u_wSlL', u_wIxL, u_wCatR, u_wCatB, u_wCatF, u_wRepL, u_wListrange, e_repT, u_wDNew, e_din, e_dget, u_wDPut, u_fSumL, e_upper, key_P, dctW_put, lstW_put, put_put, eq_int, eq_str, eq_bl, cut_one, atI_zero, sub_int_int, sub_int_bool, sub_int_str, sub_int_tuple, sub_int_list, sub_bool_int, sub_bool_bool, sub_bool_str, sub_bool_tuple, sub_bool_list, sub_str_int, sub_str_bool, sub_str_str, sub_str_tuple, sub_str_list, sub_tuple_int, sub_tuple_bool, sub_tuple_str, sub_tuple_tuple, sub_tuple_list, sub_list_int, sub_list_bool, sub_list_str, sub_list_tuple, sub_list_list, e_tru_bl, e_tru_int, e_tru_tup, e_tru_ref, e_tru_non, e_seq_tup, e_seq_ref, e_ty_bl, e_ty_int, e_ty_str, e_ty_tup, e_ty_non, e_ty_ref, e_add_int, e_add_str, e_add_tup, e_add_lst, e_int, e_int0, e_le_int, e_le_str, e_len_tup, e_len_ref, e_len_scr, e_len_str, e_ix_tup, e_ix_ref, e_ix_scr, e_ix_str, e_sl_tup, e_sl_str, e_sl_ref, e_sl_scr, e_tuple_tup, e_tuple_ref, e_append, e_pop, e_extend_tup, e_extend_ref, e_extendL, e_rvL, e_rvS, e_int_bl, e_int_int, e_max2, e_min2, e_join, e_index, e_is_non, e_is_bl, e_is_bn, e_is_tn, e_is_rn, e_is_in, e_in_tup, e_in_ref, e_in_str, List.map_cons, List.map_nil, List.length_cons, List.length_nil, List.cons_append, List.nil_append, List.append_nil, List.replicate, List.getElem?_cons_zero, List.getElem?_cons_succ, List.getElem?_nil, List.set_cons_zero, List.set_cons_succ, Nat.reduceAdd, Nat.reduceSub, true_and, and_true, if_true, if_false, Bool.false_eq_true, reduceIte, Bool.not_true, Bool.not_false, Option.join_some, Option.join_none, decide_eq_true_eq, and_self])

def encTL (x : Tr × Nat) : W := .tup [enc x.1, .int x.2]
def swl : List (Tr × Nat) → Nat
  | [] => 0
  | x :: xs => x.1.weight + swl xs
def sdl : List (Tr × Nat) → Nat
  | [] => 0
  | x :: xs => max (x.2 + x.1.depth) (sdl xs)
theorem swl_append (xs ys : List (Tr × Nat)) : swl (xs ++ ys) = swl xs + swl ys := by
  induction xs with
  | nil => simp [swl]
  | cons x xs ih => simp [swl, ih]; omega
theorem sdl_append (xs ys : List (Tr × Nat)) : sdl (xs ++ ys) = max (sdl xs) (sdl ys) := by
  induction xs with
  | nil => simp [sdl]
  | cons x xs ih => simp only [List.cons_append, sdl, ih]; omega
theorem swl_kids (n : Nat) (ts : List Tr) : swl (ts.map fun t => (t, n)) = wts ts := by
  induction ts with
  | nil => simp [swl, wts]
  | cons t ts ih => simp [swl, wts, ih]
theorem sdl_kids (n : Nat) (ts : List Tr) : sdl (ts.map fun t => (t, n)) = if ts.isEmpty then 0 else n + dts ts := by
  induction ts with
  | nil => simp [sdl]
  | cons t ts ih =>
    simp only [List.map_cons, sdl, ih, dts, List.isEmpty_cons, Bool.false_eq_true, if_false]
    cases ts with
    | nil => simp [dts]
    | cons u us => simp only [List.isEmpty_cons, Bool.false_eq_true, if_false]; omega
theorem swl_len : ∀ xs : List (Tr × Nat), xs.length ≤ swl xs
  | [] => Nat.le_refl _
  | x :: xs => by have := swl_len xs; have := weight_pos x.1; simp [swl]; omega
theorem count_kids {r : Nat} {a : Addr} {n : Nat} {E : WX} {D : WEnds} {x0 x1 x2 x4 : Option W} : ∀ (ts : List Tr) {S : Sto} {xs : List (Tr × Nat)} {x6 : Option W}, S a = some (.lst (xs.map encTL)) → xs.length + ts.length ≤ 200000 →
    (∀ x6, D.nx [x0, x1, x2, some (.ref a), x4, some (.int n), x6] (put S a (.lst ((xs ++ ts.map fun t => (t, n + 1)).map encTL)))) →
    forL (wGN 6) (b__law_count_1 r wOut) E D (fun _ => True) (encs ts) [x0, x1, x2, some (.ref a), x4, some (.int n), x6] S
  | [], S, xs, x6, ha, hl, h => by
    have := h x6
    simp only [List.map_nil, List.append_nil, put_id ha] at this
    simpa [encs, forL] using this
  | t :: ts, S, xs, x6, ha, hl, h => by
    simp only [List.length_cons] at hl
    simp only [encs]
    refine for_cons fun N hN => ?_
    simp only [b__law_count_1]
    walk_at "wp"
    simp only [lstW_of ha, true_and]
    refine ⟨line_le (by decide), line_lt (by rw [List.length_map]; omega), hN _ _ _ .refl trivial ?_⟩
    have e : xs.map encTL ++ [W.tup [enc t, W.int ((n : Int) + 1)]] = (xs ++ [(t, n + 1)]).map encTL := by
      rw [List.map_append]
      simp [encTL]
    rw [e]
    refine count_kids ts put_same (by simp; omega) fun x6 => ?_
    rw [put_put]
    have := h x6
    simpa using this
theorem ok_lcount {t : Tr} {r : Nat} {S : Sto} {Q : WK} {E : Str → Sto → Prop} (hw : t.weight ≤ 90000) (h : Q (.tup [.int t.weight, .int t.depth]) S) : c__law_count (r + 1) [enc t] S Q E := by
  have hdp := depth_pos t
  rw [c__law_count]
  walk_at "wp"
  refine ⟨line_le (by decide), line_le (by decide), fun a ha => ?_⟩
  refine ⟨fun m σ S' => ∃ (xs : List (Tr × Nat)) (k d : Nat) (x4 x5 x6 : Option W), m = swl xs ∧ k + swl xs = t.weight ∧ max (d + 1) (sdl xs) = t.depth + 1 ∧ (∀ x ∈ xs, 1 ≤ x.2) ∧ S' = put S a (.lst (xs.map encTL)) ∧ σ = [some (enc t), some (.int k), some (.int d), some (.ref a), x4, x5, x6], ⟨_, [(t, 1)], 0, 0, none, none, none, rfl, by simp [swl], by simp [sdl]; omega, by simp, by simp [encTL], rfl⟩, ?_⟩
  rintro m σ S' ⟨xs, k, d, x4, x5, x6, rfl, hk, hd, hx1, rfl, rfl⟩
  walk_at "wp"
  have hl := swl_len xs
  rw [List.length_map]
  rcases List.eq_nil_or_concat xs with rfl | ⟨us, x, rfl⟩
  · rw [if_neg (by simp)]
    walk_at "wp"
    simp only [swl, sdl, Nat.add_zero] at hk hd
    have e1 : k = t.weight := hk
    have e2 : d = t.depth := by omega
    subst e1 e2
    exact ⟨line_le (by decide), _, .put .refl ha, h⟩
  · obtain ⟨u, n⟩ := x
    simp only [List.concat_eq_append] at hk hd hl hx1 ⊢
    rw [if_pos (by simp)]
    rw [swl_append] at hk
    rw [sdl_append] at hd
    simp only [swl, sdl, Nat.add_zero, Nat.max_zero] at hk hd
    have hn1 := hx1 (u, n) (by simp)
    have hul := swl_len us
    have hup := weight_pos u
    have hudp := depth_pos u
    simp only [b__law_count_2]
    walk_at "wp"
    simp only [List.map_append, List.map_cons, List.map_nil, List.length_append, List.length_map, List.length_singleton, Nat.add_sub_cancel, List.dropLast_concat]
    rw [List.getElem?_append_right (by simp), List.length_map, Nat.sub_self]
    simp only [encTL, List.getElem?_cons_zero]
    walk_at "wp"
    have emax : (if (n : Int) > (d : Int) then (n : Int) else (d : Int)) = ((max d n : Nat) : Int) := by split <;> omega
    rw [emax]
    cases u with
    | bl i =>
      simp only [enc]
      walk_at "wp"
      have ecast : (k : Int) + 1 = ((k + 1 : Nat) : Int) := by push_cast; rfl
      rw [ecast]
      refine ⟨swl us, _, by rw [swl_append]; simp only [swl]; omega, .refl, us, k + 1, max d n, _, _, _, rfl, by simp only [Tr.weight] at hk; omega, ?_, fun x hx => hx1 x (List.mem_append_left _ hx), rfl, rfl⟩
      simp only [Tr.depth] at hd
      omega
    | nd s ts =>
      have en : enc (.nd s ts) = .tup (.str s :: encs ts) := by simp [enc]
      have hwn : (Tr.nd s ts).weight = 1 + wts ts := by simp [Tr.weight]
      have hdn : (Tr.nd s ts).depth = 1 + dts ts := by simp [Tr.depth]
      have htl := wts_len ts
      rw [en]
      walk_at "wp"
      have ecast : (k : Int) + 1 = ((k + 1 : Nat) : Int) := by push_cast; rfl
      rw [ecast]
      refine count_kids (n := n) ts put_same (by omega) fun x6 => ?_
      rw [put_put]
      refine ⟨swl (us ++ ts.map fun t => (t, n + 1)), _, by rw [swl_append, swl_append, swl_kids]; simp only [swl]; omega, .refl, us ++ ts.map fun t => (t, n + 1), k + 1, max d n, _, _, _, rfl, by rw [swl_append, swl_kids]; omega, ?_, fun x hx => ?_, rfl, rfl⟩
      · rw [sdl_append, sdl_kids]
        cases ts with
        | nil =>
          simp only [dts, Nat.add_zero] at hdn
          simp only [List.isEmpty_nil, if_true]
          omega
        | cons v vs =>
          simp only [List.isEmpty_cons, Bool.false_eq_true, if_false]
          omega
      · rcases List.mem_append.mp hx with z | z
        · exact hx1 x (List.mem_append_left _ z)
        · obtain ⟨v, _, rfl⟩ := List.mem_map.mp z
          show 1 ≤ n + 1
          omega
theorem rep_leaf {s : Str} (k : Nat) : (List.replicate k [W.tup [W.str s]]).flatten = encs (List.replicate k (.nd s [])) := by
  rw [encs_map, List.map_replicate]
  simp [enc, encs]
theorem wts_leaf {s : Str} : ∀ n : Nat, wts (List.replicate n (Tr.nd s [])) = n
  | 0 => by simp [wts]
  | n + 1 => by rw [List.replicate_succ, wts_cons, wts_leaf n]; simp [Tr.weight, wts]; omega
theorem ok_hung {t : Tr} {first : Int} {ss : List Str} {b : Addr} {r : Nat} {S : Sto} {Q : WK} {E : Str → Sto → Prop} (hw : t.weight ≤ 200) (hb : S b = some (.lst (ss.map W.str))) (h4 : ss.length = 4) (h : ∀ u : Tr, u.weight ≤ 3000 → Q (enc u) S) : c__law_hung (r + 2) [enc t, .int first, .ref b] S Q E := by
  obtain ⟨s0, e0, m0⟩ := strs_at (ss := ss) (i := 0) (by decide) (by omega)
  obtain ⟨s1, e1, m1⟩ := strs_at (ss := ss) (i := 1) (by decide) (by omega)
  have hwp := weight_pos t
  have q0 : 0 ≤ first / 3 % 1700 := Int.emod_nonneg _ (by decide)
  have q1 : first / 3 % 1700 < 1700 := Int.emod_lt_of_pos _ (by decide)
  have q2 : 0 ≤ first / 10200 % 60 := Int.emod_nonneg _ (by decide)
  have p0 : 0 ≤ first / 1000003 % 36 := Int.emod_nonneg _ (by decide)
  have p1 : first / 1000003 % 36 < 36 := Int.emod_lt_of_pos _ (by decide)
  have go : ∀ wide : Int, wide ≤ 1700 → wSeq (wAsg (wB fMax2 (waCons (wC (.int 0)) (waCons (wVar 3) waNil))) (wGN 3))
    (wSeq (wAsg (wOp (oInt (fun _ j => 0 < j) fun i j => .int (i % j)) (wOp (oInt CDiv fun i j => .int (i / j)) (wVar 1) (wC (.int 612000))) (wOp oAdd (wVar 3) (wC (.int 1)))) (wGN 4))
    (wSeq (wAsg (wTup (waCons (wOp oIx (wVar 2) (wC (.int 0))) waNil)) (wGN 5))
    (wSeq (wAsg (wOp oAdd (wOp oAdd (wOp oAdd (wTup (waCons (wOp oIx (wVar 2) (wC (.int 1))) waNil)) (wOp oRepT (wTup (waCons (wVar 5) waNil)) (wVar 4))) (wTup (waCons (wVar 0) waNil))) (wOp oRepT (wTup (waCons (wVar 5) waNil)) (wOp (oInt0 fun i j => .int (i - j)) (wVar 3) (wVar 4)))) (wGN 0))
    (wSeq (wFor (wRng (waCons (wOp (oInt (fun _ j => 0 < j) fun i j => .int (i % j)) (wOp (oInt CDiv fun i j => .int (i / j)) (wVar 1) (wC (.int 1000003))) (wC (.int 36))) waNil)) (wGN 6) (b__law_hung_1 (r + 1) wOut))
    (wRet (wVar 0)))))) (fun c _ S' => E c S') { nx := fun _ S' => ∃ S'', Sub S'' S' ∧ Q .non S'', rt := fun w S' => ∃ S'', Sub S'' S' ∧ Q w S'' } [some (enc t), some (.int first), some (.ref b), some (.int wide), none, none, none] S := fun wide hwide => by
    walk_at "wp"
    simp only [lstW_of hb, e0, e1]
    have hw0 : 0 ≤ (if wide > 0 then wide else 0) := by split <;> omega
    have hw1 : (if wide > 0 then wide else 0) ≤ 1700 := by split <;> omega
    generalize (if wide > 0 then wide else 0) = W0 at hw0 hw1 ⊢
    have a0 : 0 ≤ first / 612000 % (W0 + 1) := Int.emod_nonneg _ (by omega)
    have a1 : first / 612000 % (W0 + 1) < W0 + 1 := Int.emod_lt_of_pos _ (by omega)
    generalize first / 612000 % (W0 + 1) = A at a0 a1 ⊢
    rw [rep_leaf, rep_leaf]
    simp only [encs_len, List.length_append, List.length_replicate, List.length_cons, List.length_nil]
    refine ⟨⟨by decide, by decide⟩, by omega, line_le (by decide), line_le (by decide), line_le (by decide), ⟨by simp, by omega, by omega, line_le (by omega)⟩, line_le (by omega), line_le (by decide), line_le (by omega), line_le (by decide), ⟨by simp, by omega, by omega, line_le (by omega)⟩, line_le (by omega), ⟨by decide, by decide⟩, by decide, ⟨by omega, by omega⟩, ?_⟩
    have en : W.tup (W.str s1 :: (encs (List.replicate A.toNat (Tr.nd s0 [])) ++ [enc t] ++ encs (List.replicate (W0 - A).toNat (Tr.nd s0 [])))) = enc (.nd s1 (List.replicate A.toNat (.nd s0 []) ++ [t] ++ List.replicate (W0 - A).toNat (.nd s0 []))) := by
      simp only [enc, encs_append, encs]
    rw [en]
    have hwt : (Tr.nd s1 (List.replicate A.toNat (.nd s0 []) ++ [t] ++ List.replicate (W0 - A).toNat (.nd s0 []))).weight ≤ 2000 := by
      simp only [Tr.weight, wts_append, wts_leaf, wts_cons, wts_nil]
      omega
    generalize Tr.nd s1 (List.replicate A.toNat (.nd s0 []) ++ [t] ++ List.replicate (W0 - A).toNat (.nd s0 [])) = u at hwt ⊢
    have hm : (first / 1000003 % 36).toNat ≤ 36 := by omega
    refine for_rng (fun i σ S' => S' = S ∧ ∃ (v : Tr) (x6 : Option W), v.weight ≤ 2000 + i ∧ σ = [some (enc v), some (.int first), some (.ref b), some (.int W0), some (.int A), some (.tup [.str s0]), x6]) _ ?_ ?_ ⟨rfl, u, none, by omega, rfl⟩
    · rintro i hi σ S' N ⟨rfl, v, x6, hv, rfl⟩ hN
      simp only [b__law_hung_1]
      walk_at "wp"
      obtain ⟨s, es, _⟩ := strs_at (ss := ss) (i := (i : Int) % 4) (by omega) (by omega)
      rw [lstW_of hb, List.length_map, h4]
      simp only [show ((4 : Nat) : Int) = 4 from rfl, es]
      try rw [lstW_of hb]
      try simp only [es]
      refine ⟨by decide, line_le (by decide), hN _ _ _ .refl ⟨rfl, .nd s [v], some (.int i), by simp [Tr.weight, wts]; omega, by simp only [enc, encs]⟩⟩
    · rintro σ S' ⟨rfl, v, x6, hv, rfl⟩
      walk_at "wp"
      exact ⟨_, .refl, h v (by omega)⟩
  rw [c__law_hung, u_wDef]
  refine ⟨rfl, ?_⟩
  rw [u_wSeq]
  walk_at "wr"
  refine ⟨⟨by decide, by decide⟩, by decide, ?_⟩
  rw [u_wSeq]
  walk_at "wr"
  refine ⟨⟨by decide, by decide⟩, ⟨by decide, by decide⟩, by decide, ?_⟩
  split
  · refine ok_lcount (by omega) ?_
    walk_at "wr"
    exact ⟨⟨by decide, by decide⟩, by decide, go _ (by omega)⟩
  · exact go _ (by omega)
theorem k01_ok (ns : List Int) (hl : ns.length ≤ 63) : c_law_k01 200 [.scr ns] (fun _ => none) (fun w _ => w = .bl true) (fun _ _ => False) := by
  rw [show (200 : Nat) = 199 + 1 from rfl, c_law_k01]
  walk_at "wp"
  refine ok_signs (many := 4) (by decide) (by decide) (by decide) fun a ss ha hsl hss => ?_
  have fa : put (fun _ => none) a (Ob.lst (ss.map W.str)) a = some (.lst (ss.map W.str)) := put_same
  generalize put (fun _ => none) a (Ob.lst (ss.map W.str)) = S1 at fa ⊢
  refine ok_titles (many := 2) (by decide) (by decide) (by decide) fun b tt hb htl htt => ?_
  have fb : put S1 b (Ob.lst (tt.map W.str)) b = some (.lst (tt.map W.str)) := put_same
  replace fa := keep (x := Ob.lst (tt.map W.str)) fa hb
  generalize put S1 b (Ob.lst (tt.map W.str)) = S2 at fa fb ⊢
  obtain ⟨s0, e0, m0⟩ := strs_at (ss := ss) (i := 0) (by decide) (by omega)
  obtain ⟨s2, e2, m2⟩ := strs_at (ss := ss) (i := 2) (by decide) (by omega)
  obtain ⟨t0, et0, mt0⟩ := strs_at (ss := tt) (i := 0) (by decide) (by omega)
  try walk_at "wp"
  simp only [lstW_of fa, lstW_of fb, e0, e2, et0]
  refine ⟨line_le (by decide), line_le (by decide), line_le (by decide), line_le (by decide), fun c hc p hp => ?_⟩
  have hcut : (cutA ns (some 4) (some 63)).length ≤ 59 := by
    have := cut_mid (xs := ns) 4 63
    rw [show ((4 : Nat) : Int) = 4 from rfl, show ((63 : Nat) : Int) = 63 from rfl] at this
    rw [this, List.length_take]
    omega
  have fc : put (put S2 c (.lst [.tup [.str s0], .tup [.str s2], .tup [.str t0], .int 0, .int 1])) p (.lst ((cutA ns (some 4) (some 63)).map W.int)) c = some (.lst (encs [.nd s0 [], .nd s2 [], .nd t0 [], .bl 0, .bl 1])) := by
    rw [put_ne (ne_st put_same hp), put_same]; simp [encs, enc]
  have fp : put (put S2 c (.lst [.tup [.str s0], .tup [.str s2], .tup [.str t0], .int 0, .int 1])) p (.lst ((cutA ns (some 4) (some 63)).map W.int)) p = some (.lst ((cutA ns (some 4) (some 63)).map W.int)) := put_same
  replace fa := keep (x := Ob.lst ((cutA ns (some 4) (some 63)).map W.int)) (keep (x := Ob.lst [.tup [.str s0], .tup [.str s2], .tup [.str t0], .int 0, .int 1]) fa hc) hp
  replace fb := keep (x := Ob.lst ((cutA ns (some 4) (some 63)).map W.int)) (keep (x := Ob.lst [.tup [.str s0], .tup [.str s2], .tup [.str t0], .int 0, .int 1]) fb hc) hp
  generalize put (put S2 c (.lst [.tup [.str s0], .tup [.str s2], .tup [.str t0], .int 0, .int 1])) p (.lst ((cutA ns (some 4) (some 63)).map W.int)) = S3 at fa fb fc fp ⊢
  simp only [lstW_of fa, lstW_of fb]
  refine ⟨line_le (by simp; omega), fun q hq => ?_⟩
  rw [← List.map_append] at *
  have fq : put S3 q (Ob.lst ((ss ++ tt).map W.str)) q = some (.lst ((ss ++ tt).map W.str)) := put_same
  replace fa := keep (x := Ob.lst ((ss ++ tt).map W.str)) fa hq
  replace fc := keep (x := Ob.lst ((ss ++ tt).map W.str)) fc hq
  replace fp := keep (x := Ob.lst ((ss ++ tt).map W.str)) fp hq
  generalize put S3 q (Ob.lst ((ss ++ tt).map W.str)) = S4 at fa fc fp fq ⊢
  refine ok_thing (hs := ss ++ tt) fp fq fc (by intro z; have := congrArg List.length z; simp at this; rw [this.1] at hsl; simp at hsl) (by simp) (by simp [Tr.weight, wts]) (by omega) fun t hm hw => ?_
  refine ok_draw (by decide) (by decide) fun first _ _ => ?_
  -- what is asked of a shape
  have fin : ∀ u : Tr, u.weight ≤ 3000 → wSeq (wAsg (wCall (c__law_count 199) (waCons (wVar 4) waNil)) (wGT (wGcons (wGN 6) (wGcons (wGN 7) wGnil))))
      (wSeq (wAsg (wTup (waCons (wCall (c_weight 199) (waCons (wVar 4) waNil)) (waCons (wCall (c_depth 199) (waCons (wVar 4) waNil)) waNil))) (wGN 8))
      (wSeq (wIfS (wOr (wTru (wIsi "bool" (wOp oIx (wVar 8) (wC (.int 0))))) (wOr (wTru (wIsi "bool" (wOp oIx (wVar 8) (wC (.int 1))))) (wTb (wOp (oEq true) (wVar 8) (wTup (waCons (wVar 6) (waCons (wVar 7) waNil))))))) (wRet (wC (.bl false))) wNext)
      (wSeq (wAsg (wCall (c_is_small 199) (waCons (wVar 4) waNil)) (wGN 9))
      (wRet (wAndV (wIsi "bool" (wVar 9)) (wOp (oEq false) (wVar 9) (wAndV (wOp oLe (wVar 6) (wC (.int 400))) (wOp oLe (wVar 7) (wC (.int 40)))))))))) (fun _ _ _ => False) { nx := fun _ S' => ∃ S'', Sub S'' S' ∧ W.non = W.bl true, rt := fun w S' => ∃ S'', Sub S'' S' ∧ w = W.bl true } [some (.scr ns), some (.ref a), some (.ref b), some (.ref c), some (enc u), some (.int first), none, none, none, none] S4 := fun u hu => by
    walk_at "wp"
    refine ok_lcount (by omega) ?_
    walk_at "wp"
    refine ok_weight (by omega) (ok_depth (by omega) ?_)
    walk_at "wp"
    have e1 : atI [W.int (u.weight : Int), W.int (u.depth : Int)] 1 = some (.int u.depth) := rfl
    rw [e1]
    walk_at "wp"
    have ee : eqF S4 60 (W.tup [W.int (u.weight : Int), W.int (u.depth : Int)]) (W.tup [W.int (u.weight : Int), W.int (u.depth : Int)]) = some true := by
      simp only [eqF_tt, eqFs, eqF_ii, beq_self_eq_true, Bool.and_self]
    rw [ee]
    walk_at "wp"
    refine ⟨line_le (by decide), line_le (by decide), ok_issmall (by omega) ?_⟩
    walk_at "wp"
    unfold Tr.small
    by_cases h1 : u.weight ≤ 400
    · rw [decide_eq_true h1, decide_eq_true (show (u.weight : Int) ≤ 400 by omega)]
      walk_at "wp"
      rw [show decide ((u.depth : Int) ≤ 40) = decide (u.depth ≤ 40) from decide_eq_decide.mpr (by omega)]
      simp only [Bool.true_and, beq_self_eq_true]
      exact ⟨_, .refl, trivial⟩
    · rw [decide_eq_false h1, decide_eq_false (show ¬ (u.weight : Int) ≤ 400 by omega)]
      walk_at "wp"
      simp only [Bool.false_and, beq_self_eq_true]
      exact ⟨_, .refl, trivial⟩
  simp only [u_wVar, u_wC, u_wOp, u_wTru, u_wTb, u_wAnd, u_wOr, u_wNot, u_wAndV, u_wOrV, u_wNotV, u_wIf, u_wIfS, u_wNext, u_wSeq, u_wRet, u_wRetN, u_wDrop, u_wGN, u_wAsg, u_wGnil, u_wGcons, u_wGT, u_waNil, u_waCons, u_wTup, u_wLst, u_wNew, u_wCall, u_wDef, u_wNeg, u_oEq, u_wChain, u_woN, u_woS, u_wSl, u_wB, u_wBL, u_fTupleL, u_wListOf, u_fAllL, u_wIsi, u_wM, u_wML, u_wAug, u_wFor, u_wIv, u_wIl, u_wRng, u_wYes, u_wComp, u_wEnum, u_wZip, u_wDown, u_wSlL', u_wIxL, u_wCatR, u_wCatB, u_wCatF, u_wRepL, u_wListrange, e_repT, u_wDNew, e_din, e_dget, u_wDPut, u_fSumL, e_upper, key_P, dctW_put, lstW_put, put_put, eq_int, eq_str, eq_bl, cut_one, atI_zero, sub_int_int, sub_int_bool, sub_int_str, sub_int_tuple, sub_int_list, sub_bool_int, sub_bool_bool, sub_bool_str, sub_bool_tuple, sub_bool_list, sub_str_int, sub_str_bool, sub_str_str, sub_str_tuple, sub_str_list, sub_tuple_int, sub_tuple_bool, sub_tuple_str, sub_tuple_tuple, sub_tuple_list, sub_list_int, sub_list_bool, sub_list_str, sub_list_tuple, sub_list_list, e_tru_bl, e_tru_int, e_tru_tup, e_tru_ref, e_tru_non, e_seq_tup, e_seq_ref, e_ty_bl, e_ty_int, e_ty_str, e_ty_tup, e_ty_non, e_ty_ref, e_add_int, e_add_str, e_add_tup, e_add_lst, e_int, e_int0, e_le_int, e_le_str, e_len_tup, e_len_ref, e_len_scr, e_len_str, e_ix_tup, e_ix_ref, e_ix_scr, e_ix_str, e_sl_tup, e_sl_str, e_sl_ref, e_sl_scr, e_tuple_tup, e_tuple_ref, e_append, e_pop, e_extend_tup, e_extend_ref, e_extendL, e_rvL, e_rvS, e_int_bl, e_int_int, e_max2, e_min2, e_join, e_index, e_is_non, e_is_bl, e_is_bn, e_is_tn, e_is_rn, e_is_in, e_in_tup, e_in_ref, e_in_str, List.map_cons, List.map_nil, List.length_cons, List.length_nil, List.cons_append, List.nil_append, List.append_nil, List.replicate, List.getElem?_cons_zero, List.getElem?_cons_succ, List.getElem?_nil, List.set_cons_zero, List.set_cons_succ, Nat.reduceAdd, Nat.reduceSub, true_and, and_true, if_true, if_false, Bool.false_eq_true, reduceIte, Bool.not_true, Bool.not_false, Option.join_some, Option.join_none, decide_eq_true_eq, and_self] at fin
  try walk_at "wp"
  refine ⟨by decide, ?_⟩
  split
  · exact ok_hung (by omega) fa hsl fun u hu => fin u hu
  · exact fin t (by omega)
end L2
end

section
set_option Elab.async false
set_option linter.all false
set_option maxRecDepth 100000
set_option maxHeartbeats 4000000
namespace K01
open PySem L2 PyProof.Rows
def top (i : Nat) : Stmt := PySem.Challenge.pw_turnweave_k01_weight_and_depth.main.body.getD i (.Pass ⟨0, 0, 0, 0⟩)
abbrev s_parts_of : Stmt := top 3
theorem sc_parts_of : FnScope ["t"] ["t"] (defScope s_parts_of) := ⟨rfl, rfl, rfl, by decide +kernel, rfl, by decide +kernel, by decide +kernel⟩
abbrev s_weight : Stmt := top 4
theorem sc_weight : FnScope ["t", "count", "waiting", "thing"] ["t"] (defScope s_weight) := ⟨rfl, rfl, rfl, by decide +kernel, rfl, by decide +kernel, by decide +kernel⟩
abbrev s_parts_of_all : Stmt := top 6
theorem sc_parts_of_all : FnScope ["things", "found", "thing"] ["things"] (defScope s_parts_of_all) := ⟨rfl, rfl, rfl, by decide +kernel, rfl, by decide +kernel, by decide +kernel⟩
abbrev s_depth : Stmt := top 5
theorem sc_depth : FnScope ["t", "count", "level"] ["t"] (defScope s_depth) := ⟨rfl, rfl, rfl, by decide +kernel, rfl, by decide +kernel, by decide +kernel⟩
abbrev s_is_small : Stmt := top 7
theorem sc_is_small : FnScope ["t", "heavy", "deep", "level"] ["t"] (defScope s_is_small) := ⟨rfl, rfl, rfl, by decide +kernel, rfl, by decide +kernel, by decide +kernel⟩
abbrev s__law_draw : Stmt := top 9
theorem sc__law_draw : FnScope ["script", "k", "cell", "mixed"] ["script", "k"] (defScope s__law_draw) := ⟨rfl, rfl, rfl, by decide +kernel, rfl, by decide +kernel, by decide +kernel⟩
abbrev s__law_signs : Stmt := top 10
theorem sc__law_signs : FnScope ["script", "k", "many", "letters", "first", "spell", "row", "j", "size", "at", "words", "n"] ["script", "k", "many"] (defScope s__law_signs) := ⟨rfl, rfl, rfl, by decide +kernel, rfl, by decide +kernel, by decide +kernel⟩
abbrev s__law_titles : Stmt := top 11
theorem sc__law_titles : FnScope ["script", "k", "many", "letters", "great"] ["script", "k", "many"] (defScope s__law_titles) := ⟨rfl, rfl, rfl, by decide +kernel, rfl, by decide +kernel, by decide +kernel⟩
abbrev s__law_pushed : Stmt := top 12
theorem sc__law_pushed : FnScope ["stack", "cell", "heads", "leaves", "many", "pick"] ["stack", "cell", "heads", "leaves"] (defScope s__law_pushed) := ⟨rfl, rfl, rfl, by decide +kernel, rfl, by decide +kernel, by decide +kernel⟩
abbrev s__law_thing : Stmt := top 13
theorem sc__law_thing : FnScope ["cells", "heads", "leaves", "stack", "cell"] ["cells", "heads", "leaves"] (defScope s__law_thing) := ⟨rfl, rfl, rfl, by decide +kernel, rfl, by decide +kernel, by decide +kernel⟩
abbrev s__law_count : Stmt := top 14
theorem sc__law_count : FnScope ["t", "heavy", "deep", "stack", "one", "low", "inner"] ["t"] (defScope s__law_count) := ⟨rfl, rfl, rfl, by decide +kernel, rfl, by decide +kernel, by decide +kernel⟩
abbrev s__law_hung : Stmt := top 15
theorem sc__law_hung : FnScope ["t", "first", "signs", "wide", "at", "leaf", "k"] ["t", "first", "signs"] (defScope s__law_hung) := ⟨rfl, rfl, rfl, by decide +kernel, rfl, by decide +kernel, by decide +kernel⟩
abbrev s_law : Stmt := top 16
theorem sc_law : FnScope ["script", "signs", "titles", "leaves", "t", "first", "heavy", "deep", "found", "small"] ["script"] (defScope s_law) := ⟨rfl, rfl, rfl, by decide +kernel, rfl, by decide +kernel, by decide +kernel⟩
section
variable {P : Program} {w : World} {K : PySem.W.Frag} {mg : Str → Option Value} {base : Heap}
theorem ok_parts_of {f_parts_of : Addr} {d_parts_of : FuncData} (F_parts_of : Fun K "parts_of" "parts_of" s_parts_of f_parts_of d_parts_of) (n_isinstance : mg "isinstance" = none) (n_int : mg "int" = none) : ∀ r, FnOk P w K mg base CX0 r f_parts_of d_parts_of ["t"] (liftSp K (c_parts_of r)) := by
  intro r
  induction r with
  | zero => exact fn_out
  | succ r ih => exact fn_ok F_parts_of sc_parts_of rfl rfl fun cdv A outer s H E hr => (js_cons (js_if (jt_tru (je_isi rfl n_isinstance rfl n_int PyProof.Rows.boot_int (jv 0) (by decide) (by decide) (kitA _ (by simp)))) (js_one (js_ret (je_tup ja_nil))) js_nil)
    (js_one (js_ret (je_sl (jv 0) (jo_some je_int) jo_none))))
theorem ok_weight {f_weight : Addr} {d_weight : FuncData} (F_weight : Fun K "weight" "weight" s_weight f_weight d_weight) {f_parts_of : Addr} {d_parts_of : FuncData} (G_parts_of : ∀ r, FnOk P w K mg base CX0 r f_parts_of d_parts_of ["t"] (liftSp K (c_parts_of r))) (b_parts_of : Binds K d_parts_of ["t"] []) (k_parts_of : PySem.W.keepIn K (.ref f_parts_of) = true) (m_parts_of : mg "parts_of" = some (.ref f_parts_of)) : ∀ r, FnOk P w K mg base CX0 r f_weight d_weight ["t"] (liftSp K (c_weight r)) := by
  intro r
  induction r with
  | zero => exact fn_out
  | succ r ih => exact fn_ok F_weight sc_weight rfl rfl fun cdv A outer s H E hr => (js_cons (js_set (i := 1) sc_weight.nd rfl (Or.inl rfl) je_int)
    (js_cons (js_set (i := 2) sc_weight.nd rfl (Or.inl rfl) (je_new (jl_lst (ja_cons (jv 0) ja_nil))))
    (js_cons (js_while (jt_tru (jv 2)) (js_cons (js_aug (i := 1) sc_weight.nd rfl (Or.inl rfl) je_int)
    (js_cons (js_set (i := 3) sc_weight.nd rfl (Or.inl rfl) (je_pop (jv 2)))
    (js_one (js_expr (je_extend (jv 2) (ja_cons (je_call (G_parts_of r) hr rfl m_parts_of k_parts_of b_parts_of (ja_cons (jv 3) ja_nil)) ja_nil)))))))
    (js_one (js_ret (jv 1))))))
theorem ok_parts_of_all {f_parts_of_all : Addr} {d_parts_of_all : FuncData} (F_parts_of_all : Fun K "parts_of_all" "parts_of_all" s_parts_of_all f_parts_of_all d_parts_of_all) {f_parts_of : Addr} {d_parts_of : FuncData} (G_parts_of : ∀ r, FnOk P w K mg base CX0 r f_parts_of d_parts_of ["t"] (liftSp K (c_parts_of r))) (b_parts_of : Binds K d_parts_of ["t"] []) (k_parts_of : PySem.W.keepIn K (.ref f_parts_of) = true) (m_parts_of : mg "parts_of" = some (.ref f_parts_of)) : ∀ r, FnOk P w K mg base CX0 r f_parts_of_all d_parts_of_all ["things"] (liftSp K (c_parts_of_all r)) := by
  intro r
  induction r with
  | zero => exact fn_out
  | succ r ih => exact fn_ok F_parts_of_all sc_parts_of_all rfl rfl fun cdv A outer s H E hr => (js_cons (js_set (i := 1) sc_parts_of_all.nd rfl (Or.inl rfl) (je_new (jl_lst ja_nil)))
    (js_cons (js_for (ji_val (jv 0)) (jg_name (i := 2) sc_parts_of_all.nd rfl (Or.inl rfl)) (js_one (js_expr (je_extend (jv 1) (ja_cons (je_call (G_parts_of r) hr rfl m_parts_of k_parts_of b_parts_of (ja_cons (jv 2) ja_nil)) ja_nil)))))
    (js_one (js_ret (jv 1)))))
theorem ok_depth {f_depth : Addr} {d_depth : FuncData} (F_depth : Fun K "depth" "depth" s_depth f_depth d_depth) {f_parts_of_all : Addr} {d_parts_of_all : FuncData} (G_parts_of_all : ∀ r, FnOk P w K mg base CX0 r f_parts_of_all d_parts_of_all ["things"] (liftSp K (c_parts_of_all r))) (b_parts_of_all : Binds K d_parts_of_all ["things"] []) (k_parts_of_all : PySem.W.keepIn K (.ref f_parts_of_all) = true) (m_parts_of_all : mg "parts_of_all" = some (.ref f_parts_of_all)) : ∀ r, FnOk P w K mg base CX0 r f_depth d_depth ["t"] (liftSp K (c_depth r)) := by
  intro r
  induction r with
  | zero => exact fn_out
  | succ r ih => exact fn_ok F_depth sc_depth rfl rfl fun cdv A outer s H E hr => (js_cons (js_set (i := 1) sc_depth.nd rfl (Or.inl rfl) je_int)
    (js_cons (js_set (i := 2) sc_depth.nd rfl (Or.inl rfl) (je_new (jl_lst (ja_cons (jv 0) ja_nil))))
    (js_cons (js_while (jt_tru (jv 2)) (js_cons (js_aug (i := 1) sc_depth.nd rfl (Or.inl rfl) je_int)
    (js_one (js_set (i := 2) sc_depth.nd rfl (Or.inl rfl) (je_call (G_parts_of_all r) hr rfl m_parts_of_all k_parts_of_all b_parts_of_all (ja_cons (jv 2) ja_nil))))))
    (js_one (js_ret (jv 1))))))
theorem ok_is_small {f_is_small : Addr} {d_is_small : FuncData} (F_is_small : Fun K "is_small" "is_small" s_is_small f_is_small d_is_small) {f_parts_of_all : Addr} {d_parts_of_all : FuncData} (G_parts_of_all : ∀ r, FnOk P w K mg base CX0 r f_parts_of_all d_parts_of_all ["things"] (liftSp K (c_parts_of_all r))) (b_parts_of_all : Binds K d_parts_of_all ["things"] []) (k_parts_of_all : PySem.W.keepIn K (.ref f_parts_of_all) = true) (m_parts_of_all : mg "parts_of_all" = some (.ref f_parts_of_all)) (n_len : mg "len" = none) {t_MOST_HEAVY : Tok} (g_MOST_HEAVY : mg "MOST_HEAVY" = some (.int 400 t_MOST_HEAVY)) {t_MOST_DEEP : Tok} (g_MOST_DEEP : mg "MOST_DEEP" = some (.int 40 t_MOST_DEEP)) : ∀ r, FnOk P w K mg base CX0 r f_is_small d_is_small ["t"] (liftSp K (c_is_small r)) := by
  intro r
  induction r with
  | zero => exact fn_out
  | succ r ih => exact fn_ok F_is_small sc_is_small rfl rfl fun cdv A outer s H E hr => (js_cons (js_set (i := 1) sc_is_small.nd rfl (Or.inl rfl) je_int)
    (js_cons (js_set (i := 2) sc_is_small.nd rfl (Or.inl rfl) je_int)
    (js_cons (js_set (i := 3) sc_is_small.nd rfl (Or.inl rfl) (je_new (jl_lst (ja_cons (jv 0) ja_nil))))
    (js_cons (js_while (jt_tru (jv 3)) (js_cons (js_aug (i := 1) sc_is_small.nd rfl (Or.inl rfl) (je_len rfl n_len (ja_cons (jv 3) ja_nil)))
    (js_cons (js_aug (i := 2) sc_is_small.nd rfl (Or.inl rfl) je_int)
    (js_cons (js_if (JW.jt (jw_or (jt_gt (jv 1) (je_gint rfl g_MOST_HEAVY)) (jw_or1 (jt_gt (jv 2) (je_gint rfl g_MOST_DEEP))))) (js_one (js_ret je_bl)) js_nil)
    (js_one (js_set (i := 3) sc_is_small.nd rfl (Or.inl rfl) (je_call (G_parts_of_all r) hr rfl m_parts_of_all k_parts_of_all b_parts_of_all (ja_cons (jv 3) ja_nil))))))))
    (js_one (js_ret je_bl))))))
theorem ok__law_draw {f__law_draw : Addr} {d__law_draw : FuncData} (F__law_draw : Fun K "_law_draw" "_law_draw" s__law_draw f__law_draw d__law_draw) (n_len : mg "len" = none) : ∀ r, FnOk P w K mg base CX0 r f__law_draw d__law_draw ["script", "k"] (liftSp K (c__law_draw r)) := by
  intro r
  induction r with
  | zero => exact fn_out
  | succ r ih => exact fn_ok F__law_draw sc__law_draw rfl rfl fun cdv A outer s H E hr => (js_cons (js_if (jt_eq hr (je_len rfl n_len (ja_cons (jv 0) ja_nil)) je_int) (js_one (js_ret je_int)) js_nil)
    (js_cons (js_set (i := 2) sc__law_draw.nd rfl (Or.inl rfl) (je_mod (je_ix (jv 0) (je_mod (jv 1) (je_len rfl n_len (ja_cons (jv 0) ja_nil)))) (je_pow je_int je_int)))
    (js_cons (js_if (jt_lt (jv 1) (je_len rfl n_len (ja_cons (jv 0) ja_nil))) (js_one (js_ret (jv 2))) js_nil)
    (js_cons (js_set (i := 3) sc__law_draw.nd rfl (Or.inl rfl) (je_mod (je_add (je_add (jv 2) (je_mul (je_mul je_int (jv 1)) (jv 1))) je_int) je_int))
    (js_one (js_ret (je_mod (je_mul (jv 3) (jv 3)) je_int)))))))
theorem ok__law_signs {f__law_signs : Addr} {d__law_signs : FuncData} (F__law_signs : Fun K "_law_signs" "_law_signs" s__law_signs f__law_signs d__law_signs) {f__law_draw : Addr} {d__law_draw : FuncData} (G__law_draw : ∀ r, FnOk P w K mg base CX0 r f__law_draw d__law_draw ["script", "k"] (liftSp K (c__law_draw r))) (b__law_draw : Binds K d__law_draw ["script", "k"] []) (k__law_draw : PySem.W.keepIn K (.ref f__law_draw) = true) (m__law_draw : mg "_law_draw" = some (.ref f__law_draw)) (n_range : mg "range" = none) (n_int : mg "int" = none) : ∀ r, FnOk P w K mg base CX0 r f__law_signs d__law_signs ["script", "k", "many"] (liftSp K (c__law_signs r)) := by
  intro r
  induction r with
  | zero => exact fn_out
  | succ r ih => exact fn_ok F__law_signs sc__law_signs rfl rfl fun cdv A outer s H E hr => (js_cons (js_set (i := 3) sc__law_signs.nd rfl (Or.inr rfl) je_str)
    (js_cons (js_set (i := 4) sc__law_signs.nd rfl (Or.inl rfl) (je_call (G__law_draw r) hr rfl m__law_draw k__law_draw b__law_draw (ja_cons (jv 0) (ja_cons (jv 1) ja_nil))))
    (js_cons (js_set (i := 5) sc__law_signs.nd rfl (Or.inl rfl) (je_mod (je_mul (je_call (G__law_draw r) hr rfl m__law_draw k__law_draw b__law_draw (ja_cons (jv 0) (ja_cons (je_add (jv 1) je_int) ja_nil))) je_int) (je_pow je_int je_int)))
    (js_cons (js_set (i := 6) sc__law_signs.nd rfl (Or.inr rfl) (je_new (jl_lst ja_nil)))
    (js_cons (js_for (ji_range rfl n_range (ja_cons je_int ja_nil)) (jg_name (i := 7) sc__law_signs.nd rfl (Or.inl rfl)) (js_cons (js_expr (je_append (jv 6) (ja_cons (je_mod (jv 5) je_int) ja_nil)))
    (js_one (js_set (i := 5) sc__law_signs.nd rfl (Or.inl rfl) (je_fdiv (jv 5) je_int)))))
    (js_cons (js_if (jt_eq hr (je_mod (jv 4) je_int) je_int) (js_one (js_ret (je_new (jl_comp (N := ["j", "letters", "row"]) (k := 1) (fr := [3, 6]) ⟨rfl, by decide +kernel, rfl, rfl, rfl, rfl, rfl, rfl, rfl⟩ (ji_range rfl n_range (ja_cons (jv 2) ja_nil)) (fun _ _ _ _ => (jg_name (i := 0) (show List.Nodup [("j" : Str), ("letters" : Str), ("row" : Str)] from by decide +kernel) rfl (Or.inl rfl))) (fun _ _ _ _ => jts_nil) (fun _ _ _ _ => (je_joinL je_str (jl_comp (N := ["n", "letters"]) (k := 1) (fr := [1]) ⟨rfl, by decide +kernel, rfl, rfl, rfl, rfl, rfl, rfl, rfl⟩ (ji_val (je_sl (jv 2) jo_none (jo_some (je_add (jv 0) je_int)))) (fun _ _ _ _ => (jg_name (i := 0) (show List.Nodup [("n" : Str), ("letters" : Str)] from by decide +kernel) rfl (Or.inl rfl))) (fun _ _ _ _ => jts_nil) (fun _ _ _ _ => (je_ix (jv 1) (jv 0)))))))))) js_nil)
    (js_cons (js_set (i := 8) sc__law_signs.nd rfl (Or.inl rfl) (je_add je_int (je_mod (je_fdiv (jv 4) je_int) je_int)))
    (js_cons (js_set (i := 9) sc__law_signs.nd rfl (Or.inr rfl) (je_mod (je_fdiv (jv 4) je_int) (jv 8)))
    (js_cons (js_set (i := 10) sc__law_signs.nd rfl (Or.inl rfl) (je_new (jl_lst ja_nil)))
    (js_cons (js_for (ji_range rfl n_range (ja_cons (jv 2) ja_nil)) (jg_name (i := 11) sc__law_signs.nd rfl (Or.inr rfl)) (js_one (js_expr (je_append (jv 10) (ja_cons (je_joinL je_str (jl_comp (N := ["j", "letters", "row", "n", "at"]) (k := 1) (fr := [3, 6, 11, 9]) ⟨rfl, by decide +kernel, rfl, rfl, rfl, rfl, rfl, rfl, rfl⟩ (ji_range rfl n_range (ja_cons (jv 8) ja_nil)) (fun _ _ _ _ => (jg_name (i := 0) (show List.Nodup [("j" : Str), ("letters" : Str), ("row" : Str), ("n" : Str), ("at" : Str)] from by decide +kernel) rfl (Or.inl rfl))) (fun _ _ _ _ => jts_nil) (fun _ _ _ _ => (je_ix (jv 1) (je_mod (je_add (je_ix (jv 2) (jv 0)) (je_mul (jv 3) (je_int1 rfl n_int (ja_cons (je_eq hr (jv 0) (jv 4)) ja_nil)))) je_int))))) ja_nil)))))
    (js_one (js_ret (jv 10)))))))))))))
theorem ok__law_titles {f__law_titles : Addr} {d__law_titles : FuncData} (F__law_titles : Fun K "_law_titles" "_law_titles" s__law_titles f__law_titles d__law_titles) {f__law_signs : Addr} {d__law_signs : FuncData} (G__law_signs : ∀ r, FnOk P w K mg base CX0 r f__law_signs d__law_signs ["script", "k", "many"] (liftSp K (c__law_signs r))) (b__law_signs : Binds K d__law_signs ["script", "k", "many"] []) (k__law_signs : PySem.W.keepIn K (.ref f__law_signs) = true) (m__law_signs : mg "_law_signs" = some (.ref f__law_signs)) : ∀ r, FnOk P w K mg base CX0 r f__law_titles d__law_titles ["script", "k", "many"] (liftSp K (c__law_titles r)) := by
  intro r
  induction r with
  | zero => exact fn_out
  | succ r ih => exact fn_ok F__law_titles sc__law_titles rfl rfl fun cdv A outer s H E hr => (js_cons (js_set (i := 3) sc__law_titles.nd rfl (Or.inr rfl) je_str)
    (js_cons (js_set (i := 4) sc__law_titles.nd rfl (Or.inr rfl) je_str)
    (js_one (js_ret (je_new (jl_comp (N := ["word", "great", "letters"]) (k := 1) (fr := [4, 3]) ⟨rfl, by decide +kernel, rfl, rfl, rfl, rfl, rfl, rfl, rfl⟩ (ji_val (je_call (G__law_signs r) hr rfl m__law_signs k__law_signs b__law_signs (ja_cons (jv 0) (ja_cons (jv 1) (ja_cons (jv 2) ja_nil))))) (fun _ _ _ _ => (jg_name (i := 0) (show List.Nodup [("word" : Str), ("great" : Str), ("letters" : Str)] from by decide +kernel) rfl (Or.inl rfl))) (fun _ _ _ _ => jts_nil) (fun _ _ _ _ => (je_add (je_ix (jv 1) (je_index (jv 2) (ja_cons (je_ix (jv 0) je_int) ja_nil))) (je_sl (jv 0) (jo_some je_int) jo_none)))))))))
theorem ok__law_pushed {f__law_pushed : Addr} {d__law_pushed : FuncData} (F__law_pushed : Fun K "_law_pushed" "_law_pushed" s__law_pushed f__law_pushed d__law_pushed) (n_len : mg "len" = none) (n_tuple : mg "tuple" = none) : ∀ r, FnOk P w K mg base CX0 r f__law_pushed d__law_pushed ["stack", "cell", "heads", "leaves"] (liftSp K (c__law_pushed r)) := by
  intro r
  induction r with
  | zero => exact fn_out
  | succ r ih => exact fn_ok F__law_pushed sc__law_pushed rfl rfl fun cdv A outer s H E hr => (js_cons (js_set (i := 4) sc__law_pushed.nd rfl (Or.inl rfl) (je_ixL (jl_lst (ja_cons je_int (ja_cons je_int (ja_cons je_int (ja_cons je_int (ja_cons je_int ja_nil)))))) (je_mod (jv 1) je_int)))
    (js_cons (js_set (i := 5) sc__law_pushed.nd rfl (Or.inl rfl) (je_fdiv (jv 1) je_int))
    (js_cons (js_if (JW.jt (jw_or (jt_eq hr (jv 4) je_int) (jw_or1 (jt_lt (je_len rfl n_len (ja_cons (jv 0) ja_nil)) (jv 4))))) (js_one (js_ret (je_new (jl_catR (jv 0) (jl_lst (ja_cons (je_ix (jv 3) (je_mod (jv 5) (je_len rfl n_len (ja_cons (jv 3) ja_nil)))) ja_nil)))))) js_nil)
    (js_one (js_ret (je_new (jl_catB (jl_sl (jv 0) jo_none (jo_some (je_neg (jv 4)))) (jl_lst (ja_cons (je_add (je_tup (ja_cons (je_ix (jv 2) (je_mod (jv 5) (je_len rfl n_len (ja_cons (jv 2) ja_nil)))) ja_nil)) (je_tupleL rfl n_tuple (jl_sl (jv 0) (jo_some (je_neg (jv 4))) jo_none))) ja_nil)))))))))
theorem ok__law_thing {f__law_thing : Addr} {d__law_thing : FuncData} (F__law_thing : Fun K "_law_thing" "_law_thing" s__law_thing f__law_thing d__law_thing) {f__law_pushed : Addr} {d__law_pushed : FuncData} (G__law_pushed : ∀ r, FnOk P w K mg base CX0 r f__law_pushed d__law_pushed ["stack", "cell", "heads", "leaves"] (liftSp K (c__law_pushed r))) (b__law_pushed : Binds K d__law_pushed ["stack", "cell", "heads", "leaves"] []) (k__law_pushed : PySem.W.keepIn K (.ref f__law_pushed) = true) (m__law_pushed : mg "_law_pushed" = some (.ref f__law_pushed)) (n_len : mg "len" = none) : ∀ r, FnOk P w K mg base CX0 r f__law_thing d__law_thing ["cells", "heads", "leaves"] (liftSp K (c__law_thing r)) := by
  intro r
  induction r with
  | zero => exact fn_out
  | succ r ih => exact fn_ok F__law_thing sc__law_thing rfl rfl fun cdv A outer s H E hr => (js_cons (js_set (i := 3) sc__law_thing.nd rfl (Or.inl rfl) (je_new (jl_lst ja_nil)))
    (js_cons (js_for (ji_val (jv 0)) (jg_name (i := 4) sc__law_thing.nd rfl (Or.inl rfl)) (js_one (js_set (i := 3) sc__law_thing.nd rfl (Or.inl rfl) (je_call (G__law_pushed r) hr rfl m__law_pushed k__law_pushed b__law_pushed (ja_cons (jv 3) (ja_cons (je_mod (jv 4) (je_pow je_int je_int)) (ja_cons (jv 1) (ja_cons (jv 2) ja_nil))))))))
    (js_cons (js_if (jt_eq hr (je_len rfl n_len (ja_cons (jv 3) ja_nil)) je_int) (js_one (js_ret (je_ix (jv 2) je_int))) js_nil)
    (js_cons (js_while (jt_gt (je_len rfl n_len (ja_cons (jv 3) ja_nil)) je_int) (js_one (js_set (i := 3) sc__law_thing.nd rfl (Or.inl rfl) (je_new (jl_catB (jl_sl (jv 3) jo_none (jo_some (je_neg je_int))) (jl_lst (ja_cons (je_tup (ja_cons (je_ix (jv 1) je_int) (ja_cons (je_ix (jv 3) (je_neg je_int)) (ja_cons (je_ix (jv 3) (je_neg je_int)) ja_nil)))) ja_nil)))))))
    (js_one (js_ret (je_ix (jv 3) je_int)))))))
theorem ok__law_count {f__law_count : Addr} {d__law_count : FuncData} (F__law_count : Fun K "_law_count" "_law_count" s__law_count f__law_count d__law_count) (n_len : mg "len" = none) (n_max : mg "max" = none) (n_isinstance : mg "isinstance" = none) (n_int : mg "int" = none) : ∀ r, FnOk P w K mg base CX0 r f__law_count d__law_count ["t"] (liftSp K (c__law_count r)) := by
  intro r
  induction r with
  | zero => exact fn_out
  | succ r ih => exact fn_ok F__law_count sc__law_count rfl rfl fun cdv A outer s H E hr => (js_cons (js_set (i := 1) sc__law_count.nd rfl (Or.inl rfl) je_int)
    (js_cons (js_set (i := 2) sc__law_count.nd rfl (Or.inl rfl) je_int)
    (js_cons (js_set (i := 3) sc__law_count.nd rfl (Or.inl rfl) (je_new (jl_lst (ja_cons (je_tup (ja_cons (jv 0) (ja_cons je_int ja_nil))) ja_nil))))
    (js_cons (js_while (jt_gt (je_len rfl n_len (ja_cons (jv 3) ja_nil)) je_int) (js_cons (js_asg (je_pop (jv 3)) (jg_tup (jgs_cons (jg_name (i := 4) sc__law_count.nd rfl (Or.inl rfl)) (jgs_cons (jg_name (i := 5) sc__law_count.nd rfl (Or.inl rfl)) jgs_nil)) (glS (glS gl0))))
    (js_cons (js_set (i := 1) sc__law_count.nd rfl (Or.inl rfl) (je_add (jv 1) je_int))
    (js_cons (js_set (i := 2) sc__law_count.nd rfl (Or.inl rfl) (je_max2 rfl n_max (ja_cons (jv 2) (ja_cons (jv 5) ja_nil))))
    (js_one (js_if (jt_not (jt_tru (je_isi rfl n_isinstance rfl n_int PyProof.Rows.boot_int (jv 4) (by decide) (by decide) (kitA _ (by simp))))) (js_one (js_for (ji_val (je_sl (jv 4) (jo_some je_int) jo_none)) (jg_name (i := 6) sc__law_count.nd rfl (Or.inl rfl)) (js_one (js_expr (je_append (jv 3) (ja_cons (je_tup (ja_cons (jv 6) (ja_cons (je_add (jv 5) je_int) ja_nil))) ja_nil)))))) js_nil))))))
    (js_one (js_ret (je_tup (ja_cons (jv 1) (ja_cons (jv 2) ja_nil)))))))))
theorem ok__law_hung {f__law_hung : Addr} {d__law_hung : FuncData} (F__law_hung : Fun K "_law_hung" "_law_hung" s__law_hung f__law_hung d__law_hung) {f__law_count : Addr} {d__law_count : FuncData} (G__law_count : ∀ r, FnOk P w K mg base CX0 r f__law_count d__law_count ["t"] (liftSp K (c__law_count r))) (b__law_count : Binds K d__law_count ["t"] []) (k__law_count : PySem.W.keepIn K (.ref f__law_count) = true) (m__law_count : mg "_law_count" = some (.ref f__law_count)) (n_max : mg "max" = none) (n_range : mg "range" = none) (n_len : mg "len" = none) : ∀ r, FnOk P w K mg base CX0 r f__law_hung d__law_hung ["t", "first", "signs"] (liftSp K (c__law_hung r)) := by
  intro r
  induction r with
  | zero => exact fn_out
  | succ r ih => exact fn_ok F__law_hung sc__law_hung rfl rfl fun cdv A outer s H E hr => (js_cons (js_set (i := 3) sc__law_hung.nd rfl (Or.inl rfl) (je_mod (je_fdiv (jv 1) je_int) je_int))
    (js_cons (js_if (jt_eq hr (je_mod (je_fdiv (je_fdiv (jv 1) je_int) je_int) je_int) je_int) (js_one (js_set (i := 3) sc__law_hung.nd rfl (Or.inl rfl) (je_sub (je_sub je_int (je_ix (je_call (G__law_count r) hr rfl m__law_count k__law_count b__law_count (ja_cons (jv 0) ja_nil)) je_int)) (je_mod (je_fdiv (jv 1) je_int) je_int)))) js_nil)
    (js_cons (js_set (i := 3) sc__law_hung.nd rfl (Or.inl rfl) (je_max2 rfl n_max (ja_cons je_int (ja_cons (jv 3) ja_nil))))
    (js_cons (js_set (i := 4) sc__law_hung.nd rfl (Or.inl rfl) (je_mod (je_fdiv (jv 1) je_int) (je_add (jv 3) je_int)))
    (js_cons (js_set (i := 5) sc__law_hung.nd rfl (Or.inl rfl) (je_tup (ja_cons (je_ix (jv 2) je_int) ja_nil)))
    (js_cons (js_set (i := 0) sc__law_hung.nd rfl (Or.inl rfl) (je_add (je_add (je_add (je_tup (ja_cons (je_ix (jv 2) je_int) ja_nil)) (je_repT (je_tup (ja_cons (jv 5) ja_nil)) (jv 4))) (je_tup (ja_cons (jv 0) ja_nil))) (je_repT (je_tup (ja_cons (jv 5) ja_nil)) (je_sub (jv 3) (jv 4)))))
    (js_cons (js_for (ji_range rfl n_range (ja_cons (je_mod (je_fdiv (jv 1) je_int) je_int) ja_nil)) (jg_name (i := 6) sc__law_hung.nd rfl (Or.inl rfl)) (js_one (js_set (i := 0) sc__law_hung.nd rfl (Or.inl rfl) (je_tup (ja_cons (je_ix (jv 2) (je_mod (jv 6) (je_len rfl n_len (ja_cons (jv 2) ja_nil)))) (ja_cons (jv 0) ja_nil))))))
    (js_one (js_ret (jv 0))))))))))
theorem ok_law {f_law : Addr} {d_law : FuncData} (F_law : Fun K "law" "law" s_law f_law d_law) {f__law_signs : Addr} {d__law_signs : FuncData} (G__law_signs : ∀ r, FnOk P w K mg base CX0 r f__law_signs d__law_signs ["script", "k", "many"] (liftSp K (c__law_signs r))) (b__law_signs : Binds K d__law_signs ["script", "k", "many"] []) (k__law_signs : PySem.W.keepIn K (.ref f__law_signs) = true) (m__law_signs : mg "_law_signs" = some (.ref f__law_signs)) {f__law_titles : Addr} {d__law_titles : FuncData} (G__law_titles : ∀ r, FnOk P w K mg base CX0 r f__law_titles d__law_titles ["script", "k", "many"] (liftSp K (c__law_titles r))) (b__law_titles : Binds K d__law_titles ["script", "k", "many"] []) (k__law_titles : PySem.W.keepIn K (.ref f__law_titles) = true) (m__law_titles : mg "_law_titles" = some (.ref f__law_titles)) {f__law_thing : Addr} {d__law_thing : FuncData} (G__law_thing : ∀ r, FnOk P w K mg base CX0 r f__law_thing d__law_thing ["cells", "heads", "leaves"] (liftSp K (c__law_thing r))) (b__law_thing : Binds K d__law_thing ["cells", "heads", "leaves"] []) (k__law_thing : PySem.W.keepIn K (.ref f__law_thing) = true) (m__law_thing : mg "_law_thing" = some (.ref f__law_thing)) {f__law_draw : Addr} {d__law_draw : FuncData} (G__law_draw : ∀ r, FnOk P w K mg base CX0 r f__law_draw d__law_draw ["script", "k"] (liftSp K (c__law_draw r))) (b__law_draw : Binds K d__law_draw ["script", "k"] []) (k__law_draw : PySem.W.keepIn K (.ref f__law_draw) = true) (m__law_draw : mg "_law_draw" = some (.ref f__law_draw)) {f__law_count : Addr} {d__law_count : FuncData} (G__law_count : ∀ r, FnOk P w K mg base CX0 r f__law_count d__law_count ["t"] (liftSp K (c__law_count r))) (b__law_count : Binds K d__law_count ["t"] []) (k__law_count : PySem.W.keepIn K (.ref f__law_count) = true) (m__law_count : mg "_law_count" = some (.ref f__law_count)) {f_is_small : Addr} {d_is_small : FuncData} (G_is_small : ∀ r, FnOk P w K mg base CX0 r f_is_small d_is_small ["t"] (liftSp K (c_is_small r))) (b_is_small : Binds K d_is_small ["t"] []) (k_is_small : PySem.W.keepIn K (.ref f_is_small) = true) (m_is_small : mg "is_small" = some (.ref f_is_small)) {f__law_hung : Addr} {d__law_hung : FuncData} (G__law_hung : ∀ r, FnOk P w K mg base CX0 r f__law_hung d__law_hung ["t", "first", "signs"] (liftSp K (c__law_hung r))) (b__law_hung : Binds K d__law_hung ["t", "first", "signs"] []) (k__law_hung : PySem.W.keepIn K (.ref f__law_hung) = true) (m__law_hung : mg "_law_hung" = some (.ref f__law_hung)) {f_weight : Addr} {d_weight : FuncData} (G_weight : ∀ r, FnOk P w K mg base CX0 r f_weight d_weight ["t"] (liftSp K (c_weight r))) (b_weight : Binds K d_weight ["t"] []) (k_weight : PySem.W.keepIn K (.ref f_weight) = true) (m_weight : mg "weight" = some (.ref f_weight)) {f_depth : Addr} {d_depth : FuncData} (G_depth : ∀ r, FnOk P w K mg base CX0 r f_depth d_depth ["t"] (liftSp K (c_depth r))) (b_depth : Binds K d_depth ["t"] []) (k_depth : PySem.W.keepIn K (.ref f_depth) = true) (m_depth : mg "depth" = some (.ref f_depth)) (n_isinstance : mg "isinstance" = none) (n_bool : mg "bool" = none) : ∀ r, FnOk P w K mg base CX0 r f_law d_law ["script"] (liftSp K (c_law_k01 r)) := by
  intro r
  induction r with
  | zero => exact fn_out
  | succ r ih => exact fn_ok F_law sc_law rfl rfl fun cdv A outer s H E hr => (js_cons (js_set (i := 1) sc_law.nd rfl (Or.inl rfl) (je_call (G__law_signs r) hr rfl m__law_signs k__law_signs b__law_signs (ja_cons (jv 0) (ja_cons je_int (ja_cons je_int ja_nil)))))
    (js_cons (js_set (i := 2) sc_law.nd rfl (Or.inl rfl) (je_call (G__law_titles r) hr rfl m__law_titles k__law_titles b__law_titles (ja_cons (jv 0) (ja_cons je_int (ja_cons je_int ja_nil)))))
    (js_cons (js_set (i := 3) sc_law.nd rfl (Or.inl rfl) (je_new (jl_lst (ja_cons (je_tup (ja_cons (je_ix (jv 1) je_int) ja_nil)) (ja_cons (je_tup (ja_cons (je_ix (jv 1) je_int) ja_nil)) (ja_cons (je_tup (ja_cons (je_ix (jv 2) je_int) ja_nil)) (ja_cons je_int (ja_cons je_int ja_nil))))))))
    (js_cons (js_set (i := 4) sc_law.nd rfl (Or.inl rfl) (je_call (G__law_thing r) hr rfl m__law_thing k__law_thing b__law_thing (ja_cons (je_sl (jv 0) (jo_some je_int) (jo_some je_int)) (ja_cons (je_add (jv 1) (jv 2)) (ja_cons (jv 3) ja_nil)))))
    (js_cons (js_set (i := 5) sc_law.nd rfl (Or.inl rfl) (je_call (G__law_draw r) hr rfl m__law_draw k__law_draw b__law_draw (ja_cons (jv 0) (ja_cons je_int ja_nil))))
    (js_cons (js_if (jt_eq hr (je_mod (jv 5) je_int) je_int) (js_one (js_set (i := 4) sc_law.nd rfl (Or.inl rfl) (je_call (G__law_hung r) hr rfl m__law_hung k__law_hung b__law_hung (ja_cons (jv 4) (ja_cons (jv 5) (ja_cons (jv 1) ja_nil)))))) js_nil)
    (js_cons (js_asg (je_call (G__law_count r) hr rfl m__law_count k__law_count b__law_count (ja_cons (jv 4) ja_nil)) (jg_tup (jgs_cons (jg_name (i := 6) sc_law.nd rfl (Or.inl rfl)) (jgs_cons (jg_name (i := 7) sc_law.nd rfl (Or.inl rfl)) jgs_nil)) (glS (glS gl0))))
    (js_cons (js_set (i := 8) sc_law.nd rfl (Or.inl rfl) (je_tup (ja_cons (je_call (G_weight r) hr rfl m_weight k_weight b_weight (ja_cons (jv 4) ja_nil)) (ja_cons (je_call (G_depth r) hr rfl m_depth k_depth b_depth (ja_cons (jv 4) ja_nil)) ja_nil))))
    (js_cons (js_if (JW.jt (jw_or (jt_tru (je_isi rfl n_isinstance rfl n_bool PyProof.Rows.boot_bool (je_ix (jv 8) je_int) (by decide) (by decide) (kitA _ (by simp)))) (jw_or (jt_tru (je_isi rfl n_isinstance rfl n_bool PyProof.Rows.boot_bool (je_ix (jv 8) je_int) (by decide) (by decide) (kitA _ (by simp)))) (jw_or1 (jt_ne hr (jv 8) (je_tup (ja_cons (jv 6) (ja_cons (jv 7) ja_nil)))))))) (js_one (js_ret je_bl)) js_nil)
    (js_cons (js_set (i := 9) sc_law.nd rfl (Or.inl rfl) (je_call (G_is_small r) hr rfl m_is_small k_is_small b_is_small (ja_cons (jv 4) ja_nil)))
    (js_one (js_ret (je_and (je_isi rfl n_isinstance rfl n_bool PyProof.Rows.boot_bool (jv 9) (by decide) (by decide) (kitA _ (by simp))) (je_one (je_eq hr (jv 9) (je_and (je_le (jv 6) je_int) (je_one (je_le (jv 7) je_int))))))))))))))))))
end
theorem all_mk {l : PySem.W.OpenLaw} {w : World} {K : PySem.W.Frag} {h : Heap} {mg : Str → Option Value} {fa : Addr} (X : K.In h) (G : h.Ns mainGlobals mg) (hfa : mg "law" = some (.ref fa))
    {f_parts_of : Addr} {od_parts_of an_parts_of : Option Addr} {sl_parts_of : Array (Option Value)} {oc_parts_of kV_parts_of dc_parts_of pm_parts_of cd_parts_of ct_parts_of : Value}
    (a_parts_of : PySem.W.nsIn K mainGlobals "parts_of" = some (some (.ref f_parts_of))) (l_parts_of : K.lookup f_parts_of = some ⟨oc_parts_of, od_parts_of, .func (PySem.W.fnOf "parts_of" "parts_of" (defArgs s_parts_of) (defBody s_parts_of) (defScope s_parts_of) .none kV_parts_of dc_parts_of pm_parts_of an_parts_of cd_parts_of ct_parts_of), sl_parts_of⟩) (c_parts_of : PySem.W.codeIn K cd_parts_of "parts_of" = true) (kp_parts_of : PySem.W.keepIn K (.ref f_parts_of) = true)
    {f_weight : Addr} {od_weight an_weight : Option Addr} {sl_weight : Array (Option Value)} {oc_weight kV_weight dc_weight pm_weight cd_weight ct_weight : Value}
    (a_weight : PySem.W.nsIn K mainGlobals "weight" = some (some (.ref f_weight))) (l_weight : K.lookup f_weight = some ⟨oc_weight, od_weight, .func (PySem.W.fnOf "weight" "weight" (defArgs s_weight) (defBody s_weight) (defScope s_weight) .none kV_weight dc_weight pm_weight an_weight cd_weight ct_weight), sl_weight⟩) (c_weight : PySem.W.codeIn K cd_weight "weight" = true) (kp_weight : PySem.W.keepIn K (.ref f_weight) = true)
    {f_depth : Addr} {od_depth an_depth : Option Addr} {sl_depth : Array (Option Value)} {oc_depth kV_depth dc_depth pm_depth cd_depth ct_depth : Value}
    (a_depth : PySem.W.nsIn K mainGlobals "depth" = some (some (.ref f_depth))) (l_depth : K.lookup f_depth = some ⟨oc_depth, od_depth, .func (PySem.W.fnOf "depth" "depth" (defArgs s_depth) (defBody s_depth) (defScope s_depth) .none kV_depth dc_depth pm_depth an_depth cd_depth ct_depth), sl_depth⟩) (c_depth : PySem.W.codeIn K cd_depth "depth" = true) (kp_depth : PySem.W.keepIn K (.ref f_depth) = true)
    {f_parts_of_all : Addr} {od_parts_of_all an_parts_of_all : Option Addr} {sl_parts_of_all : Array (Option Value)} {oc_parts_of_all kV_parts_of_all dc_parts_of_all pm_parts_of_all cd_parts_of_all ct_parts_of_all : Value}
    (a_parts_of_all : PySem.W.nsIn K mainGlobals "parts_of_all" = some (some (.ref f_parts_of_all))) (l_parts_of_all : K.lookup f_parts_of_all = some ⟨oc_parts_of_all, od_parts_of_all, .func (PySem.W.fnOf "parts_of_all" "parts_of_all" (defArgs s_parts_of_all) (defBody s_parts_of_all) (defScope s_parts_of_all) .none kV_parts_of_all dc_parts_of_all pm_parts_of_all an_parts_of_all cd_parts_of_all ct_parts_of_all), sl_parts_of_all⟩) (c_parts_of_all : PySem.W.codeIn K cd_parts_of_all "parts_of_all" = true) (kp_parts_of_all : PySem.W.keepIn K (.ref f_parts_of_all) = true)
    {f_is_small : Addr} {od_is_small an_is_small : Option Addr} {sl_is_small : Array (Option Value)} {oc_is_small kV_is_small dc_is_small pm_is_small cd_is_small ct_is_small : Value}
    (a_is_small : PySem.W.nsIn K mainGlobals "is_small" = some (some (.ref f_is_small))) (l_is_small : K.lookup f_is_small = some ⟨oc_is_small, od_is_small, .func (PySem.W.fnOf "is_small" "is_small" (defArgs s_is_small) (defBody s_is_small) (defScope s_is_small) .none kV_is_small dc_is_small pm_is_small an_is_small cd_is_small ct_is_small), sl_is_small⟩) (c_is_small : PySem.W.codeIn K cd_is_small "is_small" = true) (kp_is_small : PySem.W.keepIn K (.ref f_is_small) = true)
    {f__law_draw : Addr} {od__law_draw an__law_draw : Option Addr} {sl__law_draw : Array (Option Value)} {oc__law_draw kV__law_draw dc__law_draw pm__law_draw cd__law_draw ct__law_draw : Value}
    (a__law_draw : PySem.W.nsIn K mainGlobals "_law_draw" = some (some (.ref f__law_draw))) (l__law_draw : K.lookup f__law_draw = some ⟨oc__law_draw, od__law_draw, .func (PySem.W.fnOf "_law_draw" "_law_draw" (defArgs s__law_draw) (defBody s__law_draw) (defScope s__law_draw) .none kV__law_draw dc__law_draw pm__law_draw an__law_draw cd__law_draw ct__law_draw), sl__law_draw⟩) (c__law_draw : PySem.W.codeIn K cd__law_draw "_law_draw" = true) (kp__law_draw : PySem.W.keepIn K (.ref f__law_draw) = true)
    {f__law_signs : Addr} {od__law_signs an__law_signs : Option Addr} {sl__law_signs : Array (Option Value)} {oc__law_signs kV__law_signs dc__law_signs pm__law_signs cd__law_signs ct__law_signs : Value}
    (a__law_signs : PySem.W.nsIn K mainGlobals "_law_signs" = some (some (.ref f__law_signs))) (l__law_signs : K.lookup f__law_signs = some ⟨oc__law_signs, od__law_signs, .func (PySem.W.fnOf "_law_signs" "_law_signs" (defArgs s__law_signs) (defBody s__law_signs) (defScope s__law_signs) .none kV__law_signs dc__law_signs pm__law_signs an__law_signs cd__law_signs ct__law_signs), sl__law_signs⟩) (c__law_signs : PySem.W.codeIn K cd__law_signs "_law_signs" = true) (kp__law_signs : PySem.W.keepIn K (.ref f__law_signs) = true)
    {f__law_titles : Addr} {od__law_titles an__law_titles : Option Addr} {sl__law_titles : Array (Option Value)} {oc__law_titles kV__law_titles dc__law_titles pm__law_titles cd__law_titles ct__law_titles : Value}
    (a__law_titles : PySem.W.nsIn K mainGlobals "_law_titles" = some (some (.ref f__law_titles))) (l__law_titles : K.lookup f__law_titles = some ⟨oc__law_titles, od__law_titles, .func (PySem.W.fnOf "_law_titles" "_law_titles" (defArgs s__law_titles) (defBody s__law_titles) (defScope s__law_titles) .none kV__law_titles dc__law_titles pm__law_titles an__law_titles cd__law_titles ct__law_titles), sl__law_titles⟩) (c__law_titles : PySem.W.codeIn K cd__law_titles "_law_titles" = true) (kp__law_titles : PySem.W.keepIn K (.ref f__law_titles) = true)
    {f__law_pushed : Addr} {od__law_pushed an__law_pushed : Option Addr} {sl__law_pushed : Array (Option Value)} {oc__law_pushed kV__law_pushed dc__law_pushed pm__law_pushed cd__law_pushed ct__law_pushed : Value}
    (a__law_pushed : PySem.W.nsIn K mainGlobals "_law_pushed" = some (some (.ref f__law_pushed))) (l__law_pushed : K.lookup f__law_pushed = some ⟨oc__law_pushed, od__law_pushed, .func (PySem.W.fnOf "_law_pushed" "_law_pushed" (defArgs s__law_pushed) (defBody s__law_pushed) (defScope s__law_pushed) .none kV__law_pushed dc__law_pushed pm__law_pushed an__law_pushed cd__law_pushed ct__law_pushed), sl__law_pushed⟩) (c__law_pushed : PySem.W.codeIn K cd__law_pushed "_law_pushed" = true) (kp__law_pushed : PySem.W.keepIn K (.ref f__law_pushed) = true)
    {f__law_thing : Addr} {od__law_thing an__law_thing : Option Addr} {sl__law_thing : Array (Option Value)} {oc__law_thing kV__law_thing dc__law_thing pm__law_thing cd__law_thing ct__law_thing : Value}
    (a__law_thing : PySem.W.nsIn K mainGlobals "_law_thing" = some (some (.ref f__law_thing))) (l__law_thing : K.lookup f__law_thing = some ⟨oc__law_thing, od__law_thing, .func (PySem.W.fnOf "_law_thing" "_law_thing" (defArgs s__law_thing) (defBody s__law_thing) (defScope s__law_thing) .none kV__law_thing dc__law_thing pm__law_thing an__law_thing cd__law_thing ct__law_thing), sl__law_thing⟩) (c__law_thing : PySem.W.codeIn K cd__law_thing "_law_thing" = true) (kp__law_thing : PySem.W.keepIn K (.ref f__law_thing) = true)
    {f__law_count : Addr} {od__law_count an__law_count : Option Addr} {sl__law_count : Array (Option Value)} {oc__law_count kV__law_count dc__law_count pm__law_count cd__law_count ct__law_count : Value}
    (a__law_count : PySem.W.nsIn K mainGlobals "_law_count" = some (some (.ref f__law_count))) (l__law_count : K.lookup f__law_count = some ⟨oc__law_count, od__law_count, .func (PySem.W.fnOf "_law_count" "_law_count" (defArgs s__law_count) (defBody s__law_count) (defScope s__law_count) .none kV__law_count dc__law_count pm__law_count an__law_count cd__law_count ct__law_count), sl__law_count⟩) (c__law_count : PySem.W.codeIn K cd__law_count "_law_count" = true) (kp__law_count : PySem.W.keepIn K (.ref f__law_count) = true)
    {f__law_hung : Addr} {od__law_hung an__law_hung : Option Addr} {sl__law_hung : Array (Option Value)} {oc__law_hung kV__law_hung dc__law_hung pm__law_hung cd__law_hung ct__law_hung : Value}
    (a__law_hung : PySem.W.nsIn K mainGlobals "_law_hung" = some (some (.ref f__law_hung))) (l__law_hung : K.lookup f__law_hung = some ⟨oc__law_hung, od__law_hung, .func (PySem.W.fnOf "_law_hung" "_law_hung" (defArgs s__law_hung) (defBody s__law_hung) (defScope s__law_hung) .none kV__law_hung dc__law_hung pm__law_hung an__law_hung cd__law_hung ct__law_hung), sl__law_hung⟩) (c__law_hung : PySem.W.codeIn K cd__law_hung "_law_hung" = true) (kp__law_hung : PySem.W.keepIn K (.ref f__law_hung) = true)
    {f_law : Addr} {od_law an_law : Option Addr} {sl_law : Array (Option Value)} {oc_law kV_law dc_law pm_law cd_law ct_law : Value}
    (a_law : PySem.W.nsIn K mainGlobals "law" = some (some (.ref f_law))) (l_law : K.lookup f_law = some ⟨oc_law, od_law, .func (PySem.W.fnOf "law" "law" (defArgs s_law) (defBody s_law) (defScope s_law) .none kV_law dc_law pm_law an_law cd_law ct_law), sl_law⟩) (c_law : PySem.W.codeIn K cd_law "law" = true) (kp_law : PySem.W.keepIn K (.ref f_law) = true)
    (z_bool : PySem.W.nsIn K mainGlobals "bool" = some none)
    (z_int : PySem.W.nsIn K mainGlobals "int" = some none)
    (z_isinstance : PySem.W.nsIn K mainGlobals "isinstance" = some none)
    (z_len : PySem.W.nsIn K mainGlobals "len" = some none)
    (z_max : PySem.W.nsIn K mainGlobals "max" = some none)
    (z_range : PySem.W.nsIn K mainGlobals "range" = some none)
    (z_tuple : PySem.W.nsIn K mainGlobals "tuple" = some none)
    {t_MOST_HEAVY : Tok} (z_MOST_HEAVY : PySem.W.nsIn K mainGlobals "MOST_HEAVY" = some (some (.int 400 t_MOST_HEAVY)))
    {t_MOST_DEEP : Tok} (z_MOST_DEEP : PySem.W.nsIn K mainGlobals "MOST_DEEP" = some (some (.int 40 t_MOST_DEEP)))
    : ∃ fd : FuncData, (∀ (s : Shared) (v : Value), BindsTo s fd ⟨[v], []⟩ [("script", v)]) ∧ ∀ base : Heap, K.In base → base.Ns mainGlobals mg → FnOk l.prog w K mg base CX0 200 fa fd ["script"] (liftSp K (c_law_k01 200)) := by
  have e := hfa.symm.trans (PySem.W.mg_of X G a_law)
  cases e
  have F_parts_of := fun_mk (st := s_parts_of) l_parts_of c_parts_of kp_parts_of
  have b_parts_of := F_parts_of.binds (ps := ["t"]) fun _ _ _ _ _ _ us hl => match us, hl with | [_], _ => rfl
  have m_parts_of := PySem.W.mg_of X G a_parts_of
  have F_weight := fun_mk (st := s_weight) l_weight c_weight kp_weight
  have b_weight := F_weight.binds (ps := ["t"]) fun _ _ _ _ _ _ us hl => match us, hl with | [_], _ => rfl
  have m_weight := PySem.W.mg_of X G a_weight
  have F_depth := fun_mk (st := s_depth) l_depth c_depth kp_depth
  have b_depth := F_depth.binds (ps := ["t"]) fun _ _ _ _ _ _ us hl => match us, hl with | [_], _ => rfl
  have m_depth := PySem.W.mg_of X G a_depth
  have F_parts_of_all := fun_mk (st := s_parts_of_all) l_parts_of_all c_parts_of_all kp_parts_of_all
  have b_parts_of_all := F_parts_of_all.binds (ps := ["things"]) fun _ _ _ _ _ _ us hl => match us, hl with | [_], _ => rfl
  have m_parts_of_all := PySem.W.mg_of X G a_parts_of_all
  have F_is_small := fun_mk (st := s_is_small) l_is_small c_is_small kp_is_small
  have b_is_small := F_is_small.binds (ps := ["t"]) fun _ _ _ _ _ _ us hl => match us, hl with | [_], _ => rfl
  have m_is_small := PySem.W.mg_of X G a_is_small
  have F__law_draw := fun_mk (st := s__law_draw) l__law_draw c__law_draw kp__law_draw
  have b__law_draw := F__law_draw.binds (ps := ["script", "k"]) fun _ _ _ _ _ _ us hl => match us, hl with | [_, _], _ => rfl
  have m__law_draw := PySem.W.mg_of X G a__law_draw
  have F__law_signs := fun_mk (st := s__law_signs) l__law_signs c__law_signs kp__law_signs
  have b__law_signs := F__law_signs.binds (ps := ["script", "k", "many"]) fun _ _ _ _ _ _ us hl => match us, hl with | [_, _, _], _ => rfl
  have m__law_signs := PySem.W.mg_of X G a__law_signs
  have F__law_titles := fun_mk (st := s__law_titles) l__law_titles c__law_titles kp__law_titles
  have b__law_titles := F__law_titles.binds (ps := ["script", "k", "many"]) fun _ _ _ _ _ _ us hl => match us, hl with | [_, _, _], _ => rfl
  have m__law_titles := PySem.W.mg_of X G a__law_titles
  have F__law_pushed := fun_mk (st := s__law_pushed) l__law_pushed c__law_pushed kp__law_pushed
  have b__law_pushed := F__law_pushed.binds (ps := ["stack", "cell", "heads", "leaves"]) fun _ _ _ _ _ _ us hl => match us, hl with | [_, _, _, _], _ => rfl
  have m__law_pushed := PySem.W.mg_of X G a__law_pushed
  have F__law_thing := fun_mk (st := s__law_thing) l__law_thing c__law_thing kp__law_thing
  have b__law_thing := F__law_thing.binds (ps := ["cells", "heads", "leaves"]) fun _ _ _ _ _ _ us hl => match us, hl with | [_, _, _], _ => rfl
  have m__law_thing := PySem.W.mg_of X G a__law_thing
  have F__law_count := fun_mk (st := s__law_count) l__law_count c__law_count kp__law_count
  have b__law_count := F__law_count.binds (ps := ["t"]) fun _ _ _ _ _ _ us hl => match us, hl with | [_], _ => rfl
  have m__law_count := PySem.W.mg_of X G a__law_count
  have F__law_hung := fun_mk (st := s__law_hung) l__law_hung c__law_hung kp__law_hung
  have b__law_hung := F__law_hung.binds (ps := ["t", "first", "signs"]) fun _ _ _ _ _ _ us hl => match us, hl with | [_, _, _], _ => rfl
  have m__law_hung := PySem.W.mg_of X G a__law_hung
  have F_law := fun_mk (st := s_law) l_law c_law kp_law
  have b_law := F_law.binds (ps := ["script"]) fun _ _ _ _ _ _ us hl => match us, hl with | [_], _ => rfl
  have m_law := PySem.W.mg_of X G a_law
  have n_bool := PySem.W.mg_none_of X G z_bool
  have n_int := PySem.W.mg_none_of X G z_int
  have n_isinstance := PySem.W.mg_none_of X G z_isinstance
  have n_len := PySem.W.mg_none_of X G z_len
  have n_max := PySem.W.mg_none_of X G z_max
  have n_range := PySem.W.mg_none_of X G z_range
  have n_tuple := PySem.W.mg_none_of X G z_tuple
  have g_MOST_HEAVY := PySem.W.mg_of X G z_MOST_HEAVY
  have g_MOST_DEEP := PySem.W.mg_of X G z_MOST_DEEP
  refine ⟨PySem.W.fnOf "law" "law" (defArgs s_law) (defBody s_law) (defScope s_law) .none kV_law dc_law pm_law an_law cd_law ct_law, fun s v => .of_eq rfl, fun base _ _ => ?_⟩
  have G_parts_of := ok_parts_of (P := l.prog) (w := w) (base := base) F_parts_of n_isinstance n_int
  have G_weight := ok_weight (P := l.prog) (w := w) (base := base) F_weight G_parts_of b_parts_of F_parts_of.kp m_parts_of
  have G_parts_of_all := ok_parts_of_all (P := l.prog) (w := w) (base := base) F_parts_of_all G_parts_of b_parts_of F_parts_of.kp m_parts_of
  have G_depth := ok_depth (P := l.prog) (w := w) (base := base) F_depth G_parts_of_all b_parts_of_all F_parts_of_all.kp m_parts_of_all
  have G_is_small := ok_is_small (P := l.prog) (w := w) (base := base) F_is_small G_parts_of_all b_parts_of_all F_parts_of_all.kp m_parts_of_all n_len g_MOST_HEAVY g_MOST_DEEP
  have G__law_draw := ok__law_draw (P := l.prog) (w := w) (base := base) F__law_draw n_len
  have G__law_signs := ok__law_signs (P := l.prog) (w := w) (base := base) F__law_signs G__law_draw b__law_draw F__law_draw.kp m__law_draw n_range n_int
  have G__law_titles := ok__law_titles (P := l.prog) (w := w) (base := base) F__law_titles G__law_signs b__law_signs F__law_signs.kp m__law_signs
  have G__law_pushed := ok__law_pushed (P := l.prog) (w := w) (base := base) F__law_pushed n_len n_tuple
  have G__law_thing := ok__law_thing (P := l.prog) (w := w) (base := base) F__law_thing G__law_pushed b__law_pushed F__law_pushed.kp m__law_pushed n_len
  have G__law_count := ok__law_count (P := l.prog) (w := w) (base := base) F__law_count n_len n_max n_isinstance n_int
  have G__law_hung := ok__law_hung (P := l.prog) (w := w) (base := base) F__law_hung G__law_count b__law_count F__law_count.kp m__law_count n_max n_range n_len
  have G_law := ok_law (P := l.prog) (w := w) (base := base) F_law G__law_signs b__law_signs F__law_signs.kp m__law_signs G__law_titles b__law_titles F__law_titles.kp m__law_titles G__law_thing b__law_thing F__law_thing.kp m__law_thing G__law_draw b__law_draw F__law_draw.kp m__law_draw G__law_count b__law_count F__law_count.kp m__law_count G_is_small b_is_small F_is_small.kp m_is_small G__law_hung b__law_hung F__law_hung.kp m__law_hung G_weight b_weight F_weight.kp m_weight G_depth b_depth F_depth.kp m_depth n_isinstance n_bool
  exact G_law 200
theorem walk {l : PySem.W.OpenLaw} {q : Program} {loose : List Str} {XP : (Str → Option Value) → Heap → Prop} {YP : World → Heap → Prop} {d : DefRec} {K : Params → PySem.W.Frag} (hn : l.most = some 63) (hdf : d.params.defaults = [])
    (hY : ∀ (w : World) (h : Heap), YP w h → (K w.params).In h)
    (F : ∀ (w : World) (mg : Str → Option Value) (fa : Addr) (h : Heap), (K w.params).In h → h.Ns mainGlobals mg → mg d.name = some (.ref fa) →
      ∃ fd : FuncData, (∀ (s : Shared) (u : Value), BindsTo s fd ⟨[u], []⟩ [("script", u)]) ∧ ∀ base : Heap, (K w.params).In base → base.Ns mainGlobals mg → FnOk l.prog w (K w.params) mg base CX0 200 fa fd ["script"] (liftSp (K w.params) (c_law_k01 200))) :
    PySem.W.WalkO q loose XP YP l.row.toRowW d [] (fun f vs => PySem.call f vs) :=
  L2.walk_of (n := 63) (k := 200) (x := "script") (CX := fun _ => CX0) (sp := fun w => liftSp (K w.params) (c_law_k01 200)) hn (by decide) hdf ⟨rfl, by decide, by decide⟩ hY F (fun w H a ns hl hO hS => law_true hO hS (k01_ok ns hl)) fun _ _ _ _ _ z => z
end K01
open PySem PySem.W PyProof.Rows
set_option maxRecDepth 100000 in
set_option maxHeartbeats 0 in
theorem PySem.Challenge.cw_turnweave_k01_weight_and_depth_holds : PySem.Challenge.rw_turnweave_k01_weight_and_depth.Holds := by
  w_on; o_law; k_head; (case hw => w_witness2)
  k_fill
  refine K01.walk (l := PySem.Challenge.rw_turnweave_k01_weight_and_depth) rfl rfl (fun w h Y => PySem.W.kIn_of Y) ?F
  case F =>
    intro w mg fa h KX G hmg
    refine' K01.all_mk KX G hmg ?a_parts_of ?l_parts_of ?c_parts_of ?kp_parts_of ?a_weight ?l_weight ?c_weight ?kp_weight ?a_depth ?l_depth ?c_depth ?kp_depth ?a_parts_of_all ?l_parts_of_all ?c_parts_of_all ?kp_parts_of_all ?a_is_small ?l_is_small ?c_is_small ?kp_is_small ?a__law_draw ?l__law_draw ?c__law_draw ?kp__law_draw ?a__law_signs ?l__law_signs ?c__law_signs ?kp__law_signs ?a__law_titles ?l__law_titles ?c__law_titles ?kp__law_titles ?a__law_pushed ?l__law_pushed ?c__law_pushed ?kp__law_pushed ?a__law_thing ?l__law_thing ?c__law_thing ?kp__law_thing ?a__law_count ?l__law_count ?c__law_count ?kp__law_count ?a__law_hung ?l__law_hung ?c__law_hung ?kp__law_hung ?a_law ?l_law ?c_law ?kp_law ?z_bool ?z_int ?z_isinstance ?z_len ?z_max ?z_range ?z_tuple ?z_MOST_HEAVY ?z_MOST_DEEP
    (case a_parts_of => k_is)
    (case l_parts_of => k_is)
    (case c_parts_of => k_is)
    (case kp_parts_of => k_is)
    (case a_weight => k_is)
    (case l_weight => k_is)
    (case c_weight => k_is)
    (case kp_weight => k_is)
    (case a_depth => k_is)
    (case l_depth => k_is)
    (case c_depth => k_is)
    (case kp_depth => k_is)
    (case a_parts_of_all => k_is)
    (case l_parts_of_all => k_is)
    (case c_parts_of_all => k_is)
    (case kp_parts_of_all => k_is)
    (case a_is_small => k_is)
    (case l_is_small => k_is)
    (case c_is_small => k_is)
    (case kp_is_small => k_is)
    (case a__law_draw => k_is)
    (case l__law_draw => k_is)
    (case c__law_draw => k_is)
    (case kp__law_draw => k_is)
    (case a__law_signs => k_is)
    (case l__law_signs => k_is)
    (case c__law_signs => k_is)
    (case kp__law_signs => k_is)
    (case a__law_titles => k_is)
    (case l__law_titles => k_is)
    (case c__law_titles => k_is)
    (case kp__law_titles => k_is)
    (case a__law_pushed => k_is)
    (case l__law_pushed => k_is)
    (case c__law_pushed => k_is)
    (case kp__law_pushed => k_is)
    (case a__law_thing => k_is)
    (case l__law_thing => k_is)
    (case c__law_thing => k_is)
    (case kp__law_thing => k_is)
    (case a__law_count => k_is)
    (case l__law_count => k_is)
    (case c__law_count => k_is)
    (case kp__law_count => k_is)
    (case a__law_hung => k_is)
    (case l__law_hung => k_is)
    (case c__law_hung => k_is)
    (case kp__law_hung => k_is)
    (case a_law => k_is)
    (case l_law => k_is)
    (case c_law => k_is)
    (case kp_law => k_is)
    (case z_bool => k_is)
    (case z_int => k_is)
    (case z_isinstance => k_is)
    (case z_len => k_is)
    (case z_max => k_is)
    (case z_range => k_is)
    (case z_tuple => k_is)
    (case z_MOST_HEAVY => k_is)
    (case z_MOST_DEEP => k_is)
end
