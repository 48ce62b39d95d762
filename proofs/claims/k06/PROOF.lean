import PyProof.Rows.All
import Wide.All
import OpenK.AllK
import Wide.FinOn
import Lean
import PyProof.EqAt
import PyProof.EqKinds
import PyProof.TupleCall
import PyProof.NeKinds
import PyProof.ExcAttrAll.ValueError
import PyProof.Rows.StrJoin2
import PySem.Challenge.RW_glazebench_k06_refusals_told
set_option Elab.async false
set_option linter.all false
set_option maxRecDepth 100000
namespace L2
open PySem PySem.Spec PyProof.Rows

/-- a key: an int or a str -/
abbrev Key := Sum Int Str
def keyIs : Key → Value → Bool
  | .inl k, v => Value.isInt k v
  | .inr x, v => Value.isStrOf x v
def keyH (w : World) : Key → Int
  | .inl k => hashInt k
  | .inr x => hashStr w x
theorem keyIs_shape : ∀ {k : Key} {v : Value}, keyIs k v = true → (∃ i t, k = Sum.inl i ∧ v = Value.int i t) ∨ (∃ x t, k = Sum.inr x ∧ v = Value.str x t)
  | .inl i, v, h => by
    obtain ⟨t, e⟩ := Value.isInt_shape (k := i) (v := v) h
    exact .inl ⟨i, t, rfl, e⟩
  | .inr x, v, h => by
    obtain ⟨t, e⟩ := Value.isStrOf_shape (x := x) (v := v) h
    exact .inr ⟨x, t, rfl, e⟩
theorem key_ll (a b : Int) : decide ((Sum.inl a : Key) = Sum.inl b) = (a == b) := by
  by_cases e : a = b
  · subst e; simp
  · have h : ¬ (Sum.inl a : Key) = Sum.inl b := fun q => e (Sum.inl.inj q)
    rw [decide_eq_false h]
    exact (beq_eq_false_iff_ne.mpr e).symm
theorem key_rr (a b : Str) : decide ((Sum.inr a : Key) = Sum.inr b) = decide (a = b) := by
  by_cases e : a = b
  · subst e; simp
  · have h : ¬ (Sum.inr a : Key) = Sum.inr b := fun q => e (Sum.inr.inj q)
    rw [decide_eq_false h, decide_eq_false e]
theorem key_lr (a : Int) (b : Str) : decide ((Sum.inl a : Key) = Sum.inr b) = false := decide_eq_false (fun q => nomatch q)
theorem key_rl (a : Str) (b : Int) : decide ((Sum.inr a : Key) = Sum.inl b) = false := decide_eq_false (fun q => nomatch q)

def mixKind (prog : Program) (w : World) : PySem.KeyKind prog w Key where
  is := keyIs
  hash := keyH w
  inj := fun v a b ha hb => by
    rcases keyIs_shape ha with ⟨i, t, rfl, rfl⟩ | ⟨x, t, rfl, rfl⟩
    · rcases keyIs_shape hb with ⟨j, u, rfl, e⟩ | ⟨y, u, rfl, e⟩
      · injection e with e1 _; rw [e1]
      · exact nomatch e
    · rcases keyIs_shape hb with ⟨j, u, rfl, e⟩ | ⟨y, u, rfl, e⟩
      · exact nomatch e
      · injection e with e1 _; rw [e1]
  byValue := fun k v h => by
    rcases keyIs_shape h with ⟨i, t, rfl, rfl⟩ | ⟨x, t, rfl, rfl⟩ <;> rfl
  pyHash := fun hv h => by
    rcases keyIs_shape hv with ⟨i, t, rfl, rfl⟩ | ⟨x, t, rfl, rfl⟩
    · exact wpAny_pyHash_int h
    · exact wpAny_pyHash_str h
  eqBool := fun hu hv h => by
    rcases keyIs_shape hu with ⟨i, t, rfl, rfl⟩ | ⟨x, t, rfl, rfl⟩
    · rcases keyIs_shape hv with ⟨j, u, rfl, rfl⟩ | ⟨y, u, rfl, rfl⟩
      · rw [key_ll] at h; exact wpAny_eqBool_int h
      · rw [key_lr] at h; exact SeqAt.EqAt.int_str i t y u _ _ _ _ h
    · rcases keyIs_shape hv with ⟨j, u, rfl, rfl⟩ | ⟨y, u, rfl, rfl⟩
      · rw [key_rl] at h; exact SeqAt.EqAt.str_int x t j u _ _ _ _ h
      · rw [key_rr] at h; exact wpAny_eqBool_str h
  «strs» := fun k x t v h => by
    rcases keyIs_shape h with ⟨i, u, rfl, e⟩ | ⟨y, u, rfl, e⟩
    · exact nomatch e
    · injection e with e1 _
      subst e1
      cases v <;> rfl

end L2

namespace L2
open PySem PySem.Spec PyProof.Rows

/-- a value, without the heap -/
inductive V where
  | non | bl (b : Bool) | int (i : Int) | str (x : Str) | byt (b : Array UInt8) | flt (b : UInt64) | ref (a : Addr) | ty (n : String)
  deriving DecidableEq

def RelV : V → Value → Prop
  | .non, u => u = Value.none
  | .bl b, u => u = Value.bool b
  | .int i, u => ∃ t, u = Value.int i t
  | .str x, u => ∃ t, u = Value.str x t
  | .byt b, u => ∃ t, u = Value.bytes b t
  | .flt b, u => ∃ t, u = Value.float b t
  | .ref a, u => u = Value.ref a
  | .ty n, u => u = Value.type n

abbrev Vals : List V → List Value → Prop := Paired RelV
theorem Vals.length {xs : List V} {us : List Value} (r : Vals xs us) : xs.length = us.length := Paired.length r
theorem Vals.get : ∀ {xs : List V} {us : List Value} {i : Nat} {x : V}, Vals xs us → xs[i]? = some x → ∃ u, us[i]? = some u ∧ RelV x u
  | _, _, _, _, .nil, e => by simp at e
  | _, _, 0, _, .cons r _, e => by simp at e; subst e; exact ⟨_, rfl, r⟩
  | _, _, i + 1, x, .cons _ t, e => by
    obtain ⟨u, h1, h2⟩ := Vals.get (i := i) (x := x) t (by simpa using e)
    exact ⟨u, by simpa using h1, h2⟩
theorem Vals.set {x : V} {u : Value} (r : RelV x u) : ∀ {xs : List V} {us : List Value} (i : Nat), Vals xs us → Vals (xs.set i x) (us.set i u)
  | _, _, _, .nil => .nil
  | _, _, 0, .cons _ t => .cons r t
  | _, _, i + 1, .cons q t => .cons q (Vals.set r i t)
theorem Vals.append : ∀ {xs ys : List V} {us ws : List Value}, Vals xs us → Vals ys ws → Vals (xs ++ ys) (us ++ ws)
  | _, _, _, _, .nil, s => s
  | _, _, _, _, .cons r t, s => .cons r (Vals.append t s)
theorem Vals.take : ∀ {xs : List V} {us : List Value} (n : Nat), Vals xs us → Vals (xs.take n) (us.take n)
  | _, _, 0, _ => .nil
  | _, _, _ + 1, .nil => .nil
  | _, _, n + 1, .cons r t => .cons r (Vals.take n t)
theorem Vals.drop : ∀ {xs : List V} {us : List Value} (n : Nat), Vals xs us → Vals (xs.drop n) (us.drop n)
  | _, _, 0, r => r
  | _, _, _ + 1, .nil => .nil
  | _, _, n + 1, .cons _ t => Vals.drop n t
def RelO : Option V → Option Value → Prop
  | some v, some u => RelV v u
  | none, none => True
  | _, _ => False
def KV {κ : Type} : List (κ × V) → List (κ × Value) → Prop := Paired fun (p : κ × V) (q : κ × Value) => p.1 = q.1 ∧ RelV p.2 q.2

/-- a key of a dict (00_mix): an int or a text -/
def kV : Key → V
  | .inl i => .int i
  | .inr x => .str x

/-- what stands at a tracked address -/
inductive HO where
  /-- a list -/
  | lst (xs : List V)
  /-- a tuple (never changes) -/
  | tup (xs : List V)
  /-- a dict whose keys are ints and texts; one whose keys are tuples of ints and texts (the empty one is both) -/
  | dK (kvs : List (Key × V)) | dT (kvs : List (List Key × V))
  /-- a set of ints: its members, its size -/
  | set (S : Int → Bool) (n : Nat)
  /-- an instance of the class at C, its dict at dx, its attributes -/
  | ins (C dx : Addr) (fs : List (Str × V))
  /-- the dict of the instance at x -/
  | own (x : Addr)
  /-- the dict of an exception -/
  | xd (fs : List (Str × V))
  /-- a bound method, f of x -/
  | met (f x : Addr)
  /-- a range object lo, lo + 1, .. below hi -/
  | rng (lo hi : Int)
  /-- a thing that is known to the object (the script; a dict while a loop walks it): read, never written while it is so -/
  | frz (o : Obj) (u : HO)
  /-- a code object's table -/
  | tbl (ps : Array Value)
  /-- any other thing, by what is true of its one object (a def of one's own: SetO a S n := HO.ext fun h => ..) -/
  | ext (φ : Heap → Prop)

abbrev Hp := Addr → Option HO
def upd (H : Hp) (a : Addr) (o : HO) : Hp := fun b => if b = a then some o else H b
theorem upd_same {H : Hp} {a : Addr} {o : HO} : upd H a o a = some o := by unfold upd; rw [if_pos rfl]
theorem upd_ne {H : Hp} {a b : Addr} {o : HO} (h : b ≠ a) : upd H a o b = H b := by unfold upd; rw [if_neg h]
/-- two objects of different content stand apart -/
theorem ne_of {H : Hp} {a b : Addr} {o u : HO} (h : H a = some o) (h' : H b = some u) (d : o ≠ u) : a ≠ b := by
  intro e; subst e; rw [h] at h'; exact d (Option.some.inj h')
theorem ne_of_none {H : Hp} {a b : Addr} {o : HO} (h : H a = some o) (h' : H b = none) : a ≠ b := by
  intro e; subst e; rw [h] at h'; cases h'

section
variable (P : Program) (w : World)
def ObjOk (H : Hp) (h : Heap) (a : Addr) : HO → Prop
  | .lst xs => xs.length ≤ sizeLine ∧ ∃ (its : List Value) (n : Nat), Vals xs its ∧ h.get? a = some { cls := .type "list", data := .seq its.toArray n }
  | .tup xs => xs.length ≤ sizeLine ∧ ∃ its : List Value, Vals xs its ∧ IsTup h a its.toArray
  | .dK kvs => kvs.length ≤ sizeLine ∧ (a == sysModules) = false ∧ ∃ vs, KV kvs vs ∧ h.DictOf (mixKind P w) a vs
  | .dT kvs => kvs.length ≤ sizeLine ∧ (a == sysModules) = false ∧ ∃ xs : List (List Key × Addr × Value),
      Paired (fun (p : List Key × V) (q : List Key × Addr × Value) => p.1 = q.1 ∧ H q.2.1 = some (.tup (p.1.map kV)) ∧ RelV p.2 q.2.2) kvs xs ∧
      ∃ o es ep, h.get? a = some o ∧ o.ExactDict ∧ o.data = .dict es ep ∧ es.toList = xs.map (entryOfKey (tupleKind (mixKind P w))) ∧ (xs.map (·.1)).Nodup
  | .set S n => h.SetOf (intKind P w) a S n
  | .ins C dx fs => H dx = some (.own a) ∧ fs.length ≤ 1000 ∧ dx ≠ a ∧ h.get? a = some (PySem.W.instObj C dx) ∧
      ∃ mA, h.Ns1 dx mA ∧ (∀ f, RelO (fs.lookup f) (mA f)) ∧ PySem.Within mA (fs.map (·.1))
  | .own _ => ∃ o, h.get? a = some o
  | .xd fs => ∃ mA, h.Ns1 a mA ∧ ∀ f, RelO (fs.lookup f) (mA f)
  | .rng lo hi => ∃ t u v, h.get? a = some { cls := .type "range", data := .fields #[.int lo t, .int hi u, .int 1 v] }
  | .frz o u => h.get? a = some o ∧ ObjOk H h a u
  | .tbl ps => h.get? a = some { cls := .none, data := .fields ps }
  | .met f x => h.get? a = some (PySem.W.methodObj (.ref f) (.ref x))
  | .ext φ => φ h ∧ (∃ o, h.get? a = some o) ∧ ∀ h1 h2 : Heap, φ h1 → (∀ o, h1.get? a = some o → h2.get? a = some o) → φ h2
/-- the abstract heap is held -/
def HOk (H : Hp) (h : Heap) : Prop := ∀ a o, H a = some o → ObjOk P w H h a o
end

section
variable {P : Program} {w : World} {H H' : Hp} {h h' : Heap} {a : Addr} {o : HO}
theorem ObjOk.lt (x : ObjOk P w H h a o) : a < h.objs.size := by
  cases o with
  | lst xs => obtain ⟨_, _, _, _, e⟩ := x; exact Heap.lt_size e
  | tup xs => obtain ⟨_, _, _, p⟩ := x; exact p.lt
  | dK kvs => obtain ⟨_, _, _, _, o, _, _, e, _⟩ := x; exact Heap.lt_size e
  | dT kvs => obtain ⟨_, _, _, _, o, _, _, e, _⟩ := x; exact Heap.lt_size e
  | set S n => obtain ⟨o, _, _, _, e, _⟩ := x; exact Heap.lt_size e
  | ins C dx fs => obtain ⟨_, _, _, e, _⟩ := x; exact Heap.lt_size e
  | own y => obtain ⟨_, e⟩ := x; exact Heap.lt_size e
  | xd fs => obtain ⟨_, ⟨_, _, _, e, _⟩, _⟩ := x; exact Heap.lt_size e
  | rng lo hi => obtain ⟨_, _, _, e⟩ := x; exact Heap.lt_size e
  | frz ob u => obtain ⟨e, _⟩ := x; exact Heap.lt_size e
  | tbl ps => exact Heap.lt_size (show h.get? a = some _ from x)
  | met f y => exact Heap.lt_size (show h.get? a = some _ from x)
  | ext φ => obtain ⟨_, ⟨_, e⟩, _⟩ := x; exact Heap.lt_size e
theorem Paired.mapP {α β : Type} {F G : α → β → Prop} : ∀ {l₁ : List α} {l₂ : List β}, Paired F l₁ l₂ → (∀ a b, F a b → G a b) → Paired G l₁ l₂
  | _, _, .nil, _ => .nil
  | _, _, .cons r t, f => .cons (f _ _ r) (Paired.mapP t f)
/-- what an object's description leans on: its own object, its own dict, the tuples -/
theorem ObjOk.stay (x : ObjOk P w H h a o) (k : ∀ b u, (b = a ∨ H b = some (.own a)) → h.get? b = some u → h'.get? b = some u)
    (ho : ∀ b, H b = some (.own a) → H' b = some (.own a)) (ht : ∀ b xs, H b = some (.tup xs) → H' b = some (.tup xs)) : ObjOk P w H' h' a o := by
  induction o with
  | lst xs => obtain ⟨z, its, n, r, e⟩ := x; exact ⟨z, its, n, r, k _ _ (.inl rfl) e⟩
  | tup xs => obtain ⟨z, its, r, ob, e, c⟩ := x; exact ⟨z, its, r, ob, k _ _ (.inl rfl) e, c⟩
  | dK kvs => obtain ⟨z, y, vs, r, ob, es, ep, e, c⟩ := x; exact ⟨z, y, vs, r, ob, es, ep, k _ _ (.inl rfl) e, c⟩
  | dT kvs =>
    obtain ⟨z, y, xs, r, ob, es, ep, e, c⟩ := x
    exact ⟨z, y, xs, Paired.mapP r fun p q z => ⟨z.1, ht _ _ z.2.1, z.2.2⟩, ob, es, ep, k _ _ (.inl rfl) e, c⟩
  | set S n => obtain ⟨ob, es, ep, t, e, c⟩ := x; exact ⟨ob, es, ep, t, k _ _ (.inl rfl) e, c⟩
  | ins C dx fs =>
    obtain ⟨d, z, ne, e, mA, ⟨od, es, ep, e2, c⟩, r⟩ := x
    exact ⟨ho _ d, z, ne, k _ _ (.inl rfl) e, mA, ⟨od, es, ep, k _ _ (.inr d) e2, c⟩, r⟩
  | own y => obtain ⟨ob, e⟩ := x; exact ⟨ob, k _ _ (.inl rfl) e⟩
  | xd fs => obtain ⟨mA, ⟨od, es, ep, e, c⟩, r⟩ := x; exact ⟨mA, ⟨od, es, ep, k _ _ (.inl rfl) e, c⟩, r⟩
  | rng lo hi => obtain ⟨t, u, v, e⟩ := x; exact ⟨t, u, v, k _ _ (.inl rfl) e⟩
  | frz ob u ih => obtain ⟨e, q⟩ := x; exact ⟨k _ _ (.inl rfl) e, ih q⟩
  | tbl ps =>
    have e : h.get? a = some { cls := .none, data := .fields ps } := x
    show h'.get? a = some { cls := .none, data := .fields ps }
    exact k a _ (.inl rfl) e
  | met f y =>
    have e : h.get? a = some (PySem.W.methodObj (.ref f) (.ref y)) := x
    show h'.get? a = some (PySem.W.methodObj (.ref f) (.ref y))
    exact k a _ (.inl rfl) e
  | ext φ => obtain ⟨p, ⟨o, e⟩, st⟩ := x; exact ⟨st _ _ p fun o q => k _ _ (.inl rfl) q, ⟨o, k _ _ (.inl rfl) e⟩, st⟩
theorem HOk.lt (x : HOk P w H h) (e : H a = some o) : a < h.objs.size := (x a o e).lt
theorem HOk.fresh (x : HOk P w H h) (e : h.objs.size ≤ a) : H a = none := by
  cases q : H a with
  | none => rfl
  | some u => exact absurd (Nat.lt_of_lt_of_le (x.lt q) e) (Nat.lt_irrefl _)
/-- every object of the heap is kept -/
theorem HOk.kept (x : HOk P w H h) (k : ∀ b u, h.get? b = some u → h'.get? b = some u) : HOk P w H h' := fun a o e =>
  (x a o e).stay (fun b u _ q => k b u q) (fun _ q => q) fun _ _ q => q
/-- a new object is laid and tracked -/
theorem HOk.laid (x : HOk P w H h) (k : ∀ b u, h.get? b = some u → h'.get? b = some u) (hp : h.objs.size ≤ a) (new : ObjOk P w (upd H a o) h' a o) : HOk P w (upd H a o) h' := fun b u e => by
  have hn := x.fresh hp
  by_cases hb : b = a
  · subst hb; rw [upd_same] at e; cases e; exact new
  · rw [upd_ne hb] at e
    exact (x b u e).stay (fun c v _ q => k c v q) (fun c q => by rw [upd_ne (ne_of_none q hn)]; exact q) fun c xs q => by rw [upd_ne (ne_of_none q hn)]; exact q
end

/-- what may be read as u: it is u, or a known u -/
def Rd (H : Hp) (a : Addr) (u : HO) : Prop := H a = some u ∨ ∃ o, H a = some (.frz o u)
theorem Rd.ok {P : Program} {w : World} {H : Hp} {h : Heap} {a : Addr} {u : HO} (r : Rd H a u) (x : HOk P w H h) : ObjOk P w H h a u := by
  rcases r with r | ⟨o, r⟩
  · exact x a u r
  · obtain ⟨_, q⟩ := x a _ r
    exact q
/-- what may be written -/
def Mut : Option HO → Prop
  | some (.lst _) => True
  | some (.dK _) => True
  | some (.dT _) => True
  | some (.set _ _) => True
  | some (.ins _ _ _) => True
  | some (.ext _) => True
  | _ => False
section
variable {P : Program} {w : World} {H : Hp} {h h' : Heap} {x e : Addr} {o' : HO}
/-- the object at e is changed: x itself, or the dict of the instance x -/
theorem HOk.write (ok : HOk P w H h) (mu : Mut (H x)) (he : e = x ∨ H e = some (.own x)) (k : ∀ b u, b ≠ e → h.get? b = some u → h'.get? b = some u) (heo : ∃ u, h'.get? e = some u)
    (new : ObjOk P w (upd H x o') h' x o') : HOk P w (upd H x o') h' := fun b u q => by
  have nown : ∀ c y, H c = some (.own y) → c ≠ x := fun c y r z => by subst z; rw [r] at mu; exact mu
  have ntup : ∀ c xs, H c = some (.tup xs) → c ≠ x := fun c xs r z => by subst z; rw [r] at mu; exact mu
  by_cases hb : b = x
  · subst hb; rw [upd_same] at q; cases q; exact new
  · rw [upd_ne hb] at q
    by_cases hbe : b = e
    · have q' : H b = some (.own x) := by
        rcases he with z | z
        · exact absurd (hbe.trans z) hb
        · rw [hbe]; exact z
      rw [q] at q'; cases q'
      obtain ⟨v, hv⟩ := heo
      exact ⟨v, by rw [hbe]; exact hv⟩
    · refine (ok b u q).stay (fun c v hc r => k c v ?_ r) (fun c r => by rw [upd_ne (nown c b r)]; exact r) fun c xs r => by rw [upd_ne (ntup c xs r)]; exact r
      rcases hc with rfl | hc
      · exact hbe
      · rintro rfl
        rcases he with z | z
        · exact nown c b hc z
        · rw [hc] at z; cases z; exact hb rfl
end

structure Un (fs ex : List Addr) (H H' : Hp) (h h' : Heap) : Prop where
  keep : ∀ b o, h.get? b = some o → H b = none → b ∉ fs → b ∉ ex → h'.get? b = some o
  slot : ∀ b o, h.get? b = some o → H b = none → b ∈ fs → b ∉ ex → ∃ sl, h'.get? b = some { o with slots := sl }
  free : ∀ b o, h.get? b = some o → H b = none → b ∉ ex → H' b = none
  there : ∀ b o, h.get? b = some o → b ∉ ex → ∃ o', h'.get? b = some o'
  tups : ∀ b xs, H b = some (.tup xs) → H' b = some (.tup xs)
  frzs : ∀ b o u, H b = some (.frz o u) → H' b = some (.frz o u)
  tbls : ∀ b ps, H b = some (.tbl ps) → ∃ more, H' b = some (.tbl (ps ++ more))
section
variable {fs fs' ex ex' : List Addr} {H H1 H2 : Hp} {h h1 h2 h' : Heap} {a x e : Addr} {o : HO}
theorem Un.any (u : Un fs ex H H1 h h1) {b : Addr} {ob : Obj} (q : h.get? b = some ob) (n : H b = none) (hx : b ∉ ex) : ∃ sl, h1.get? b = some { ob with slots := sl } := by
  by_cases hb : b ∈ fs
  · exact u.slot b ob q n hb hx
  · exact ⟨ob.slots, u.keep b ob q n hb hx⟩
theorem Un.kept (k : ∀ b u, h.get? b = some u → h'.get? b = some u) : Un fs ex H H h h' :=
  ⟨fun b ob q _ _ _ => k b ob q, fun b ob q _ _ _ => ⟨ob.slots, k b ob q⟩, fun _ _ _ n _ => n, fun b ob q _ => ⟨ob, k b ob q⟩, fun _ _ q => q, fun _ _ _ q => q, fun _ ps q => ⟨#[], by rw [q]; simp⟩⟩
theorem Un.refl : Un fs ex H H h h := Un.kept fun _ _ q => q
theorem Un.laid (k : ∀ b u, h.get? b = some u → h'.get? b = some u) (hp : h.objs.size ≤ a) (hn : H a = none) : Un fs ex H (upd H a o) h h' where
  keep := fun b u q _ _ _ => k b u q
  slot := fun b u q _ _ _ => ⟨u.slots, k b u q⟩
  free := fun b u q n _ => by rw [upd_ne (Nat.ne_of_lt (Nat.lt_of_lt_of_le (Heap.lt_size q) hp))]; exact n
  there := fun b u q _ => ⟨u, k b u q⟩
  tups := fun b xs q => by rw [upd_ne (ne_of_none q hn)]; exact q
  frzs := fun b u xs q => by rw [upd_ne (ne_of_none q hn)]; exact q
  tbls := fun b ps q => ⟨#[], by rw [upd_ne (ne_of_none q hn), q]; simp⟩
theorem Un.write (mu : Mut (H x)) (he : e = x ∨ H e = some (.own x)) (k : ∀ b u, b ≠ e → h.get? b = some u → h'.get? b = some u) (heo : ∃ u, h'.get? e = some u) : Un fs ex H (upd H x o) h h' := by
  have hx : ∀ b, H b = none → b ≠ x := fun b n z => by subst z; rw [n] at mu; exact mu
  have hb : ∀ b, H b = none → b ≠ e := fun b n z => by
    subst z
    rcases he with r | r
    · exact hx b n r
    · rw [n] at r; cases r
  have hm : ∀ b u, H b = some u → ¬ Mut (some u) → b ≠ x := fun b u q nm z => by subst z; rw [q] at mu; exact nm mu
  refine ⟨fun b u q n _ _ => k b u (hb b n) q, fun b u q n _ _ => ⟨u.slots, k b u (hb b n) q⟩, fun b u q n _ => by rw [upd_ne (hx b n)]; exact n, fun b u q _ => ?_,
    fun b xs q => by rw [upd_ne (hm b _ q fun z => z)]; exact q, fun b u xs q => by rw [upd_ne (hm b _ q fun z => z)]; exact q, fun b ps q => ⟨#[], by rw [upd_ne (hm b _ q fun z => z), q]; simp⟩⟩
  by_cases hbe : b = e
  · subst hbe; exact heo
  · exact ⟨u, k b u hbe q⟩
end

def trk (h : Heap) (H : Hp) : List Addr := (List.range h.objs.size).filter fun a => (H a).isSome
def hidT (h : Heap) (H : Hp) : Heap := PySem.W.hideAll h (trk h H)
theorem hidT_size (h : Heap) (H : Hp) : (hidT h H).objs.size = h.objs.size := PySem.W.hideAll_size _ _
theorem hidT_get {h : Heap} {H : Hp} {b : Addr} {o : Obj} (e : h.get? b = some o) (n : H b = none) : (hidT h H).get? b = some o :=
  PySem.W.hideAll_get _ e fun hm => by
    have q : (H b).isSome = true := (List.mem_filter.mp hm).2
    rw [n] at q; simp at q
theorem of_hidT {h : Heap} {H : Hp} {b : Addr} {o : Obj} (e : (hidT h H).get? b = some o) : h.get? b = some o ∧ H b = none := by
  have e' : h.get? b = some o := PySem.W.of_hideAll (trk h H) e
  refine ⟨e', ?_⟩
  cases q : H b with
  | none => rfl
  | some x =>
    have hm : b ∈ trk h H := List.mem_filter.mpr ⟨List.mem_range.mpr (Heap.lt_size e'), by simp [q]⟩
    have z : (hidT h H).get? b = none := PySem.W.hideAll_none (trk h H) hm
    rw [z] at e; cases e

def allNews (g h : Heap) (L : Addr) : List (Addr × Obj) := (List.range h.objs.size).filterMap fun a => if a = L ∨ (g.get? a).isSome = true then none else (h.get? a).map fun o => (a, o)
def rest (g h : Heap) (L d : Addr) : List (Addr × Obj) := (allNews g h L).filter fun p => decide (p.1 ≠ d)
end L2

namespace L2
open PySem PySem.Spec PyProof.Rows

/-- the module's facts, over the base: the heap at the law's entry without what is tracked there -/
structure Mod (K : PySem.W.Frag) (mg : Str → Option Value) (base : Heap) : Prop where
  kin : K.In base
  glob : base.Ns mainGlobals mg
  blt : ∃ mb, base.Ns builtinsNs mb ∧ ∀ x : Str, x ≠ "__name__" → mb x = bootBuiltins x
  nolimit : base.NoLimit

/-- the context: a def's body (or a comprehension's block) running. base: fixed through the whole law; s₀, H₀: the entry; outer: the frames whose slots others may change (a def's callers); stack: all frames that run;
   ex: iterators that were made ahead of the entry and are walked here (a comprehension's); fn: the names whose cells were made at the entry (a def: all; a comprehension's block: its own); calm: not within an except suite; pn: pins that every state bears; xe: what is wanted of an exception that leaves the code -/
structure Cx where
  prog : Program
  w : World
  K : PySem.W.Frag
  mg : Str → Option Value
  base : Heap
  A : Around
  N : List Str
  s₀ : Shared
  H₀ : Hp
  env : Env
  outer : List Env
  stack : List Env
  ex : List Addr
  fn : Str → Bool
  calm : Bool
  pn : List (Addr × Obj)
  xe : Value → Shared → Prop
/-- the callers' frames -/
def frs (l : List Env) : List Addr := l.filterMap (·.frame)
abbrev Cx.fs (X : Cx) : List Addr := frs X.outer

def Vis (sc : Scope) (x : Str) : Prop := sc.names.lookup x = some .local ∨ sc.names.lookup x = some .cell ∨ sc.names.lookup x = some .free
def Loc (sc : Scope) (x : Str) : Prop := sc.names.lookup x = some .local ∨ sc.names.lookup x = some .cell
def Look (env : Env) (h : Heap) (m : Str → Option Value) (x : Str) (u : Value) : Prop :=
  (env.kindOf x = some .local ∧ m x = some u) ∨ ((env.kindOf x = some .cell ∨ env.kindOf x = some .free) ∧ ∃ c, env.cells.lookup x = some c ∧ h.IsCell c (some u))

structure Cx.Ok (X : Cx) : Prop where
  mod : Mod X.K X.mg X.base
  kind : X.env.scope.kind = .function
  glob : X.env.globals = mainGlobals
  blt : X.env.builtins = builtinsNs
  above : X.s₀.heap.objs.size ≤ X.env.locals
  inj : ∀ x y c, X.env.cells.lookup x = some c → X.env.cells.lookup y = some c → x = y
  has : ∀ x, (X.env.kindOf x = some .cell ∨ X.env.kindOf x = some .free) → ∃ c, X.env.cells.lookup x = some c
  cab : ∀ x c, X.fn x = true → X.env.cells.lookup x = some c → X.s₀.heap.objs.size ≤ c
  hd : X.calm = true → X.A.handled = none
  frames : X.A.frames = some X.stack
  stk : X.stack = X.outer ∨ (X.stack = X.env :: X.outer ∧ X.env.frame = some X.env.locals)
  exf : ∀ b ∈ X.ex, b ≠ X.env.locals ∧ ∀ x c, X.env.cells.lookup x = some c → c ≠ b
  bs : ∀ b o, X.base.get? b = some o → X.s₀.heap.get? b = some o ∧ X.H₀ b = none
  bsz : X.base.objs.size ≤ X.s₀.heap.objs.size
  noex : ∀ b o, X.base.get? b = some o → b ∉ X.ex
  exfs : ∀ b ∈ X.ex, b ∉ X.fs
  funs : X.s₀.heap.FunFrames X.base X.outer
  frf : ∀ b ∈ X.fs, X.H₀ b = none

structure Inv (X : Cx) (pins : List (Addr × Obj)) (σ : List (Option V)) (H : Hp) (s : Shared) : Prop where
  ok : X.Ok
  os : s.os = X.s₀.os
  bare : AllBare s.gens
  base : Un X.fs X.ex X.H₀ H X.s₀.heap s.heap
  loc : ∃ m, s.heap.Ns X.env.locals m ∧ ∀ (i : Nat) (x : Str) (v : V), X.N[i]? = some x → σ[i]? = some (some v) → Vis X.env.scope x → ∃ u, RelV v u ∧ Look X.env s.heap m x u
  cell : ∀ x c, X.env.cells.lookup x = some c → ∃ v, s.heap.IsCell c v
  free : H X.env.locals = none
  freeC : ∀ x c, X.env.cells.lookup x = some c → H c = none
  pin : ∀ p ∈ X.pn ++ pins, s.heap.get? p.1 = some p.2 ∧ H p.1 = none ∧ p.1 ≠ X.env.locals ∧ p.1 ∉ X.fs ∧ ∀ v, p.2.data ≠ .cell v
  hok : HOk X.prog X.w H s.heap
  len : σ.length = X.N.length

section
variable {X : Cx} {pins : List (Addr × Obj)} {σ : List (Option V)} {H H' : Hp} {s : Shared} {h' : Heap}

theorem Cx.Ok.nofr (ok : X.Ok) {b : Addr} {o : Obj} (e : X.base.get? b = some o) : b ∉ X.fs := fun hb => by
  have := (ok.funs.mem hb).1
  rw [e] at this; cases this
theorem Inv.bs (I : Inv X pins σ H s) : ∀ b o, X.base.get? b = some o → s.heap.get? b = some o ∧ H b = none := fun b o e =>
  ⟨I.base.keep b o (I.ok.bs b o e).1 (I.ok.bs b o e).2 (I.ok.nofr e) (I.ok.noex b o e), I.base.free b o (I.ok.bs b o e).1 (I.ok.bs b o e).2 (I.ok.noex b o e)⟩
theorem Inv.bk (I : Inv X pins σ H s) : ∀ b o, X.base.get? b = some o → s.heap.get? b = some o := fun b o e => (I.bs b o e).1
theorem Inv.mod (I : Inv X pins σ H s) : Mod X.K X.mg X.base := I.ok.mod
theorem Inv.kIn (I : Inv X pins σ H s) : X.K.In s.heap := I.ok.mod.kin.keeps I.bk
theorem Inv.lt (I : Inv X pins σ H s) : X.env.locals < s.heap.objs.size := let ⟨_, hn, _⟩ := I.loc; hn.lt
theorem Inv.sz (I : Inv X pins σ H s) : X.s₀.heap.objs.size ≤ s.heap.objs.size := Nat.le_trans I.ok.above (Nat.le_of_lt I.lt)
theorem Inv.nofs (I : Inv X pins σ H s) {a : Addr} (h : s.heap.objs.size ≤ a) : a ∉ X.fs := fun hb => by
  obtain ⟨_, o, ho, _⟩ := I.ok.funs.mem hb
  exact absurd (Nat.lt_of_lt_of_le (Heap.lt_size ho) (Nat.le_trans I.sz h)) (Nat.lt_irrefl _)
theorem Inv.cne (I : Inv X pins σ H s) : ∀ x c, X.env.cells.lookup x = some c → c ≠ X.env.locals := fun x c e z => by
  obtain ⟨v, o, ho, hd⟩ := I.cell x c e
  obtain ⟨m, ⟨o', es, ep, ho', hd', _⟩, _⟩ := I.loc
  rw [z, ho'] at ho; cases ho; rw [hd'] at hd; cases hd
theorem Inv.funs (I : Inv X pins σ H s) : s.heap.FunFrames X.base X.outer := by
  have all : ∀ (l : List Env), (∀ b ∈ frs l, b ∈ X.fs) → X.s₀.heap.FunFrames X.base l → s.heap.FunFrames X.base l := by
    intro l
    induction l with
    | nil => intro _ _; trivial
    | cons env r ih =>
      intro hs hl
      obtain ⟨hk, ⟨L, o, hf, hn, ho, hd⟩, hr⟩ := hl
      have hL : L ∈ X.fs := hs L (by unfold frs; rw [List.filterMap_cons, hf]; exact List.mem_cons_self)
      obtain ⟨sl, e⟩ := I.base.slot L o ho (I.ok.frf L hL) hL fun z => I.ok.exfs L z hL
      exact ⟨hk, ⟨L, _, hf, hn, e, hd⟩, ih (fun b hb => hs b (by unfold frs; rw [List.filterMap_cons, hf]; exact List.mem_cons_of_mem _ hb)) hr⟩
  exact all X.outer (fun _ hb => hb) I.ok.funs

/-- the frames that run, for a call -/
theorem Inv.stack (I : Inv X pins σ H s) : s.heap.FunFrames X.base X.stack := by
  rcases I.ok.stk with e | ⟨e, hf⟩
  · rw [e]; exact I.funs
  · rw [e]
    obtain ⟨m, hn, _⟩ := I.loc
    refine .cons (by rw [I.ok.kind]; decide) hf hn ?_ I.funs
    exact Heap.get?_none_of_le (Nat.le_trans I.ok.bsz I.ok.above)
theorem Inv.stkSub (I : Inv X pins σ H s) : ∀ b ∈ frs X.stack, b ∈ X.env.locals :: X.fs := fun b hb => by
  rcases I.ok.stk with e | ⟨e, hf⟩
  · rw [e] at hb; exact List.mem_cons_of_mem _ hb
  · rw [e] at hb
    unfold frs at hb
    rw [List.filterMap_cons, hf] at hb
    exact hb
theorem Inv.stkFree (I : Inv X pins σ H s) : ∀ b ∈ frs X.stack, H b = none := fun b hb => by
  rcases List.mem_cons.mp (I.stkSub b hb) with e | hb
  · rw [e]; exact I.free
  · obtain ⟨_, o, ho, _⟩ := I.ok.funs.mem hb
    exact I.base.free b o ho (I.ok.frf b hb) fun z => I.ok.exfs b z hb

/-- THE STEP: the untracked objects but the frame and the records at ch are kept (the callers' frames up to slots), the frame's map is kept, the new abstract heap is held -/
theorem Inv.step {g' : Array GenState} {t' : Nat} {d' : Drawn} {ch : List Addr} (I : Inv X pins σ H s)
    (hch : ∀ b ∈ ch, (b ∈ X.ex ∨ X.s₀.heap.objs.size ≤ b) ∧ b ≠ X.env.locals ∧ (∀ x c, X.env.cells.lookup x = some c → c ≠ b) ∧ ∀ p ∈ X.pn ++ pins, p.1 ≠ b)
    (keep : ∀ b o, b ≠ X.env.locals → b ∉ X.fs → b ∉ ch → s.heap.get? b = some o → H b = none → h'.get? b = some o)
    (slot : ∀ b o, b ≠ X.env.locals → b ∈ X.fs → b ∉ ch → s.heap.get? b = some o → H b = none → ∃ sl, h'.get? b = some { o with slots := sl }) (free : ∀ b o, b ∉ ch → s.heap.get? b = some o → H b = none → H' b = none)
    (there : ∀ b o, b ∉ ch → s.heap.get? b = some o → ∃ o', h'.get? b = some o')
    (tups : ∀ b xs, H b = some (.tup xs) → H' b = some (.tup xs)) (frzs : ∀ b o u, H b = some (.frz o u) → H' b = some (.frz o u)) (tbls : ∀ b ps, H b = some (.tbl ps) → ∃ more, H' b = some (.tbl (ps ++ more)))
    (ns : ∀ m, s.heap.Ns X.env.locals m → h'.Ns X.env.locals m) (hok : HOk X.prog X.w H' h') (hg : AllBare g') :
    Inv X pins σ H' { s with heap := h', gens := g', drawn := d', toks := t' } := by
  have neL : ∀ b o, X.s₀.heap.get? b = some o → b ≠ X.env.locals := fun b o e => Nat.ne_of_lt (Nat.lt_of_lt_of_le (Heap.lt_size e) I.ok.above)
  have neC : ∀ b o, X.s₀.heap.get? b = some o → b ∉ X.ex → b ∉ ch := fun b o e hx hb => by
    rcases (hch b hb).1 with z | z
    · exact hx z
    · exact absurd (Nat.lt_of_lt_of_le (Heap.lt_size e) z) (Nat.lt_irrefl _)
  have cellK : ∀ x c, X.env.cells.lookup x = some c → ∀ v, s.heap.IsCell c v → h'.IsCell c v := fun x c e v ⟨o, ho, hd⟩ => by
    have nch : c ∉ ch := fun z => (hch c z).2.2.1 x c e rfl
    by_cases hc : c ∈ X.fs
    · obtain ⟨sl, q⟩ := slot c o (I.cne x c e) hc nch ho (I.freeC x c e)
      exact ⟨_, q, hd⟩
    · exact ⟨o, keep c o (I.cne x c e) hc nch ho (I.freeC x c e), hd⟩
  refine ⟨I.ok, I.os, hg, ⟨fun b o e n hb hx => ?_, fun b o e n hb hx => ?_, fun b o e n hx => ?_, fun b o e hx => ?_, fun b xs e => tups b xs (I.base.tups b xs e), fun b o xs e => frzs b o xs (I.base.frzs b o xs e), fun b ps e => ?_⟩, ?_, fun x c e => ?_, ?_, fun x c e => ?_, fun p hp => ?_, hok, I.len⟩
  · exact keep b o (neL b o e) hb (neC b o e hx) (I.base.keep b o e n hb hx) (I.base.free b o e n hx)
  · obtain ⟨sl, e1⟩ := I.base.slot b o e n hb hx
    obtain ⟨sl', e2⟩ := slot b _ (neL b o e) hb (neC b o e hx) e1 (I.base.free b o e n hx)
    exact ⟨sl', e2⟩
  · obtain ⟨o', e1⟩ := I.base.there b o e hx
    exact free b o' (neC b o e hx) e1 (I.base.free b o e n hx)
  · obtain ⟨o', e1⟩ := I.base.there b o e hx
    exact there b o' (neC b o e hx) e1
  · obtain ⟨m1, e1⟩ := I.base.tbls b ps e
    obtain ⟨m2, e2⟩ := tbls b _ e1
    exact ⟨m1 ++ m2, by rw [e2, Array.append_assoc]⟩
  · obtain ⟨m, hn, hl⟩ := I.loc
    refine ⟨m, ns m hn, fun i x v e1 e2 e3 => ?_⟩
    obtain ⟨u, r, l⟩ := hl i x v e1 e2 e3
    refine ⟨u, r, ?_⟩
    rcases l with l | ⟨k, c, e, z⟩
    · exact .inl l
    · exact .inr ⟨k, c, e, cellK x c e _ z⟩
  · obtain ⟨v, z⟩ := I.cell x c e
    exact ⟨v, cellK x c e v z⟩
  · obtain ⟨m, ⟨o, _, _, ho, _⟩, _⟩ := I.loc
    exact free _ o (fun z => (hch _ z).2.1 rfl) ho I.free
  · obtain ⟨v, o, ho, hd⟩ := I.cell x c e
    exact free c o (fun z => (hch c z).2.2.1 x c e rfl) ho (I.freeC x c e)
  · obtain ⟨e, n, ne, nf, d⟩ := I.pin p hp
    have nch : p.1 ∉ ch := fun z => (hch p.1 z).2.2.2 p hp rfl
    exact ⟨keep p.1 p.2 ne nf nch e n, free p.1 p.2 nch e n, ne, nf, d⟩
/-- .. where the frame's own object is kept too -/
theorem Inv.un {t' : Nat} (I : Inv X pins σ H s) (u : Un X.fs [] H H' s.heap h') (hok : HOk X.prog X.w H' h') : Inv X pins σ H' { s with heap := h', toks := t' } := by
  obtain ⟨m, ⟨o, es, ep, ho, r⟩, _⟩ := id I.loc
  obtain ⟨sl, hL⟩ := u.any ho I.free (by simp)
  exact I.step (g' := s.gens) (d' := s.drawn) (ch := []) (fun _ z => nomatch z) (fun b o _ hb _ e n => u.keep b o e n hb (by simp)) (fun b o _ hb _ e n => u.slot b o e n hb (by simp)) (fun b o _ e n => u.free b o e n (by simp)) (fun b o _ e => u.there b o e (by simp)) u.tups u.frzs u.tbls (fun m' hm => by
    obtain ⟨o', es', ep', ho', r'⟩ := hm
    rw [ho] at ho'; cases ho'
    exact ⟨_, es', ep', hL, r'⟩) hok I.bare
/-- behind a call (or a comprehension's block): the slots of this frame may have changed too, the records at ch may have turned -/
theorem Inv.call {g' : Array GenState} {t' : Nat} {d' : Drawn} {ch : List Addr} (I : Inv X pins σ H s) (u : Un (frs X.stack) ch H H' s.heap h') (hok : HOk X.prog X.w H' h') (hg : AllBare g')
    (hch : ∀ b ∈ ch, (b ∈ X.ex ∨ X.s₀.heap.objs.size ≤ b) ∧ b ≠ X.env.locals ∧ (∀ x c, X.env.cells.lookup x = some c → c ≠ b) ∧ ∀ p ∈ X.pn ++ pins, p.1 ≠ b) :
    Inv X pins σ H' { s with heap := h', gens := g', drawn := d', toks := t' } := by
  obtain ⟨m, ⟨o, es, ep, ho, r⟩, _⟩ := id I.loc
  obtain ⟨sl, hL⟩ := u.any ho I.free fun z => (hch _ z).2.1 rfl
  exact I.step (ch := ch) hch (fun b o hL hb hc e n => u.keep b o e n (fun z => (List.mem_cons.mp (I.stkSub b z)).elim hL hb) hc) (fun b o _ _ hc e n => u.any e n hc) (fun b o hc e n => u.free b o e n hc) (fun b o hc e => u.there b o e hc) u.tups u.frzs u.tbls (fun m' hm => by
    obtain ⟨o', es', ep', ho', r'⟩ := hm
    rw [ho] at ho'; cases ho'
    exact ⟨_, es', ep', hL, r'⟩) hok hg
/-- an untracked record of ours (an iterator) has turned -/
theorem Inv.turned {t' : Nat} {it : Addr} (I : Inv X pins σ H s) (k : ∀ b o, b ≠ it → s.heap.get? b = some o → h'.get? b = some o) (hn : H it = none) (hL : it ≠ X.env.locals)
    (h1 : it ∈ X.ex ∨ X.s₀.heap.objs.size ≤ it) (h2 : ∀ x c, X.env.cells.lookup x = some c → c ≠ it) (h3 : ∀ p ∈ X.pn ++ pins, p.1 ≠ it) : Inv X pins σ H { s with heap := h', toks := t' } := by
  have nit : ∀ b u, H b = some u → b ≠ it := fun b u e z => by rw [z, hn] at e; cases e
  refine I.step (g' := s.gens) (d' := s.drawn) (ch := [it]) (fun b hb => ?_) (fun b o _ _ hc e _ => k b o (fun z => hc (by simp [z])) e) (fun b o _ _ hc e _ => ⟨o.slots, k b o (fun z => hc (by simp [z])) e⟩) (fun _ _ _ _ n => n)
    (fun b o hc e => ⟨o, k b o (fun z => hc (by simp [z])) e⟩) (fun _ _ e => e) (fun _ _ _ e => e) (fun b ps e => ⟨#[], by rw [e]; simp⟩) (fun m hm => ?_) (fun b u e => ?_) I.bare
  · have e : b = it := by simpa using hb
    subst e
    exact ⟨h1, hL, h2, h3⟩
  · obtain ⟨o, es, ep, ho, r⟩ := hm
    exact ⟨o, es, ep, k _ o (Ne.symm hL) ho, r⟩
  · refine (I.hok b u e).stay (fun c v hc q => k c v ?_ q) (fun _ q => q) fun _ _ q => q
    rcases hc with z | z
    · rw [z]; exact nit b u e
    · exact nit c _ z
theorem Inv.tok (I : Inv X pins σ H s) (t : Nat) : Inv X pins σ H { s with toks := t } := I.un (h' := s.heap) (t' := t) Un.refl I.hok
/-- all objects kept -/
theorem Inv.kept {t' : Nat} (I : Inv X pins σ H s) (k : ∀ b u, s.heap.get? b = some u → h'.get? b = some u) : Inv X pins σ H { s with heap := h', toks := t' } := I.un (Un.kept k) (I.hok.kept k)
/-- a new object laid and tracked -/
theorem Inv.laid {a : Addr} {o : HO} {t' : Nat} (I : Inv X pins σ H s) (k : ∀ b u, s.heap.get? b = some u → h'.get? b = some u) (hp : s.heap.objs.size ≤ a) (new : ObjOk X.prog X.w (upd H a o) h' a o) :
    Inv X pins σ (upd H a o) { s with heap := h', toks := t' } := I.un (Un.laid k hp (I.hok.fresh hp)) (I.hok.laid k hp new)
/-- an object written -/
theorem Inv.write {x e : Addr} {o : HO} {t' : Nat} (I : Inv X pins σ H s) (mu : Mut (H x)) (he : e = x ∨ H e = some (.own x)) (k : ∀ b u, b ≠ e → s.heap.get? b = some u → h'.get? b = some u) (heo : ∃ u, h'.get? e = some u)
    (new : ObjOk X.prog X.w (upd H x o) h' x o) : Inv X pins σ (upd H x o) { s with heap := h', toks := t' } := I.un (Un.write mu he k heo) (I.hok.write mu he k heo new)
theorem Inv.pins_of {pins' : List (Addr × Obj)} (I : Inv X pins σ H s) (h : ∀ p ∈ pins', s.heap.get? p.1 = some p.2 ∧ H p.1 = none ∧ p.1 ≠ X.env.locals ∧ p.1 ∉ X.fs ∧ ∀ v, p.2.data ≠ .cell v) : Inv X pins' σ H s :=
  ⟨I.ok, I.os, I.bare, I.base, I.loc, I.cell, I.free, I.freeC, fun p hp => (List.mem_append.mp hp).elim (fun z => I.pin p (List.mem_append_left _ z)) (h p), I.hok, I.len⟩

theorem nodup_ix {N : List Str} (hN : N.Nodup) {i j : Nat} {x : Str} (a : N[i]? = some x) (b : N[j]? = some x) : i = j := by
  obtain ⟨h1, e1⟩ := List.getElem?_eq_some_iff.mp a
  obtain ⟨h2, e2⟩ := List.getElem?_eq_some_iff.mp b
  exact (List.getElem_inj hN).mp (e1.trans e2.symm)

/-- a name is stored; what changed -/
theorem store_ok2 {M : Model} {A : Around} {E : Value → Shared → Prop} {i : Nat} {x : Str} {v : V} {u : Value} {Q : Unit → Shared → Prop} (I : Inv X pins σ H s) (hN : X.N.Nodup) (hi : X.N[i]? = some x) (hx : Loc X.env.scope x) (r : RelV v u)
    (h : ∀ s', Inv X pins (σ.set i (some v)) H s' → (∃ a, Heap.SameBut a s.heap s'.heap ∧ (a = X.env.locals ∨ X.env.cells.lookup x = some a)) → Q () s') (hf : X.fn x = true ∨ X.env.scope.names.lookup x = some .local := by first | exact .inl rfl | exact .inr rfl | assumption) : wpAny M A (storeName X.env x u) Q E s := by
  obtain ⟨m, hn, hl⟩ := id I.loc
  have hcls : (X.env.scope.kind == .class || (X.env.scope.kind == .module && X.env.locals != X.env.globals)) = false := by rw [I.ok.kind]; rfl
  have hiσ : i < σ.length := by rw [I.len]; exact (List.getElem?_eq_some_iff.mp hi).1
  have cne := I.cne
  have tracked : ∀ {a : Addr} {h' : Heap}, (∃ o, s.heap.get? a = some o ∧ H a = none) → Heap.SameBut a s.heap h' → HOk X.prog X.w H h' := fun {a h'} ha hs b ob e => by
    obtain ⟨_, _, hfree⟩ := ha
    refine (I.hok b ob e).stay (fun c w' hc q => (hs.2 c ?_).trans q) (fun _ q => q) fun _ _ q => q
    rintro rfl
    rcases hc with rfl | hc
    · rw [hfree] at e; cases e
    · rw [hfree] at hc; cases hc
  rcases hx with hk | hk
  · refine wpAny_storeName_local hk hn (fun h' hn' hs => ?_) hcls
    obtain ⟨oL, _, _, hoL, _⟩ := id hn
    refine h _ ⟨I.ok, I.os, I.bare, ⟨fun b o e n hb hx => ?_, fun b o e n hb hx => ?_, I.base.free, fun b o e hx => ?_, I.base.tups, I.base.frzs, I.base.tbls⟩, ⟨_, hn', fun j y v' e1 e2 e3 => ?_⟩, fun y c e => ?_, I.free, I.freeC, fun p hp => ?_, tracked ⟨oL, hoL, I.free⟩ hs, by simpa using I.len⟩ ⟨_, hs, .inl rfl⟩
    · exact (hs.2 b (Nat.ne_of_lt (Nat.lt_of_lt_of_le (Heap.lt_size e) I.ok.above))).trans (I.base.keep b o e n hb hx)
    · obtain ⟨sl, e1⟩ := I.base.slot b o e n hb hx
      exact ⟨sl, (hs.2 b (Nat.ne_of_lt (Nat.lt_of_lt_of_le (Heap.lt_size e) I.ok.above))).trans e1⟩
    · obtain ⟨o', e1⟩ := I.base.there b o e hx
      exact ⟨o', (hs.2 b (Nat.ne_of_lt (Nat.lt_of_lt_of_le (Heap.lt_size e) I.ok.above))).trans e1⟩
    · by_cases hj : j = i
      · subst hj
        rw [hi] at e1; cases e1
        rw [List.getElem?_set_self hiσ] at e2
        cases e2
        exact ⟨u, r, .inl ⟨hk, by simp⟩⟩
      · rw [List.getElem?_set_ne (Ne.symm hj)] at e2
        obtain ⟨u', r', q⟩ := hl j y v' e1 e2 e3
        refine ⟨u', r', ?_⟩
        rcases q with ⟨k, e⟩ | ⟨k, c, e, z⟩
        · refine .inl ⟨k, ?_⟩
          have : y ≠ x := fun e => hj (nodup_ix hN e1 (e ▸ hi))
          simp [this, e]
        · exact .inr ⟨k, c, e, z.sameBut hs (cne y c e)⟩
    · obtain ⟨w', z⟩ := I.cell y c e
      exact ⟨w', z.sameBut hs (cne y c e)⟩
    · obtain ⟨e, n, ne, nf, d⟩ := I.pin p hp
      exact ⟨(hs.2 p.1 ne).trans e, n, ne, nf, d⟩
  · have hfn : X.fn x = true := by
      rcases hf with z | z
      · exact z
      · rw [z] at hk; cases hk
    obtain ⟨c, hc⟩ := I.ok.has x (.inl hk)
    obtain ⟨w', z⟩ := I.cell x c hc
    refine wpAny_storeName_cell I.ok.kind hk hc z (fun h' hc' hs => ?_)
    obtain ⟨oc, hoc, hocd⟩ := id z
    refine h { s with heap := h' } ⟨I.ok, I.os, I.bare, ⟨fun b o e n hb hx => ?_, fun b o e n hb hx => ?_, I.base.free, fun b o e hx => ?_, I.base.tups, I.base.frzs, I.base.tbls⟩, ⟨m, hn.sameBut hs (Ne.symm (cne x c hc)), fun j y v' e1 e2 e3 => ?_⟩, fun y c' e => ?_, I.free, I.freeC, fun p hp => ?_, tracked ⟨oc, hoc, I.freeC x c hc⟩ hs, by simpa using I.len⟩ ⟨c, hs, .inr hc⟩
    · exact (hs.2 b (Nat.ne_of_lt (Nat.lt_of_lt_of_le (Heap.lt_size e) (I.ok.cab x c hfn hc)))).trans (I.base.keep b o e n hb hx)
    · obtain ⟨sl, e1⟩ := I.base.slot b o e n hb hx
      exact ⟨sl, (hs.2 b (Nat.ne_of_lt (Nat.lt_of_lt_of_le (Heap.lt_size e) (I.ok.cab x c hfn hc)))).trans e1⟩
    · obtain ⟨o', e1⟩ := I.base.there b o e hx
      exact ⟨o', (hs.2 b (Nat.ne_of_lt (Nat.lt_of_lt_of_le (Heap.lt_size e) (I.ok.cab x c hfn hc)))).trans e1⟩
    · by_cases hj : j = i
      · subst hj
        rw [hi] at e1; cases e1
        rw [List.getElem?_set_self hiσ] at e2
        cases e2
        exact ⟨u, r, .inr ⟨.inl hk, c, hc, hc'⟩⟩
      · rw [List.getElem?_set_ne (Ne.symm hj)] at e2
        obtain ⟨u', r', q⟩ := hl j y v' e1 e2 e3
        refine ⟨u', r', ?_⟩
        rcases q with q | ⟨k, c', e, z'⟩
        · exact .inl q
        · refine .inr ⟨k, c', e, z'.sameBut hs ?_⟩
          rintro rfl
          exact hj (nodup_ix hN e1 (I.ok.inj _ _ _ e hc ▸ hi))
    · by_cases hcc : c' = c
      · subst hcc; exact ⟨_, hc'⟩
      · obtain ⟨w2, z2⟩ := I.cell y c' e
        exact ⟨w2, z2.sameBut hs hcc⟩
    · obtain ⟨e, n, ne, nf, d⟩ := I.pin p hp
      refine ⟨(hs.2 p.1 ?_).trans e, n, ne, nf, d⟩
      intro q
      rw [q, hoc] at e
      have q' : oc = p.2 := Option.some.inj e
      exact d w' (by rw [← q']; exact hocd)
theorem store_ok {M : Model} {A : Around} {E : Value → Shared → Prop} {i : Nat} {x : Str} {v : V} {u : Value} {Q : Unit → Shared → Prop} (I : Inv X pins σ H s) (hN : X.N.Nodup) (hi : X.N[i]? = some x) (hx : Loc X.env.scope x) (r : RelV v u)
    (h : ∀ s', Inv X pins (σ.set i (some v)) H s' → Q () s') (hf : X.fn x = true ∨ X.env.scope.names.lookup x = some .local := by first | exact .inl rfl | exact .inr rfl | assumption) : wpAny M A (storeName X.env x u) Q E s :=
  store_ok2 I hN hi hx r (fun s' I' _ => h s' I') hf
/-- behind a call or a block, the state as it is -/
theorem Inv.call' {s' : Shared} {ch : List Addr} (I : Inv X pins σ H s) (ho : s'.os = s.os) (u : Un (frs X.stack) ch H H' s.heap s'.heap) (hok : HOk X.prog X.w H' s'.heap) (hg : AllBare s'.gens)
    (hch : ∀ b ∈ ch, (b ∈ X.ex ∨ X.s₀.heap.objs.size ≤ b) ∧ b ≠ X.env.locals ∧ (∀ x c, X.env.cells.lookup x = some c → c ≠ b) ∧ ∀ p ∈ X.pn ++ pins, p.1 ≠ b) : Inv X pins σ H' s' := by
  obtain ⟨h', g', d', t', o'⟩ := s'
  have e : o' = s.os := ho
  subst e
  exact I.call (g' := g') (t' := t') (d' := d') u hok hg hch
end

/-- an exception: its class, its own dict's address (where it has one), the abstract heap behind it -/
abbrev XK := Value → Option Addr → Hp → Prop
abbrev St := List (Option V)
abbrev VK := V → Hp → Prop
/-- an expression's reading; a test's; an argument list's -/
abbrev TE := St → Hp → VK → Prop
abbrev TT := St → Hp → (Bool → Hp → Prop) → Prop
abbrev TA := St → Hp → (List V → Hp → Prop) → Prop
/-- what is wanted behind a statement -/
structure Ends where
  nx : St → Hp → Prop
  rt : VK
  bk : St → Hp → Prop := fun _ _ => False
  ct : St → Hp → Prop := fun _ _ => False
abbrev TS := Ends → St → Hp → Prop

def EP (X : Cx) (pins : List (Addr × Obj)) (σ : St) (Q : VK) (u : Value) (s' : Shared) : Prop := ∃ v H', Inv X pins σ H' s' ∧ RelV v u ∧ Q v H'
def TP (X : Cx) (pins : List (Addr × Obj)) (σ : St) (Q : Bool → Hp → Prop) (b : Bool) (s' : Shared) : Prop := ∃ H', Inv X pins σ H' s' ∧ Q b H'
def AP (X : Cx) (pins : List (Addr × Obj)) (σ : St) (Q : List V → Hp → Prop) (us : List Value) (s' : Shared) : Prop := ∃ vs H', Inv X pins σ H' s' ∧ Vals vs us ∧ Q vs H'
def SP (X : Cx) (pins : List (Addr × Obj)) (D : Ends) (f : Flow) (s' : Shared) : Prop :=
  match f with
  | .next => ∃ σ' H', Inv X pins σ' H' s' ∧ D.nx σ' H'
  | .brk => ∃ σ' H', Inv X pins σ' H' s' ∧ D.bk σ' H'
  | .cont => ∃ σ' H', Inv X pins σ' H' s' ∧ D.ct σ' H'
  | .ret u => ∃ v σ' H', Inv X pins σ' H' s' ∧ RelV v u ∧ D.rt v H'

def PE (X : Cx) (e : Expr) (t : TE) : Prop :=
  ∀ (pins : List (Addr × Obj)) (s : Shared) (σ : St) (H : Hp) (Q : VK), Inv X pins σ H s → t σ H Q → wpAny (model X.prog X.w) X.A (eval e X.env) (EP X pins σ Q) X.xe s
def PT (X : Cx) (e : Expr) (t : TT) : Prop :=
  ∀ (pins : List (Addr × Obj)) (s : Shared) (σ : St) (H : Hp) (Q : Bool → Hp → Prop), Inv X pins σ H s → t σ H Q → wpAny (model X.prog X.w) X.A (isTrue e X.env (eval e X.env)) (TP X pins σ Q) X.xe s
/-- a test whatever its 'whole' is (and, or) -/
def PW (X : Cx) (e : Expr) (t : TT) : Prop :=
  ∀ (whole : Sem Value) (pins : List (Addr × Obj)) (s : Shared) (σ : St) (H : Hp) (Q : Bool → Hp → Prop), Inv X pins σ H s → t σ H Q → wpAny (model X.prog X.w) X.A (isTrue e X.env whole) (TP X pins σ Q) X.xe s
theorem PW.pt {X : Cx} {e : Expr} {t : TT} (h : PW X e t) : PT X e t := h _
/-- an argument list (no star), from the left -/
def PA (X : Cx) (es : List Expr) (t : TA) : Prop :=
  ∀ (pos : Pos) (pins : List (Addr × Obj)) (s : Shared) (σ : St) (H : Hp) (Q : List V → Hp → Prop), Inv X pins σ H s → t σ H Q → wpAny (model X.prog X.w) X.A (spliced (backTo pos (starEach es X.env))) (AP X pins σ Q) X.xe s
def PS (X : Cx) (st : Stmt) (t : TS) : Prop :=
  ∀ (pins : List (Addr × Obj)) (s : Shared) (σ : St) (H : Hp) (D : Ends), Inv X pins σ H s → t D σ H → wpAny (model X.prog X.w) X.A (exec st X.env) (SP X pins D) X.xe s
def PSs (X : Cx) (st : List Stmt) (t : TS) : Prop :=
  ∀ (pins : List (Addr × Obj)) (s : Shared) (σ : St) (H : Hp) (D : Ends), Inv X pins σ H s → t D σ H → wpAny (model X.prog X.w) X.A (execs st X.env) (SP X pins D) X.xe s
/-- weaken the end -/
theorem thn {α : Type} {t : Sem α} {Q Q' : α → Shared → Prop} {M : Model} {A : Around} {E : Value → Shared → Prop} {s : Shared} (h : wpAny M A t Q E s) (hQ : ∀ a s, Q a s → Q' a s) : wpAny M A t Q' E s := wpAny_mono h hQ fun _ _ x => x
end L2

namespace L2
open PySem PySem.Spec PyProof.Rows
section
variable {X : Cx}

def tVar (i : Nat) : TE := fun σ H Q => ∃ v, σ[i]? = some (some v) ∧ Q v H
def tC (v : V) : TE := fun _ H Q => Q v H
theorem pe_var {i : Nat} {x : Str} {pos : Pos} (hN : X.N[i]? = some x) (hv : Vis X.env.scope x) (hd : (x == ("__debug__" : Str)) = false := by decide) (hcd : (x == ("__classdict__" : Str)) = false := by decide) : PE X (.Name x pos) (tVar i) := by
  intro pins s σ H Q I h
  obtain ⟨v, e, h⟩ := h
  obtain ⟨m, hn, hl⟩ := I.loc
  obtain ⟨u, r, l⟩ := hl i x v hN e hv
  have fin : EP X pins σ Q u s := ⟨v, H, I, r, h⟩
  rcases l with ⟨hk, hm⟩ | ⟨hk, c, hc, hcell⟩
  · exact wpAny_Name (wpAny_loadName_local I.ok.kind hk hn hm fin) hd
  · rcases hk with hk | hk
    · exact wpAny_Name (wpAny_loadName_cell I.ok.kind hk hc hcell fin) hd
    · exact wpAny_Name (wpAny_loadName_free I.ok.kind hk hc hcell fin hcd) hd
theorem pe_int {i j pos} : PE X (.Constant (.int i) j pos) (tC (.int i)) := fun _ _ _ H _ I h => wpAny_Constant_int ⟨.int i, H, I.tok _, ⟨_, rfl⟩, h⟩
theorem pe_bl {b j pos} : PE X (.Constant (.bool b) j pos) (tC (.bl b)) := fun _ _ _ H _ I h => Constant_bool ⟨.bl b, H, I, rfl, h⟩
theorem pe_non {j pos} : PE X (.Constant .none j pos) (tC .non) := fun _ _ _ H _ I h => Constant_none ⟨.non, H, I, rfl, h⟩
theorem pe_str {x j pos} : PE X (.Constant (.str x) j pos) (tC (.str x)) := fun _ _ _ H _ I h => Calls.Constant_str ⟨.str x, H, I.tok _, ⟨_, rfl⟩, h⟩

/-- a global name of the def -/
def Gl (X : Cx) (x : Str) : Prop := X.env.kindOf x = some .globalImplicit
theorem ld_glob {E : Value → Shared → Prop} {pins : List (Addr × Obj)} {s : Shared} {σ : St} {H : Hp} {x : Str} {u : Value} {pos : Pos} {Q : Value → Shared → Prop} (I : Inv X pins σ H s) (hg : Gl X x) (hm : X.mg x = some u) (h : Q u s)
    (hd : (x == ("__debug__" : Str)) = false := by decide) : wpAny (model X.prog X.w) X.A (eval (.Name x pos) X.env) Q E s :=
  Calls.Name_function_global I.ok.kind hg (Calls.loadGlobal_global (by rw [I.ok.glob]; exact I.mod.glob.keeps I.bk) hm h) hd
theorem ld_blt {E : Value → Shared → Prop} {pins : List (Addr × Obj)} {s : Shared} {σ : St} {H : Hp} {x : Str} {u : Value} {pos : Pos} {Q : Value → Shared → Prop} (I : Inv X pins σ H s) (hg : Gl X x) (hm : X.mg x = none) (hv : bootBuiltins x = some u) (h : Q u s)
    (hn : x ≠ "__name__" := by decide) (hd : (x == ("__debug__" : Str)) = false := by decide) : wpAny (model X.prog X.w) X.A (eval (.Name x pos) X.env) Q E s := by
  obtain ⟨mb, h1, h2⟩ := I.mod.blt
  exact Calls.Name_function_global I.ok.kind hg (Calls.loadGlobal_builtin (by rw [I.ok.glob]; exact I.mod.glob.keeps I.bk) hm (by rw [I.ok.blt]; exact h1.keeps I.bk) ((h2 x hn).trans hv) h) hd
/-- a module's constant, a class, a function, as a value -/
theorem pe_glob {x : Str} {v : V} {u : Value} {pos : Pos} (hg : Gl X x) (hm : X.mg x = some u) (r : RelV v u) (hd : (x == ("__debug__" : Str)) = false := by decide) : PE X (.Name x pos) (tC v) :=
  fun _ _ _ H _ I h => ld_glob I hg hm ⟨v, H, I, r, h⟩ hd
theorem pe_bltn {x : Str} {v : V} {u : Value} {pos : Pos} (hg : Gl X x) (hm : X.mg x = none) (hv : bootBuiltins x = some u) (r : RelV v u) (hn : x ≠ "__name__" := by decide) (hd : (x == ("__debug__" : Str)) = false := by decide) : PE X (.Name x pos) (tC v) :=
  fun _ _ _ H _ I h => ld_blt I hg hm hv ⟨v, H, I, r, h⟩ hn hd

variable {a b : Expr} {ta tb : TE} {pos : Pos}
/-- a comparison as a value, as a test -/
def tB (t : TE) : TT := fun σ H Q => t σ H fun x H1 => ∃ c, x = .bl c ∧ Q c H1
/-- an expression whose value is a bool, as a test -/
theorem pt_val {e : Expr} {t : TE} (h : PE X e t) (he : ∀ whole, isTrue e X.env whole = (do let v ← whole; standAt e.pos; holding [v] (truthy v)) := by intro _; rfl) : PT X e (tB t) := by
  intro pins s σ H Q I hw
  refine isTrue_plain (thn (h pins s σ H _ I hw) fun v s1 ⟨x, H1, I1, r1, q1⟩ => ?_) (he _)
  obtain ⟨d, rfl, q⟩ := q1
  cases r1
  exact wpAny_truthy_bool ⟨H1, I1, q⟩

variable {tA tB' : TT} {rest : List Expr}
def tOr (t u : TT) : TT := fun σ H Q => t σ H fun c H1 => if c = true then Q true H1 else u σ H1 Q
def tNot (t : TT) : TT := fun σ H Q => t σ H fun c H1 => Q (!c) H1
theorem pw_or1 (ha : PT X a tA) : PW X (.BoolOp .Or [a] pos) tA := by
  intro wh pins s σ H Q I h
  refine isTrue_or (thn (ha pins s σ H Q I h) fun c s1 e => ?_)
  cases c with
  | false => exact isTrue_or_nil e
  | true => exact e
theorem pw_or (ha : PT X a tA) (hb : PW X (.BoolOp .Or (b :: rest) pos) tB') : PW X (.BoolOp .Or (a :: b :: rest) pos) (tOr tA tB') := by
  intro wh pins s σ H Q I h
  refine isTrue_or (thn (ha pins s σ H _ I h) fun c s1 ⟨H1, I1, q1⟩ => ?_)
  cases c with
  | true => exact ⟨H1, I1, q1⟩
  | false => exact hb wh pins s1 σ H1 Q I1 q1
theorem pt_not (ha : PT X a tA) : PT X (.UnaryOp .Not a pos) (tNot tA) := by
  intro pins s σ H Q I h
  exact isTrue_not (ha pins s σ H (fun c H1 => Q (!c) H1) I h)
/-- .. as values (bools) -/
def tAndV (ta tb : TE) : TE := fun σ H Q => ta σ H fun x H1 => ∃ c, x = .bl c ∧ if c = true then tb σ H1 Q else Q (.bl false) H1
theorem pe_one {op} {t : TE} (h : PE X a t) : PE X (.BoolOp op [a] pos) t := fun pins s σ H Q I hw => BoolOp_one (h pins s σ H Q I hw)
theorem pe_and (ha : PE X a ta) (hb : PE X (.BoolOp .And (b :: rest) pos) tb) : PE X (.BoolOp .And (a :: b :: rest) pos) (tAndV ta tb) := by
  intro pins s σ H Q I h
  refine BoolOp_and (thn (ha pins s σ H _ I h) fun v s1 ⟨x, H1, I1, r1, q1⟩ => ?_)
  obtain ⟨c, rfl, q1⟩ := q1
  cases r1
  refine wpAny_truthy_bool ?_
  cases c with
  | true => exact hb pins s1 σ H1 Q I1 q1
  | false => exact ⟨.bl false, H1, I1, rfl, q1⟩
end
end L2

namespace L2
open PySem PySem.Spec PyProof.Rows

def SqL (K : PySem.W.Frag) (H : Hp) (a : Addr) (xs : List V) : Prop :=
  Rd H a (.lst xs) ∨
    ∃ (o : Obj) (its : Array Value) (n : Nat), K.lookup a = some o ∧ o.cls = .type "list" ∧ o.dict = none ∧ o.data = .seq its n ∧ its.size ≤ sizeLine ∧ Vals xs its.toList
def SqT (K : PySem.W.Frag) (H : Hp) (a : Addr) (xs : List V) : Prop :=
  Rd H a (.tup xs) ∨
    ∃ (o : Obj) (its : Array Value) (n : Nat), K.lookup a = some o ∧ o.cls = .type "tuple" ∧ o.data = .seq its n ∧ its.size ≤ sizeLine ∧ Vals xs its.toList
def absV : Value → Option V
  | .none => some .non
  | .bool b => some (.bl b)
  | .int i _ => some (.int i)
  | .str x _ => some (.str x)
  | .bytes b _ => some (.byt b)
  | .float b _ => some (.flt b)
  | .ref a => some (.ref a)
  | .type n => some (.ty n)
  | _ => none
theorem RelV.abs {x : V} {u : Value} (r : RelV x u) : absV u = some x := by
  cases x with
  | non => cases r; rfl
  | bl _ => cases r; rfl
  | int _ => obtain ⟨t, rfl⟩ := r; rfl
  | str _ => obtain ⟨t, rfl⟩ := r; rfl
  | byt _ => obtain ⟨t, rfl⟩ := r; rfl
  | flt _ => obtain ⟨t, rfl⟩ := r; rfl
  | ref _ => cases r; rfl
  | ty _ => cases r; rfl
theorem RelV.inj {x y : V} {u : Value} (r : RelV x u) (q : RelV y u) : x = y := Option.some.inj (r.abs.symm.trans q.abs)
theorem Vals.inj : ∀ {xs ys : List V} {us : List Value}, Vals xs us → Vals ys us → xs = ys
  | _, _, _, .nil, .nil => rfl
  | _, _, _, .cons r t, .cons r' t' => by rw [r.inj r', Vals.inj t t']
section
variable {X : Cx} {pins : List (Addr × Obj)} {σ : St} {H : Hp} {s : Shared} {a : Addr} {xs ys : List V}
theorem SqL.of {K : PySem.W.Frag} (h : H a = some (.lst xs)) : SqL K H a xs := .inl (.inl h)
theorem SqT.of {K : PySem.W.Frag} (h : H a = some (.tup xs)) : SqT K H a xs := .inl (.inl h)
theorem Inv.list (I : Inv X pins σ H s) (h : SqL X.K H a xs) : ∃ its : List Value, Vals xs its ∧ PlainL s.heap a its.toArray ∧ xs.length ≤ sizeLine := by
  rcases h with h | ⟨o, its, n, hk, hc, hd, hs, hz, r⟩
  · obtain ⟨z, its, n, r, e⟩ := h.ok I.hok
    exact ⟨its, r, ⟨_, n, e, rfl, rfl, rfl⟩, z⟩
  · refine ⟨its.toList, r, ⟨o, n, I.kIn a o hk, hc, hd, by simpa using hs⟩, ?_⟩
    have e := r.length
    simp only [Array.length_toList] at e
    first | lia | omega
theorem Inv.tuple (I : Inv X pins σ H s) (h : SqT X.K H a xs) : ∃ its : List Value, Vals xs its ∧ IsTup s.heap a its.toArray ∧ xs.length ≤ sizeLine := by
  rcases h with h | ⟨o, its, n, hk, hc, hs, hz, r⟩
  · obtain ⟨z, its, r, p⟩ := h.ok I.hok
    exact ⟨its, r, p, z⟩
  · refine ⟨its.toList, r, ⟨o, I.kIn a o hk, hc, n, by simpa using hs⟩, ?_⟩
    have e := r.length
    simp only [Array.length_toList] at e
    first | lia | omega
theorem Inv.list_inj (I : Inv X pins σ H s) (h : SqL X.K H a xs) (h' : SqL X.K H a ys) : xs = ys := by
  obtain ⟨its, r, ⟨o, n, e, _, _, d⟩, _⟩ := I.list h
  obtain ⟨its', r', ⟨o', n', e', _, _, d'⟩, _⟩ := I.list h'
  rw [e] at e'; cases e'
  rw [d] at d'
  injection d' with d1 _
  have : its = its' := by simpa using congrArg Array.toList d1
  subst this
  exact r.inj r'
theorem Inv.tuple_inj (I : Inv X pins σ H s) (h : SqT X.K H a xs) (h' : SqT X.K H a ys) : xs = ys := by
  obtain ⟨its, r, ⟨o, e, _, n, d⟩, _⟩ := I.tuple h
  obtain ⟨its', r', ⟨o', e', _, n', d'⟩, _⟩ := I.tuple h'
  rw [e] at e'; cases e'
  rw [d] at d'
  injection d' with d1 _
  have : its = its' := by simpa using congrArg Array.toList d1
  subst this
  exact r.inj r'
end

abbrev Cx.wish (X : Cx) (E : Value → Shared → Prop) : Cx := { X with xe := E }
/-- no exception leaves -/
abbrev Cx.nox (X : Cx) : Cx := X.wish fun _ _ => False
theorem Cx.Ok.wish {X : Cx} (ok : X.Ok) (E : Value → Shared → Prop) : (X.wish E).Ok :=
  ⟨ok.mod, ok.kind, ok.glob, ok.blt, ok.above, ok.inj, ok.has, ok.cab, ok.hd, ok.frames, ok.stk, ok.exf, ok.bs, ok.bsz, ok.noex, ok.exfs, ok.funs, ok.frf⟩
theorem Cx.Ok.unwish {X : Cx} {E : Value → Shared → Prop} (ok : (X.wish E).Ok) : X.Ok :=
  ⟨ok.mod, ok.kind, ok.glob, ok.blt, ok.above, ok.inj, ok.has, ok.cab, ok.hd, ok.frames, ok.stk, ok.exf, ok.bs, ok.bsz, ok.noex, ok.exfs, ok.funs, ok.frf⟩
section
variable {X : Cx} {pins : List (Addr × Obj)} {σ : St} {H : Hp} {s : Shared} {E : Value → Shared → Prop}
theorem Inv.wish (I : Inv X pins σ H s) (E : Value → Shared → Prop) : Inv (X.wish E) pins σ H s := ⟨I.ok.wish E, I.os, I.bare, I.base, I.loc, I.cell, I.free, I.freeC, I.pin, I.hok, I.len⟩
theorem Inv.unwish (I : Inv (X.wish E) pins σ H s) : Inv X pins σ H s := ⟨I.ok.unwish, I.os, I.bare, I.base, I.loc, I.cell, I.free, I.freeC, I.pin, I.hok, I.len⟩
theorem SP.unwish {D : Ends} {f : Flow} {s' : Shared} (h : SP (X.wish E) pins D f s') : SP X pins D f s' := by
  cases f with
  | next => obtain ⟨σ', H', I, q⟩ := h; exact ⟨σ', H', I.unwish, q⟩
  | brk => obtain ⟨σ', H', I, q⟩ := h; exact ⟨σ', H', I.unwish, q⟩
  | cont => obtain ⟨σ', H', I, q⟩ := h; exact ⟨σ', H', I.unwish, q⟩
  | ret u => obtain ⟨v, σ', H', I, r, q⟩ := h; exact ⟨v, σ', H', I.unwish, r, q⟩
theorem PSs.nox {st : List Stmt} {t : TS} (h : PSs X.nox st t) : PSs X st t := fun pins s σ H D I hw =>
  wpAny_mono (h pins s σ H D (I.wish _) hw) (fun _ _ q => q.unwish) fun _ _ z => False.elim z
end

section
variable {X : Cx} {st : Stmt} {rest : List Stmt} {t u : TS} {e : Expr} {te : TE} {pos : Pos}
def tNext : TS := fun D σ H => D.nx σ H
def tSeq (t u : TS) : TS := fun D σ H => t { D with nx := u D } σ H
theorem pss_nil : PSs X [] tNext := fun _ _ σ H _ I h => wpAny_execs_nil ⟨σ, H, I, h⟩
theorem pss_cons (h1 : PS X st t) (h2 : PSs X rest u) : PSs X (st :: rest) (tSeq t u) := by
  intro pins s σ H D I h
  refine wpAny_execs_cons (thn (h1 pins s σ H { D with nx := u D } I h) fun f s1 q => ?_)
  cases f with
  | next =>
    obtain ⟨σ', H', I', q⟩ := q
    exact h2 pins s1 σ' H' D I' q
  | ret v => exact q
  | brk => exact q
  | cont => exact q
theorem pss_one (h1 : PS X st t) : PSs X [st] t := by
  intro pins s σ H D I h
  refine wpAny_execs_cons (thn (h1 pins s σ H D I h) fun f s1 q => ?_)
  cases f with
  | next => exact wpAny_execs_nil q
  | ret v => exact q
  | brk => exact q
  | cont => exact q
def tRet (te : TE) : TS := fun D σ H => te σ H D.rt
theorem ps_ret (he : PE X e te) : PS X (.Return (some e) pos) (tRet te) := by
  intro pins s σ H D I h
  exact wpAny_Return_some (thn (he pins s σ H _ I h) fun v s1 ⟨x, H1, I1, r1, q1⟩ => ⟨x, σ, H1, I1, r1, q1⟩)
def tIfS (c : TT) (t u : TS) : TS := fun D σ H => c σ H fun b H1 => if b = true then t D σ H1 else u D σ H1
theorem ps_if {c : Expr} {a b : List Stmt} {tc : TT} (hc : PT X c tc) (ha : PSs X a t) (hb : PSs X b u) : PS X (.If c a b pos) (tIfS tc t u) := by
  intro pins s σ H D I h
  refine wpAny_If (thn (hc pins s σ H _ I h) fun d s1 ⟨H1, I1, q1⟩ => ?_)
  cases d with
  | true => exact ha pins s1 σ H1 D I1 q1
  | false => exact hb pins s1 σ H1 D I1 q1
end

abbrev TG := V → St → Hp → (St → Hp → Prop) → Prop
def PG (X : Cx) (target : Expr) (t : TG) : Prop :=
  ∀ (pins : List (Addr × Obj)) (s : Shared) (σ : St) (H : Hp) (v : V) (u : Value) (Q : St → Hp → Prop), Inv X pins σ H s → RelV v u → t v σ H Q →
    wpAny (model X.prog X.w) X.A (assign target X.env u) (fun _ s' => ∃ σ' H', Inv X pins σ' H' s' ∧ Q σ' H') X.xe s
/-- o[i] = v, by values -/
abbrev TSet := V → V → V → Hp → (Hp → Prop) → Prop
def PSet (X : Cx) (t : TSet) : Prop :=
  ∀ (pins : List (Addr × Obj)) (s : Shared) (σ : St) (H : Hp) (o i v : V) (ov iv u : Value) (Q : Hp → Prop), Inv X pins σ H s → RelV o ov → RelV i iv → RelV v u → t o i v H Q →
    wpAny (model X.prog X.w) X.A (setItem ov iv u) (fun _ s' => ∃ H', Inv X pins σ H' s' ∧ Q H') X.xe s
section
variable {X : Cx} {pos : Pos}
def gName (i : Nat) : TG := fun v σ H Q => Q (σ.set i (some v)) H
theorem pg_name {i : Nat} {x : Str} (hN : X.N.Nodup) (hi : X.N[i]? = some x) (hx : Loc X.env.scope x) (hf : X.fn x = true ∨ X.env.scope.names.lookup x = some .local := by first | exact .inl rfl | exact .inr rfl | assumption) : PG X (.Name x pos) (gName i) := by
  intro pins s σ H v u Q I r h
  exact wpAny_assign_Name (store_ok I hN hi hx r (fun s' I' => ⟨_, H, I', h⟩) hf)
/-- o[i] = .. -/
def gSub (to ti : TE) (t : TSet) : TG := fun v σ H Q => to σ H fun o H1 => ti σ H1 fun i H2 => t o i v H2 fun H3 => Q σ H3
theorem pg_sub {o i : Expr} {to ti : TE} {t : TSet} (ho : PE X o to) (hi : PE X i ti) (hs : PSet X t)
    (ha : ∀ v, assign (.Subscript o i pos) X.env v = (do
      let ov ← holding [v] (eval o X.env)
      let iv ← holding [v, ov] (eval i X.env)
      standAt pos
      holding [v, ov, iv] (setItem ov iv v)
      release [v, ov, iv] []) := by intro _; rfl) : PG X (.Subscript o i pos) (gSub to ti t) := by
  intro pins s σ H v u Q I r h
  rw [ha]
  refine wpAny_bind (wpAny_holding (thn (ho pins s σ H _ I h) fun ov s1 ⟨x, H1, I1, r1, q1⟩ => ?_))
  refine wpAny_bind (wpAny_holding (thn (hi pins s1 σ H1 _ I1 q1) fun iv s2 ⟨y, H2, I2, r2, q2⟩ => ?_))
  refine wpAny_bind (wpAny_standAt (wpAny_bind (wpAny_holding (thn (hs pins s2 σ H2 x y v ov iv u _ I2 r1 r2 r q2) fun _ s3 ⟨H3, I3, q3⟩ => ?_))))
  exact wpAny_release ⟨σ, H3, I3, q3⟩
/-- target = value -/
def tAsg (te : TE) (g : TG) : TS := fun D σ H => te σ H fun x H1 => g x σ H1 D.nx
theorem ps_asg {tg e : Expr} {te : TE} {g : TG} (he : PE X e te) (hg : PG X tg g) (hs : swapsWithSole [tg] e pos.line X.env = pure false := by rfl) (hw : swappedStores [tg] e X.env = pure none := by rfl)
    (h1 : (assignEach [tg] X.env).map (·.2) = [assign tg X.env] := by rfl) : PS X (.Assign [tg] e pos) (tAsg te g) := by
  intro pins s σ H D I h
  refine wpAny_Assign_stores (thn (he pins s σ H _ I h) fun v s1 ⟨x, H1, I1, r1, q1⟩ => ?_) hs hw
  rw [h1]
  exact thn (hg pins s1 σ H1 x v _ I1 r1 q1) fun _ s2 q => q
/-- name = value -/
theorem ps_set {i : Nat} {x : Str} {e : Expr} {te : TE} {pos' : Pos} (hN : X.N.Nodup) (hi : X.N[i]? = some x) (hx : Loc X.env.scope x) (he : PE X e te) (hs : swapsWith e (some (.Name x pos')) pos.line X.env = pure false := by rfl) (hf : X.fn x = true ∨ X.env.scope.names.lookup x = some .local := by first | exact .inl rfl | exact .inr rfl | assumption) :
    PS X (.Assign [.Name x pos'] e pos) (tAsg te (gName i)) := by
  intro pins s σ H D I h
  refine wpAny_Assign_Name (thn (he pins s σ H _ I h) fun v s1 ⟨y, H1, I1, r1, q1⟩ => ?_) hs
  exact store_ok I1 hN hi hx r1 (fun s2 I2 => ⟨_, H1, I2, q1⟩) hf
end

section
variable {X : Cx} {pos : Pos}
end

/-- at turn i: it yields x (the heap may grow), or it stops -/
structure It where
  go : Nat → Hp → Prop
  yld : Nat → Hp → V → Hp → Prop
  stop : Nat → Hp → Prop
/-- the iterator's own objects may turn: they are not the frame's, not pinned, younger than the entry (or a comprehension's own) -/
def FpOk (X : Cx) (pins : List (Addr × Obj)) (H : Hp) (b : Addr) : Prop :=
  H b = none ∧ b ≠ X.env.locals ∧ b ∉ X.fs ∧ (b ∈ X.ex ∨ X.s₀.heap.objs.size ≤ b) ∧ (∀ x c, X.env.cells.lookup x = some c → c ≠ b) ∧ ∀ p ∈ X.pn ++ pins, p.1 ≠ b
theorem Inv.fpOk {X : Cx} {pins : List (Addr × Obj)} {σ : St} {H H' : Hp} {s : Shared} {b : Addr} (I : Inv X pins σ H s) (hb : s.heap.objs.size ≤ b) (hn : H' b = none) : FpOk X pins H' b := by
  refine ⟨hn, Nat.ne_of_gt (Nat.lt_of_lt_of_le I.lt hb), I.nofs hb, .inr (Nat.le_trans I.sz hb), fun x c e z => ?_, fun p hp z => ?_⟩
  · obtain ⟨v, q⟩ := I.cell x c e
    exact absurd (Nat.lt_of_lt_of_le q.lt (by rw [z]; exact hb)) (Nat.lt_irrefl _)
  · exact absurd (Nat.lt_of_lt_of_le (Heap.lt_size (I.pin p hp).1) (by rw [z]; exact hb)) (Nat.lt_irrefl _)
structure Turn (P : Program) (w : World) (K : PySem.W.Frag) (tg : Expr) (J : It) (fp : List Addr) (it : Addr) (tn : Nat → Heap → Prop) : Prop where
  mem : it ∈ fp
  obj : ∀ i h, tn i h → ∀ b ∈ fp, ∃ o, h.get? b = some o ∧ ∀ v, o.data ≠ .cell v
  keep : ∀ i h h', tn i h → (∀ b ∈ fp, ∀ o, h.get? b = some o → h'.get? b = some o) → tn i h'
  item : ∀ (X : Cx), X.prog = P → X.w = w → X.K = K → X.calm = true → ∀ (i : Nat) (pins : List (Addr × Obj)) (s : Shared) (σ : St) (H : Hp) (E : Value → Shared → Prop), Inv X pins σ H s → (∀ b ∈ fp, FpOk X pins H b) → tn i s.heap → J.go i H →
    wpAny (model P w) X.A (pyNext (.ref it)) (fun r s1 => ∃ u, r = some u ∧
      wpAny (model P w) X.A (letOwnedTupleGo tg (.ref it) u) (fun _ s2 => ∃ x H', Inv X pins σ H' s2 ∧ RelV x u ∧ J.yld i H x H' ∧ tn (i + 1) s2.heap ∧ ∀ b ∈ fp, H' b = none) E s1) E s
  done : ∀ (X : Cx), X.prog = P → X.w = w → X.K = K → X.calm = true → ∀ (i : Nat) (pins : List (Addr × Obj)) (s : Shared) (σ : St) (H : Hp) (E : Value → Shared → Prop), Inv X pins σ H s → (∀ b ∈ fp, FpOk X pins H b) → tn i s.heap → J.stop i H →
    wpAny (model P w) X.A (pyNext (.ref it)) (fun r s1 => r = none ∧ Inv X pins σ H s1) E s
  self : ∀ (A : Around) (i : Nat) (s : Shared) (Q : Value → Shared → Prop) (E : Value → Shared → Prop), tn i s.heap → Q (.ref it) s → wpAny (model P w) A (pyIter (.ref it)) Q E s
abbrev TI := St → Hp → (It → Hp → Prop) → Prop
/-- an iterator has come -/
def PIE (X : Cx) (pins : List (Addr × Obj)) (σ : St) (tg : Expr) (R : It → Hp → Prop) (itv : Value) (s2 : Shared) : Prop :=
  ∃ (it : Addr) (fp : List Addr) (tn : Nat → Heap → Prop) (J : It) (H' : Hp), itv = .ref it ∧ Inv X pins σ H' s2 ∧ Turn X.prog X.w X.K tg J fp it tn ∧ tn 0 s2.heap ∧ (∀ b ∈ fp, FpOk X pins H' b) ∧ R J H'
def PI (X : Cx) (tg iter : Expr) (wi : TI) : Prop :=
  ∀ (pins : List (Addr × Obj)) (s : Shared) (σ : St) (H : Hp) (R : It → Hp → Prop), Inv X pins σ H s → wi σ H R →
    wpAny (model X.prog X.w) X.A (eval iter X.env) (fun v s1 => wpAny (model X.prog X.w) X.A (pyIter v) (PIE X pins σ tg R) X.xe s1) X.xe s

/-- the step ahead of the store is nothing for an iterator that keeps no tuple -/
theorem go_of {M : Model} {A : Around} {E : Value → Shared → Prop} {s : Shared} {tg : Expr} {it : Addr} {u : Value} {o : Obj} {n : String} {vs : Array Value} {Q : Unit → Shared → Prop} (ho : s.heap.get? it = some o) (hc : o.cls = .type n) (hd : o.data = .fields vs)
    (hn : ["enumerate", "zip", "dict_itemiterator", "dict_reverseitemiterator", "odict_iterator", "itertools.zip_longest", "itertools.pairwise"].contains n = false) (hQ : Q () s) : wpAny M A (letOwnedTupleGo tg (.ref it) u) Q E s := by
  unfold letOwnedTupleGo
  cases tg <;> first
    | exact wpAny_pure hQ
    | (cases u <;> first
        | exact wpAny_pure hQ
        | (refine wpAny_bind (wpAny_load ho ?_)
           rw [hc, hd]
           show wpAny M A (if (["enumerate", "zip", "dict_itemiterator", "dict_reverseitemiterator", "odict_iterator", "itertools.zip_longest", "itertools.pairwise"].contains n && vs[0]? == some (rawInt _)) = true then _ else _) Q E s
           rw [if_neg (by intro h; rw [hn, Bool.false_and] at h; cases h)]
           exact wpAny_pure hQ))

/-- the list at a, as it stands at each turn (a loop may append to it) -/
def Itl (K : PySem.W.Frag) (a : Addr) : It :=
  ⟨fun i H => ∃ xs x, SqL K H a xs ∧ xs[i]? = some x, fun i H x H' => H' = H ∧ ∀ xs, SqL K H a xs → xs[i]? = some x, fun i H => ∃ xs, SqL K H a xs ∧ xs.length ≤ i⟩
/-- lo, lo + 1, .. (n of them) -/
def Itr (lo : Int) (n : Nat) : It := ⟨fun i _ => i < n, fun i H x H' => H' = H ∧ x = .int (lo + i), fun i _ => n ≤ i⟩
theorem turn_list {P : Program} {w : World} {K : PySem.W.Frag} {tg : Expr} (a it : Addr) : Turn P w K tg (Itl K a) [it] it (fun i h => h.IsListIter it a i) where
  mem := by simp
  obj := fun i h st b hb => by
    have e : b = it := by simpa using hb
    subst e
    obtain ⟨o, e, c, d⟩ := st
    exact ⟨o, e, fun v z => by rw [d] at z; cases z⟩
  keep := fun i h h' st k => st.at fun o e => k it (by simp) o e
  item := by
    intro X hP hw hK hc i pins s σ H E I hf st hg
    subst hP hw hK
    obtain ⟨xs, x, hq, hx⟩ := hg
    obtain ⟨its, rv, p, hz⟩ := I.list hq
    obtain ⟨u, hu, ru⟩ := rv.get hx
    obtain ⟨f0, f1, f2, f3, f4, f5⟩ := hf it (by simp)
    refine wpAny_pyNext_list_item st p.isList (x := u) (by simpa using hu) fun h' st' sb => ?_
    have I1 : Inv X pins σ H { s with heap := h' } := I.turned (t' := s.toks) (fun b o hb e => (sb.2 b hb).trans e) f0 f1 f3 f4 f5
    obtain ⟨o, e, c, d⟩ := id st'
    exact ⟨u, rfl, go_of (s := { s with heap := h' }) e c d (by decide) ⟨x, H, I1, ru, ⟨rfl, fun ys hy => by rw [I.list_inj hy hq]; exact hx⟩, st', fun b hb => (hf b hb).1⟩⟩
  done := by
    intro X hP hw hK hc i pins s σ H E I hf st hg
    subst hP hw hK
    obtain ⟨xs, hq, hx⟩ := hg
    obtain ⟨its, rv, p, hz⟩ := I.list hq
    obtain ⟨f0, f1, f2, f3, f4, f5⟩ := hf it (by simp)
    have hl := rv.length
    exact wpAny_pyNext_list_end (I.ok.hd hc) st p.isList (by simp; first | lia | omega) fun h' eb => ⟨rfl, I.turned (t' := s.toks) (fun b o hb e => eb b o hb e) f0 f1 f3 f4 f5⟩
  self := fun _ _ _ _ _ st h => wpAny_pyIter_listiter st h
theorem turn_range {P : Program} {w : World} {K : PySem.W.Frag} {tg : Expr} (it : Addr) (lo : Int) (n : Nat) : Turn P w K tg (Itr lo n) [it] it (fun i h => IsRangeIter h it (lo + (i : Nat) * 1) ((n : Int) - (i : Nat)) 1) where
  mem := by simp
  obj := fun i h st b hb => by
    have e : b = it := by simpa using hb
    subst e
    exact ⟨_, st, fun v z => by
      have z' : Data.fields _ = Data.cell v := z
      cases z'⟩
  keep := fun i h h' st k => k it (by simp) _ st
  item := by
    intro X hP hw hK hc i pins s σ H E I hf st hg
    subst hP hw hK
    obtain ⟨f0, f1, f2, f3, f4, f5⟩ := hf it (by simp)
    have W := Walks.range (prog := X.prog) (w := X.w) (I.ok.hd hc) it lo 1 n
    refine W.item i s _ _ hg st fun v h' tk hv st' kk => ?_
    obtain ⟨t, rfl⟩ := hv
    have I1 : Inv X pins σ H { s with heap := h', toks := tk } := I.turned (fun b o hb e => kk b o (by simpa using hb) e) f0 f1 f3 f4 f5
    refine ⟨_, rfl, go_of (s := { s with heap := h', toks := tk }) (n := "range_iterator") st' rfl rfl (by decide) ⟨.int (lo + i), H, I1, ⟨t, ?_⟩, ⟨rfl, rfl⟩, st', fun b hb => (hf b hb).1⟩⟩
    rw [Int.mul_one]
  done := by
    intro X hP hw hK hc i pins s σ H E I hf st hg
    subst hP hw hK
    obtain ⟨f0, f1, f2, f3, f4, f5⟩ := hf it (by simp)
    exact wpAny_pyNext_range_end (I.ok.hd hc) st (by have : n ≤ i := hg; first | lia | omega) fun h' eb => ⟨rfl, I.turned (t' := s.toks) (fun b o hb e => eb b o hb e) f0 f1 f3 f4 f5⟩
  self := fun _ _ _ _ _ st h => wpAny_pyIter_rangeiter st h
end L2

namespace L2
open PySem PySem.Spec PyProof.Rows
section
variable {X : Cx} {tg : Expr}
def iList (K : PySem.W.Frag) (tl : TE) : TI := fun σ H R => tl σ H fun x H1 => ∃ a, x = .ref a ∧ (∃ xs, SqL K H1 a xs) ∧ R (Itl K a) H1
theorem pi_list {l : Expr} {tl : TE} (hl : PE X l tl) : PI X tg l (iList X.K tl) := by
  intro pins s σ H R I h
  refine thn (hl pins s σ H _ I h) fun v s1 ⟨x, H1, I1, r1, q1⟩ => ?_
  obtain ⟨a, e, ⟨xs, hq⟩, q⟩ := q1
  subst e
  cases r1
  obtain ⟨its, rv, p, hz⟩ := I1.list hq
  refine wpAny_pyIter_list p.isList ?_
  refine ⟨s1.heap.objs.size, [s1.heap.objs.size], _, _, H1, rfl, I1.kept (t' := s1.toks) fun b o e => Heap.get?_push_of_some _ e, turn_list a _, ⟨_, Heap.get?_push_size _ rfl, rfl, rfl⟩, fun b hb => ?_, q⟩
  have e : b = s1.heap.objs.size := by simpa using hb
  subst e
  exact I1.fpOk (Nat.le_refl _) (I1.hok.fresh (Nat.le_refl _))
/-- a range object just made, walked -/
theorem range_it {pins : List (Addr × Obj)} {σ : St} {H : Hp} {s : Shared} {R : It → Hp → Prop} {E : Value → Shared → Prop} {lo hi : Int} {t u v : Tok} {tk : Nat} (I : Inv X pins σ H s) (h1 : -(2 ^ 62) ≤ lo) (h2 : lo < 2 ^ 62) (h3 : -(2 ^ 62) ≤ hi) (h4 : hi < 2 ^ 62)
    (q : R (Itr lo (hi - lo).toNat) H) : wpAny (model X.prog X.w) X.A (pyIter (.ref s.heap.objs.size)) (PIE X pins σ tg R) E { s with heap := s.heap.push { cls := .type "range", data := .fields #[.int lo t, .int hi u, .int 1 v] }, toks := tk } := by
  refine wpAny_pyIter_range (IsRange.new ..) (small_one h1 h2 h3 h4) ?_
  have I1 : Inv X pins σ H { s with heap := s.heap.push { cls := .type "range", data := .fields #[.int lo t, .int hi u, .int 1 v] }, toks := tk } := I.kept fun b o e => Heap.get?_push_of_some _ e
  refine ⟨(s.heap.push { cls := .type "range", data := .fields #[.int lo t, .int hi u, .int 1 v] }).objs.size, [(s.heap.push { cls := .type "range", data := .fields #[.int lo t, .int hi u, .int 1 v] }).objs.size], _, _, H, rfl,
    I1.kept (t' := tk) fun b o e => Heap.get?_push_of_some _ e, turn_range _ lo (hi - lo).toNat, ?_, fun b hb => ?_, q⟩
  · have e1 : lo + ((0 : Nat) : Int) * 1 = lo := by simp
    have e2 : (((hi - lo).toNat : Nat) : Int) - ((0 : Nat) : Int) = Builtin.Range.rangeSize lo hi 1 := by rw [rangeSize_one]; split <;> first | lia | omega
    show IsRangeIter _ _ (lo + ((0 : Nat) : Int) * 1) ((((hi - lo).toNat : Nat) : Int) - ((0 : Nat) : Int)) 1
    rw [e1, e2]
    exact Heap.get?_push_size _ rfl
  · have e : b = (s.heap.push { cls := .type "range", data := .fields #[.int lo t, .int hi u, .int 1 v] }).objs.size := by simpa using hb
    subst e
    exact I1.fpOk (Nat.le_refl _) (I1.hok.fresh (Nat.le_refl _))
def iRng1 (ta : TA) : TI := fun σ H R => ta σ H fun vs H1 => ∃ j : Int, vs = [.int j] ∧ -(2 ^ 62) ≤ j ∧ j < 2 ^ 62 ∧ R (Itr 0 j.toNat) H1
theorem pi_range1 {a : Expr} {ta : TA} {p pos : Pos} (hg : Gl X "range") (hm : X.mg "range" = none) (ha : PA X [a] ta) (hs : starEach [a] X.env = [(false, eval a X.env)] := by rfl) : PI X tg (.Call (.Name "range" p) [a] [] pos) (iRng1 ta) := by
  intro pins s σ H R I h
  refine Call_ (ld_blt I hg hm boot_range (PyProof.Rows.callWith_type1 (thn (ha pos pins s σ H _ I h) fun us s1 ⟨vs, H1, I1, r1, q1⟩ => ?_) hs rfl))
  obtain ⟨j, e, q1, q2, q⟩ := q1
  subst e
  cases r1 with
  | cons r rr =>
    cases rr
    obtain ⟨t, rfl⟩ := r
    exact call_range_1 (range_it I1 (by first | lia | omega) (by first | lia | omega) q1 q2 (by simpa using q))
/-- W: the invariant by the turn and a measure; N: what the body is to reach -/
def tFor (wi : TI) (g : TG) (tb : TS) : TS := fun D σ H => wi σ H fun J H1 => ∃ W : Nat → Nat → St → Hp → Prop, (∃ m, W 0 m σ H1) ∧ ∀ i m σ H, W i m σ H →
  (J.stop i H ∧ D.nx σ H) ∨ (J.go i H ∧ ∃ N : St → Hp → Prop, (∀ σ' H', N σ' H' → ∃ m', m' < m ∧ W (i + 1) m' σ' H') ∧ ∀ x H', J.yld i H x H' → g x σ H' fun σ2 H2 => tb { D with nx := N, ct := N, bk := D.nx } σ2 H2)
/-- the records at fp as they stand -/
def pinsAt (fp : List Addr) (h : Heap) : List (Addr × Obj) := fp.filterMap fun b => (h.get? b).map fun o => (b, o)
theorem mem_pinsAt {fp : List Addr} {h : Heap} {b : Addr} {o : Obj} (hb : b ∈ fp) (e : h.get? b = some o) : (b, o) ∈ pinsAt fp h := List.mem_filterMap.mpr ⟨b, hb, by rw [e]; rfl⟩
theorem of_pinsAt {fp : List Addr} {h : Heap} {p : Addr × Obj} (hp : p ∈ pinsAt fp h) : p.1 ∈ fp ∧ h.get? p.1 = some p.2 := by
  obtain ⟨b, hb, e⟩ := List.mem_filterMap.mp hp
  cases q : h.get? b with
  | none => rw [q] at e; cases e
  | some o =>
    rw [q] at e
    have e' : (b, o) = p := Option.some.inj e
    subst e'
    exact ⟨hb, q⟩
theorem Inv.pinned {pins : List (Addr × Obj)} {σ : St} {H : Hp} {s : Shared} {fp : List Addr} (I : Inv X pins σ H s) (hf : ∀ b ∈ fp, FpOk X pins H b) (ho : ∀ b ∈ fp, ∃ o, s.heap.get? b = some o ∧ ∀ v, o.data ≠ .cell v) : Inv X (pins ++ pinsAt fp s.heap) σ H s :=
  I.pins_of fun p hp => (List.mem_append.mp hp).elim (fun z => I.pin p (List.mem_append_right _ z)) fun z => by
    obtain ⟨hb, e⟩ := of_pinsAt z
    obtain ⟨f0, f1, f2, _⟩ := hf p.1 hb
    obtain ⟨o, e', d⟩ := ho p.1 hb
    rw [e] at e'; cases e'
    exact ⟨e, f0, f1, f2, d⟩
theorem Inv.unpinned {pins pl : List (Addr × Obj)} {σ : St} {H : Hp} {s : Shared} (I : Inv X (pins ++ pl) σ H s) : Inv X pins σ H s := I.pins_of fun p hp => I.pin p (List.mem_append_right _ (List.mem_append_left _ hp))
theorem ps_for {iter : Expr} {body : List Stmt} {wi : TI} {g : TG} {tb : TS} {pos : Pos} (hp : PassesOwn (model X.prog X.w) X.A X.env X.xe) (hc : X.calm = true) (hi : PI X tg iter wi) (hg : PG X tg g) (hb : PSs X body tb)
    (hs : ∀ x, foldedSetIterable iter X.env x = pure x := by intro _; rfl) : PS X (.For tg iter body [] pos) (tFor wi g tb) := by
  intro pins s σ H D I h
  refine wpAny_For (thn (hi pins s σ H _ I h) fun v s1 h1 => thn h1 fun itv s2 h2 => ?_) hs
  obtain ⟨it, fp, tn, J, H2, e, I2, T, st2, f2, W, ⟨m0, w0⟩, turn⟩ := h2
  subst e
  -- what stays true of the iterator's objects through the loop
  have stat : ∀ {H' : Hp}, (∀ b ∈ fp, H' b = none) → ∀ b ∈ fp, FpOk X pins H' b := fun hn b hb => ⟨hn b hb, (f2 b hb).2⟩
  refine codeAny_forLoop_any (fun n s' => ∃ i σ' H', Inv X pins σ' H' s' ∧ tn i s'.heap ∧ (∀ b ∈ fp, H' b = none) ∧ W i n σ' H') ?_ m0 ⟨0, σ, H2, I2, st2, fun b hb => (f2 b hb).1, w0⟩
  rintro n s3 ⟨i, σ3, H3, I3, st3, fr3, w3⟩
  rcases turn i n σ3 H3 w3 with ⟨stop, qn⟩ | ⟨go, N, hN, step⟩
  · refine wpAny_passesOwn hp (thn (T.done X rfl rfl rfl hc i pins s3 σ3 H3 X.xe I3 (stat fr3) st3 stop) fun r s4 ⟨hr, I4⟩ => ?_)
    subst hr
    exact wpAny_execs_nil ⟨σ3, H3, I4, qn⟩
  · refine wpAny_passesOwn hp (thn (T.item X rfl rfl rfl hc i pins s3 σ3 H3 X.xe I3 (stat fr3) st3 go) fun r s4 ⟨u, hr, h4⟩ => ?_)
    subst hr
    refine wpAny_passesOwn hp (thn h4 fun _ s5 ⟨x, H5, I5, r5, y5, st5, fr5⟩ => ?_)
    have I5' := I5.pinned (stat fr5) (T.obj _ _ st5)
    refine wpAny_passesOwn hp (thn (hg _ s5 σ3 H5 x u _ I5' r5 (step x H5 y5)) fun _ s6 ⟨σ6, H6, I6, q6⟩ => ?_)
    refine wpAny_passesOwn hp (thn (hb _ s6 σ6 H6 _ I6 q6) fun f s7 q7 => ?_)
    have again : ∀ {σ7 : St} {H7 : Hp}, Inv X (pins ++ pinsAt fp s5.heap) σ7 H7 s7 → N σ7 H7 → ∃ m, m < n ∧ ∃ i σ' H', Inv X pins σ' H' s7 ∧ tn i s7.heap ∧ (∀ b ∈ fp, H' b = none) ∧ W i m σ' H' := fun {σ7 H7} I7 n7 => by
      obtain ⟨m', hm, w7⟩ := hN σ7 H7 n7
      refine ⟨m', hm, i + 1, σ7, H7, I7.unpinned, T.keep _ _ _ st5 fun b hb o e => (I7.pin (b, o) (List.mem_append_right _ (List.mem_append_right _ (mem_pinsAt hb e)))).1, fun b hb => ?_, w7⟩
      obtain ⟨o, e, d⟩ := T.obj _ _ st5 b hb
      exact (I7.pin (b, o) (List.mem_append_right _ (List.mem_append_right _ (mem_pinsAt hb e)))).2.1
    cases f with
    | next => obtain ⟨σ7, H7, I7, n7⟩ := q7; exact again I7 n7
    | cont => obtain ⟨σ7, H7, I7, n7⟩ := q7; exact again I7 n7
    | brk => obtain ⟨σ7, H7, I7, q7⟩ := q7; exact ⟨σ7, H7, I7.unpinned, q7⟩
    | ret v => obtain ⟨x7, σ7, H7, I7, r7, q7⟩ := q7; exact ⟨x7, σ7, H7, I7.unpinned, r7, q7⟩
end

theorem for_range {lo : Int} {n : Nat} {g : TG} {tb : TS} {D : Ends} {σ : St} {H : Hp} (Pv : Nat → St → Hp → Prop) (h0 : Pv 0 σ H)
    (hs : ∀ i σ H, i < n → Pv i σ H → g (.int (lo + i)) σ H fun σ2 H2 => tb { D with nx := Pv (i + 1), ct := Pv (i + 1), bk := D.nx } σ2 H2) (hd : ∀ σ H, Pv n σ H → D.nx σ H) :
    ∃ W : Nat → Nat → St → Hp → Prop, (∃ m, W 0 m σ H) ∧ ∀ i m σ H, W i m σ H →
      ((Itr lo n).stop i H ∧ D.nx σ H) ∨ ((Itr lo n).go i H ∧ ∃ N : St → Hp → Prop, (∀ σ' H', N σ' H' → ∃ m', m' < m ∧ W (i + 1) m' σ' H') ∧ ∀ x H', (Itr lo n).yld i H x H' → g x σ H' fun σ2 H2 => tb { D with nx := N, ct := N, bk := D.nx } σ2 H2) := by
  refine ⟨fun i m σ H => m = n - i ∧ i ≤ n ∧ Pv i σ H, ⟨n, by simp, Nat.zero_le _, h0⟩, ?_⟩
  rintro i m σ H ⟨rfl, hi, p⟩
  by_cases hlt : i < n
  · refine .inr ⟨hlt, Pv (i + 1), fun σ' H' p' => ⟨n - (i + 1), by first | lia | omega, rfl, hlt, p'⟩, fun x H' y => ?_⟩
    obtain ⟨e, y⟩ := y
    subst e y
    exact hs i σ _ hlt p
  · have e : i = n := by first | lia | omega
    subst e
    exact .inl ⟨Nat.le_refl _, hd σ H p⟩
end L2

namespace L2
open PySem PySem.Spec PyProof.Rows

abbrev R2 := V → V → Hp → VK → Prop
/-- a two-place operation on values: f is binaryOp op, inplaceOp op or compareOp op -/
def OpR (X : Cx) (f : Value → Value → Sem Value) (r : R2) : Prop :=
  ∀ (pins : List (Addr × Obj)) (s : Shared) (σ : St) (H : Hp) (x y : V) (v u : Value) (Q : VK), Inv X pins σ H s → RelV x v → RelV y u → r x y H Q →
    wpAny (model X.prog X.w) X.A (f v u) (EP X pins σ Q) X.xe s
/-- a call of a value that is known (a builtin, a type) with values -/
def CallR (X : Cx) (f : Value) (r : List V → Hp → VK → Prop) : Prop :=
  ∀ (pins : List (Addr × Obj)) (s : Shared) (σ : St) (H : Hp) (xs : List V) (us : List Value) (Q : VK), Inv X pins σ H s → Vals xs us → r xs H Q →
    wpAny (model X.prog X.w) X.A (call f us) (EP X pins σ Q) X.xe s
def tOp (r : R2) (ta tb : TE) : TE := fun σ H Q => ta σ H fun x H1 => tb σ H1 fun y H2 => r x y H2 Q
/-- ints in, under C, and a value out -/
def rI (C : Int → Int → Prop) (g : Int → Int → V) : R2 := fun x y H Q => ∃ i j, x = .int i ∧ y = .int j ∧ C i j ∧ Q (g i j) H
def rI0 (g : Int → Int → V) : R2 := fun x y H Q => ∃ i j, x = .int i ∧ y = .int j ∧ Q (g i j) H
section
variable {X : Cx} {a b c : Expr} {ta tb tc : TE} {pos : Pos}

theorem binT (ha : PE X a ta) (hb : PE X b tb) {pins : List (Addr × Obj)} {s : Shared} {σ : St} {H : Hp} {R : V → V → Hp → Prop} (I : Inv X pins σ H s)
    (h : ta σ H fun x H1 => tb σ H1 fun y H2 => R x y H2) {Q : Value → Shared → Prop} {f : Value → Value → Sem Value}
    (hf : ∀ v u s2 x y H2, Inv X pins σ H2 s2 → RelV x v → RelV y u → R x y H2 → wpAny (model X.prog X.w) X.A (f v u) Q X.xe s2) :
    wpAny (model X.prog X.w) X.A (eval a X.env) (fun v s₁ => wpAny (model X.prog X.w) X.A (eval b X.env) (fun u s₂ => wpAny (model X.prog X.w) X.A (f v u) Q X.xe s₂) X.xe s₁) X.xe s := by
  refine thn (ha pins s σ H _ I h) fun v s1 ⟨x, H1, I1, r1, q1⟩ => ?_
  refine thn (hb pins s1 σ H1 _ I1 q1) fun u s2 ⟨y, H2, I2, r2, q2⟩ => ?_
  exact hf v u s2 x y H2 I2 r1 r2 q2

theorem pe_op {op : Operator} {r : R2} (ho : OpR X (binaryOp op) r) (ha : PE X a ta) (hb : PE X b tb) : PE X (.BinOp a op b pos) (tOp r ta tb) := by
  intro pins s σ H Q I h
  exact wpAny_BinOp (binT ha hb I h fun v u s2 x y H2 I2 rx ry q => ho pins s2 σ H2 x y v u Q I2 rx ry q)
theorem opI {f : Value → Value → Sem Value} {C : Int → Int → Prop} {g : Int → Int → Int}
    (rule : ∀ (i j : Int) (t u : Tok) (s : Shared) (Q : Value → Shared → Prop) (E : Value → Shared → Prop), C i j → Q (.int (g i j) s.toks) { s with toks := s.toks + 1 } → wpAny (model X.prog X.w) X.A (f (.int i t) (.int j u)) Q E s) :
    OpR X f (rI C fun i j => .int (g i j)) := by
  intro pins s σ H x y v u Q I rx ry h
  obtain ⟨i, j, rfl, rfl, hc, q⟩ := h
  obtain ⟨t, rfl⟩ := rx
  obtain ⟨t', rfl⟩ := ry
  exact rule i j t t' s _ _ hc ⟨.int (g i j), H, I.tok _, ⟨_, rfl⟩, q⟩
theorem opI0 {f : Value → Value → Sem Value} {g : Int → Int → Int}
    (rule : ∀ (i j : Int) (t u : Tok) (s : Shared) (Q : Value → Shared → Prop) (E : Value → Shared → Prop), Q (.int (g i j) s.toks) { s with toks := s.toks + 1 } → wpAny (model X.prog X.w) X.A (f (.int i t) (.int j u)) Q E s) :
    OpR X f (rI0 fun i j => .int (g i j)) := by
  intro pins s σ H x y v u Q I rx ry h
  obtain ⟨i, j, rfl, rfl, q⟩ := h
  obtain ⟨t, rfl⟩ := rx
  obtain ⟨t', rfl⟩ := ry
  exact rule i j t t' s _ _ ⟨.int (g i j), H, I.tok _, ⟨_, rfl⟩, q⟩
theorem opB0 {f : Value → Value → Sem Value} {g : Int → Int → Bool}
    (rule : ∀ (i j : Int) (t u : Tok) (s : Shared) (Q : Value → Shared → Prop) (E : Value → Shared → Prop), Q (.bool (g i j)) s → wpAny (model X.prog X.w) X.A (f (.int i t) (.int j u)) Q E s) :
    OpR X f (rI0 fun i j => .bl (g i j)) := by
  intro pins s σ H x y v u Q I rx ry h
  obtain ⟨i, j, rfl, rfl, q⟩ := h
  obtain ⟨t, rfl⟩ := rx
  obtain ⟨t', rfl⟩ := ry
  exact rule i j t t' s _ _ ⟨.bl (g i j), H, I, rfl, q⟩

def CPow (i j : Int) : Prop := 0 ≤ j ∧ j ≤ 1000000 ∧ i.natAbs < 2 ^ 64
theorem op_add : OpR X (binaryOp .Add) (rI0 fun i j => .int (i + j)) := opI0 fun _ _ _ _ _ _ _ q => add_int q
theorem op_sub : OpR X (binaryOp .Sub) (rI0 fun i j => .int (i - j)) := opI0 fun _ _ _ _ _ _ _ q => sub_int q
/-- % by a positive divisor of any size -/
theorem op_mod : OpR X (binaryOp .Mod) (rI (fun _ j => 0 < j) fun i j => .int (i % j)) := opI fun i j _ _ _ _ _ hc q => by
  have h1 : (0 : Int) < j := hc
  exact mod_int' (by first | lia | omega) (by rw [Int.fmod_eq_emod_of_nonneg i (by first | lia | omega)]; exact q)
theorem op_pow : OpR X (binaryOp .Pow) (rI CPow fun i j => .int (i ^ j.toNat)) := opI fun _ _ _ _ _ _ _ hc q => pow_int_small hc.1 hc.2.1 hc.2.2 q
end

/-- the scalars that == tells apart as data does -/
def scal : V → V → Bool
  | .non, .non => true | .non, .int _ => true | .int _, .non => true | .non, .bl _ => true | .bl _, .non => true | .non, .str _ => true | .str _, .non => true
  | .int _, .int _ => true | .bl _, .bl _ => true | .str _, .str _ => true | .byt _, .byt _ => true
  | .int _, .str _ => true | .str _, .int _ => true | .bl _, .str _ => true | .str _, .bl _ => true
  | _, _ => false
def rEq : R2 := fun x y H Q => scal x y = true ∧ Q (.bl (decide (x = y))) H
def rNe : R2 := fun x y H Q => scal x y = true ∧ Q (.bl (!decide (x = y))) H

theorem dec_int {i j : Int} : decide (V.int i = V.int j) = (i == j) := by
  rw [Bool.eq_iff_iff]
  simp
theorem dec_bl {i j : Bool} : decide (V.bl i = V.bl j) = (i == j) := by
  rw [Bool.eq_iff_iff]
  simp
theorem dec_str {i j : Str} : decide (V.str i = V.str j) = (i == j) := by
  rw [Bool.eq_iff_iff]
  simp
theorem dec_byt {i j : Array UInt8} : decide (V.byt i = V.byt j) = (i.toList == j.toList) := by
  rw [Bool.eq_iff_iff]
  cases i
  cases j
  simp

section
variable {X : Cx} {a b c : Expr} {ta tb tc : TE} {pos : Pos}
theorem fin_bl {pins : List (Addr × Obj)} {σ : St} {H : Hp} {s : Shared} {Q : VK} {k k' : Bool} (I : Inv X pins σ H s) (q : Q (.bl k) H) (e : k = k') : EP X pins σ Q (.bool k') s := by
  subst e
  exact ⟨.bl k, H, I, rfl, q⟩
theorem op_eq : OpR X (compareOp .Eq) rEq := by
  intro pins s σ H x y v u Q I rx ry h
  obtain ⟨hs, q⟩ := h
  cases x with
  | non =>
    cases rx
    cases y with
    | non => cases ry; exact PySem.EqNone.eq_none_none (fin_bl I q (by simp))
    | bl j => cases ry; exact PySem.EqNone.eq_none_bool (fin_bl I q (by simp))
    | int j => obtain ⟨t', rfl⟩ := ry; exact PySem.EqNone.eq_none_int (fin_bl I q (by simp))
    | str j => obtain ⟨t', rfl⟩ := ry; exact PySem.EqNone.eq_none_str (fin_bl I q (by simp))
    | _ => exact absurd (show false = true from hs) Bool.false_ne_true
  | bl i =>
    cases rx
    cases y with
    | non => cases ry; exact PySem.EqNone.eq_bool_none (fin_bl I q (by simp))
    | bl j => cases ry; exact eq_bool (fin_bl I q dec_bl)
    | str j => obtain ⟨t', rfl⟩ := ry; exact PySem.EqMixed.eq_bool_str (fin_bl I q (by simp))
    | _ => exact absurd (show false = true from hs) Bool.false_ne_true
  | int i =>
    obtain ⟨t, rfl⟩ := rx
    cases y with
    | non => cases ry; exact PySem.EqNone.eq_int_none (fin_bl I q (by simp))
    | int j => obtain ⟨t', rfl⟩ := ry; exact eq_int (fin_bl I q dec_int)
    | str j => obtain ⟨t', rfl⟩ := ry; exact PySem.EqMixed.eq_int_str (fin_bl I q (by simp))
    | _ => exact absurd (show false = true from hs) Bool.false_ne_true
  | str i =>
    obtain ⟨t, rfl⟩ := rx
    cases y with
    | non => cases ry; exact PySem.EqNone.eq_str_none (fin_bl I q (by simp))
    | bl j => cases ry; exact PySem.EqMixed.eq_str_bool (fin_bl I q (by simp))
    | int j => obtain ⟨t', rfl⟩ := ry; exact PySem.EqMixed.eq_str_int (fin_bl I q (by simp))
    | str j => obtain ⟨t', rfl⟩ := ry; exact eq_str (fin_bl I q dec_str)
    | _ => exact absurd (show false = true from hs) Bool.false_ne_true
  | byt i =>
    obtain ⟨t, rfl⟩ := rx
    cases y with
    | byt j => obtain ⟨t', rfl⟩ := ry; exact PySem.W.eq_bytes (fin_bl I q dec_byt)
    | _ => exact absurd (show false = true from hs) Bool.false_ne_true
  | _ => cases y <;> exact absurd (show false = true from hs) Bool.false_ne_true
theorem op_ne : OpR X (compareOp .NotEq) rNe := by
  intro pins s σ H x y v u Q I rx ry h
  obtain ⟨hs, q⟩ := h
  cases x with
  | non =>
    cases rx
    cases y with
    | non => cases ry; exact PySem.EqNone.ne_none_none (fin_bl I q (by simp))
    | bl j => cases ry; exact PySem.EqNone.ne_none_bool (fin_bl I q (by simp))
    | int j => obtain ⟨t', rfl⟩ := ry; exact PySem.EqNone.ne_none_int (fin_bl I q (by simp))
    | str j => obtain ⟨t', rfl⟩ := ry; exact PySem.EqNone.ne_none_str (fin_bl I q (by simp))
    | _ => exact absurd (show false = true from hs) Bool.false_ne_true
  | bl i =>
    cases rx
    cases y with
    | non => cases ry; exact PySem.EqNone.ne_bool_none (fin_bl I q (by simp))
    | bl j => cases ry; exact ne_bool (fin_bl I q (congrArg not dec_bl))
    | str j => obtain ⟨t', rfl⟩ := ry; exact PySem.EqMixed.ne_bool_str (fin_bl I q (by simp))
    | _ => exact absurd (show false = true from hs) Bool.false_ne_true
  | int i =>
    obtain ⟨t, rfl⟩ := rx
    cases y with
    | non => cases ry; exact PySem.EqNone.ne_int_none (fin_bl I q (by simp))
    | int j => obtain ⟨t', rfl⟩ := ry; exact ne_int (fin_bl I q (congrArg not dec_int))
    | str j => obtain ⟨t', rfl⟩ := ry; exact PySem.EqMixed.ne_int_str (fin_bl I q (by simp))
    | _ => exact absurd (show false = true from hs) Bool.false_ne_true
  | str i =>
    obtain ⟨t, rfl⟩ := rx
    cases y with
    | non => cases ry; exact PySem.EqNone.ne_str_none (fin_bl I q (by simp))
    | bl j => cases ry; exact PySem.EqMixed.ne_str_bool (fin_bl I q (by simp))
    | int j => obtain ⟨t', rfl⟩ := ry; exact PySem.EqMixed.ne_str_int (fin_bl I q (by simp))
    | str j => obtain ⟨t', rfl⟩ := ry; exact ne_str (fin_bl I q (congrArg not dec_str))
    | _ => exact absurd (show false = true from hs) Bool.false_ne_true
  | byt i =>
    obtain ⟨t, rfl⟩ := rx
    cases y with
    | byt j => obtain ⟨t', rfl⟩ := ry; exact PySem.W.ne_bytes (fin_bl I q (congrArg not dec_byt))
    | _ => exact absurd (show false = true from hs) Bool.false_ne_true
  | _ => cases y <;> exact absurd (show false = true from hs) Bool.false_ne_true

theorem op_lt : OpR X (compareOp .Lt) (rI0 fun i j => .bl (decide (i < j))) := opB0 fun _ _ _ _ _ _ _ q => lt_int q
theorem nomark (b : Expr) {op : CmpOp} (h : op ≠ .In := by decide) (h2 : op ≠ .NotIn := by decide) : behindInMarks op b = false := by
  have e1 : (op == CmpOp.In) = false := by cases op <;> first | rfl | exact absurd rfl h
  have e2 : (op == CmpOp.NotIn) = false := by cases op <;> first | rfl | exact absurd rfl h2
  cases b <;> simp [behindInMarks, e1, e2]
/-- a comparison as a value; hm: nomark b, or (for in, not in) by with_unfolding_all rfl -/
theorem pe_cmpR {op : CmpOp} {r : R2} (ho : OpR X (compareOp op) r) (ha : PE X a ta) (hb : PE X b tb) (hm : behindInMarks op b = false) : PE X (.Compare a [op] [b] pos) (tOp r ta tb) := by
  intro pins s σ H Q I h
  exact wpAny_Compare1 (binT ha hb I h fun v u s2 x y H2 I2 rx ry q => ho pins s2 σ H2 x y v u Q I2 rx ry q) hm
/-- a reading of a value as a test -/
def tTest (t : TE) : TT := fun σ H Q => t σ H fun x H' => ∃ k, x = .bl k ∧ Q k H'
theorem pt_cmpR {op : CmpOp} {r : R2} (ho : OpR X (compareOp op) r) (ha : PE X a ta) (hb : PE X b tb) (hm : behindInMarks op b = false) : PT X (.Compare a [op] [b] pos) (tTest (tOp r ta tb)) := by
  intro pins s σ H Q I h
  refine wpAny_isTrue_Compare1 (thn (ha pins s σ H _ I h) fun v s1 ⟨x, H1, I1, r1, q1⟩ => thn (hb pins s1 σ H1 _ I1 q1) fun u s2 ⟨y, H2, I2, r2, q2⟩ =>
    thn (ho pins s2 σ H2 x y v u _ I2 r1 r2 q2) fun c s3 ⟨z, H3, I3, r3, k, e, q3⟩ => ?_) hm
  subst e
  cases r3
  exact wpAny_truthy_bool ⟨H3, I3, q3⟩
theorem line63 : (sizeLine : Nat) < 2 ^ 63 := by rw [sizeLine_eq]; decide
theorem vals1 {x : V} {us : List Value} (r : Vals [x] us) : ∃ u, us = [u] ∧ RelV x u := by
  cases r with
  | cons r1 r2 => cases r2; exact ⟨_, rfl, r1⟩
theorem vals2 {x y : V} {us : List Value} (r : Vals [x, y] us) : ∃ u w', us = [u, w'] ∧ RelV x u ∧ RelV y w' := by
  cases r with
  | cons r1 r2 =>
    cases r2 with
    | cons r3 r4 => cases r4; exact ⟨_, _, rfl, r1, r3⟩
end
end L2

namespace L2
open PySem PySem.Spec PyProof.Rows

theorem lookIn_ns {h : Heap} {dx : Addr} {mA : Str → Option Value} (n : h.Ns1 dx mA) : ∃ od, h.get? dx = some od ∧ ∀ name, PySem.W.lookIn name od = some (mA name) := by
  obtain ⟨o, es, ep, ho, hd, hk, _, hm⟩ := n
  refine ⟨o, ho, fun name => ?_⟩
  have e := hm name
  unfold nsFind findBy at e
  rw [← Array.find?_toList] at e
  unfold PySem.W.lookIn
  rw [hd]
  dsimp only
  split
  · rename_i y q
    rw [q] at e
    exact congrArg some e
  · rename_i q
    rw [q] at e
    have a : es.toList.any (·.refKey) = false := by
      rw [List.any_eq_false]
      intro y hy
      obtain ⟨z, t, hkey⟩ := hk y (Array.mem_toList_iff.mp hy)
      simp [DictEntry.refKey, hkey]
    have a' : ¬ es.toList.any (·.refKey) = true := by rw [a]; exact Bool.false_ne_true
    rw [if_neg a']
    exact congrArg some e

section
variable {prog : Program} {w : World} {A : Around} {E : Value → Shared → Prop} {s : Shared} {K : PySem.W.Frag} {x dx C f : Addr} {mA : Str → Option Value} {name : Str} {v : Value}

end

def putF (f : Str) (v : V) : List (Str × V) → List (Str × V)
  | [] => [(f, v)]
  | (g, x) :: r => if g = f then (g, v) :: r else (g, x) :: putF f v r
theorem lookup_putF (f g : Str) (v : V) : ∀ fs : List (Str × V), (putF f v fs).lookup g = if g = f then some v else fs.lookup g
  | [] => by
    show List.lookup g [(f, v)] = _
    by_cases h : g = f
    · have hb : (g == f) = true := beq_iff_eq.mpr h
      simp only [List.lookup, hb, if_pos h]
    · have hb : (g == f) = false := beq_eq_false_iff_ne.mpr h
      simp only [List.lookup, hb, if_neg h]
  | (k, x) :: r => by
    have ih := lookup_putF f g v r
    rw [show putF f v ((k, x) :: r) = (if k = f then (k, v) :: r else (k, x) :: putF f v r) from rfl]
    by_cases hk : k = f
    · rw [if_pos hk]
      by_cases h : g = k
      · have hb : (g == k) = true := beq_iff_eq.mpr h
        simp only [List.lookup, hb, if_pos (h.trans hk)]
      · have hb : (g == k) = false := beq_eq_false_iff_ne.mpr h
        simp only [List.lookup, hb, if_neg (fun e : g = f => h (e.trans hk.symm))]
    · rw [if_neg hk]
      by_cases h : g = k
      · have hb : (g == k) = true := beq_iff_eq.mpr h
        simp only [List.lookup, hb, if_neg (fun e : g = f => hk (h.symm.trans e))]
      · have hb : (g == k) = false := beq_eq_false_iff_ne.mpr h
        simp only [List.lookup, hb]
        exact ih
theorem keys_putF (f : Str) (v : V) : ∀ fs : List (Str × V), f ∈ (putF f v fs).map (·.1) ∧ ∀ g, g ∈ fs.map (·.1) → g ∈ (putF f v fs).map (·.1)
  | [] => ⟨by simp [putF], fun g h => by simp at h⟩
  | (k, x) :: r => by
    obtain ⟨i1, i2⟩ := keys_putF f v r
    rw [show putF f v ((k, x) :: r) = (if k = f then (k, v) :: r else (k, x) :: putF f v r) from rfl]
    by_cases hk : k = f
    · rw [if_pos hk]
      subst hk
      exact ⟨by simp, fun g h => by simpa using h⟩
    · rw [if_neg hk]
      refine ⟨?_, fun g h => ?_⟩
      · rw [List.map_cons]
        exact List.mem_cons_of_mem _ i1
      · rw [List.map_cons] at h ⊢
        rcases List.mem_cons.mp h with e | e
        · exact List.mem_cons.mpr (.inl e)
        · exact List.mem_cons_of_mem _ (i2 g e)
theorem RelO.some_of {v : V} {o : Option Value} (r : RelO (some v) o) : ∃ u, o = some u ∧ RelV v u := by
  cases o with
  | none => exact (show False from r).elim
  | some u => exact ⟨u, rfl, r⟩
theorem handed_of {v : V} {u : Value} (r : RelV v u) : PySem.W.handedIn u = true := by
  cases v with
  | non => cases (show u = Value.none from r); rfl
  | bl b => cases (show u = Value.bool b from r); rfl
  | int i => obtain ⟨t, e⟩ := (show ∃ t, u = Value.int i t from r); cases e; rfl
  | str x => obtain ⟨t, e⟩ := (show ∃ t, u = Value.str x t from r); cases e; rfl
  | byt b => obtain ⟨t, e⟩ := (show ∃ t, u = Value.bytes b t from r); cases e; rfl
  | flt b => obtain ⟨t, e⟩ := (show ∃ t, u = Value.float b t from r); cases e; rfl
  | ref a => cases (show u = Value.ref a from r); rfl
  | ty n => cases (show u = Value.type n from r); rfl

section
variable {P : Program} {w : World} {H H' : Hp} {h h' : Heap} {a C dx : Addr} {fs fs' : List (Str × V)}
end

/-- no class of it has the name -/
def NoAttr (K : PySem.W.Frag) (C : Addr) (f : Str) : Prop := PySem.W.findIn K (.ref C) f = some none
section
variable {X : Cx} {pins : List (Addr × Obj)} {σ : St} {H : Hp} {s : Shared} {a C dx : Addr} {fs : List (Str × V)} {f : Str} {v : V} {A : Around} {E : Value → Shared → Prop}

/-- e.f where nothing but the object is asked: through attributeBase (super) and the last hold -/
theorem attr_of {prog : Program} {w : World} {env : Env} {e : Expr} {f : Str} {pos : Pos} {s : Shared} {Q : Value → Shared → Prop} (hb : attributeBase e f env (eval e env) = eval e env)
    (h : wpAny (model prog w) A (eval e env) (fun o s₁ => wpAny (model prog w) A (getAttr o f true) Q E s₁) E s) : wpAny (model prog w) A (eval (.Attribute e f pos) env) Q E s :=
  Attribute_any_ h (by rw [arm_eval_Attribute, hb])
end

section
variable {X : Cx} {o e value : Expr} {f : Str} {pos pos' tpos : Pos} {ta tv : TE}
end

section
variable {X : Cx} {pins : List (Addr × Obj)} {σ : St} {H : Hp} {s : Shared} {A : Around} {E : Value → Shared → Prop} {Q : Value → Shared → Prop} {c : Value} {b : Bool}
end
end L2

namespace L2
open PySem PySem.Spec PyProof.Rows

structure Room (k : Nat) (A : Around) : Prop where
  hd : A.handled = none
  dp : A.depth + 3 * k + 5 < recursionLimit
  un : A.units + 16 * k + 200 < cLine
theorem Room.mono {j k : Nat} {A : Around} (r : Room k A) (h : j ≤ k) : Room j A := ⟨r.hd, by have := r.dp; first | lia | omega, by have := r.un; first | lia | omega⟩
theorem Room.deeper {k : Nat} {A : Around} (r : Room (k + 1) A) (env : Env) : Room k (A.deeper env) :=
  ⟨r.hd, by have := r.dp; show A.depth + 1 + 3 * k + 5 < _; first | lia | omega, by have := r.un; show A.units + 3 + 16 * k + 200 < _; first | lia | omega⟩
theorem make_depth {A : Around} {C : Addr} {us : List Value} {kw : List (Str × Value)} : (A.under (.builtin "type.__call__" ⟨.ref C :: us, kw⟩)).depth = A.depth + 1 := by
  first | rfl | simp [Around.under, Code.weight, Code.isCreation, Code.isGuard, Code.isCaller, Code.frames, Code.isFrame, guardIds]
theorem make_units {A : Around} {C : Addr} {us : List Value} {kw : List (Str × Value)} : (A.under (.builtin "type.__call__" ⟨.ref C :: us, kw⟩)).units = A.units + 1 := by
  first | rfl | simp [Around.under, Code.cUnits, Code.frames, Code.isFrame]
theorem Room.make {k : Nat} {A : Around} (r : Room (k + 1) A) (C : Addr) (us : List Value) (kw : List (Str × Value)) : Room k (A.under (.builtin "type.__call__" ⟨.ref C :: us, kw⟩)) :=
  ⟨r.hd, by have := r.dp; rw [make_depth]; first | lia | omega, by have := r.un; rw [make_units]; first | lia | omega⟩
theorem Room.depth {k : Nat} {A : Around} (r : Room k A) : A.depth < recursionLimit := by have := r.dp; first | lia | omega
theorem Room.units {k : Nat} {A : Around} (r : Room k A) : A.units + 64 < cLine := by have := r.un; first | lia | omega
def tNil : TA := fun _ H Q => Q [] H
def tCons (ta : TE) (tr : TA) : TA := fun σ H Q => ta σ H fun x H1 => tr σ H1 fun xs H2 => Q (x :: xs) H2
section
variable {X : Cx} {e : Expr} {es : List Expr} {te : TE} {t : TA} {pos : Pos}
theorem pa_nil : PA X [] tNil := fun _ _ _ _ H Q I h => Calls.spliced_nil ⟨[], H, I, .nil, h⟩
theorem pa_cons (ha : PE X e te) (hr : PA X es t) (hs : starEach (e :: es) X.env = (false, eval e X.env) :: starEach es X.env := by rfl) : PA X (e :: es) (tCons te t) := by
  intro pos pins s σ H Q I h
  rw [hs]
  show wpAny _ _ (spliced ((false, eval e X.env) :: backTo pos (starEach es X.env))) _ _ s
  refine Calls.spliced_cons (thn (ha pins s σ H _ I h) fun u s1 ⟨x, H1, I1, r1, q1⟩ => ?_)
  exact thn (hr pos pins s1 σ H1 _ I1 q1) fun us s2 ⟨xs, H2, I2, r2, q2⟩ => ⟨x :: xs, H2, I2, .cons r1 r2, q2⟩

/-- a tuple, a list of written items -/
def tTup (t : TA) : TE := fun σ H Q => t σ H fun xs H1 => xs.length ≤ sizeLine ∧ ∀ p, H1 p = none → Q (.ref p) (upd H1 p (.tup xs))
def tLst (t : TA) : TE := fun σ H Q => t σ H fun xs H1 => xs.length ≤ sizeLine ∧ ∀ p, H1 p = none → Q (.ref p) (upd H1 p (.lst xs))
theorem pe_tup {x1} (h : PA X es t) : PE X (.Tuple es x1 pos) (tTup t) := by
  intro pins s σ H Q I hq
  refine wpAny_Tuple_spliced (thn (h pos pins s σ H _ I hq) fun us s1 ⟨xs, H1, I1, r, z, q⟩ => ⟨by rw [← r.length]; exact z, ?_⟩)
  have hf : H1 s1.heap.objs.size = none := I1.hok.fresh (Nat.le_refl _)
  refine ⟨.ref s1.heap.objs.size, upd H1 s1.heap.objs.size (.tup xs), I1.laid (t' := s1.toks) (fun b u e => Heap.get?_push_of_some _ e) (Nat.le_refl _) ?_, rfl, q _ hf⟩
  exact ⟨z, us, r, ⟨_, Heap.get?_push_size _ rfl, rfl, _, rfl⟩⟩
theorem pe_lst (h : PA X es t) : PE X (.List es pos) (tLst t) := by
  intro pins s σ H Q I hq
  refine wpAny_List_spliced (thn (h pos pins s σ H _ I hq) fun us s1 ⟨xs, H1, I1, r, z, q⟩ => ⟨by rw [← r.length]; exact z, ?_⟩)
  have hf : H1 s1.heap.objs.size = none := I1.hok.fresh (Nat.le_refl _)
  refine ⟨.ref s1.heap.objs.size, upd H1 s1.heap.objs.size (.lst xs), I1.laid (t' := s1.toks) (fun b u e => Heap.get?_push_of_some _ e) (Nat.le_refl _) ?_, rfl, q _ hf⟩
  exact ⟨z, us, 0, r, Heap.get?_push_size _ rfl⟩
end

/-- a def's promise: the bound arguments in the parameters' order, the heap, the wanted end, the wanted exception -/
abbrev Sp := List V → Hp → VK → XK → Prop
/-- how an exception lies behind a call (file 08 gives it): the callers' frames, abstract heap and state ahead of the call, the wish, the exception, the state -/
abbrev CXT := List Env → Hp → Shared → XK → Value → Shared → Prop

/-- the state at a call -/
structure Env0 (P : Program) (w : World) (K : PySem.W.Frag) (mg : Str → Option Value) (base : Heap) (A : Around) (outer : List Env) (s : Shared) (H : Hp) : Prop where
  frames : A.frames = some outer
  mod : Mod K mg base
  bs : ∀ b o, base.get? b = some o → s.heap.get? b = some o ∧ H b = none
  bsz : base.objs.size ≤ s.heap.objs.size
  funs : s.heap.FunFrames base outer
  frf : ∀ b ∈ frs outer, H b = none
  hok : HOk P w H s.heap
  bare : AllBare s.gens
/-- a call's end -/
def CE (outer : List Env) (P : Program) (w : World) (H : Hp) (s : Shared) (Q : VK) (u : Value) (s' : Shared) : Prop :=
  ∃ v H', s'.os = s.os ∧ AllBare s'.gens ∧ Un (frs outer) [] H H' s.heap s'.heap ∧ HOk P w H' s'.heap ∧ RelV v u ∧ Q v H'
def CR (CX : CXT) (outer : List Env) (P : Program) (w : World) (H : Hp) (s : Shared) (Q : VK) (E : XK) (r : Result) (s' : Shared) : Prop :=
  match r with
  | .ok (.ret u) => CE outer P w H s Q u s'
  | .ok _ => False
  | .error e => CX outer H s E e s'
structure FnOk (P : Program) (w : World) (K : PySem.W.Frag) (mg : Str → Option Value) (base : Heap) (CX : CXT) (k : Nat) (f : Addr) (fd : FuncData) (ps : List Str) (sp : Sp) : Prop where
  len : ∀ vs H Q E, sp vs H Q E → vs.length = ps.length
  run : ∀ (A : Around) (outer : List Env) (s : Shared) (H : Hp) (args : Args) (us : List Value) (vs : List V) (Q : VK) (E : XK), Room k A → Env0 P w K mg base A outer s H → BindsTo s fd args (ps.zip us) → Vals vs us → sp vs H Q E →
    codeAny (model P w) A (.call (.ref f) args) (CR CX outer P w H s Q E) s
theorem Env0.make {P : Program} {w : World} {K : PySem.W.Frag} {mg : Str → Option Value} {base : Heap} {A : Around} {outer : List Env} {s : Shared} {H : Hp} (e : Env0 P w K mg base A outer s H) (C : Addr) (us : List Value) (kw : List (Str × Value)) :
    Env0 P w K mg base (A.under (.builtin "type.__call__" ⟨.ref C :: us, kw⟩)) outer s H := ⟨by first | exact e.frames | (simpa [Around.under, Code.envs, Code.isFrame, pushEnvs] using e.frames), e.mod, e.bs, e.bsz, e.funs, e.frf, e.hok, e.bare⟩
section
variable {X : Cx} {pins : List (Addr × Obj)} {σ : St} {H : Hp} {s s' : Shared}
/-- from a body: what a callee wants -/
theorem Inv.env0 (I : Inv X pins σ H s) : Env0 X.prog X.w X.K X.mg X.base X.A X.stack s H :=
  ⟨I.ok.frames, I.ok.mod, I.bs, Nat.le_trans I.ok.bsz I.sz, I.stack, I.stkFree, I.hok, I.bare⟩
/-- behind a call -/
theorem Inv.after {Q : VK} {u : Value} (I : Inv X pins σ H s) (h : CE X.stack X.prog X.w H s Q u s') : EP X pins σ Q u s' := by
  obtain ⟨v, H', os, bare, un, hok, r, q⟩ := h
  obtain ⟨hh, g, d, t, os'⟩ := s'
  obtain rfl : os' = s.os := os
  exact ⟨v, H', I.call (h' := hh) (g' := g) (d' := d) (t' := t) (ch := []) un hok bare (fun b z => absurd z (by simp)), r, q⟩
end

/-- f(..): the written arguments, then the defaults dvs; E: what is wanted of an exception -/
def tCall (sp : Sp) (dvs : List V) (E : XK) (t : TA) : TE := fun σ H Q => t σ H fun vs H1 => sp (vs ++ dvs) H1 Q E
/-- how the parameters are bound: us the positional arguments, kw the keywords' values by name, ds the defaults that fill up -/
def Binds (K : PySem.W.Frag) (fd : FuncData) (ps : List Str) (ds : List Value) : Prop :=
  ∀ (s : Shared) (us : List Value), K.In s.heap → (us ++ ds).length = ps.length → BindsTo s fd ⟨us, []⟩ (ps.zip (us ++ ds))
/-- every parameter is given -/
theorem Binds.all {K : PySem.W.Frag} {fd : FuncData} {ps : List Str} (h : ∀ us : List Value, us.length = ps.length → bindArgs fd ⟨us, []⟩ = pure (ps.zip us)) : Binds K fd ps [] := fun s us _ hl => by
  rw [List.append_nil] at hl ⊢
  exact .of_eq (h us hl)

/-- an exception of a callee reaches what this body wants of exceptions -/
def Passes (CX : CXT) (X : Cx) (E : XK) : Prop := ∀ (pins : List (Addr × Obj)) (σ : St) (H : Hp) (s : Shared) (e : Value) (s' : Shared), Inv X pins σ H s → CX X.stack H s E e s' → X.xe e s'

section
variable {X : Cx} {CX : CXT} {k : Nat} {f C : Addr} {fd : FuncData} {ps : List Str} {sp : Sp} {dvs : List V} {ds : List Value} {E : XK} {x m : Str} {p pos apos : Pos} {e o : Expr} {es : List Expr} {ta : TE} {t : TA}

/-- the callee runs -/
theorem run_fn {pins : List (Addr × Obj)} {σ : St} {H : Hp} {s : Shared} {Q : VK} {us : List Value} {vs : List V} (F : FnOk X.prog X.w X.K X.mg X.base CX k f fd ps sp) (hr : Room k X.A) (hb : Binds X.K fd ps ds) (hd : Vals dvs ds) (hx : Passes CX X E)
    (I : Inv X pins σ H s) (r : Vals vs us) (h : sp (vs ++ dvs) H Q E) : wpAny (model X.prog X.w) X.A (call (.ref f) us) (EP X pins σ Q) X.xe s := by
  have r2 : Vals (vs ++ dvs) (us ++ ds) := r.append hd
  have hl : (us ++ ds).length = ps.length := by rw [← r2.length]; exact F.len _ _ _ _ h
  refine wpAny_call (codeAny_mono (F.run X.A X.stack s H ⟨us, []⟩ (us ++ ds) (vs ++ dvs) Q E hr I.env0 (hb s us I.kIn hl) r2 h) fun r s' hq => ?_)
  cases r with
  | error e => exact hx pins σ H s e s' I hq
  | ok fl =>
    cases fl with
    | ret u => exact I.after hq
    | next => exact False.elim hq
    | brk => exact False.elim hq
    | cont => exact False.elim hq

theorem pe_call (F : FnOk X.prog X.w X.K X.mg X.base CX k f fd ps sp) (hr : Room k X.A) (hg : Gl X x) (hm : X.mg x = some (.ref f)) (hk : PySem.W.keepIn X.K (.ref f) = true) (hb : Binds X.K fd ps ds) (hd : Vals dvs ds) (hx : Passes CX X E)
    (ha : PA X (e :: es) t) (hdb : (x == ("__debug__" : Str)) = false := by decide) (he : starEach (e :: es) X.env = (false, eval e X.env) :: starEach es X.env := by rfl) (hpl : (backTo pos (starEach es X.env)).any (·.1) = false := by rfl) :
    PE X (.Call (.Name x p) (e :: es) [] pos) (tCall sp dvs E t) := by
  intro pins s σ H Q I h
  refine wpAny_Call_Name_kw (ld_glob I hg hm ?_ hdb)
  refine PySem.W.callWith_K (h₀ := X.base) I.ok.mod.kin hk (thn (ha pos pins s σ H _ I h) fun us s1 ⟨vs, H1, I1, r, q⟩ => ⟨I1.kIn, ?_⟩) he hpl
  exact run_fn F hr hb hd hx I1 r q
end

section
variable {X : Cx} {CX : CXT} {k : Nat} {f C : Addr} {fd : FuncData} {ps ks : List Str} {sp : Sp} {E : XK} {x m : Str} {p pos apos kpos : Pos} {e o : Expr} {es : List Expr} {kws : List Keyword} {te ta : TE} {t tk : TA} {nm : Option Str}
variable {g : List Value → List Value → List Value} {gV : List V → List V → List V}
end

/-- names: the parameters first -/
structure FnScope (N P : List Str) (sc : Scope) : Prop where
  kind : sc.kind = .function
  co : sc.isCoroutine = false
  gen : sc.isGenerator = false
  nd : N.Nodup
  pre : N.take P.length = P
  par : ∀ x ∈ P, sc.names.lookup x = some .local ∨ sc.names.lookup x = some .cell
  nofree : ∀ y ∈ sc.names, y.2 ≠ .free

theorem bindL_out {kindOf : Str → Option NameKind} {x : Str} : ∀ {binds : List (Str × Value)} {m : Str → Option Value}, (∀ v, (x, v) ∉ binds) → bindL kindOf binds m x = m x
  | [], _, _ => rfl
  | (n, v) :: r, m, h => by
    unfold bindL
    rw [bindL_out fun w hw => h w (List.mem_cons_of_mem _ hw)]
    split
    · have : x ≠ n := by rintro rfl; exact h v List.mem_cons_self
      simp [this]
    · rfl
theorem bindC_out {kindOf : Str → Option NameKind} {x : Str} : ∀ {binds : List (Str × Value)} {m : Str → Option Value}, (∀ v, (x, v) ∉ binds) → bindC kindOf binds m x = m x
  | [], _, _ => rfl
  | (n, v) :: r, m, h => by
    unfold bindC
    rw [bindC_out fun w hw => h w (List.mem_cons_of_mem _ hw)]
    split
    · rfl
    · have : x ≠ n := by rintro rfl; exact h v List.mem_cons_self
      simp [this]
theorem bindL_get {kindOf : Str → Option NameKind} {x : Str} {v : Value} : ∀ {P : List Str} {vs : List Value} {i : Nat} {m : Str → Option Value}, P.Nodup → P[i]? = some x → vs[i]? = some v → kindOf x = some .local →
    bindL kindOf (P.zip vs) m x = some v
  | [], _, _, _, _, h, _, _ => by simp at h
  | _ :: _, [], _, _, _, _, h, _ => by simp at h
  | p :: P, w :: vs, 0, m, nd, h1, h2, hk => by
    simp at h1 h2; subst h1; subst h2
    show bindL kindOf ((p, w) :: P.zip vs) m p = _
    unfold bindL
    rw [bindL_out fun v hv => (List.nodup_cons.mp nd).1 (List.of_mem_zip hv).1, if_pos hk]
    simp
  | p :: P, w :: vs, i + 1, m, nd, h1, h2, hk => by
    show bindL kindOf ((p, w) :: P.zip vs) m x = _
    unfold bindL
    exact bindL_get (i := i) (List.nodup_cons.mp nd).2 (by simpa using h1) (by simpa using h2) hk
theorem bindC_get {kindOf : Str → Option NameKind} {x : Str} {v : Value} : ∀ {P : List Str} {vs : List Value} {i : Nat} {m : Str → Option Value}, P.Nodup → P[i]? = some x → vs[i]? = some v → kindOf x ≠ some .local →
    bindC kindOf (P.zip vs) m x = some v
  | [], _, _, _, _, h, _, _ => by simp at h
  | _ :: _, [], _, _, _, _, h, _ => by simp at h
  | p :: P, w :: vs, 0, m, nd, h1, h2, hk => by
    simp at h1 h2; subst h1; subst h2
    show bindC kindOf ((p, w) :: P.zip vs) m p = _
    unfold bindC
    rw [bindC_out fun v hv => (List.nodup_cons.mp nd).1 (List.of_mem_zip hv).1, if_neg hk]
    simp
  | p :: P, w :: vs, i + 1, m, nd, h1, h2, hk => by
    show bindC kindOf ((p, w) :: P.zip vs) m x = _
    unfold bindC
    exact bindC_get (i := i) (List.nodup_cons.mp nd).2 (by simpa using h1) (by simpa using h2) hk

/-- the names' values at the entry -/
def start (N : List Str) (vs : List V) : St := vs.map some ++ List.replicate (N.length - vs.length) none

/-- the context of a def's body, at its entry; an exception leaves the frame, then lies as CX says -/
def cxOf (CX : CXT) (P : Program) (w : World) (K : PySem.W.Frag) (mg : Str → Option Value) (base : Heap) (N : List Str) (qual : Str) (scope : Scope) (f : Addr) (cd : Value) (A : Around) (outer : List Env) (s : Shared) (H : Hp) (E : XK) : Cx where
  prog := P
  w := w
  K := K
  mg := mg
  base := base
  A := A.deeper (envOfC qual scope s.heap.objs.size f cd)
  N := N
  s₀ := s
  H₀ := H
  env := envOfC qual scope s.heap.objs.size f cd
  outer := outer
  stack := envOfC qual scope s.heap.objs.size f cd :: outer
  ex := []
  calm := true
  fn := fun _ => true
  pn := []
  xe := fun e s' => wpAny (model P w) (A.deeper (envOfC qual scope s.heap.objs.size f cd)) (leaving (envOfC qual scope s.heap.objs.size f cd) e) (fun _ s'' => CX outer H s E e s'') (fun e' s'' => CX outer H s E e' s'') s'

theorem cell_has {sc : Scope} {n : Nat} {x : Str} (h : sc.names.lookup x = some .cell) : ∃ c, (cellsFrom n sc.names []).lookup x = some c := by
  have q := PySem.W.cellsFrom_some sc.names n [] (.inl h)
  exact Option.isSome_iff_exists.mp q

theorem inv_start {CX : CXT} {P : Program} {w : World} {K : PySem.W.Frag} {mg : Str → Option Value} {base : Heap} {N ps : List Str} {qual : Str} {scope : Scope} {f : Addr} {cd : Value} {A : Around} {outer : List Env} {s s1 : Shared} {H : Hp} {E : XK} {us : List Value} {vs : List V}
    (S : FnScope N ps scope) (hd : A.handled = none) (e0 : Env0 P w K mg base A outer s H) (hl : vs.length = ps.length) (r : Vals vs us)
    (x : InCallC s s.heap.objs.size (bindL (envOfC qual scope s.heap.objs.size f cd).kindOf (ps.zip us) fun _ => none) (cellsFrom (s.heap.objs.size + 1) scope.names []) (bindC (envOfC qual scope s.heap.objs.size f cd).kindOf (ps.zip us) fun _ => none) s1) :
    Inv (cxOf CX P w K mg base N qual scope f cd A outer s H E) [] (start N vs) H s1 := by
  have hpl : ps.length ≤ N.length := by have := congrArg List.length S.pre; rw [List.length_take] at this; first | lia | omega
  obtain ⟨h1, tk, rfl, hk⟩ := x.done
  have noA : ∀ b : Addr, b ∉ (cxOf CX P w K mg base N qual scope f cd A outer s H E).ex := fun b z => absurd (show b ∈ ([] : List Addr) from z) (by simp)
  refine ⟨⟨e0.mod, S.kind, rfl, rfl, Nat.le_refl _, fun y z c h1 h2 => ?_, fun y hy => ?_, fun y c _ h => ?_, fun _ => hd, Around.frames_deeper e0.frames, .inr ⟨rfl, rfl⟩, fun b z => absurd z (noA b), e0.bs, e0.bsz, fun b _ _ => noA b, fun b z => absurd z (noA b), e0.funs, e0.frf⟩,
    rfl, e0.bare, Un.kept hk, ⟨_, x.toInCall.ns, fun i y v h1 h2 h3 => ?_⟩, fun y c h => ⟨_, x.cell y c h⟩, e0.hok.fresh (Nat.le_refl _), fun y c h => ?_, fun p hp => absurd (show p ∈ ([] : List (Addr × Obj)) from hp) (by simp), e0.hok.kept hk, ?_⟩
  · exact name_of_addr x.apart (PySem.mem_of_lookup h1) (PySem.mem_of_lookup h2)
  · have hy : scope.names.lookup y = some .cell ∨ scope.names.lookup y = some .free := hy
    rcases hy with hy | hy
    · exact cell_has hy
    · exact absurd rfl (S.nofree _ (PySem.mem_of_lookup hy))
  · exact Nat.le_of_lt (x.above y c (PySem.mem_of_lookup h))
  · have hi : i < vs.length := by
      unfold start at h2
      by_cases hi : i < vs.length
      · exact hi
      · rw [List.getElem?_append_right (by simpa using hi)] at h2
        rw [List.getElem?_replicate] at h2
        split at h2 <;> cases h2
    have ha : vs[i]? = some v := by
      unfold start at h2
      rw [List.getElem?_append_left (by simpa using hi), List.getElem?_map] at h2
      cases e : vs[i]? with
      | none => rw [e] at h2; cases h2
      | some a => rw [e] at h2; cases h2; rfl
    obtain ⟨u, hu, rv⟩ := r.get ha
    have hp : ps[i]? = some y := by
      rw [← S.pre, List.getElem?_take_of_lt (by first | lia | omega)]; exact h1
    have ndP : ps.Nodup := by rw [← S.pre]; exact S.nd.sublist (List.take_sublist _ _)
    refine ⟨u, rv, ?_⟩
    rcases S.par y (List.mem_of_getElem? hp) with k | k
    · exact .inl ⟨k, bindL_get ndP hp hu k⟩
    · obtain ⟨c, e⟩ := cell_has (n := s.heap.objs.size + 1) k
      refine .inr ⟨.inl k, c, e, ?_⟩
      have q := x.cell y c e
      rw [bindC_get ndP hp hu (by show scope.names.lookup y ≠ _; rw [k]; decide)] at q
      exact q
  · exact e0.hok.fresh (Nat.le_of_lt (x.above y c (PySem.mem_of_lookup h)))
  · unfold start
    show _ = N.length
    rw [List.length_append, List.length_map, List.length_replicate]
    first | lia | omega

/-- THE RULE: a def (or a method) of the text, by its body. The body's reading t is chosen for each entry; it is run at the parameters' values -/
theorem fn_of {CX : CXT} {P : Program} {w : World} {K : PySem.W.Frag} {mg : Str → Option Value} {base : Heap} {k : Nat} {f : Addr} {name qual : Str} {params : Arguments} {body : List Stmt} {scope : Scope} {dV kV doc pm cdv ct oc : Value} {an od : Option Addr}
    {osl : Array (Option Value)} {N ps : List Str} {sp : Sp} (lk : K.lookup f = some ⟨oc, od, .func (PySem.W.fnOf name qual params body scope dV kV doc pm an cdv ct), osl⟩) (hcd : PySem.W.codeIn K cdv qual = true) (S : FnScope N ps scope)
    (len : ∀ vs H Q E, sp vs H Q E → vs.length = ps.length)
    (hbody : ∀ (A : Around) (outer : List Env) (s : Shared) (H : Hp) (vs : List V) (Q : VK) (E : XK), Room k (A.deeper (envOfC qual scope s.heap.objs.size f cdv)) → sp vs H Q E →
      ∃ t, PSs (cxOf CX P w K mg base N qual scope f cdv A outer s H E) body t ∧ t { nx := fun _ H' => Q .non H', rt := Q } (start N vs) H) :
    FnOk P w K mg base CX (k + 1) f (PySem.W.fnOf name qual params body scope dV kV doc pm an cdv ct) ps sp := by
  refine ⟨len, fun A outer s H args us vs Q E hr e0 hb r hsp => ?_⟩
  have hl := len _ _ _ _ hsp
  have KX : K.In s.heap := e0.mod.kin.keeps fun b o e => (e0.bs b o e).1
  have lim : s.heap.NoLimit := e0.mod.nolimit.keeps fun b o e => (e0.bs b o e).1
  have hkind : ∀ y ∈ ps.zip us, scope.names.lookup y.1 = some .local ∨ (scope.names.lookup y.1 = some .cell ∧ ((cellsFrom (s.heap.objs.size + 1) scope.names []).lookup y.1).isSome = true) := fun ⟨n, v⟩ hy => by
    rcases S.par n (List.of_mem_zip hy).1 with q | q
    · exact .inl q
    · exact .inr ⟨q, PySem.W.cellsFrom_some _ _ _ (.inl q)⟩
  refine codeAny_call_function hr.depth (KX _ _ lk) rfl S.co S.gen rfl (PySem.W.codeRec_of KX hcd) (hb _ _ _ _ ?_)
  refine wpAny_newFunctionEnv_cells S.kind hkind fun env he s1 x => ?_
  subst he
  refine ⟨lim.keeps x.toInCall.keep, codeAny_func ?_⟩
  obtain ⟨t, ht, hq⟩ := hbody A outer s H vs Q E (hr.deeper _) hsp
  have I : Inv (cxOf CX P w K mg base N qual scope f cdv A outer s H E) [] (start N vs) H s1 := inv_start S hr.hd e0 hl r x
  refine wpAny_mono (ht [] s1 (start N vs) H _ I hq) (fun fl s' hs => ?_) fun e s' hs => hs
  have fin : ∀ {σ' : St} {H' : Hp} {v : V} {u : Value}, Inv (cxOf CX P w K mg base N qual scope f cdv A outer s H E) [] σ' H' s' → RelV v u → Q v H' → CE outer P w H s Q u s' :=
    fun {σ' H' v u} J rv q => ⟨v, H', J.os, J.bare, J.base, J.hok, rv, q⟩
  cases fl with
  | ret u =>
    obtain ⟨v, σ', H', J, rv, q⟩ := hs
    exact fin J rv q
  | next =>
    obtain ⟨σ', H', J, q⟩ := hs
    exact fin (v := V.non) (u := Value.none) J rfl q
  | brk =>
    obtain ⟨_, _, _, q⟩ := hs
    exact False.elim q
  | cont =>
    obtain ⟨_, _, _, q⟩ := hs
    exact False.elim q
end L2

namespace L2
open PySem PySem.Spec PyProof.Rows
section
variable {X : Cx} {x : Str} {p pos : Pos} {e : Expr} {es : List Expr} {t : TA} {id T : String} {r : List V → Hp → VK → Prop}

def tCB (r : List V → Hp → VK → Prop) (t : TA) : TE := fun σ H Q => t σ H fun vs H1 => r vs H1 Q
/-- f(e, ..), f a built-in function -/
theorem pe_callB (hc : CallR X (.builtin id) r) (hg : Gl X x) (hm : X.mg x = none) (hv : bootBuiltins x = some (.builtin id)) (ha : PA X (e :: es) t) (hn : x ≠ "__name__" := by decide) (hdb : (x == ("__debug__" : Str)) = false := by decide)
    (he : starEach (e :: es) X.env = (false, eval e X.env) :: starEach es X.env := by rfl) (hpl : (backTo pos (starEach es X.env)).any (·.1) = false := by rfl) : PE X (.Call (.Name x p) (e :: es) [] pos) (tCB r t) := by
  intro pins s σ H Q I h
  refine wpAny_Call_Name_kw (ld_blt I hg hm hv ?_ hn hdb)
  exact PyProof.Rows.callWith_builtin1 (thn (ha pos pins s σ H _ I h) fun us s1 ⟨vs, H1, I1, r1, q1⟩ => hc pins s1 σ H1 vs us Q I1 r1 q1) he hpl
/-- T(e, ..), T a built-in type -/
theorem pe_callTy (hc : CallR X (.type T) r) (hg : Gl X x) (hm : X.mg x = none) (hv : bootBuiltins x = some (.type T)) (ha : PA X (e :: es) t) (hn : x ≠ "__name__" := by decide) (hdb : (x == ("__debug__" : Str)) = false := by decide)
    (he : starEach (e :: es) X.env = (false, eval e X.env) :: starEach es X.env := by rfl) (hpl : (backTo pos (starEach es X.env)).any (·.1) = false := by rfl) : PE X (.Call (.Name x p) (e :: es) [] pos) (tCB r t) := by
  intro pins s σ H Q I h
  refine wpAny_Call_Name_kw (ld_blt I hg hm hv ?_ hn hdb)
  exact PyProof.Rows.callWith_type1 (thn (ha pos pins s σ H _ I h) fun us s1 ⟨vs, H1, I1, r1, q1⟩ => hc pins s1 σ H1 vs us Q I1 r1 q1) he hpl
end
end L2

namespace HT
open PySem PyProof.Rows

section
open PySem.SeqAt
open PySem.AutoSeq1 (wpAny_loadPart')
open PySem.MeetsSeq PySem.MeetsSeq2 PySem.MeetsSeq3

end

section
variable {prog : Program} {w : World} {A : Around} {E : Value → Shared → Prop} {s : Shared}

/-- a slice's bound as a place among n (d where it is left out) -/
def sIx (n d : Nat) : Option Int → Nat
  | none => d
  | some v => if v < 0 then (v + (n : Int)).toNat else min v.toNat n
theorem sIx_le (n d : Nat) (hd : d ≤ n) (o : Option Int) : sIx n d o ≤ n := by
  cases o with
  | none => exact hd
  | some v =>
    show (if v < 0 then (v + (n : Int)).toNat else min v.toNat n) ≤ n
    by_cases hv : v < 0
    · rw [if_pos hv]; first | lia | omega
    · rw [if_neg hv]; exact Nat.min_le_right _ _
theorem clip_eq (v : Int) (n d : Nat) : (if v < 0 then max (v + (n : Int)) 0 else min v (n : Int)) = ((sIx n d (some v) : Nat) : Int) := by
  show (if v < 0 then max (v + (n : Int)) 0 else min v (n : Int)) = (((if v < 0 then (v + (n : Int)).toNat else min v.toNat n) : Nat) : Int)
  by_cases hv : v < 0
  · simp only [if_pos hv]; first | lia | omega
  · simp only [if_neg hv]; first | lia | omega
theorem adjust_gen (lo hi : Option Int) (n : Nat) : Builtin.Slice.sliceAdjust lo hi 1 (n : Int) = (((sIx n 0 lo : Nat) : Int), ((sIx n n hi : Nat) : Int)) := by
  have h1 : ¬ ((1 : Int) < 0) := by first | lia | omega
  unfold Builtin.Slice.sliceAdjust
  simp only [h1, if_false]
  refine Prod.ext ?_ ?_
  · cases lo with
    | none => rfl
    | some v => exact clip_eq v n 0
  · cases hi with
    | none => rfl
    | some v => exact clip_eq v n n
theorem places_gen (i j : Nat) : Builtin.Slice.slicePlaces (i : Int) (j : Int) 1 = j - i := by
  unfold Builtin.Slice.slicePlaces
  have h1 : (1 : Int) > 0 := by first | lia | omega
  simp only [h1, if_true, Int.ediv_one]
  split <;> first | lia | omega
theorem slicePart_ {v : Value} {o : Option Int} {Q : Option Int → Shared → Prop} (p : IsPart v o) (h : Q o s) : wpAny (model prog w) A (Builtin.Slice.slicePartIndex v) Q E s := by
  cases p with
  | none => exact slicePart_none h
  | int i t => exact slicePart_int h
theorem sliceApplied_gen {sl : Addr} {vl vu : Value} {lo hi : Option Int} {n : Nat} {Q : Int × Int × Nat → Shared → Prop} (hs : s.heap.IsSliceOf sl vl vu .none) (pl : IsPart vl lo) (pu : IsPart vu hi)
    (h : Q (((sIx n 0 lo : Nat) : Int), 1, sIx n n hi - sIx n 0 lo) s) : wpAny (model prog w) A (Builtin.Slice.sliceApplied (.ref sl) (pure (n : Int))) Q E s := by
  obtain ⟨os, hos, hcs, hds⟩ := id hs
  unfold Builtin.Slice.sliceApplied Builtin.Slice.sliceFields
  refine wpAny_bind (wpAny_bind (wpAny_field hos hds (x := vl) rfl (wpAny_bind (wpAny_field hos hds (x := vu) rfl (wpAny_bind (wpAny_field hos hds (x := .none) rfl (wpAny_pure ?_)))))))
  refine wpAny_bind (slicePart_none ?_)
  show wpAny _ _ (if ((1 : Int) == 0) = true then _ else _) _ _ s
  rw [if_neg (by decide)]
  refine wpAny_bind (slicePart_ pl (wpAny_bind (slicePart_ pu (wpAny_bind (wpAny_pure ?_)))))
  show wpAny _ _ (match Builtin.Slice.sliceAdjust lo hi 1 (n : Int) with | (lo, hi) => pure (lo, (1 : Int), Builtin.Slice.slicePlaces lo hi 1)) _ _ s
  rw [adjust_gen lo hi n]
  show wpAny _ _ (pure (((sIx n 0 lo : Nat) : Int), (1 : Int), Builtin.Slice.slicePlaces ((sIx n 0 lo : Nat) : Int) ((sIx n n hi : Nat) : Int) 1)) _ _ s
  rw [places_gen]
  exact wpAny_pure h
theorem pick_gen (xs : Array Value) (i k : Nat) : ((List.range k).filterMap fun (m : Nat) => xs[((i : Int) + (m : Int) * 1).toNat]?).toArray = ((xs.toList.drop i).take k).toArray := by
  have e : (fun (m : Nat) => xs[((i : Int) + (m : Int) * 1).toNat]?) = fun m => xs[i + m]? := by
    funext m
    have : ((i : Int) + (m : Int) * 1).toNat = i + m := by first | lia | omega
    rw [this]
  rw [e]
  have := pick_run xs i k
  rw [List.filterMap_map] at this
  have e2 : ((fun x => xs[x]?) ∘ fun x => i + x) = fun m => xs[i + m]? := rfl
  rw [e2] at this
  rw [this]

theorem getItem_tuple_cut {t sl : Addr} {items : Array Value} {vl vu : Value} {lo hi : Option Int} {Q : Value → Shared → Prop} (ht : IsTup s.heap t items) (hs : s.heap.IsSliceOf sl vl vu .none) (pl : IsPart vl lo) (pu : IsPart vu hi)
    (hw : ¬ (sIx items.size 0 lo = 0 ∧ sIx items.size items.size hi = items.size))
    (h : Q (.ref s.heap.objs.size) { s with heap := s.heap.push { cls := .type "tuple", data := .seq ((items.toList.drop (sIx items.size 0 lo)).take (sIx items.size items.size hi - sIx items.size 0 lo)).toArray } })
    (hsz : items.size ≤ sizeLine) : wpAny (model prog w) A (getItem (.ref t) (.ref sl)) Q E s := by
  have htake : sizeOk (.seq ((items.toList.drop (sIx items.size 0 lo)).take (sIx items.size items.size hi - sIx items.size 0 lo)).toArray) := by
    show ((items.toList.drop (sIx items.size 0 lo)).take (sIx items.size items.size hi - sIx items.size 0 lo)).toArray.size ≤ sizeLine
    rw [List.size_toArray, List.length_take, List.length_drop, Array.length_toList]
    first | lia | omega
  have hj : sIx items.size items.size hi ≤ items.size := sIx_le _ _ (Nat.le_refl _) hi
  obtain ⟨os, hos, hcs, hds⟩ := id hs
  have hTs : s.TypeIs (.ref sl) "slice" := ⟨os, hos, hcs⟩
  unfold getItem
  try with_reducible refine wpAny_holding ?_
  first | refine wpAny_bind (wpAny_pure ?_) | skip
  refine wpAny_bind (wpAny_sequenceKey ht.typeIs (by decide) ?_)
  refine wpAny_bind (wpAny_callSpecial?_slot (name := Str.ofString "__getitem__") ht.typeIs PyProof.Rows.slot_tuple_getitem
    (wpAny_call_entry PyProof.Rows.slot_tuple_getitem ht.typeIs entry_tuple_getitem ?_ (args_tuple_getitem _ _)))
  show wpAny _ _ (Builtin.Tuple.tupleItemsOf (.ref t) >>= _) _ _ s
  refine wpAny_bind (tupleItemsOf_ ht ?_)
  refine wpAny_bind (wpAny_typeOf hTs ?_)
  rw [if_pos (by decide)]
  refine wpAny_bind (sliceApplied_gen hs pl pu ?_)
  have hno : ¬ ((((sIx items.size 0 lo : Nat) : Int) == 0 && (1 : Int) == 1 && (sIx items.size items.size hi - sIx items.size 0 lo) == items.size) = true) := by
    intro q
    rw [Bool.and_eq_true, Bool.and_eq_true] at q
    have q1 : ((sIx items.size 0 lo : Nat) : Int) = 0 := eq_of_beq q.1.1
    have q2 : sIx items.size items.size hi - sIx items.size 0 lo = items.size := eq_of_beq q.2
    exact hw ⟨by first | lia | omega, by first | lia | omega⟩
  show wpAny _ _ (if (((sIx items.size 0 lo : Nat) : Int) == 0 && (1 : Int) == 1 && (sIx items.size items.size hi - sIx items.size 0 lo) == items.size) = true then _ else _) _ _ s
  rw [if_neg hno, pick_gen]
  first
    | exact wpAny_bind (m := Builtin.Tuple.tupleExact _) (wpAny_newObj_type (wpAny_pure ⟨_, rfl, wpAny_pure h⟩) htake)
    | exact wpAny_bind (m := Builtin.Tuple.tupleExact _) (wpAny_newObj_type (wpAny_bind (wpAny_pure (wpAny_pure ⟨_, rfl, wpAny_pure h⟩))) htake)
    | exact wpAny_bind (wpAny_bind (m := Builtin.Tuple.tupleExact _) (wpAny_newObj_type (wpAny_pure (wpAny_pure ⟨_, rfl, wpAny_pure h⟩)) htake))
    | exact wpAny_bind (wpAny_bind (m := Builtin.Tuple.tupleExact _) (wpAny_newObj_type (wpAny_pure ⟨_, rfl, wpAny_pure h⟩) htake))
end
end HT

namespace L2
open PySem PySem.Spec PyProof.Rows

abbrev TO := St → Hp → (Option Int → Hp → Prop) → Prop
/-- a slice's part (left out, or an int) -/
def PO (X : Cx) (e : Option Expr) (t : TO) : Prop :=
  ∀ (pins : List (Addr × Obj)) (s : Shared) (σ : St) (H : Hp) (Q : Option Int → Hp → Prop), Inv X pins σ H s → t σ H Q →
    wpAny (model X.prog X.w) X.A (evalPart e X.env) (fun u s' => ∃ o H', Inv X pins σ H' s' ∧ IsPart u o ∧ Q o H') X.xe s
def tNoPart : TO := fun _ H Q => Q none H
def tPart (t : TE) : TO := fun σ H Q => t σ H fun x H1 => ∃ i, x = .int i ∧ Q (some i) H1

section
variable {X : Cx} {e : Expr} {te : TE} {lo hi : Option Expr} {tl th : TO} {pos p2 : Pos}

theorem po_none : PO X none tNoPart := by
  intro pins s σ H Q I h
  rw [evalPart_none]
  exact wpAny_pure ⟨none, H, I, .none, h⟩
theorem po_some (h : PE X e te) : PO X (some e) (tPart te) := by
  intro pins s σ H Q I hw
  rw [evalPart_some]
  refine thn (h pins s σ H _ I hw) fun u s1 ⟨x, H1, I1, r1, q1⟩ => ?_
  obtain ⟨i, rfl, q⟩ := q1
  obtain ⟨t, rfl⟩ := r1
  exact ⟨some i, H1, I1, .int i t, q⟩

/-- what a slice of a value is, by values: the slice object stands at sl -/
def SlR (X : Cx) (r : V → Option Int → Option Int → Hp → VK → Prop) : Prop :=
  ∀ (pins : List (Addr × Obj)) (s : Shared) (σ : St) (H : Hp) (x : V) (v vl vu : Value) (lo hi : Option Int) (sl : Addr) (Q : VK), Inv X pins σ H s → RelV x v → s.heap.IsSliceOf sl vl vu .none → IsPart vl lo → IsPart vu hi → r x lo hi H Q →
    ∃ T id, typeLookup (.type T) "__getitem__" = pure (some (.builtin id)) ∧ s.TypeIs v T ∧ wpAny (model X.prog X.w) X.A (getItem v (.ref sl)) (EP X pins σ Q) X.xe s
def tSl (r : V → Option Int → Option Int → Hp → VK → Prop) (te : TE) (tl th : TO) : TE := fun σ H Q => te σ H fun x H1 => tl σ H1 fun l H2 => th σ H2 fun u H3 => r x l u H3 Q
/-- a[lo:hi], any a -/
theorem pe_slice {r : V → Option Int → Option Int → Hp → VK → Prop} (hr : SlR X r) (he : PE X e te) (hl : PO X lo tl) (hu : PO X hi th) : PE X (.Subscript e (.Slice lo hi none p2) pos) (tSl r te tl th) := by
  intro pins s σ H Q I h
  refine Subscript_ (thn (he pins s σ H _ I h) fun v s1 ⟨x, H1, I1, r1, q1⟩ => ?_)
  refine wpAny_Slice (thn (hl pins s1 σ H1 _ I1 q1) fun vl s2 ⟨l, H2, I2, pl, q2⟩ => thn (hu pins s2 σ H2 _ I2 q2) fun vu s3 ⟨u, H3, I3, pu, q3⟩ => ?_)
  rw [evalPart_none]
  refine wpAny_pure ?_
  have I4 : Inv X pins σ H3 { s3 with heap := s3.heap.push { cls := .type "slice", data := .fields #[vl, vu, .none] } } := I3.kept (t' := s3.toks) fun b ob q => Heap.get?_push_of_some _ q
  obtain ⟨T, id, hT, ht, hg⟩ := hr pins { s3 with heap := s3.heap.push { cls := .type "slice", data := .fields #[vl, vu, .none] } } σ H3 x v vl vu l u s3.heap.objs.size Q I4 r1 (Heap.IsSliceOf.new ..) pl pu q3
  show wpAny (model X.prog X.w) X.A (subscriptTail e (.Slice lo hi none p2) v (.ref s3.heap.objs.size)) (EP X pins σ Q) X.xe { s3 with heap := s3.heap.push { cls := .type "slice", data := .fields #[vl, vu, .none] } }
  exact tail_any (ops := [.ref s3.heap.objs.size, v]) ht hT hg (by with_unfolding_all rfl)

/-- the items of xs[lo:hi] -/
def cutV (xs : List V) (lo hi : Option Int) : List V := (xs.drop (HT.sIx xs.length 0 lo)).take (HT.sIx xs.length xs.length hi - HT.sIx xs.length 0 lo)
theorem cutV_length (xs : List V) (lo hi : Option Int) : (cutV xs lo hi).length ≤ xs.length := by
  unfold cutV
  rw [List.length_take, List.length_drop]
  first | lia | omega
/-- t[lo:hi], not the whole of it (the whole would be t itself) -/
def rSlT (K : PySem.W.Frag) : V → Option Int → Option Int → Hp → VK → Prop := fun x lo hi H Q => ∃ a xs, x = .ref a ∧ SqT K H a xs ∧
  ¬ (HT.sIx xs.length 0 lo = 0 ∧ HT.sIx xs.length xs.length hi = xs.length) ∧ ∀ p, H p = none → Q (.ref p) (upd H p (.tup (cutV xs lo hi)))
theorem sl_tup : SlR X (rSlT X.K) := by
  intro pins s σ H x v vl vu lo hi sl Q I rx hs pl pu h
  obtain ⟨a, xs, rfl, hx, hw, q⟩ := h
  cases rx
  obtain ⟨its, r, ht, hz⟩ := I.tuple hx
  have hlen : its.toArray.size = xs.length := by rw [List.size_toArray]; exact r.length.symm
  refine ⟨"tuple", _, PyProof.Rows.slot_tuple_getitem.lookup, ht.typeIs, ?_⟩
  refine HT.getItem_tuple_cut ht hs pl pu (by rw [hlen]; exact hw) ?_ (by rw [hlen]; exact hz)
  rw [hlen]
  refine ⟨.ref s.heap.objs.size, _, I.laid (t' := s.toks) (o := .tup (cutV xs lo hi)) (fun b ob q => Heap.get?_push_of_some _ q) (Nat.le_refl _) ?_, rfl, q _ (I.hok.fresh (Nat.le_refl _))⟩
  exact ⟨Nat.le_trans (cutV_length xs lo hi) hz, _, (r.drop (HT.sIx xs.length 0 lo)).take (HT.sIx xs.length xs.length hi - HT.sIx xs.length 0 lo), IsTup.new _ _⟩

end
end L2

namespace L2
open PySem PySem.Spec PyProof.Rows

/-- the place that an index of any sign means -/
def ixN (n : Nat) (i : Int) : Option Nat := if 0 ≤ i then (if i < n then some i.toNat else none) else if -(n : Int) ≤ i then some (i + n).toNat else none
def atI {α : Type} (xs : List α) (i : Int) : Option α := (ixN xs.length i).bind fun j => xs[j]?
theorem ixN_seq {n : Nat} {i : Int} {j : Nat} (h : ixN n i = some j) : seqIndex? i n = some j ∧ j < n ∧ -(n : Int) ≤ i ∧ i < n := by
  unfold ixN at h
  by_cases h0 : 0 ≤ i
  · rw [if_pos h0] at h
    by_cases h1 : i < n
    · rw [if_pos h1] at h
      have e : i.toNat = j := Option.some.inj h
      exact ⟨by rw [seqIndex_of h0 h1, e], by first | lia | omega, by first | lia | omega, h1⟩
    · rw [if_neg h1] at h; cases h
  · rw [if_neg h0] at h
    by_cases h1 : -(n : Int) ≤ i
    · rw [if_pos h1] at h
      have e : (i + n).toNat = j := Option.some.inj h
      exact ⟨by rw [seqIndex_neg (by first | lia | omega) h1, e], by first | lia | omega, h1, by first | lia | omega⟩
    · rw [if_neg h1] at h; cases h
theorem atI_get {α : Type} {xs : List α} {i : Int} {v : α} (h : atI xs i = some v) : ∃ j, seqIndex? i xs.length = some j ∧ xs[j]? = some v ∧ j < xs.length ∧ -(xs.length : Int) ≤ i ∧ i < xs.length := by
  unfold atI at h
  cases e : ixN xs.length i with
  | none => rw [e] at h; cases h
  | some j =>
    rw [e] at h
    obtain ⟨h1, h2, h3, h4⟩ := ixN_seq e
    exact ⟨j, h1, h, h2, h3, h4⟩
theorem atI_nat {α : Type} {xs : List α} {j : Nat} {v : α} (h : xs[j]? = some v) : atI xs (j : Int) = some v := by
  have hj : j < xs.length := (List.getElem?_eq_some_iff.mp h).1
  have e : ixN xs.length (j : Int) = some j := by
    unfold ixN
    rw [if_pos (by first | lia | omega), if_pos (by first | lia | omega)]; simp
  unfold atI; rw [e]; exact h
/-- what stands as an index of a plain subscript -/
def PlainIx (b : Expr) : Prop := ∀ o i, subscripted b false o i = operate [o, i] (getItem o i)
/-- a subscript by values -/
def IxR (X : Cx) (r : R2) : Prop :=
  ∀ (value slice : Expr) (pins : List (Addr × Obj)) (s : Shared) (σ : St) (H : Hp) (x y : V) (v u : Value) (Q : VK), Inv X pins σ H s → RelV x v → RelV y u → r x y H Q →
    subscripted slice false v u = operate [v, u] (getItem v u) → wpAny (model X.prog X.w) X.A (subscriptTail value slice v u) (EP X pins σ Q) X.xe s
/-- a call of a builtin's method by values: the receiver, the arguments -/
def MtR (X : Cx) (id : String) (r : V → List V → Hp → VK → Prop) : Prop :=
  ∀ (pins : List (Addr × Obj)) (s : Shared) (σ : St) (H : Hp) (x : V) (xs : List V) (v : Value) (us : List Value) (Q : VK), Inv X pins σ H s → RelV x v → Vals xs us → r x xs H Q →
    wpAny (model X.prog X.w) X.A (call (.builtin id) (v :: us)) (EP X pins σ Q) X.xe s
section
variable {X : Cx} {a b : Expr} {ta tb : TE} {pos : Pos}
/-- a[b] -/
theorem pe_ix {r : R2} (hr : IxR X r) (ha : PE X a ta) (hb : PE X b tb) (hs : PlainIx b) : PE X (.Subscript a b pos) (tOp r ta tb) := by
  intro pins s σ H Q I h
  exact Subscript_ (binT ha hb I h fun v u s2 x y H2 I2 rx ry q => hr a b pins s2 σ H2 x y v u Q I2 rx ry q (hs _ _))

def rIxL (K : PySem.W.Frag) : R2 := fun x y H Q => ∃ p xs i v, x = .ref p ∧ y = .int i ∧ SqL K H p xs ∧ atI xs i = some v ∧ Q v H
def rIxS : R2 := fun x y H Q => ∃ z i c, x = .str z ∧ y = .int i ∧ z.length ≤ sizeLine ∧ atI z.cps.toList i = some c ∧ Q (.str ⟨#[c]⟩) H
theorem ix_list : IxR X (rIxL X.K) := by
  intro value slice pins s σ H x y v u Q I rx ry h hs
  obtain ⟨p, xs, i, z, rfl, rfl, hq, he, q⟩ := h
  cases rx
  obtain ⟨t, rfl⟩ := ry
  obtain ⟨its, r, pl, hz⟩ := I.list hq
  obtain ⟨j, h1, h2, h3, h4, h5⟩ := atI_get he
  obtain ⟨w, ew, rw'⟩ := r.get h2
  have hl := r.length
  have hn := line63
  have fin : EP X pins σ Q w s := ⟨z, H, I, rw', q⟩
  by_cases h0 : 0 ≤ i
  · have hj : i.toNat = j := by
      rw [seqIndex_of h0 h5] at h1
      exact Option.some.inj h1
    exact item_listR pl.isList h0 (by first | lia | omega) (by rw [hj]; simpa using ew) fin hs
  · have hj : (i + (its.toArray.size : Int)).toNat = j := by
      rw [seqIndex_neg (by first | lia | omega) h4] at h1
      rw [List.size_toArray, ← hl]
      exact Option.some.inj h1
    exact subscriptTail_builtinR (x := w) pl.isList.typeIs slot_list_getitem.lookup
      (wpAny_getItem_list_neg (Q := fun r s' => r = w ∧ EP X pins σ Q r s') pl.isList (by first | lia | omega) (by rw [List.size_toArray] <;> first | lia | omega) (by first | lia | omega) (by rw [hj]; simpa using ew) ⟨rfl, fin⟩) hs
theorem ix_str : IxR X rIxS := by
  intro value slice pins s σ H x y v u Q I rx ry h hs
  obtain ⟨z, i, c, rfl, rfl, hz, he, q⟩ := h
  obtain ⟨t, rfl⟩ := rx
  obtain ⟨t', rfl⟩ := ry
  obtain ⟨j, h1, h2, h3, h4, h5⟩ := atI_get he
  have hl : z.cps.toList.length = z.length := by simp [Str.length]
  rw [hl] at h1 h4 h5
  have hn := line63
  exact tail_any (typeIs_str s z t) slot_str_getitem.lookup (getItem_str (c := c) (by
    have e1 : decide (i < -(2 ^ 63 : Int)) = false := decide_eq_false (by first | lia | omega)
    have e2 : decide (i ≥ 2 ^ 63) = false := decide_eq_false (by first | lia | omega)
    rw [e1, e2, Bool.or_false]) (by rw [h1]; simpa using h2) ⟨.str ⟨#[c]⟩, H, I.tok _, ⟨_, rfl⟩, q⟩) hs
/-- the list's object behind a store -/
theorem mapSeq_set (its : List Value) (n j : Nat) (u : Value) : Obj.mapSeq (·.setIfInBounds j u) { cls := .type "list", data := .seq its.toArray n } = { cls := .type "list", data := .seq (its.set j u).toArray n } := by
  simp [Obj.mapSeq]
theorem Inv.lst {pins : List (Addr × Obj)} {σ : St} {H : Hp} {s : Shared} {p : Addr} {xs : List V} (I : Inv X pins σ H s) (h : H p = some (.lst xs)) :
    ∃ (its : List Value) (n : Nat), Vals xs its ∧ s.heap.get? p = some { cls := .type "list", data := .seq its.toArray n } ∧ xs.length ≤ sizeLine := by
  obtain ⟨z, its, n, r, e⟩ := I.hok p _ h
  exact ⟨its, n, r, e, z⟩
/-- the list at p is written by an update of its object -/
theorem Inv.lstUpd {pins : List (Addr × Obj)} {σ : St} {H : Hp} {s : Shared} {p : Addr} {xs ys : List V} {its its' : List Value} {n n' : Nat} {f : Obj → Obj} (I : Inv X pins σ H s) (h : H p = some (.lst xs))
    (ho : s.heap.get? p = some { cls := .type "list", data := .seq its.toArray n }) (hf : f { cls := .type "list", data := .seq its.toArray n } = { cls := .type "list", data := .seq its'.toArray n' }) (r : Vals ys its') (hz : ys.length ≤ sizeLine) (t : Nat) :
    Inv X pins σ (upd H p (.lst ys)) { s with heap := s.heap.update p f, toks := t } := by
  have e : (s.heap.update p f).get? p = some { cls := .type "list", data := .seq its'.toArray n' } := by
    rw [Heap.get?_update_self f ho (by rw [hf] <;> rfl), hf]
  refine I.write (x := p) (e := p) (by rw [h]; trivial) (.inl rfl) (fun b u hb q => (Heap.get?_update_other _ _ (Ne.symm hb)).trans q) ⟨_, e⟩ ?_
  exact ⟨hz, its', n', r, e⟩
def rSetL : V → V → V → Hp → (Hp → Prop) → Prop := fun o i v H Q => ∃ p xs k j, o = .ref p ∧ i = .int k ∧ H p = some (.lst xs) ∧ ixN xs.length k = some j ∧ Q (upd H p (.lst (xs.set j v)))
theorem set_list : PSet X rSetL := by
  intro pins s σ H o i v ov iv u Q I ro ri rv h
  obtain ⟨p, xs, k, j, rfl, rfl, hp, hj, q⟩ := h
  cases ro
  obtain ⟨t, rfl⟩ := ri
  obtain ⟨its, n, r, ho, hz⟩ := I.lst hp
  obtain ⟨h1, h2, h3, h4⟩ := ixN_seq hj
  have hl := r.length
  have hn := line63
  have I' : Inv X pins σ (upd H p (.lst (xs.set j v))) { s with heap := s.heap.update p (Obj.mapSeq (·.setIfInBounds j u)) } :=
    I.lstUpd hp ho (mapSeq_set its n j u) (r.set rv j) (by rw [List.length_set]; exact hz) s.toks
  by_cases h0 : 0 ≤ k
  · have hk : k.toNat = j := by
      rw [seqIndex_of h0 h4] at h1
      exact Option.some.inj h1
    exact PySem.W.ki_setAt ho h0 (by first | lia | omega) (by rw [List.size_toArray, ← hl]; exact h4) (by rw [hk]; exact ⟨_, I', q⟩)
  · have hk : (k + (its.toArray.size : Int)).toNat = j := by
      rw [seqIndex_neg (by first | lia | omega) h3] at h1
      rw [List.size_toArray, ← hl]
      exact Option.some.inj h1
    exact PySem.W.ki_setBack ho (by first | lia | omega) (by rw [List.size_toArray, ← hl]; exact h3) (by first | lia | omega) (by rw [hk]; exact ⟨_, I', q⟩)

theorem slice_bounds (lo hi : Option Int) (n : Nat) : (sliceBounds lo hi none n).1 = ((HT.sIx n 0 lo : Nat) : Int) ∧ (sliceBounds lo hi none n).2.1 = ((HT.sIx n n hi : Nat) : Int) ∧ (sliceBounds lo hi none n).2.2 = 1 := by
  refine ⟨?_, ?_, rfl⟩
  · cases lo with
    | none => simp [sliceBounds, HT.sIx]
    | some i =>
      simp only [sliceBounds, HT.sIx, Option.getD_none, show (1 : Int) > 0 by decide, if_true]
      by_cases h : i < 0
      · simp only [h, if_true] <;> first | lia | omega
      · simp only [h, if_false] <;> first | lia | omega
  · cases hi with
    | none => simp [sliceBounds, HT.sIx]
    | some i =>
      simp only [sliceBounds, HT.sIx, Option.getD_none, show (1 : Int) > 0 by decide, if_true]
      by_cases h : i < 0
      · simp only [h, if_true] <;> first | lia | omega
      · simp only [h, if_false] <;> first | lia | omega
theorem slicePick_cut (its : List Value) (lo hi : Option Int) : slicePick its.toArray lo hi none = ((its.drop (HT.sIx its.length 0 lo)).take (HT.sIx its.length its.length hi - HT.sIx its.length 0 lo)).toArray := by
  obtain ⟨h1, h2, h3⟩ := slice_bounds lo hi its.toArray.size
  unfold slicePick
  rw [h1, h2, h3]
  simp only [sliceRange_one, pick_run, List.size_toArray] <;> rfl
/-- xs[lo:hi] of a list: a new list -/
def rSlL (K : PySem.W.Frag) : V → Option Int → Option Int → Hp → VK → Prop := fun x lo hi H Q => ∃ a xs, x = .ref a ∧ SqL K H a xs ∧ ∀ p, H p = none → Q (.ref p) (upd H p (.lst (cutV xs lo hi)))
theorem sl_list : SlR X (rSlL X.K) := by
  intro pins s σ H x v vl vu lo hi sl Q I rx hs pl pu h
  obtain ⟨a, xs, rfl, hx, q⟩ := h
  cases rx
  obtain ⟨its, r, ht, hz⟩ := I.list hx
  have hlen := r.length
  refine ⟨"list", _, slot_list_getitem.lookup, ht.isList.typeIs, ?_⟩
  refine wpAny_getItem_list_slice ht.isList hs pl pu .none (by simp) ?_ (by rw [List.size_toArray] <;> first | lia | omega)
  rw [slicePick_cut, ← hlen]
  refine ⟨.ref s.heap.objs.size, _, I.laid (t' := s.toks) (o := .lst (cutV xs lo hi)) (fun b ob q => Heap.get?_push_of_some _ q) (Nat.le_refl _) ?_, rfl, q _ (I.hok.fresh (Nat.le_refl _))⟩
  exact ⟨Nat.le_trans (cutV_length xs lo hi) hz, _, 0, (r.drop (HT.sIx xs.length 0 lo)).take (HT.sIx xs.length xs.length hi - HT.sIx xs.length 0 lo), Heap.get?_push_size _ rfl⟩

def flatV : V → Bool
  | .non => true
  | .bl _ => true
  | .int _ => true
  | .str _ => true
  | _ => false
/-- == of flat values -/
def eqV : V → V → Bool
  | .non, .non => true
  | .bl a, .bl b => a == b
  | .bl a, .int b => (if a then 1 else 0) == b
  | .int a, .bl b => a == (if b then 1 else 0)
  | .int a, .int b => a == b
  | .str a, .str b => a == b
  | _, _ => false
theorem eqAt_V {A : Around} {s : Shared} {y x : V} {u v : Value} (ry : RelV y u) (rx : RelV x v) (fy : flatV y = true) (fx : flatV x = true) : SeqAt.EqAt A s u v (eqV y x) := by
  cases y with
  | non =>
    cases ry
    cases x with
    | non => cases rx; exact SeqAt.EqAt.same _
    | bl b => cases rx; exact SeqAt.EqAt.none_bool b
    | int b => obtain ⟨t, rfl⟩ := rx; exact SeqAt.EqAt.none_int b t
    | str b => obtain ⟨t, rfl⟩ := rx; exact SeqAt.EqAt.none_str b t
    | _ => exact absurd (show false = true from fx) Bool.false_ne_true
  | bl a =>
    cases ry
    cases x with
    | non => cases rx; exact SeqAt.EqAt.bool_none a
    | bl b => cases rx; exact SeqAt.EqAt.bool_bool a b
    | int b => obtain ⟨t, rfl⟩ := rx; exact SeqAt.EqAt.bool_int a b t
    | str b => obtain ⟨t, rfl⟩ := rx; exact SeqAt.EqAt.bool_str a b t
    | _ => exact absurd (show false = true from fx) Bool.false_ne_true
  | int a =>
    obtain ⟨t', rfl⟩ := ry
    cases x with
    | non => cases rx; exact SeqAt.EqAt.int_none a t'
    | bl b => cases rx; exact SeqAt.EqAt.int_bool a t' b
    | int b => obtain ⟨t, rfl⟩ := rx; exact SeqAt.EqAt.int_int a t' b t
    | str b => obtain ⟨t, rfl⟩ := rx; exact SeqAt.EqAt.int_str a t' b t
    | _ => exact absurd (show false = true from fx) Bool.false_ne_true
  | str a =>
    obtain ⟨t', rfl⟩ := ry
    cases x with
    | non => cases rx; exact SeqAt.EqAt.str_none a t'
    | bl b => cases rx; exact SeqAt.EqAt.str_bool a t' b
    | int b => obtain ⟨t, rfl⟩ := rx; exact SeqAt.EqAt.str_int a t' b t
    | str b => obtain ⟨t, rfl⟩ := rx; exact SeqAt.EqAt.str_str a t' b t
    | _ => exact absurd (show false = true from fx) Bool.false_ne_true
  | _ => exact absurd (show false = true from fy) Bool.false_ne_true
theorem call_len_seq : CallR X (.builtin "len") (fun xs H Q => ∃ p ys, xs = [.ref p] ∧ (SqL X.K H p ys ∨ SqT X.K H p ys) ∧ Q (.int ys.length) H) := by
  intro pins s σ H xs us Q I r h
  obtain ⟨p, ys, rfl, hq, q⟩ := h
  obtain ⟨u, rfl, rx⟩ := vals1 r
  cases rx
  have hn := line63
  rcases hq with hq | hq
  · obtain ⟨its, r', pl, hz⟩ := I.list hq
    have hlen := r'.length
    exact Calls.call_len_list pl.isList (by simp only [List.size_toArray] <;> first | lia | omega) ⟨.int ys.length, H, I.tok _, ⟨s.toks + 1, by rw [List.size_toArray, hlen]⟩, q⟩
  · obtain ⟨its, r', pl, hz⟩ := I.tuple hq
    have hlen := r'.length
    exact len_tuple pl (by simp only [List.size_toArray] <;> first | lia | omega) ⟨.int ys.length, H, I.tok _, ⟨s.toks + 1, by rw [List.size_toArray, hlen]⟩, q⟩
theorem call_list_of : CallR X (.type "list") (fun xs H Q => ∃ p ys, xs = [.ref p] ∧ (SqL X.K H p ys ∨ SqT X.K H p ys) ∧ ∀ l, H l = none → Q (.ref l) (upd H l (.lst ys))) := by
  intro pins s σ H xs us Q I r h
  obtain ⟨p, ys, rfl, hq, q⟩ := h
  obtain ⟨u, rfl, rx⟩ := vals1 r
  cases rx
  have fin : ∀ (its : List Value), Vals ys its → ys.length ≤ sizeLine → ∀ (h' : Heap) (c' : Nat), (∀ b o', s.heap.get? b = some o' → h'.get? b = some o') →
      h'.get? s.heap.objs.size = some { cls := .type "list", dict := none, data := .seq its.toArray c', slots := #[] } → EP X pins σ Q (.ref s.heap.objs.size) { s with heap := h' } := fun its r' hz h' c' kp e =>
    ⟨.ref s.heap.objs.size, _, I.laid (t' := s.toks) kp (Nat.le_refl _) (show ObjOk X.prog X.w _ h' _ (.lst ys) from ⟨hz, its, c', r', e⟩), rfl, q _ (I.hok.fresh (Nat.le_refl _))⟩
  rcases hq with hq | hq
  · obtain ⟨its, r', pl, hz⟩ := I.list hq
    have hlen := r'.length
    obtain ⟨o, ho, hc, n, hd⟩ := pl.isList
    exact call_list_seq p (.inl rfl) ho hc hd (fun h' c' kp e => fin its r' hz h' c' kp e) (by simp only [List.size_toArray] <;> first | lia | omega)
  · obtain ⟨its, r', pl, hz⟩ := I.tuple hq
    have hlen := r'.length
    obtain ⟨o, ho, hc, n, hd⟩ := pl
    exact call_list_seq p (.inr rfl) ho hc hd (fun h' c' kp e => fin its r' hz h' c' kp e) (by simp only [List.size_toArray] <;> first | lia | omega)
/-- the value is of that builtin type -/
def tyV (K : PySem.W.Frag) (T : String) (x : V) (H : Hp) : Prop := match x with
  | .str _ => T = "str"
  | .int _ => T = "int"
  | .ref p => (T = "list" ∧ ∃ xs, SqL K H p xs) ∨ (T = "tuple" ∧ ∃ o, K.lookup p = some o ∧ o.cls = .type "tuple" ∧ o.dict = none) ∨
      (T = "dict" ∧ ((∃ kvs, H p = some (.dK kvs)) ∨ ∃ kvs, H p = some (.dT kvs))) ∨ (T = "set" ∧ ∃ S n, H p = some (.set S n))
  | _ => False
theorem tyV_is {pins : List (Addr × Obj)} {σ : St} {H : Hp} {s : Shared} {T : String} {x : V} {v : Value} (I : Inv X pins σ H s) (r : RelV x v) (ty : tyV X.K T x H) :
    s.TypeIs v T ∧ ∀ a, v = .ref a → ∃ ob, s.heap.get? a = some ob ∧ ob.dict = none := by
  cases x with
  | str z =>
    obtain ⟨t, rfl⟩ := r
    cases (show T = "str" from ty)
    exact ⟨typeIs_str s z t, fun _ e => nomatch e⟩
  | int i =>
    obtain ⟨t, rfl⟩ := r
    cases (show T = "int" from ty)
    exact ⟨typeIs_int s i t, fun _ e => nomatch e⟩
  | ref p =>
    cases r
    rcases ty with ⟨rfl, xs, hq⟩ | ⟨rfl, o, hk, hc, hd⟩ | ⟨rfl, hk⟩ | ⟨rfl, S, n, hk⟩
    · obtain ⟨its, _, pl, _⟩ := I.list hq
      refine ⟨pl.isList.typeIs, fun a e => ?_⟩
      cases e
      obtain ⟨o, n, e, c, hd, _⟩ := pl
      exact ⟨o, e, hd⟩
    · refine ⟨⟨o, I.kIn p o hk, hc⟩, fun a e => ?_⟩
      cases e
      exact ⟨o, I.kIn _ o hk, hd⟩
    · have z : ∃ o, s.heap.get? p = some o ∧ o.ExactDict := by
        rcases hk with ⟨kvs, hk⟩ | ⟨kvs, hk⟩
        · obtain ⟨_, _, _, _, o, _, _, e, ex, _⟩ := I.hok p _ hk
          exact ⟨o, e, ex⟩
        · obtain ⟨_, _, _, _, o, _, _, e, ex, _⟩ := I.hok p _ hk
          exact ⟨o, e, ex⟩
      obtain ⟨o, e, ex⟩ := z
      refine ⟨⟨o, e, ex.1⟩, fun a e2 => ?_⟩
      cases e2
      exact ⟨o, e, ex.2.1⟩
    · obtain ⟨o, _, _, _, e, ex, _⟩ := I.hok p _ hk
      refine ⟨⟨o, e, ex.1⟩, fun a e2 => ?_⟩
      cases e2
      exact ⟨o, e, ex.2.1⟩
  | _ => exact False.elim ty
def tBM (K : PySem.W.Frag) (T : String) (r : V → List V → Hp → VK → Prop) (to : TE) (t : TA) : TE := fun σ H Q => to σ H fun x H1 => tyV K T x H1 ∧ t σ H1 fun xs H2 => r x xs H2 Q
variable {o e : Expr} {es : List Expr} {to : TE} {t : TA} {name : Str} {apos cpos : Pos} {T id : String} {r : V → List V → Hp → VK → Prop}
theorem pe_bm (pa : PlainAttrs T) (slot : Slot T name id) (hty : typeOf (.builtin id) = pure (.type "method_descriptor")) (hm : MtR X id r) (ho : PE X o to) (ha : PA X (e :: es) t)
    (hbase : attributeBase o name X.env (eval o X.env) = eval o X.env := by rfl)
    (hfew : ((backTo cpos (starEach (e :: es) X.env)).all (fun x => !x.1) && (backToKw cpos (keywordEach [] X.env)).all (fun x => x.1.isSome)
      && decide ((e :: es).length + ([] : List Keyword).length + (if ([] : List Keyword).isEmpty then 0 else 1) < 30)) = true := by rfl)
    (hline : (apos.endLine == cpos.line) = true := by rfl) (hs : starEach (e :: es) X.env = (false, eval e X.env) :: starEach es X.env := by rfl) (hplain : (backTo cpos (starEach es X.env)).any (·.1) = false := by rfl) :
    PE X (.Call (.Attribute o name apos) (e :: es) [] cpos) (tBM X.K T r to t) := by
  intro pins s σ H Q I h
  refine wpAny_Call_method_late hbase hfew hline rfl (thn (ho pins s σ H _ I h) fun v s1 ⟨x, H1, I1, r1, ty, q1⟩ => ?_)
  obtain ⟨h1, h2⟩ := tyV_is I1 r1 ty
  refine ⟨T, id, pa, slot, hty, h1, h2, ?_⟩
  have hA := ha cpos pins s1 σ H1 _ I1 q1
  rw [hs] at hA ⊢
  refine Calls.callWith_builtin (by show (false || (backTo cpos (starEach es X.env)).any (·.1)) = false; rw [hplain] <;> rfl) (Calls.evalArgs_plain ?_)
  exact thn hA fun us s2 ⟨vs, H2, I2, r2, q2⟩ => hm pins s2 σ H2 x vs v us Q I2 r1 r2 q2
/- xs.append(e), list.index on a module's tuple .. are MtR facts of 06m -/
end
end L2

namespace L2
open PySem PySem.Spec PyProof.Rows

def MtM (X : Cx) (id : String) (r : V → List V → Hp → VK → Prop) : Prop :=
  ∀ (pins : List (Addr × Obj)) (s : Shared) (σ : St) (H : Hp) (x : V) (xs : List V) (v : Value) (us : List Value) (Q : VK), Inv X pins σ H s → RelV x v → Vals xs us → r x xs H Q →
    wpAny (model X.prog X.w) X.A (call (.builtin id) (v :: us)) (EP X pins σ Q) X.xe s

theorem Vals.one : ∀ {x : V} {us : List Value}, Vals [x] us → ∃ u, us = [u] ∧ RelV x u
  | _, _, .cons r .nil => ⟨_, rfl, r⟩
theorem Vals.rep {xs : List V} {us : List Value} (h : Vals xs us) : ∀ k : Nat, Vals (List.replicate k xs).flatten (List.replicate k us).flatten
  | 0 => .nil
  | k + 1 => by
    rw [List.replicate_succ, List.replicate_succ, List.flatten_cons, List.flatten_cons]
    exact Vals.append h (Vals.rep h k)
theorem foldl_rep (its : List Value) : ∀ (k : Nat) (acc : List Value),
    List.foldl (fun x1 x2 => x1 ++ x2) acc.toArray (List.replicate k its.toArray) = (acc ++ (List.replicate k its).flatten).toArray
  | 0, acc => by simp
  | k + 1, acc => by
    have e : acc.toArray ++ its.toArray = (acc ++ its).toArray := by simp
    have e2 : (acc ++ its) ++ (List.replicate k its).flatten = acc ++ (List.replicate (k + 1) its).flatten := by
      rw [List.replicate_succ, List.flatten_cons, List.append_assoc]
    rw [← e2, ← foldl_rep its k (acc ++ its), ← e, List.replicate_succ, List.foldl_cons]

section
variable {X : Cx} {pins : List (Addr × Obj)} {σ : St} {H : Hp} {s : Shared} {l b : Addr} {xs ys zs : List V}

theorem Inv.lset {its its' : List Value} {n : Nat} {f : Array Value → Array Value} {t' : Nat} (I : Inv X pins σ H s) (hH : H l = some (.lst xs))
    (e : s.heap.get? l = some { cls := .type "list", data := .seq its.toArray n }) (hf : f its.toArray = its'.toArray) (hv : Vals ys its') (hz : ys.length ≤ sizeLine) :
    Inv X pins σ (upd H l (.lst ys)) { s with heap := s.heap.update l (Obj.mapSeq f), toks := t' } := by
  have q := PySem.IsL.update e f
  rw [hf] at q
  refine I.write (x := l) (e := l) (by rw [hH]; exact trivial) (.inl rfl) (fun b' u hb hu => (Heap.get?_update_other s.heap (Obj.mapSeq f) (Ne.symm hb)).trans hu) ⟨_, q⟩ ?_
  exact ⟨hz, its', _, hv, q⟩
theorem Inv.lnew {its : List Value} {t' : Nat} (I : Inv X pins σ H s) (hv : Vals ys its) (hz : ys.length ≤ sizeLine) :
    Inv X pins σ (upd H s.heap.objs.size (.lst ys)) { s with heap := s.heap.push { cls := .type "list", data := .seq its.toArray }, toks := t' } :=
  I.laid (fun _ _ q => Heap.get?_push_of_some _ q) (Nat.le_refl _) ⟨hz, its, 0, hv, Heap.get?_push_size _ rfl⟩
theorem Inv.fresh (I : Inv X pins σ H s) : H s.heap.objs.size = none := I.hok.fresh (Nat.le_refl _)
theorem Inv.lstM (I : Inv X pins σ H s) (hH : H l = some (.lst xs)) : xs.length ≤ sizeLine ∧ ∃ (its : List Value) (n : Nat), Vals xs its ∧ xs.length = its.length ∧ s.heap.get? l = some { cls := .type "list", data := .seq its.toArray n } := by
  obtain ⟨z, its, n, r, e⟩ := I.hok l _ hH
  exact ⟨z, its, n, r, r.length, e⟩

theorem notLongL {n : Nat} (h : n ≤ sizeLine) : Builtin.List.listTooLong n = false := by
  unfold Builtin.List.listTooLong
  exact decide_eq_false (by first | lia | omega)
end

section
variable {X : Cx}

def rAppend : V → List V → Hp → VK → Prop := fun x vs H Q => ∃ l xs y, x = .ref l ∧ vs = [y] ∧ H l = some (.lst xs) ∧ xs.length < sizeLine ∧ Q .non (upd H l (.lst (xs ++ [y])))
theorem mt_append : MtM X "list.append" rAppend := by
  intro pins s σ H x vs v us Q I rx rv h
  obtain ⟨l, xs, y, rfl, rfl, hH, hz, q⟩ := h
  cases rx
  obtain ⟨u, rfl, ru⟩ := rv.one
  obtain ⟨z, its, n, r, hl, e⟩ := I.lstM hH
  refine call_meets F.slot_list_append ⟨_, e, rfl⟩ F.entry_list_append (F.args_list_append_2 _ _) (PySem.list_append l its.toArray n u (by rw [List.size_toArray]; first | lia | omega)) ⟨e, ?_⟩
  refine ⟨.non, _, I.lset (its' := its ++ [u]) hH e (by simp) (r.append (.cons ru .nil)) ?_, rfl, q⟩
  rw [List.length_append, List.length_singleton]
  first | lia | omega

def rCat : R2 := fun x y H Q => ∃ l b xs zs, x = .ref l ∧ y = .ref b ∧ H l = some (.lst xs) ∧ H b = some (.lst zs) ∧ xs.length + zs.length ≤ sizeLine ∧ ∀ p, H p = none → Q (.ref p) (upd H p (.lst (xs ++ zs)))
theorem op_cat : OpR X (binaryOp .Add) rCat := by
  intro pins s σ H x y v u Q I rx ry h
  obtain ⟨l, b, xs, zs, rfl, rfl, hH, hB, hz, q⟩ := h
  cases rx
  cases ry
  obtain ⟨z, its, n, r, hl, e⟩ := I.lstM hH
  obtain ⟨z2, its2, n2, r2, hl2, e2⟩ := I.lstM hB
  refine PySem.P.add_list e e2 ?_ (by rw [List.size_toArray, List.size_toArray]; first | lia | omega)
  have ea : its.toArray ++ its2.toArray = (its ++ its2).toArray := by simp
  rw [ea]
  exact ⟨.ref _, _, I.lnew (t' := s.toks) (r.append r2) (by rw [List.length_append]; first | lia | omega), rfl, q _ I.fresh⟩
/-- a list times an int (a negative one is nothing) -/
def rRep : R2 := fun x y H Q => ∃ l k xs, x = .ref l ∧ y = .int k ∧ H l = some (.lst xs) ∧ -(2 ^ 63) ≤ k ∧ k < 2 ^ 63 ∧ xs.length * k.toNat ≤ sizeLine ∧
  ∀ p, H p = none → Q (.ref p) (upd H p (.lst (List.replicate k.toNat xs).flatten))
theorem len_rep {α : Type} (xs : List α) (k : Nat) : (List.replicate k xs).flatten.length = k * xs.length := by
  induction k with
  | zero => simp
  | succ k ih => rw [List.replicate_succ, List.flatten_cons, List.length_append, ih, Nat.succ_mul, Nat.add_comm]
theorem op_rep : OpR X (binaryOp .Mult) rRep := by
  intro pins s σ H x y v u Q I rx ry h
  obtain ⟨l, k, xs, rfl, rfl, hH, h1, h2, hz, q⟩ := h
  cases rx
  obtain ⟨t, rfl⟩ := ry
  obtain ⟨z, its, n, r, hl, e⟩ := I.lstM hH
  have hlen : its.toArray.size * k.toNat ≤ sizeLine := by rw [List.size_toArray, ← hl]; exact hz
  have hcap : ¬ its.toArray.size * k.toNat > (2 ^ 63 - 1) / 8 := by
    have : (sizeLine : Nat) ≤ (2 ^ 63 - 1) / 8 := by decide
    first | lia | omega
  have hfit : ¬ (!Builtin.List.listFitsIndex k) = true := by
    rw [fitsIndex_both h1 h2]
    exact Bool.false_ne_true
  have hlong : ¬ Builtin.List.listTooLong (its.toArray.size * k.toNat) = true := by
    rw [notLongL hlen]
    exact Bool.false_ne_true
  have hnew : List.foldl (fun x1 x2 => x1 ++ x2) #[] (List.replicate (if its.toArray.isEmpty = true then 0 else k.toNat) its.toArray) = (List.replicate k.toNat its).flatten.toArray := by
    have f0 : ∀ m : Nat, List.foldl (fun x1 x2 => x1 ++ x2) #[] (List.replicate m its.toArray) = (List.replicate m its).flatten.toArray := fun m => by
      have := foldl_rep its m []
      rw [List.nil_append] at this
      exact this
    rw [f0]
    cases its with
    | nil => simp
    | cons a r' => rw [if_neg (by simp)]
  refine wpAny_binaryOp_repeat_ref (T := "list") (U := "int") (by decide) ⟨_, e, rfl⟩ (fun s' => typeIs_int s' k t) noFill_list_mul F.fills_int_mul F.slot_int_rmul repeat_list F.slot_int_index.lookup
    (call_meets F.slot_int_rmul (typeIs_int s k t) F.entry_int_rmul (F.args_int_rmul_2 _ _) (int___rmul___int_list k t l its.toArray n)
      ⟨e, rfl, ⟨_, e, rfl⟩, call_meets F.slot_list_mul ⟨_, e, rfl⟩ F.entry_list_mul (F.args_list_mul_2 _ _) (AutoListH.list___mul___list_int_3 l its.toArray n k t hfit hcap hlong) ⟨e, ?_⟩⟩)
  rw [hnew]
  exact ⟨.ref _, _, I.lnew (t' := s.toks) (r.rep k.toNat) (by rw [len_rep, Nat.mul_comm]; exact hz), rfl, q _ I.fresh⟩

end

section
variable {prog : Program} {w : World} {A : Around} {E : Value → Shared → Prop} {s : Shared}
end

section
variable {X : Cx}
end
end L2

namespace Att
open PySem PySem.W PySem.Calls PyProof.Rows

theorem ints_of_wellAll {P : Params} {h : Heap} : ∀ (ns : List Int) (vs : List Value), WellAll P h vs (ns.map WData.int) → IntsAre vs ns := by
  intro ns
  induction ns with
  | nil =>
    intro vs w
    rw [List.map_nil] at w
    cases w
    exact .nil
  | cons n ns ih =>
    intro vs w
    rw [List.map_cons] at w
    cases w with
    | cons a b =>
      cases a
      exact .cons _ _ (ih _ b)

theorem script_of {l : OpenLaw} {n : Nat} (hn : l.most = some n) {P : Params} {h : Heap} {args : List WData} {vals : List Value}
    (hpre : l.row.toRowW.claim.pre args = true) (hwl : WellAll P h vals args) :
    ∃ a vs ns, vals = [Value.ref a] ∧ args = [WData.list (ns.map WData.int)] ∧ h.get? a = some { cls := .type "list", data := .seq vs.toArray } ∧ IntsAre vs ns ∧ ns.length ≤ n := by
  have hsh : WShape.hasAll [] args [.list .int] = true := (pre_splitW hpre).1
  have hc : l.pre.holds [] { args := args } = true := (pre_splitW hpre).2
  obtain ⟨d, r, rfl, h1, h2⟩ := hasAllW_cons hsh
  obtain rfl := hasAllW_nil h2
  obtain ⟨xs, rfl, h3⟩ := hasW_list h1
  obtain ⟨ns, rfl⟩ := items_int h3
  have hlen : ns.length ≤ n := by
    unfold OpenLaw.pre at hc
    have h4 : (WTm.not (.lt (.lit (.int (n : Int))) (.len (.arg 0)))).holds [] { args := [.list (ns.map .int)] } = true := by
      have h4 := (holds_andW hc).1
      rw [hn] at h4
      exact h4
    have h5 := condW_of h4 (w_not (w_lt w_lit (w_len_list (w_arg rfl))))
    rw [List.length_map] at h5
    refine Nat.le_of_not_lt fun q => ?_
    have q' : (n : Int) < ((ns.length : Nat) : Int) := by first | lia | omega
    first
      | (rw [decide_eq_true q'] at h5; exact absurd h5 (by decide))
      | (simp at h5; first | lia | omega)
  cases hwl with
  | cons w1 w2 =>
    cases w2
    cases w1 with
    | list ho hall => exact ⟨_, _, ns, rfl, rfl, ho, ints_of_wellAll ns _ hall, hlen⟩

theorem post_true (l : OpenLaw) (args : List WData) : l.row.toRowW.claim.post args (.bool true) args = true :=
  postW_of (r := l.row.toRowW) (X := (true == true))
    (show WShape.has [] (.bool true) .bool = true by first | rfl | decide | simp [WShape.has, WShape.arms, WShape.armsAll])
    (show (WTm.eq .res (.lit (.bool true))).value [] { args := args, res := some (.bool true), after := args } = some (.bool (true == true)) from w_eq_bool (w_res rfl) w_lit) rfl

/-- the same from a codeAny of the CALL (for a layer whose function contracts speak of calls) -/
theorem attach_call {l : OpenLaw} {n : Nat} {q : Program} {loose : List Str} {XP : (Str → Option Value) → Heap → Prop} {YP : World → Heap → Prop} {d : DefRec}
    (hn : l.most = some n) (hdf : d.params.defaults = [])
    (call : ∀ (w : World) (s₀ s₁ : Shared) (mg mb : Str → Option Value) (fa : Addr) (o : Obj) (pm cd doc : Value) (a : Addr) (vs : List Value) (ns : List Int),
      Ground q loose [] XP w s₀ mg mb s₁.heap → YP w s₁.heap →
      s₁.heap.get? fa = some o → o.data = .func (docDef d.name d.params d.body d.scope pm cd doc) → s₁.heap.CodeRec cd d.name → mg d.name = some (.ref fa) →
      s₁.heap.get? a = some { cls := .type "list", data := .seq vs.toArray } → IntsAre vs ns → ns.length ≤ n → s₁.gens = #[] →
      codeAny (model l.prog w) callerA (.call (.ref fa) ⟨[.ref a], []⟩) (fun r s' => r = .ok (.ret (.bool true)) ∧ OldK s₁.heap s'.heap ∧ s'.os = s₁.os ∧ AllBare s'.gens) s₁) :
    WalkO q loose XP YP l.row.toRowW d [] (fun f vs => PySem.call f vs) := by
  intro w s₀ s₁ mg mb G Y fa o pm cd doc dV kV ho hd hcd hD hmg hg args vals as hpre hlay hrd hwl hlo
  obtain rfl : dV = .none := Dflts.none hD hdf
  obtain rfl : kV = .none := Dflts.noKw hD
  obtain ⟨a, vs, ns, rfl, rfl, hobj, hints, hlen⟩ := script_of hn hpre hwl
  refine enter_call (codeAny_mono (call w s₀ s₁ mg mb fa o pm cd doc a vs ns G Y ho (fd_plain hd) hcd hmg hobj hints hlen hg) fun r s' hq => ?_)
  obtain ⟨rfl, h2, h3, h4⟩ := hq
  exact ⟨.inl ⟨.bool true, .bool true, [], rfl, fun _ => rfl, .bool true, post_true l _, fun _ => ⟨List.Pairwise.nil, fun _ hm => (nomatch hm)⟩⟩, h2, h3, h4⟩

section
variable {prog : Program} {w : World} {A : Around} {E : Value → Shared → Prop} {s : Shared} {K : Frag}

end
end Att

namespace L2
open PySem PySem.Spec PyProof.Rows

theorem vals_ints : ∀ {vs : List Value} {ns : List Int}, IntsAre vs ns → Vals (ns.map V.int) vs
  | _, _, .nil => .nil
  | _, _, .cons n t h => .cons ⟨t, rfl⟩ (vals_ints h)

/-- nothing is tracked but the script, known to the object (or it is an object of the module) -/
def Only (H : Hp) : Prop := ∀ b, H b = none ∨ ∃ o xs, H b = some (.frz o (.lst xs))

/-- THE HEAD: the law's promise, at the heap behind the top. F, the promise of the law's def, may use that base is part of the heap (so K.In base, base.Ns mainGlobals mg stand in Mod) -/
theorem law_call {P : Program} {w : World} {K : PySem.W.Frag} {mg mb : Str → Option Value} {CX : CXT} {k : Nat} {fa a : Addr} {fd : FuncData} {x : Str} {sp : Sp} {s₁ : Shared} {vs : List Value} {ns : List Int}
    (KX : K.In s₁.heap) (hns : s₁.heap.Ns mainGlobals mg) (hb : s₁.heap.Ns builtinsNs mb) (hbb : ∀ x : Str, x ≠ "__name__" → mb x = bootBuiltins x) (hlim : s₁.heap.NoLimit) (hg : s₁.gens = #[])
    (ha : s₁.heap.get? a = some { cls := .type "list", data := .seq vs.toArray }) (hi : IntsAre vs ns) (hl : ns.length ≤ sizeLine) (hr : Room k callerA)
    (F : ∀ base : Heap, K.In base → base.Ns mainGlobals mg → FnOk P w K mg base CX k fa fd [x] sp) (hbind : ∀ (s : Shared) (u : Value), BindsTo s fd ⟨[u], []⟩ [(x, u)])
    (hsp : ∀ H : Hp, Only H → SqL K H a (ns.map V.int) → sp [.ref a] H (fun v _ => v = .bl true) fun _ _ _ => False)
    (hCX : ∀ H e s', CX [] H s₁ (fun _ _ _ => False) e s' → False) :
    codeAny (model P w) callerA (.call (.ref fa) ⟨[.ref a], []⟩) (fun r s' => r = .ok (.ret (.bool true)) ∧ OldK s₁.heap s'.heap ∧ s'.os = s₁.os ∧ AllBare s'.gens) s₁ := by
  have rv := vals_ints hi
  have lenV := hi.length
  -- from an abstract heap in which nothing but the script may be tracked
  have core : ∀ H : Hp, Only H → SqL K H a (ns.map V.int) → HOk P w H s₁.heap → (∀ b, H b ≠ none → b = a) → (H a ≠ none → K.lookup a = none) →
      codeAny (model P w) callerA (.call (.ref fa) ⟨[.ref a], []⟩) (fun r s' => r = .ok (.ret (.bool true)) ∧ OldK s₁.heap s'.heap ∧ s'.os = s₁.os ∧ AllBare s'.gens) s₁ := by
    intro H hO hS hok hA hK
    have base_of : ∀ {b : Addr} {o : Obj}, s₁.heap.get? b = some o → H b = none → (hidT s₁.heap H).get? b = some o := fun e n => hidT_get e n
    have noA : ∀ {b : Addr} {o : Obj} {es : Array DictEntry} {ep : Nat}, s₁.heap.get? b = some o → o.data = .dict es ep → H b = none := fun {b o es ep} e d => by
      cases q : H b with
      | none => rfl
      | some u =>
        have e' : b = a := hA b (by rw [q]; simp)
        subst e'
        rw [ha] at e; cases e
        have d' : Data.seq vs.toArray _ = Data.dict es ep := d
        cases d'
    have nsK : ∀ {b : Addr} {m : Str → Option Value}, s₁.heap.Ns b m → (hidT s₁.heap H).Ns b m := fun {b m} ⟨o, es, ep, e, d, r⟩ => ⟨o, es, ep, base_of e (noA e d), d, r⟩
    have hKb : K.In (hidT s₁.heap H) := fun b o e => base_of (KX b o e) (by
      cases q : H b with
      | none => rfl
      | some u =>
        have e' : b = a := hA b (by rw [q]; simp)
        subst e'
        rw [hK (by rw [q]; simp)] at e; cases e)
    have hM : Mod K mg (hidT s₁.heap H) := ⟨hKb, nsK hns, ⟨mb, nsK hb, hbb⟩, let ⟨mc, h1, h2⟩ := hlim; ⟨mc, nsK h1, h2⟩⟩
    have e0 : Env0 P w K mg (hidT s₁.heap H) callerA [] s₁ H := ⟨rfl, hM, fun b o e => of_hidT e, Nat.le_of_eq (hidT_size _ _), trivial, fun b hb => absurd (show b ∈ ([] : List Addr) from hb) (by simp), hok, .of_eq hg⟩
    refine codeAny_mono ((F _ hKb (nsK hns)).run callerA [] s₁ H ⟨[.ref a], []⟩ [.ref a] [.ref a] _ _ hr e0 (hbind s₁ (.ref a)) (.cons rfl .nil) (hsp H hO hS)) fun r s' h => ?_
    cases r with
    | error e => exact (hCX H e s' h).elim
    | ok fl =>
      cases fl with
      | next => exact False.elim h
      | brk => exact False.elim h
      | cont => exact False.elim h
      | ret u =>
        obtain ⟨v, H', os, bare, un, hok', r', q⟩ := h
        have q' : v = .bl true := q
        subst q'
        obtain rfl : u = Value.bool true := r'
        refine ⟨rfl, OldK.of_keep fun b o e => ?_, os, bare⟩
        cases q : H b with
        | none => exact un.keep b o e q (by intro z; exact absurd (show b ∈ ([] : List Addr) from z) (by simp)) (by simp)
        | some u =>
          rcases hO b with z | ⟨ob, xs, z⟩
          · rw [q] at z; cases z
          · have z2 := un.frzs b ob _ z
            obtain ⟨e1, _⟩ := hok b _ z
            obtain ⟨e2, _⟩ := hok' b _ z2
            rw [e] at e1; cases e1
            exact e2
  cases hk : K.lookup a with
  | some o =>
    -- the script is one of the module's own objects
    have e := KX a o hk
    rw [ha] at e
    cases e
    refine core (fun _ => none) (fun _ => .inl rfl) (.inr ⟨_, vs.toArray, _, hk, rfl, rfl, rfl, by rw [List.size_toArray, lenV]; exact hl, by simpa using rv⟩) (fun b u z => by have z' : (none : Option HO) = some u := z; cases z') (fun b z => absurd rfl z) fun z => absurd rfl z
  | none =>
    refine core (fun b => if b = a then some (.frz { cls := .type "list", data := .seq vs.toArray } (.lst (ns.map V.int))) else none) (fun b => ?_) (.inl (.inr ⟨{ cls := .type "list", data := .seq vs.toArray }, if_pos rfl⟩)) (fun b u z => ?_) (fun b z => ?_) fun _ => hk
    · by_cases hb : b = a
      · exact .inr ⟨_, _, if_pos hb⟩
      · exact .inl (if_neg hb)
    · by_cases hb : b = a
      · have z' := (if_pos hb).symm.trans z
        cases z'
        subst hb
        exact ⟨ha, by rw [List.length_map]; exact hl, vs, _, rv, ha⟩
      · have z' := (if_neg hb).symm.trans z
        cases z'
    · by_cases hb : b = a
      · exact hb
      · exact absurd (if_neg hb) z
end L2

namespace L2
open PySem PySem.Spec PyProof.Rows

abbrev KOf {K : PySem.W.Frag} {h : Heap} (_ : K.In h) : PySem.W.Frag := K

/-- the goal that k_head leaves (case hc), from the law's promise. F gives the function object fd (K's own) once, then the promise over every base -/
theorem walk_of {l : PySem.W.OpenLaw} {n k : Nat} {q : Program} {loose : List Str} {XP : (Str → Option Value) → Heap → Prop} {YP : World → Heap → Prop} {d : DefRec} {K : Params → PySem.W.Frag} {CX : World → CXT} {sp : World → Sp} {x : Str}
    (hn : l.most = some n) (hn2 : n ≤ sizeLine) (hdf : d.params.defaults = []) (hr : Room k callerA)
    (hY : ∀ (w : World) (h : Heap), YP w h → (K w.params).In h)
    (F : ∀ (w : World) (mg : Str → Option Value) (fa : Addr) (h : Heap), (K w.params).In h → h.Ns mainGlobals mg → mg d.name = some (.ref fa) →
      ∃ fd : FuncData, (∀ (s : Shared) (u : Value), BindsTo s fd ⟨[u], []⟩ [(x, u)]) ∧
        ∀ base : Heap, (K w.params).In base → base.Ns mainGlobals mg → FnOk l.prog w (K w.params) mg base (CX w) k fa fd [x] (sp w))
    (hsp : ∀ (w : World) (H : Hp) (a : Addr) (ns : List Int), ns.length ≤ n → Only H → SqL (K w.params) H a (ns.map V.int) → sp w [.ref a] H (fun v _ => v = .bl true) fun _ _ _ => False)
    (hCX : ∀ (w : World) (H : Hp) (s : Shared) (e : Value) (s' : Shared), CX w [] H s (fun _ _ _ => False) e s' → False) :
    PySem.W.WalkO q loose XP YP l.row.toRowW d [] (fun f vs => PySem.call f vs) := by
  refine Att.attach_call hn hdf fun w s₀ s₁ mg mb fa o pm cd doc a vs ns G Y ho hd hcd hmg hobj hints hlen hg => ?_
  have KX := hY w _ Y
  obtain ⟨fd, hb, hF⟩ := F w mg fa _ KX G.T.g hmg
  exact law_call KX G.T.g G.T.b G.T.builtins G.T.nolimit hg hobj hints (Nat.le_trans hlen hn2) hr hF hb (fun H hO hS => hsp w H a ns hlen hO hS) fun H e s' => hCX w H s₁ e s'
end L2

/- THE LAST THEOREM (shape; LID, My.* are yours):
   My.Adr: a structure of the addresses that your layer names (classes, functions); My.Txt K t: a structure (Prop) of the equations over K;
   My.txt_mk : {K} {implicit addresses ..} (e1 : nsIn K mainGlobals "law" = some (some (.ref f))) (e2 : K.lookup f = some ⟨oc, od, .func (fnOf "law" "law" params body scope dV kV doc pm an cdv ct), sl⟩) (e3 : codeIn K cdv "law" = true) .. : ∃ t, My.Txt K t

set_option maxRecDepth 100000 in
set_option maxHeartbeats 0 in
theorem PySem.Challenge.cw_LID_holds : PySem.Challenge.rw_LID.Holds := by
  w_on; o_law; k_head; (case hw => w_witness2)
  k_fill
  refine L2.walk_of (l := PySem.Challenge.rw_LID) (n := 63) (k := 40) (x := "script") (CX := fun w => ..) (sp := fun _ => My.sp_law) rfl (by decide) rfl ⟨rfl, by decide, by decide⟩ (fun w h Y => PySem.W.kIn_of Y) ?F ?S ?C
  case F =>
    intro w mg fa h KX G hmg
    have T : ∃ t, My.Txt (L2.KOf KX) t := by
      dsimp only [L2.KOf]                          -- K must stand as «<heap const> w.params» for k_is
      refine' My.txt_mk ?e1 ?e2 ?e3 ..
      (case e1 => PySem.W.k_is)                    -- in the order: a name -> its address -> its object -> its parts
      (case e2 => PySem.W.k_is)
      ..
    obtain ⟨t, T⟩ := T
    have e0 := hmg.symm.trans (PySem.W.mg_of KX G T.law)
    cases e0                                       -- fa is the law's own address
    exact ⟨_, fun s u => .of_eq rfl, fun base kb nb => My.law_fn T kb nb⟩     -- if «.of_eq rfl» comes too early: refine' ⟨_, ?b, fun base kb nb => My.law_fn T kb nb⟩; exact fun s u => .of_eq rfl
  case S => exact fun w H a ns hl hO hS => ..
  case C => exact ..
(the tactic k_is has no namespace: write k_is) -/

namespace L2
open PySem PySem.Spec PyProof.Rows

/-- the j-th statement of a class's body -/
def inClass (s : Stmt) (j : Nat) : Stmt := match s with
  | .ClassDef _ _ _ body _ _ _ _ _ _ _ => body.getD j (.Pass ⟨0, 0, 0, 0⟩)
  | _ => .Pass ⟨0, 0, 0, 0⟩
def defArgs (s : Stmt) : Arguments := match s with
  | .FunctionDef _ a _ _ _ _ _ _ _ _ => a
  | _ => { posonlyargs := [], args := [], vararg := none, kwonlyargs := [], kw_defaults := [], kwarg := none, defaults := [] }
def defBody (s : Stmt) : List Stmt := match s with
  | .FunctionDef _ _ b _ _ _ _ _ _ _ => b
  | _ => []
def defScope (s : Stmt) : Scope := match s with
  | .FunctionDef _ _ _ _ _ _ sc _ _ _ => sc
  | _ => { kind := .function, names := [], isGenerator := false, isCoroutine := false }

abbrev CX0 : CXT := fun _ _ _ _ _ _ => False
abbrev E0 : XK := fun _ _ _ => False
theorem pass0 {X : Cx} : Passes CX0 X E0 := fun _ _ _ _ _ _ _ h => h.elim

structure Fun (K : PySem.W.Frag) (x qual : Str) (st : Stmt) (f : Addr) (fd : FuncData) : Prop where
  ex : ∃ (oc : Value) (od : Option Addr) (kV doc pm : Value) (an : Option Addr) (cdv ct : Value) (osl : Array (Option Value)),
    fd = PySem.W.fnOf x qual (defArgs st) (defBody st) (defScope st) .none kV doc pm an cdv ct ∧ K.lookup f = some ⟨oc, od, .func fd, osl⟩ ∧ PySem.W.codeIn K cdv qual = true
  kp : PySem.W.keepIn K (.ref f) = true
section
variable {P : Program} {w : World} {K : PySem.W.Frag} {mg : Str → Option Value} {base : Heap}
/-- THE RULE for a def: its body as a term of rules, and the reading of that term -/
theorem Fun.ok {x qual : Str} {st : Stmt} {f : Addr} {fd : FuncData} {N ps : List Str} {k : Nat} {sp : Sp} (F : Fun K x qual st f fd) (S : FnScope N ps (defScope st)) (len : ∀ vs H Q E, sp vs H Q E → vs.length = ps.length)
    (hbody : ∀ (cdv : Value) (A : Around) (outer : List Env) (s : Shared) (H : Hp) (vs : List V) (Q : VK) (E : XK), Room k (A.deeper (envOfC qual (defScope st) s.heap.objs.size f cdv)) → sp vs H Q E →
      ∃ t, PSs (cxOf CX0 P w K mg base N qual (defScope st) f cdv A outer s H E).nox (defBody st) t ∧ t { nx := fun _ H' => Q .non H', rt := Q } (start N vs) H) : FnOk P w K mg base CX0 (k + 1) f fd ps sp := by
  obtain ⟨oc, od, kV, doc, pm, an, cdv, ct, osl, rfl, lk, hcd⟩ := F.ex
  refine fn_of lk hcd S len fun A outer s H vs Q E hr hsp => ?_
  obtain ⟨t, h, q⟩ := hbody cdv A outer s H vs Q E hr hsp
  exact ⟨t, h.nox, q⟩
/-- how its arguments bind (no defaults): h is «fun _ _ _ _ _ _ us hl => match us, hl with | [_, _], _ => rfl», one _ a parameter -/
theorem Fun.binds {x qual : Str} {st : Stmt} {f : Addr} {fd : FuncData} {ps : List Str} (F : Fun K x qual st f fd)
    (h : ∀ (kV doc pm : Value) (an : Option Addr) (cdv ct : Value) (us : List Value), us.length = ps.length → bindArgs (PySem.W.fnOf x qual (defArgs st) (defBody st) (defScope st) .none kV doc pm an cdv ct) ⟨us, []⟩ = pure (ps.zip us)) : Binds K fd ps [] := by
  obtain ⟨oc, od, kV, doc, pm, an, cdv, ct, osl, rfl, lk, hcd⟩ := F.ex
  exact .all (h kV doc pm an cdv ct)
theorem fun_mk {x qual : Str} {st : Stmt} {f : Addr} {oc : Value} {od an : Option Addr} {osl : Array (Option Value)} {kV doc pm cdv ct : Value} (l : K.lookup f = some ⟨oc, od, .func (PySem.W.fnOf x qual (defArgs st) (defBody st) (defScope st) .none kV doc pm an cdv ct), osl⟩)
    (c : PySem.W.codeIn K cdv qual = true) (k : PySem.W.keepIn K (.ref f) = true) : Fun K x qual st f (PySem.W.fnOf x qual (defArgs st) (defBody st) (defScope st) .none kV doc pm an cdv ct) := ⟨⟨oc, od, kV, doc, pm, an, cdv, ct, osl, rfl, l, c⟩, k⟩
end
theorem small1000 {n : Nat} (h : n ≤ 1000) : n < sizeLine := Nat.lt_of_le_of_lt h (by decide)

section
variable {X : Cx}
theorem pv (i : Nat) {x : Str} {pos : Pos} (hN : X.N[i]? = some x := by rfl) (hv : Vis X.env.scope x := by first | exact Or.inl rfl | exact Or.inr (Or.inl rfl) | exact Or.inr (Or.inr rfl)) (hd : (x == ("__debug__" : Str)) = false := by decide)
    (hcd : (x == ("__classdict__" : Str)) = false := by decide) : PE X (.Name x pos) (tVar i) := pe_var hN hv hd hcd
end

theorem iteF {A B : Prop} (h : B) : if false = true then A else B := by
  rw [if_neg Bool.false_ne_true]
  exact h
theorem iteT {A B : Prop} (h : A) : if true = true then A else B := by
  rw [if_pos rfl]
  exact h
/-- all that was tracked is as it was -/
def Same (H H' : Hp) : Prop := ∀ b o, H b = some o → H' b = some o
theorem Same.refl (H : Hp) : Same H H := fun _ _ h => h
theorem Same.trans {H H1 H2 : Hp} (a : Same H H1) (b : Same H1 H2) : Same H H2 := fun c o h => b c o (a c o h)
theorem Same.seq {K : PySem.W.Frag} {H H' : Hp} {a : Addr} {xs : List V} (e : Same H H') (h : SqL K H a xs) : SqL K H' a xs := by
  rcases h with (h | ⟨o, h⟩) | h
  · exact .inl (.inl (e _ _ h))
  · exact .inl (.inr ⟨o, e _ _ h⟩)
  · exact .inr h

end L2

set_option maxHeartbeats 4000000
namespace L2
open PySem PySem.Spec PyProof.Rows

def isCF : Option NameKind → Bool
  | some .cell => true
  | some .free => true
  | _ => false
theorem isCF_of {o : Option NameKind} (h : isCF o = true) : o = some .cell ∨ o = some .free := by
  match o, h with
  | some .cell, _ => exact .inl rfl
  | some .free, _ => exact .inr rfl

theorem closure_go (env : Env) : ∀ (l : List (Str × NameKind)) (acc : List (Str × Addr)), (∀ y ∈ l, y.2 = .free → ∃ c, env.cells.lookup y.1 = some c) →
    (∀ x c, acc.lookup x = some c → env.cells.lookup x = some c) →
    ∃ cl, (forIn l acc (fun (x : Str × NameKind) (r : List (Str × Addr)) => if (x.2 == .free) = true then (cellOf env x.1 >>= fun c => pure (ForInStep.yield ((x.1, c) :: r))) else pure (ForInStep.yield r)) : Sem (List (Str × Addr))) = pure cl ∧
      (∀ x c, cl.lookup x = some c → env.cells.lookup x = some c) ∧ (∀ x, ((∃ c, acc.lookup x = some c) ∨ (x, NameKind.free) ∈ l) → ∃ c, cl.lookup x = some c)
  | [], acc, _, ha => ⟨acc, by rfl, ha, fun x h => h.elim id fun z => nomatch z⟩
  | (n, k) :: l, acc, hl, ha => by
    have hl' : ∀ y ∈ l, y.2 = .free → ∃ c, env.cells.lookup y.1 = some c := fun y hy => hl y (List.mem_cons_of_mem _ hy)
    by_cases hk : k = .free
    · subst hk
      obtain ⟨c, hc⟩ := hl (n, .free) List.mem_cons_self rfl
      have hc' : env.cells.lookup n = some c := hc
      have look : ∀ x, ((n, c) :: acc).lookup x = if x = n then some c else acc.lookup x := fun x => by
        rw [List.lookup_cons]
        by_cases e : x = n
        · subst e; simp
        · rw [if_neg e, show (x == n) = false by simpa using e]
      have ha' : ∀ x d, ((n, c) :: acc).lookup x = some d → env.cells.lookup x = some d := fun x d e => by
        rw [look] at e
        split at e
        · rename_i q; subst q; rw [hc']; exact e
        · exact ha x d e
      obtain ⟨cl, e, h1, h2⟩ := closure_go env l ((n, c) :: acc) hl' ha'
      refine ⟨cl, ?_, h1, fun x h => h2 x ?_⟩
      · rw [← e, List.forIn_cons]
        have ec : cellOf env n = pure c := by unfold cellOf; rw [hc']
        show ((cellOf env n >>= fun c => pure (ForInStep.yield ((n, c) :: acc))) >>= _ : Sem (List (Str × Addr))) = _
        rw [ec]
        rfl
      · rcases h with ⟨d, q⟩ | h
        · left
          rw [look]
          by_cases z : x = n
          · exact ⟨c, by rw [if_pos z]⟩
          · exact ⟨d, by rw [if_neg z]; exact q⟩
        · rcases List.mem_cons.mp h with z | z
          · left
            rw [look]
            exact ⟨c, by rw [if_pos (congrArg Prod.fst z)]⟩
          · exact .inr z
    · obtain ⟨cl, e, h1, h2⟩ := closure_go env l acc hl' ha
      refine ⟨cl, ?_, h1, fun x h => h2 x ?_⟩
      · rw [← e, List.forIn_cons]
        have hb : (k == NameKind.free) = false := by simpa using hk
        show ((if (k == NameKind.free) = true then _ else pure (ForInStep.yield acc)) >>= _ : Sem (List (Str × Addr))) = _
        rw [hb]
        rfl
      · rcases h with h | h
        · exact .inl h
        · rcases List.mem_cons.mp h with z | z
          · exact absurd (congrArg Prod.snd z).symm hk
          · exact .inr z
theorem closure_of {scope : Scope} {env : Env} (h : ∀ y ∈ scope.names, y.2 = .free → ∃ c, env.cells.lookup y.1 = some c) :
    ∃ cl, closureFor scope env = pure cl ∧ (∀ x c, cl.lookup x = some c → env.cells.lookup x = some c) ∧ (∀ x, (x, NameKind.free) ∈ scope.names → ∃ c, cl.lookup x = some c) := by
  obtain ⟨cl, e, h1, h2⟩ := closure_go env scope.names [] h (fun x c e => by simp at e)
  refine ⟨cl, ?_, h1, fun x hx => h2 x (.inr hx)⟩
  have e2 : closureFor scope env = (forIn scope.names [] (fun (x : Str × NameKind) (r : List (Str × Addr)) => if (x.2 == .free) = true then (cellOf env x.1 >>= fun c => pure (ForInStep.yield ((x.1, c) :: r))) else pure (ForInStep.yield r)) >>= fun r => pure r : Sem (List (Str × Addr))) := by
    rfl
  rw [e2, e]
  rfl

/-- a comprehension's block: its context -/
abbrev compCx (X : Cx) (scope : Scope) (cl : List (Str × Addr)) (N : List Str) (C : Addr) (s : Shared) (H : Hp) (ex : List Addr) : Cx :=
  { X with N := N, s₀ := s, H₀ := H, env := compEnvC scope cl C X.env, outer := X.stack, ex := ex, fn := fun _ => false, pn := [], xe := fun _ _ => False }

/-- what is asked of the two scopes: fr tells for each name of the block the slot of the def (none: the block's own) -/
def compChk (osc : Scope) (oN : List Str) (sc : Scope) (N : List Str) (fr : List (Option Nat)) : Bool :=
  decide (sc.kind = .function) && sc.names.all (fun y => decide (y.2 ≠ .cell)) && sc.names.all (fun y => decide (y.2 ≠ .free) || isCF (osc.names.lookup y.1)) &&
  sc.names.all (fun y => decide (y.2 ≠ .local) || decide (sc.names.lookup y.1 = some .local)) &&
  (N.zip fr).all (fun y => match y.2 with
    | none => true
    | some i => decide (oN[i]? = some y.1) && isCF (osc.names.lookup y.1) && decide (sc.names.lookup y.1 = some .free)) && decide (N.length = fr.length)
structure CompChk (osc : Scope) (oN : List Str) (sc : Scope) (N : List Str) (fr : List (Option Nat)) : Prop where
  kind : sc.kind = .function
  nocell : ∀ y ∈ sc.names, y.2 ≠ .cell
  free : ∀ y ∈ sc.names, y.2 = .free → isCF (osc.names.lookup y.1) = true
  loc : ∀ y ∈ sc.names, y.2 = .local → sc.names.lookup y.1 = some .local
  slots : ∀ (j : Nat) (x : Str) (i : Nat), N[j]? = some x → fr[j]? = some (some i) → oN[i]? = some x ∧ isCF (osc.names.lookup x) = true ∧ sc.names.lookup x = some .free
  len : N.length = fr.length
theorem compChk_of {osc : Scope} {oN : List Str} {sc : Scope} {N : List Str} {fr : List (Option Nat)} (h : compChk osc oN sc N fr = true) : CompChk osc oN sc N fr := by
  unfold compChk at h
  simp only [Bool.and_eq_true, List.all_eq_true, decide_eq_true_eq, Bool.or_eq_true] at h
  obtain ⟨⟨⟨⟨⟨h1, h2⟩, h3⟩, h4⟩, h5⟩, h6⟩ := h
  refine ⟨h1, h2, fun y hy e => (h3 y hy).resolve_left fun z => z e, fun y hy e => (h4 y hy).resolve_left fun z => z e, fun j x i e1 e2 => ?_, h6⟩
  have hm : (x, some i) ∈ N.zip fr := by
    have : (N.zip fr)[j]? = some (x, some i) := by rw [List.getElem?_zip_eq_some]; exact ⟨e1, e2⟩
    exact List.mem_of_getElem? this
  have := h5 _ hm
  simp only [Bool.and_eq_true, decide_eq_true_eq] at this
  exact ⟨this.1.1, this.1.2, this.2⟩

/-- the block's slots at its entry -/
def stC (fr : List (Option Nat)) (σ : St) : St := fr.map fun o => o.bind fun i => (σ[i]?).join

/-- [elt for tg in ..] : the invariant W by the turn, a measure, the block's slots and the heap; the new list stands at acc -/
def tComp (wi : TI) (g : TG) (te : TE) (fr : List (Option Nat)) : TE := fun σ H Q => wi σ H fun J H1 => ∀ acc, H1 acc = none → ∃ W : Nat → Nat → St → Hp → Prop, (∃ m, W 0 m (stC fr σ) (upd H1 acc (.lst []))) ∧ ∀ i m σ1 H2, W i m σ1 H2 →
  (J.stop i H2 ∧ Q (.ref acc) H2) ∨ (J.go i H2 ∧ ∀ x H3, J.yld i H2 x H3 → g x σ1 H3 fun σ4 H4 => te σ4 H4 fun v H5 => ∃ xs, H5 acc = some (.lst xs) ∧ xs.length < sizeLine ∧ ∃ m', m' < m ∧ W (i + 1) m' σ4 (upd H5 acc (.lst (xs ++ [v]))))

section
variable {prog : Program} {w : World} {A : Around} {R : Result → Shared → Prop} {s : Shared}
theorem compLoop_any {elt target iter : Expr} {scope : Scope} {pos : Pos} {it acc : Value} {env : Env} (I : Nat → Shared → Prop)
    (turn : ∀ n s, I n s → wpAny (model prog w) A (pyNext it) (fun r s₁ => match r with
      | none => R (.ok .next) s₁
      | some v => wpAny (model prog w) A (letOwnedTupleGo target it v) (fun _ s₁ => wpAny (model prog w) A (assign target env v) (fun _ s₂ => wpAny (model prog w) A (eval elt env) (fun x s₃ =>
          wpAny (model prog w) A (call (.builtin "list.append") [acc, x]) (fun _ s₄ => ∃ m, m < n ∧ I m s₄) (notedBy (model prog w) A env fun e s' => R (.error e) s') s₃)
          (notedBy (model prog w) A env fun e s' => R (.error e) s') s₂) (notedBy (model prog w) A env fun e s' => R (.error e) s') s₁) (notedBy (model prog w) A env fun e s' => R (.error e) s') s₁) (notedBy (model prog w) A env fun e s' => R (.error e) s') s)
    (n : Nat) (h : I n s) :
    codeAny (model prog w) A (.compLoop (.ListComp elt [⟨target, iter, [], 0⟩] scope pos) 0 it acc env) R s := by
  refine codeAny_loop rfl I (fun n s hI => ?_) n h
  show wpAny _ _ ((compTurn (.ListComp elt [⟨target, iter, [], 0⟩] scope pos) 0 it acc env).onRaise (fun x => do noteFrame x env; theTreesLotGoes x)) _ _ s
  refine wpAny_noted ?_
  rw [compTurn_list1]
  refine wpAny_bind (wpAny_standAt (wpAny_bind (wpAny_mono (turn n s hI) (fun r s₁ h₁ => ?_) fun _ _ h' => h')))
  cases r with
  | none => exact wpAny_pure h₁
  | some v =>
    refine wpAny_bind (wpAny_mono h₁ (fun _ s₁ h₁ => ?_) fun _ _ h' => h')
    exact wpAny_bind (wpAny_mono h₁ (fun _ s₂ h₂ => wpAny_bind (wpAny_bind (wpAny_mono h₂ (fun x s₃ h₃ => wpAny_bind (wpAny_mono h₃
      (fun _ s₄ h₄ => wpAny_pure (wpAny_pure ⟨rfl, h₄⟩)) fun _ _ h' => h')) fun _ _ h' => h'))) fun _ _ h' => h')
end

theorem wpFalse {α : Type} {M : Model} {A : Around} {t : Sem α} {Q : α → Shared → Prop} {E : Value → Shared → Prop} {s : Shared} (h : wpAny M A t Q (fun _ _ => False) s) : wpAny M A t Q E s :=
  wpAny_mono h (fun _ _ q => q) fun _ _ z => z.elim

theorem relabel_CF {scope : Scope} {env : Env} (hc : ∀ y ∈ scope.names, y.2 ≠ .cell) {x : Str} (h : (relabel scope env).names.lookup x = some .cell ∨ (relabel scope env).names.lookup x = some .free) : (x, NameKind.free) ∈ scope.names := by
  have key : ∀ (l : List (Str × NameKind)), (∀ y ∈ l, y.2 ≠ .cell) → ((l.map fun (n, k) => if (k == NameKind.free && env.scope.kind == .function && env.kindOf n == some .cell) then (n, NameKind.cell) else (n, k)).lookup x = some .cell ∨
      (l.map fun (n, k) => if (k == NameKind.free && env.scope.kind == .function && env.kindOf n == some .cell) then (n, NameKind.cell) else (n, k)).lookup x = some .free) → (x, NameKind.free) ∈ l := by
    intro l
    induction l with
    | nil => intro _ h; simp at h
    | cons y r ih =>
      obtain ⟨n, k⟩ := y
      intro hc h
      have hr : ∀ y ∈ r, y.2 ≠ .cell := fun y hy => hc y (List.mem_cons_of_mem _ hy)
      have hk : k ≠ .cell := hc (n, k) List.mem_cons_self
      rw [List.map_cons] at h
      by_cases hxn : x = n
      · subst hxn
        have hkf : k = .free := by
          by_cases hb : (k == NameKind.free && env.scope.kind == .function && env.kindOf x == some .cell) = true
          · simp only [Bool.and_eq_true, beq_iff_eq] at hb
            exact hb.1.1
          · simp only [hb, if_neg, Bool.false_eq_true, if_false] at h
            simp only [List.lookup_cons, beq_self_eq_true] at h
            rcases h with h | h
            · exact absurd (Option.some.inj h) hk
            · exact Option.some.inj h
        rw [hkf]
        exact List.mem_cons_self
      · have hb : (x == n) = false := by simpa using hxn
        refine List.mem_cons_of_mem _ (ih hr ?_)
        by_cases hq : (k == NameKind.free && env.scope.kind == .function && env.kindOf n == some .cell) = true
        · simp only [hq, if_true, List.lookup_cons, hb] at h
          exact h
        · simp only [hq, Bool.false_eq_true, if_false, List.lookup_cons, hb] at h
          exact h
  exact key scope.names hc h
theorem relabel_free {env : Env} {x : Str} : ∀ {l : List (Str × NameKind)}, l.lookup x = some .free →
    ((l.map fun (n, k) => if (k == NameKind.free && env.scope.kind == .function && env.kindOf n == some .cell) then (n, NameKind.cell) else (n, k)).lookup x = some .cell ∨
     (l.map fun (n, k) => if (k == NameKind.free && env.scope.kind == .function && env.kindOf n == some .cell) then (n, NameKind.cell) else (n, k)).lookup x = some .free)
  | [], h => by simp at h
  | (n, k) :: r, h => by
    rw [List.map_cons]
    by_cases hxn : x = n
    · subst hxn
      simp only [List.lookup_cons, beq_self_eq_true] at h
      have hk := Option.some.inj h
      subst hk
      by_cases hq : (NameKind.free == NameKind.free && env.scope.kind == .function && env.kindOf x == some .cell) = true
      · left
        show List.lookup x ((if (NameKind.free == NameKind.free && env.scope.kind == .function && env.kindOf x == some .cell) = true then (x, NameKind.cell) else (x, NameKind.free)) :: _) = _
        rw [if_pos hq, List.lookup_cons, beq_self_eq_true]
      · right
        show List.lookup x ((if (NameKind.free == NameKind.free && env.scope.kind == .function && env.kindOf x == some .cell) = true then (x, NameKind.cell) else (x, NameKind.free)) :: _) = _
        rw [if_neg hq, List.lookup_cons, beq_self_eq_true]
    · have hb : (x == n) = false := by simpa using hxn
      simp only [List.lookup_cons, hb] at h
      have ih := relabel_free (env := env) h
      by_cases hq : (k == NameKind.free && env.scope.kind == .function && env.kindOf n == some .cell) = true
      · simp only [hq, if_true, List.lookup_cons, hb]; exact ih
      · simp only [hq, Bool.false_eq_true, if_false, List.lookup_cons, hb]; exact ih

theorem mem_look {x : Str} {k : NameKind} : ∀ {l : List (Str × NameKind)}, l.lookup x = some k → (x, k) ∈ l
  | [], h => by simp at h
  | (n, j) :: r, h => by
    by_cases e : x = n
    · subst e
      simp only [List.lookup_cons, beq_self_eq_true] at h
      rw [← Option.some.inj h]
      exact List.mem_cons_self
    · have hb : (x == n) = false := by simpa using e
      simp only [List.lookup_cons, hb] at h
      exact List.mem_cons_of_mem _ (mem_look h)
section
variable {X : Cx} {elt tg iter : Expr} {scope : Scope} {pos : Pos} {wi : TI} {g : TG} {te : TE} {N : List Str} {fr : List (Option Nat)}
/-- the block: its state at the entry -/
theorem comp_entry {pins : List (Addr × Obj)} {σ : St} {H : Hp} {s s1 : Shared} {cl : List (Str × Addr)} {ex : List Addr} {C : Addr} {m : Str → Option Value} (I : Inv X pins σ H s) (ck : CompChk X.env.scope X.N scope N fr)
    (c1 : ∀ x c, cl.lookup x = some c → X.env.cells.lookup x = some c) (c2 : ∀ x, (x, NameKind.free) ∈ scope.names → ∃ c, cl.lookup x = some c) (hex : ∀ b ∈ ex, FpOk X pins H b ∧ b < s.heap.objs.size) (hC : s.heap.objs.size ≤ C)
    (hn : s1.heap.Ns C m) (k : ∀ b o, s.heap.get? b = some o → s1.heap.get? b = some o) (ho : s1.os = s.os) (hg : s1.gens = s.gens) :
    Inv (compCx X scope cl N C s H ex) [] (stC fr σ) H s1 := by
  have lt_ne : ∀ {b : Addr} {o : Obj}, s.heap.get? b = some o → b ≠ C := fun e => Nat.ne_of_lt (Nat.lt_of_lt_of_le (Heap.lt_size e) hC)
  have ok : (compCx X scope cl N C s H ex).Ok :=
    { mod := I.ok.mod
      kind := ck.kind
      glob := I.ok.glob
      blt := I.ok.blt
      above := hC
      inj := fun x y c e1 e2 => I.ok.inj x y c (c1 x c e1) (c1 y c e2)
      has := fun x h => c2 x (relabel_CF ck.nocell h)
      cab := fun x c z => by cases z
      hd := I.ok.hd
      frames := I.ok.frames
      stk := .inl rfl
      exf := fun b hb => ⟨Nat.ne_of_lt (Nat.lt_of_lt_of_le (hex b hb).2 hC), fun x c e => (hex b hb).1.2.2.2.2.1 x c (c1 x c e)⟩
      bs := I.bs
      bsz := Nat.le_trans I.ok.bsz I.sz
      noex := fun b o e hb => by
        rcases (hex b hb).1.2.2.2.1 with z | z
        · exact I.ok.noex b o e z
        · exact absurd (Nat.lt_of_lt_of_le (Heap.lt_size e) (Nat.le_trans I.ok.bsz z)) (Nat.lt_irrefl _)
      exfs := fun b hb hz => by
        rcases List.mem_cons.mp (I.stkSub b hz) with z | z
        · exact (hex b hb).1.2.1 z
        · exact (hex b hb).1.2.2.1 z
      funs := I.stack
      frf := I.stkFree }
  refine ⟨ok, ho, by rw [hg]; exact I.bare, Un.kept k, ⟨m, hn, fun j x v e1 e2 e3 => ?_⟩, fun x c e => ?_, I.hok.fresh hC, fun x c e => I.freeC x c (c1 x c e), fun p hp => by simp at hp, I.hok.kept k, ?_⟩
  · have e1' : N[j]? = some x := e1
    unfold stC at e2
    rw [List.getElem?_map] at e2
    cases q : fr[j]? with
    | none => rw [q] at e2; cases e2
    | some o =>
      rw [q] at e2
      cases o with
      | none =>
        have : (none : Option V) = some v := Option.some.inj e2
        cases this
      | some i =>
        have e2' : (σ[i]?).join = some v := Option.some.inj e2
        obtain ⟨s1', s2', s3'⟩ := ck.slots j x i e1' q
        have hσ : σ[i]? = some (some v) := by
          cases z : σ[i]? with
          | none => rw [z] at e2'; cases e2'
          | some y => rw [z] at e2'; exact congrArg some e2'
        have hcf := isCF_of s2'
        obtain ⟨m0, hn0, hl⟩ := I.loc
        obtain ⟨u, r, lk⟩ := hl i x v s1' hσ (Or.inr hcf)
        refine ⟨u, r, Or.inr ⟨relabel_free s3', ?_⟩⟩
        obtain ⟨c, hc⟩ := c2 x (mem_look s3')
        refine ⟨c, hc, ?_⟩
        rcases lk with ⟨z, _⟩ | ⟨_, c', hc', hv⟩
        · rcases hcf with y | y
          · have z' : X.env.scope.names.lookup x = some .local := z
            rw [y] at z'; cases z'
          · have z' : X.env.scope.names.lookup x = some .local := z
            rw [y] at z'; cases z'
        · have := c1 x c hc
          rw [hc'] at this
          cases this
          exact hv.keeps k
  · obtain ⟨v, z⟩ := I.cell x c (c1 x c e)
    exact ⟨v, z.keeps k⟩
  · unfold stC
    rw [List.length_map]
    exact ck.len.symm

theorem comp_core {pins : List (Addr × Obj)} {σ : St} {H : Hp} {s : Shared} {Q : VK} {cl : List (Str × Addr)} {R : Value → Addr → Result → Shared → Prop} (hc : X.calm = true) (I : Inv X pins σ H s) (hi : PI X tg iter wi)
    (hg : ∀ cl C s H ex, PG (compCx X scope cl N C s H ex) tg g) (he : ∀ cl C s H ex, PE (compCx X scope cl N C s H ex) elt te) (ck : CompChk X.env.scope X.N scope N fr)
    (c1 : ∀ x c, cl.lookup x = some c → X.env.cells.lookup x = some c) (c2 : ∀ x, (x, NameKind.free) ∈ scope.names → ∃ c, cl.lookup x = some c)
    (h : tComp wi g te fr σ H Q)
    (hR : ∀ acc C s' H' m, s'.heap.Ns C m → FpOk X pins H' C → Inv X pins σ H' s' → Q (.ref acc) H' → R (.ref acc) C (.ok .next) s') :
    wpAny (model X.prog X.w) X.A (eval iter X.env) (fun x s₁ => wpAny (model X.prog X.w) X.A (pyIter x) (fun it s₂ => wpAny (model X.prog X.w) X.A (newList []) (fun acc s₃ =>
      wpAny (model X.prog X.w) X.A (newFunctionEnv scope X.env.globals cl [] X.env.qual none .none (some X.env)) (fun cenv s₄ =>
        codeAny (model X.prog X.w) X.A (.compStart (.ListComp elt [⟨tg, iter, [], 0⟩] scope pos) 0 it acc { cenv with scope := relabel scope X.env }) (R acc cenv.locals) s₄) X.xe s₃) X.xe s₂) X.xe s₁) X.xe s := by
  refine thn (hi pins s σ H _ I h) fun v s1 h1 => thn h1 fun itv s2 h2 => ?_
  obtain ⟨it, fp, tn, J, H2, e, I2, T, st2, f2, q2⟩ := h2
  subst e
  refine wpAny_newObj_type (wpAny_newFunctionEnv ck.nocell (by intro y hy; simp at hy) (fun h₁ hns₁ hsb₁ => ?_) ck.kind)
  dsimp only at hns₁ hsb₁ ⊢
  have I3 : Inv X pins σ (upd H2 s2.heap.objs.size (.lst [])) { s2 with heap := s2.heap.push { cls := .type "list", dict := none, data := .seq ([] : List Value).toArray } } := I2.lnew (t' := s2.toks) (its := []) .nil (Nat.zero_le _)
  have acc0 : H2 s2.heap.objs.size = none := I2.fresh
  obtain ⟨W, ⟨m0, w0⟩, turn⟩ := q2 s2.heap.objs.size acc0
  generalize hH3 : s2.heap.push { cls := .type "list", dict := none, data := .seq ([] : List Value).toArray } = h3 at hns₁ hsb₁ I3 ⊢
  have hz3 : h3.objs.size = s2.heap.objs.size + 1 := by rw [← hH3, Heap.size_push]
  have k23 : ∀ b o, s2.heap.get? b = some o → h3.get? b = some o := fun b o e => by rw [← hH3]; exact Heap.get?_push_of_some _ e
  have k34 : ∀ b o, h3.get? b = some o → h₁.get? b = some o := fun b o e => hsb₁.extBut b o (Nat.ne_of_lt (Heap.lt_size e)) (Heap.get?_push_of_some _ e)
  have fpo : ∀ b ∈ fp, ∃ o, s2.heap.get? b = some o ∧ ∀ v, o.data ≠ .cell v := T.obj 0 _ st2
  have hex : ∀ b ∈ fp, FpOk X pins (upd H2 s2.heap.objs.size (.lst [])) b ∧ b < h3.objs.size := fun b hb => by
    obtain ⟨o, eo, _⟩ := fpo b hb
    have lt := Heap.lt_size eo
    obtain ⟨f0, fr'⟩ := f2 b hb
    exact ⟨⟨by rw [upd_ne (Nat.ne_of_lt lt)]; exact f0, fr'⟩, by rw [hz3]; exact Nat.lt_succ_of_lt lt⟩
  have I4 : Inv (compCx X scope cl N h3.objs.size { s2 with heap := h3 } (upd H2 s2.heap.objs.size (.lst [])) fp) [] (stC fr σ) (upd H2 s2.heap.objs.size (.lst [])) { s2 with heap := h₁, toks := s2.toks + ([] : List (Str × Value)).length } :=
    comp_entry I3 ck c1 c2 hex (Nat.le_refl _) hns₁ k34 rfl rfl
  have stat : ∀ {H' : Hp}, (∀ b ∈ fp, H' b = none) → ∀ b ∈ fp, FpOk (compCx X scope cl N h3.objs.size { s2 with heap := h3 } (upd H2 s2.heap.objs.size (.lst [])) fp) [] H' b := fun hn b hb =>
    ⟨hn b hb, (I4.ok.exf b hb).1, I4.ok.exfs b hb, .inl hb, (I4.ok.exf b hb).2, fun p hp => by simp at hp⟩
  have stn : ∀ i h h', tn i h → (∀ b o, h.get? b = some o → h'.get? b = some o) → tn i h' := fun i h h' st kk => T.keep i h h' st fun b _ o e => kk b o e
  have loop : codeAny (model X.prog X.w) X.A (.compLoop (.ListComp elt [⟨tg, iter, [], 0⟩] scope pos) 0 (.ref it) (.ref s2.heap.objs.size) (compEnvC scope cl h3.objs.size X.env)) (R (.ref s2.heap.objs.size) h3.objs.size)
      { s2 with heap := h₁, toks := s2.toks + ([] : List (Str × Value)).length } := by
    refine compLoop_any (fun n s' => ∃ i σ' H', Inv (compCx X scope cl N h3.objs.size { s2 with heap := h3 } (upd H2 s2.heap.objs.size (.lst [])) fp) [] σ' H' s' ∧ tn i s'.heap ∧ (∀ b ∈ fp, H' b = none) ∧ W i n σ' H') ?_ m0
      ⟨0, _, _, I4, stn _ _ _ st2 fun b o e => k34 b o (k23 b o e), fun b hb => (hex b hb).1.1, w0⟩
    rintro n s3 ⟨i, σ3, H3, J3, st3, fr3, w3⟩
    rcases turn i n σ3 H3 w3 with ⟨stop, qn⟩ | ⟨go, step⟩
    · refine wpFalse (thn (T.done (compCx X scope cl N h3.objs.size { s2 with heap := h3 } (upd H2 s2.heap.objs.size (.lst [])) fp) rfl rfl rfl hc i [] s3 σ3 H3 (fun _ _ => False) J3 (stat fr3) st3 stop) fun r s4 ⟨hr, J4⟩ => ?_)
      subst hr
      obtain ⟨mc, hmc, _⟩ := J4.loc
      have I5 : Inv X pins σ H3 s4 := I3.call' (ch := fp) J4.os J4.base J4.hok J4.bare fun b hb => ⟨(hex b hb).1.2.2.2.1, (hex b hb).1.2.1, (hex b hb).1.2.2.2.2.1, (hex b hb).1.2.2.2.2.2⟩
      exact hR _ _ s4 H3 mc hmc (I3.fpOk (Nat.le_refl _) J4.free) I5 qn
    · refine wpFalse (thn (T.item (compCx X scope cl N h3.objs.size { s2 with heap := h3 } (upd H2 s2.heap.objs.size (.lst [])) fp) rfl rfl rfl hc i [] s3 σ3 H3 (fun _ _ => False) J3 (stat fr3) st3 go) fun r s4 ⟨u, hr, h4⟩ => ?_)
      subst hr
      refine wpFalse (thn h4 fun _ s5 ⟨x, H5, J5, r5, y5, st5, fr5⟩ => ?_)
      have J5' := J5.pinned (stat fr5) (T.obj _ _ st5)
      refine wpFalse (thn (hg _ _ _ _ _ _ s5 σ3 H5 x u _ J5' r5 (step x H5 y5)) fun _ s6 ⟨σ6, H6, J6, q6⟩ => ?_)
      refine wpFalse (thn (he _ _ _ _ _ _ s6 σ6 H6 _ J6 q6) fun y s7 ⟨v7, H7, J7, r7, xs, hx, hz, m', hm', w7⟩ => ?_)
      refine wpFalse (thn (mt_append _ s7 σ6 H7 (.ref s2.heap.objs.size) [v7] (.ref s2.heap.objs.size) [y] (fun v H8 => H8 = upd H7 s2.heap.objs.size (.lst (xs ++ [v7]))) J7 rfl (.cons r7 .nil) ⟨_, xs, v7, rfl, rfl, hx, hz, rfl⟩) fun _ s8 ⟨_, H8, J8, _, e8⟩ => ?_)
      subst e8
      refine ⟨m', hm', i + 1, σ6, _, J8.unpinned, T.keep _ _ _ st5 fun b hb o e => (J8.pin (b, o) (List.mem_append_right _ (List.mem_append_right _ (mem_pinsAt hb e)))).1, fun b hb => ?_, w7⟩
      obtain ⟨o, e, d⟩ := T.obj _ _ st5 b hb
      exact (J8.pin (b, o) (List.mem_append_right _ (List.mem_append_right _ (mem_pinsAt hb e)))).2.1
  exact codeAny_compStart_list loop (T.self _ 0 _ _ _ (stn _ _ _ st2 fun b o e => k34 b o (k23 b o e)) loop)

theorem comp_cl (I : X.Ok) (ck : CompChk X.env.scope X.N scope N fr) : ∃ cl, closureFor scope X.env = pure cl ∧ (∀ x c, cl.lookup x = some c → X.env.cells.lookup x = some c) ∧ (∀ x, (x, NameKind.free) ∈ scope.names → ∃ c, cl.lookup x = some c) :=
  closure_of fun y hy e => I.has y.1 (isCF_of (ck.free y hy e))

theorem pe_comp (hc : X.calm = true) (hi : PI X tg iter wi) (hg : ∀ cl C s H ex, PG (compCx X scope cl N C s H ex) tg g) (he : ∀ cl C s H ex, PE (compCx X scope cl N C s H ex) elt te)
    (hk : compChk X.env.scope X.N scope N fr = true := by rfl) (hs : ∀ x, foldedSetIterable iter X.env x = pure x := by intro _; rfl) : PE X (.ListComp elt [⟨tg, iter, [], 0⟩] scope pos) (tComp wi g te fr) := by
  intro pins s σ H Q I h
  have ck := compChk_of hk
  obtain ⟨cl, e1, c1, c2⟩ := comp_cl I.ok ck
  rw [eval_ListComp]
  refine wpAny_comprehension_free (use := none) (Q := EP X pins σ Q) rfl hs e1 ck.kind ck.loc (comp_core (R := fun acc C => compPost (model X.prog X.w) X.A X.xe none (EP X pins σ Q) acc C) hc I hi hg he ck c1 c2 h fun acc C s' H' m hn f I' q => ?_)
  obtain ⟨f0, f1, f2, f3, f4, f5⟩ := f
  exact ⟨m, hn, fun h' hs' => ⟨.ref acc, H', I'.turned (t' := s'.toks) (fun b o hb e => hs'.extBut b o hb e) f0 f1 f3 f4 f5, rfl, q⟩⟩

/-- name = [..]: the name is stored ahead of the block's end -/
theorem ps_setComp {y : Str} {py spos : Pos} {gy : TG} (hc : X.calm = true) (hy : PG X (.Name y py) gy) (hi : PI X tg iter wi) (hg : ∀ cl C s H ex, PG (compCx X scope cl N C s H ex) tg g) (he : ∀ cl C s H ex, PE (compCx X scope cl N C s H ex) elt te)
    (hk : compChk X.env.scope X.N scope N fr = true := by rfl) (hsw : swapsWith (.ListComp elt [⟨tg, iter, [], 0⟩] scope pos) (some (.Name y py)) spos.line X.env = pure true := by rfl) (hs : ∀ x, foldedSetIterable iter X.env x = pure x := by intro _; rfl) :
    PS X (.Assign [.Name y py] (.ListComp elt [⟨tg, iter, [], 0⟩] scope pos) spos) (tAsg (tComp wi g te fr) gy) := by
  intro pins s σ H D I h
  have ck := compChk_of hk
  obtain ⟨cl, e1, c1, c2⟩ := comp_cl I.ok ck
  rw [exec_Assign_Name_used _ _ _ _ hsw]
  refine wpAny_bind (wpAny_standAt (wpAny_bind ?_))
  show wpAny _ X.A (do let _ ← comprehension (.ListComp elt [⟨tg, iter, [], 0⟩] scope pos) scope X.env _ (newList []) false (eval iter X.env) (some (assign (.Name y py) X.env))) _ _ s
  refine wpAny_bind (wpAny_mono (wpAny_comprehension_free (use := some (assign (.Name y py) X.env)) (Q := fun _ s' => SP X pins D .next s') rfl hs e1 ck.kind ck.loc
    (comp_core (R := fun acc C => compPost (model X.prog X.w) X.A X.xe (some (assign (.Name y py) X.env)) (fun _ s' => SP X pins D .next s') acc C) hc I hi hg he ck c1 c2 h fun acc C s' H' m hn f I' q => ?_)) (fun _ s' hq => wpAny_pure (wpAny_pure hq)) fun _ _ e => e)
  show wpAny _ X.A (assign (.Name y py) X.env (.ref acc)) _ _ _
  obtain ⟨oC, es, ep, hoC, hdC, hrC⟩ := id hn
  have IP := I'.pinned (fp := [C]) (fun b hb => by rw [List.mem_singleton.mp hb]; exact f) (fun b hb => by rw [List.mem_singleton.mp hb]; exact ⟨oC, hoC, fun v z => by rw [hdC] at z; cases z⟩)
  refine thn (hy _ s' σ H' (.ref acc) (.ref acc) _ IP rfl q) fun _ s'' ⟨σ6, H6, I6, q6⟩ => ?_
  have pC := I6.pin (C, oC) (List.mem_append_right _ (List.mem_append_right _ (mem_pinsAt (List.mem_singleton.mpr rfl) hoC)))
  obtain ⟨f0, f1, f2, f3, f4, f5⟩ := f
  exact ⟨m, ⟨oC, es, ep, pC.1, hdC, hrC⟩, fun h' hs' => ⟨σ6, H6, I6.unpinned.turned (t' := s''.toks) (fun b o hb e => hs'.extBut b o hb e) pC.2.1 f1 f3 f4 f5, q6⟩⟩
end
end L2
namespace L2
open PySem PySem.Spec PyProof.Rows
section
variable {X : Cx}
def CDivL (_ j : Int) : Prop := 0 < j ∧ j.natAbs.log2 < 9000
theorem op_fdivL : OpR X (binaryOp .FloorDiv) (rI CDivL fun i j => .int (i / j)) := opI fun i j _ _ _ _ _ hc q => by
  have h1 : (0 : Int) < j := hc.1
  exact floordiv_int (by first | lia | omega) (by rw [Int.fdiv_eq_ediv_of_nonneg i (by first | lia | omega)]; exact q) (.inl (PyProof.noPylong_of_log2 hc.2))
theorem op_mulL : OpR X (binaryOp .Mult) (rI IntMulOk fun i j => .int (i * j)) := opI fun _ _ _ _ _ _ _ hc q => mul_int q hc
theorem log2_lt_of {n k : Nat} (hk : 0 < k) (h : n < 2 ^ k) : n.log2 < k := by
  rcases Nat.eq_zero_or_pos n with h0 | hp
  · rw [h0]; simpa using hk
  · exact (Nat.log2_lt (Nat.ne_of_gt hp)).mpr h
theorem intBits_le {z : Int} {k : Nat} (hk : 0 < k) (h : z.natAbs < 2 ^ k) : Builtin.Int.intBits z ≤ k := by
  unfold Builtin.Int.intBits
  split
  · exact Nat.zero_le _
  · exact log2_lt_of hk h
theorem mulOk_of {a b : Int} (h1 : a.natAbs < 2 ^ 128) (h2 : b.natAbs < 2 ^ 128) : IntMulOk a b := by
  have e1 := intBits_le (by decide) h1
  have e2 := intBits_le (by decide) h2
  unfold IntMulOk Builtin.Int.intTooBig
  intro h
  simp only [Bool.and_eq_true, decide_eq_true_eq] at h
  have h3 := h.2
  have hb : (256 : Int) ≤ (bitsLine : Int) := by decide +kernel
  first | lia | omega

end

section
variable {X : Cx}
end
end L2
namespace L2
open PySem PySem.Spec PyProof.Rows
structure DefOk (P : Program) (w : World) (K : PySem.W.Frag) (mg : Str → Option Value) (base : Heap) (k : Nat) (x : Str) (ps : List Str) (sp : Sp) : Prop where
  ex : ∃ (f : Addr) (fd : FuncData), FnOk P w K mg base CX0 k f fd ps sp ∧ mg x = some (.ref f) ∧ PySem.W.keepIn K (.ref f) = true ∧ Binds K fd ps []
section
variable {X : Cx} {k j : Nat} {x : Str} {ps : List Str} {sp : Sp} {p pos : Pos} {e : Expr} {es : List Expr} {t : TA}
theorem pe_fn (D : DefOk X.prog X.w X.K X.mg X.base k x ps sp) (hr : Room j X.A) (ha : PA X (e :: es) t) (hj : k ≤ j := by decide) (hg : Gl X x := by rfl) (hdb : (x == ("__debug__" : Str)) = false := by decide)
    (he : starEach (e :: es) X.env = (false, eval e X.env) :: starEach es X.env := by rfl) (hpl : (backTo pos (starEach es X.env)).any (·.1) = false := by rfl) : PE X (.Call (.Name x p) (e :: es) [] pos) (tCall sp [] E0 t) := by
  obtain ⟨f, fd, F, hm, hk, hb⟩ := D.ex
  exact pe_call F (hr.mono hj) hg hm hk hb .nil pass0 ha hdb he hpl
end
theorem lenOk {xs : List V} (n : Nat) (h : xs.length = n := by rfl) (h2 : n ≤ 1000 := by decide) : xs.length ≤ sizeLine := by rw [h]; exact Nat.le_of_lt (small1000 h2)
theorem iteP {c : Bool} {A B : Prop} (h : c = true) (a : A) : if c = true then A else B := by rw [if_pos h]; exact a
theorem iteN {c : Bool} {A B : Prop} (h : c = false) (b : B) : if c = true then A else B := by rw [if_neg (by rw [h]; exact Bool.false_ne_true)]; exact b
theorem ite3 {c : Bool} {A B : Prop} (h1 : c = true → A) (h2 : c = false → B) : if c = true then A else B := by
  cases c with
  | true => exact iteT (h1 rfl)
  | false => exact iteF (h2 rfl)
/-- all but p is as it was -/
def SameX (p : Addr) (H H' : Hp) : Prop := ∀ b o, b ≠ p → H b = some o → H' b = some o
theorem SameX.trans {p : Addr} {H H1 H2 : Hp} (a : SameX p H H1) (b : SameX p H1 H2) : SameX p H H2 := fun c o n h => b c o n (a c o n h)
theorem SameX.upd {p : Addr} {H : Hp} {o : HO} : SameX p H (upd H p o) := fun b u n h => by rw [upd_ne n]; exact h
theorem SameX.new {p l : Addr} {H : Hp} {o : HO} (h : H l = none) : SameX p H (L2.upd H l o) := fun b u _ e => by rw [upd_ne (ne_of_none e h)]; exact e
theorem Same.new {l : Addr} {H : Hp} {o : HO} (h : H l = none) : Same H (L2.upd H l o) := fun b u e => by rw [upd_ne (ne_of_none e h)]; exact e
theorem SameX.same {p : Addr} {H H0 H' : Hp} (a : SameX p H H') (s : Same H0 H) (h : H0 p = none) : Same H0 H' := fun b o e => a b o (ne_of_none e h) (s b o e)
/-- the invariant of a comprehension of n turns: at turn i the new list holds xs, i of them -/
def cW (acc : Addr) (n : Nat) (Pv : Nat → List V → St → Hp → Prop) (i m : Nat) (σ : St) (H : Hp) : Prop := i ≤ n ∧ m = n - i ∧ ∃ xs, xs.length = i ∧ H acc = some (.lst xs) ∧ Pv i xs σ H
/-- what is wanted behind the element of turn i -/
def cNx (acc : Addr) (n : Nat) (Pv : Nat → List V → St → Hp → Prop) (i : Nat) (σ : St) (v : V) (H : Hp) : Prop := ∃ xs, H acc = some (.lst xs) ∧ xs.length < sizeLine ∧ ∃ m', m' < n - i ∧ cW acc n Pv (i + 1) m' σ (upd H acc (.lst (xs ++ [v])))
theorem cNx.mk {acc : Addr} {n : Nat} {Pv : Nat → List V → St → Hp → Prop} {i : Nat} {σ : St} {v : V} {H : Hp} {xs : List V} (hn : n ≤ sizeLine) (hi : i < n) (hl : xs.length = i) (ha : H acc = some (.lst xs)) (hp : Pv (i + 1) (xs ++ [v]) σ (upd H acc (.lst (xs ++ [v])))) :
    cNx acc n Pv i σ v H := ⟨xs, ha, by first | lia | omega, n - (i + 1), by first | lia | omega, hi, rfl, xs ++ [v], by rw [List.length_append, hl]; rfl, upd_same, hp⟩
theorem comp_range {lo : Int} {n : Nat} {g : TG} {te : TE} {σ : St} {H1 : Hp} {acc : Addr} {Qr : Hp → Prop} (Pv : Nat → List V → St → Hp → Prop) (h0 : Pv 0 [] σ (upd H1 acc (.lst [])))
    (hs : ∀ i xs σ H, i < n → xs.length = i → H acc = some (.lst xs) → Pv i xs σ H → g (.int (lo + i)) σ H fun σ2 H2 => te σ2 H2 fun v H3 => cNx acc n Pv i σ2 v H3)
    (hd : ∀ xs σ H, xs.length = n → H acc = some (.lst xs) → Pv n xs σ H → Qr H) :
    ∃ W : Nat → Nat → St → Hp → Prop, (∃ m, W 0 m σ (upd H1 acc (.lst []))) ∧ ∀ i m σ1 H2, W i m σ1 H2 →
      ((Itr lo n).stop i H2 ∧ Qr H2) ∨ ((Itr lo n).go i H2 ∧ ∀ x H3, (Itr lo n).yld i H2 x H3 → g x σ1 H3 fun σ4 H4 => te σ4 H4 fun v H5 => ∃ xs, H5 acc = some (.lst xs) ∧ xs.length < sizeLine ∧ ∃ m', m' < m ∧ W (i + 1) m' σ4 (upd H5 acc (.lst (xs ++ [v])))) := by
  refine ⟨cW acc n Pv, ⟨n, Nat.zero_le _, rfl, [], rfl, upd_same, h0⟩, ?_⟩
  rintro i m σ1 H2 ⟨hi, rfl, xs, hl, ha, hp⟩
  rcases Nat.lt_or_ge i n with h | h
  · refine .inr ⟨h, ?_⟩
    rintro x H3 ⟨rfl, rfl⟩
    exact hs i xs σ1 H3 h hl ha hp
  · have e : i = n := Nat.le_antisymm hi h
    subst e
    exact .inl ⟨Nat.le_refl _, hd xs σ1 H2 hl ha hp⟩
theorem comp_list {K : PySem.W.Frag} {a : Addr} {ys : List V} {g : TG} {te : TE} {σ : St} {H1 : Hp} {acc : Addr} {Qr : Hp → Prop} (Pv : Nat → List V → St → Hp → Prop) (h0 : Pv 0 [] σ (upd H1 acc (.lst [])))
    (hq : ∀ i xs σ H, i ≤ ys.length → H acc = some (.lst xs) → Pv i xs σ H → SqL K H a ys)
    (hs : ∀ i x xs σ H, ys[i]? = some x → i < ys.length → xs.length = i → H acc = some (.lst xs) → Pv i xs σ H → g x σ H fun σ2 H2 => te σ2 H2 fun v H3 => cNx acc ys.length Pv i σ2 v H3)
    (hd : ∀ xs σ H, xs.length = ys.length → H acc = some (.lst xs) → Pv ys.length xs σ H → Qr H) :
    ∃ W : Nat → Nat → St → Hp → Prop, (∃ m, W 0 m σ (upd H1 acc (.lst []))) ∧ ∀ i m σ1 H2, W i m σ1 H2 →
      ((Itl K a).stop i H2 ∧ Qr H2) ∨ ((Itl K a).go i H2 ∧ ∀ x H3, (Itl K a).yld i H2 x H3 → g x σ1 H3 fun σ4 H4 => te σ4 H4 fun v H5 => ∃ xs, H5 acc = some (.lst xs) ∧ xs.length < sizeLine ∧ ∃ m', m' < m ∧ W (i + 1) m' σ4 (upd H5 acc (.lst (xs ++ [v])))) := by
  refine ⟨cW acc ys.length Pv, ⟨ys.length, Nat.zero_le _, rfl, [], rfl, upd_same, h0⟩, ?_⟩
  rintro i m σ1 H2 ⟨hi, rfl, xs, hl, ha, hp⟩
  have hsq := hq i xs σ1 H2 hi ha hp
  rcases Nat.lt_or_ge i ys.length with h | h
  · refine .inr ⟨⟨ys, ys[i], hsq, List.getElem?_eq_getElem h⟩, ?_⟩
    rintro x H3 ⟨rfl, hx⟩
    exact hs i x xs σ1 H3 (hx ys hsq) h hl ha hp
  · have e : i = ys.length := Nat.le_antisymm hi h
    subst e
    exact .inl ⟨⟨ys, hsq, Nat.le_refl _⟩, hd xs σ1 H2 hl ha hp⟩
end L2
namespace L2
open PySem PySem.Spec PyProof.Rows
section
variable {prog : Program} {w : World} {A : Around} {E : Value → Shared → Prop} {h : Heap} {g : Array GenState} {d : Drawn} {t : Nat} {os : OsState}
  {nm qn : Str} {C N : Addr} {bs bm bmB : List Value} {hdct : Bool} {sn : List Str} {sub : List Value} {ab : Bool} {col : Option Bool} {dd : Option Addr} {k0 k1 k2 k3 k5 : Option Value} {B newId initId : String}
/-- the heap behind the making: the tuple of the arguments, then the exception -/
def rawExc (h : Heap) (C : Addr) (rest : List Value) : Heap := (h.push { cls := .type "tuple", data := .seq rest.toArray }).push { cls := .ref C, data := .fields #[.ref h.objs.size, .none, .none, .none, .bool false, .none] }
theorem rawExc_keep {C : Addr} {rest : List Value} {b : Addr} {o : Obj} (e : h.get? b = some o) : (rawExc h C rest).get? b = some o := Heap.get?_push_of_some _ (Heap.get?_push_of_some _ e)
theorem rawExc_at (C : Addr) (rest : List Value) : (rawExc h C rest).get? (h.objs.size + 1) = some { cls := .ref C, data := .fields #[.ref h.objs.size, .none, .none, .none, .bool false, .none] } := by
  unfold rawExc; heap_get
theorem type_call_excT (F : ExcBaseFacts B newId initId bmB) (T : OwnTail h bmB bm) {mN : Str → Option Value} {rest : List Value} {fI : Addr} {oI : Obj} {Q : Fin → Shared → Prop}
    (hC : h.get? C = some (excClassObj nm qn C N bs bm hdct sn sub ab col dd k0 k1 k2 k3 k5 newId)) (hn : h.Ns N mN) (hi : mN "__init__" = some (.ref fI)) (hfI : h.get? fI = some oI) (hfc : oI.cls = .type "function") (hrest : rest.length ≤ sizeLine)
    (hq : wpAny (model prog w) A (call (.ref fI) (.ref (h.objs.size + 1) :: rest)) (fun r s' => r = .none ∧ Q (.done (.ret (.ref (h.objs.size + 1)))) s') E ⟨rawExc h C rest, g, d, t, os⟩) :
    wpAny (model prog w) A (Builtin.«type.__call__» ⟨.ref C :: rest, []⟩) Q E ⟨h, g, d, t, os⟩ := by
  repeat (first | with_reducible refine wpAny_loadPart_at hC ?_ | with_reducible refine wpAny_madeBy_exc hC ?_ | wp_step)
  refine codeAny_call_builtin_code (Code.quiet_builtin _ F.quiet) (wpAny_check_new_subT F T hC (codeAny_exc_new_subT F T hC ?_ hrest))
  show wpAny _ _ _ _ _ ⟨rawExc h C rest, g, d, t, os⟩
  have c1 : (rawExc h C rest).get? C = _ := rawExc_keep hC
  have n1 : (rawExc h C rest).Ns N mN := let ⟨o, es, ep, e, r⟩ := hn; ⟨o, es, ep, rawExc_keep e, r⟩
  have e1 := rawExc_at (h := h) C rest
  have T1 : OwnTail (rawExc h C rest) bmB bm := T.keeps fun _ _ e => rawExc_keep e
  have cc : (Value.ref C :: bm).contains (.ref C) = true := by simp
  unfold isInstance
  repeat (first | with_reducible refine wpAny_loadPart_at e1 ?_ | (with_reducible refine wpAny_isSubtype_exc c1 ?_; rw [cc]) | wp_step)
  show wpAny _ _ (typeLookup (.ref C) _) _ _ _
  refine wpAny_typeLookup_tail c1 n1 T1 F.mroIs F.init.lookup ?_
  rw [hi]
  refine wpAny_holding (wpAny_bind ?_)
  unfold bindSpecial
  refine wpAny_bind (wpAny_typeOf (T := "function") ⟨_, rawExc_keep hfI, hfc⟩ ?_)
  rw [if_pos (by decide)]
  refine wpAny_pure (wpAny_bind (wpAny_mono hq (fun r s' hr => ?_) fun _ _ x => x))
  obtain ⟨rfl, hQ⟩ := hr
  wp_walk
  exact hQ
theorem call_excT (F : ExcBaseFacts B newId initId bmB) (T : OwnTail h bmB bm) {mN : Str → Option Value} {rest : List Value} {fI : Addr} {oI : Obj} {Q : Value → Shared → Prop}
    (hC : h.get? C = some (excClassObj nm qn C N bs bm hdct sn sub ab col dd k0 k1 k2 k3 k5 newId)) (hn : h.Ns N mN) (hi : mN "__init__" = some (.ref fI)) (hfI : h.get? fI = some oI) (hfc : oI.cls = .type "function") (hrest : rest.length ≤ sizeLine)
    (hq : wpAny (model prog w) (A.under (.builtin "type.__call__" ⟨.ref C :: rest, []⟩)) (call (.ref fI) (.ref (h.objs.size + 1) :: rest)) (fun r s' => r = .none ∧ Q (.ref (h.objs.size + 1)) s') E ⟨rawExc h C rest, g, d, t, os⟩) :
    wpAny (model prog w) A (call (.ref C) rest) Q E ⟨h, g, d, t, os⟩ := by
  have l1 := tc_lookup
  have l2 := tc_bind (.ref C)
  have ty : (⟨h, g, d, t, os⟩ : Shared).TypeIs (.ref C) "type" := ⟨_, hC, rfl⟩
  refine wpAny_call (codeAny_of_tree ?_)
  show wpAny _ _ (callAny (.ref C) _) _ _ _
  repeat (any_goals (first | assumption | with_reducible refine wpAny_loadPart_at hC ?_ | wp_step))
  exact ⟨rfl, codeAny_call_builtin_at (Code.quiet_builtin _ (by decide +kernel)) entry_typeCall (wpAny_check_type_call_sub hC (type_call_excT F T hC hn hi hfI hfc hrest hq))⟩
end
end L2
namespace L2
open PySem PySem.Spec PyProof.Rows PySem.W PySem.Builtin PySem.Builtin.ObjectAttr
def vErr : List Value := [.type "ValueError", .type "Exception", .type "BaseException", .type "object"]
def excMro : List Value → Bool
  | [] => false
  | x :: r => (match x with | .ref _ => excMro r | _ => false) || (x :: r == vErr)
theorem refuse_exc (self : Value) : ∀ {l : List Value}, excMro l = true → refuseLoop self "__setattr__" l = pure ()
  | [], e => by cases e
  | x :: r, e => by
    unfold excMro at e
    rw [Bool.or_eq_true] at e
    rcases e with e | e
    · cases x <;> first | (rw [refuseLoop_ref]; exact refuse_exc self e) | cases e
    · rw [show x :: r = vErr from beq_iff_eq.mp e]
      exact PySem.F.store_ValueError.passes self
theorem exc_has {T : String} (hT : vErr.contains (.type T) = true) : ∀ {l : List Value}, excMro l = true → l.contains (.type T) = true
  | [], e => by cases e
  | x :: r, e => by
    unfold excMro at e
    rw [Bool.or_eq_true] at e
    rcases e with e | e
    · cases x <;> first | (rw [List.contains_cons, exc_has hT e, Bool.or_true]) | cases e
    · rw [show x :: r = vErr from beq_iff_eq.mp e]; exact hT
def excIn (K : Frag) (C : Addr) : Bool := (clsIn K C).any fun cd => excMro cd.mro
section
variable {prog : Program} {w : World} {A : Around} {E : Value → Shared → Prop} {R : Result → Shared → Prop} {s : Shared} {K : Frag} {x C : Addr} {ox : Obj} {od : Option Obj} {name : Str} {tk : Tok} {v : Value}
theorem osa_exc (X : K.In s.heap) (I : InstAt s.heap x ox C od) (hp : excIn K C = true) (ht : findIn K (.ref C) name = some none)
    (h : wpAny (model prog w) A.in1 (storeInOwnDict (.ref x) (.ref C) (.str name tk) name v false)
      (fun fin s' => match fin with | .done f => R (.ok f) s' | .again c' => c'.quiet = true ∧ codeAny (model prog w) A c' R s') (fun e s' => R (.error e) s') s) :
    codeAny (model prog w) A (.call (.builtin "object.__setattr__") ⟨[.ref x, .str name tk, v], []⟩) R s := by
  have SF := PySem.F.store_object
  obtain ⟨cd, hc, ho⟩ := any_some hp
  have ne : cd.mro.isEmpty = false := by cases q : cd.mro with | nil => rw [q] at ho; cases ho | cons _ _ => rfl
  have tO : Looks (model prog w) s.heap (isInstance (.ref x) (.type "object")) true := I.type.andThen (looks_mroIn X (by
    unfold mroIn
    rw [hc, Option.bind_some, ne]
    show some (cd.mro.contains (.type "object")) = some true
    rw [exc_has (by decide +kernel) ho]))
  have tM : Looks (model prog w) s.heap (mroOf (.ref C)) cd.mro := (looks_clsIn X hc).andThen .now
  refine codeAny_call_builtin SF.slot.plain SF.entry (@check_slot (model prog w) _ _ s "object.__setattr__" "object" "__setattr__" (.ref x) [.str name tk, v] [] _ SF.kind SF.split tO (SF.args (.ref x) (.str name tk) v) ?_)
  rw [osa_eq, refuse_eq]
  refine wpAny_bind (wpAny_bind (I.type.here (wpAny_bind (tM.here ?_))))
  rw [refuse_exc _ ho]
  exact wpAny_pure (wpAny_bind (I.type.here (wpAny_bind ((looks_findIn X ht).here (wpAny_bind (wpAny_pure h))))))
/-- the first attribute: the refusal gets its dict -/
theorem set_exc0 {vs : Array Value} {sl : Array (Option Value)} {Q : Unit → Shared → Prop} (X : K.In s.heap) (hx : s.heap.get? x = some ⟨.ref C, none, .fields vs, sl⟩) (hs : findIn K (.ref C) "__setattr__" = some (some (.builtin "object.__setattr__")))
    (hp : excIn K C = true) (hh : hasDictIn K C = true) (ht : findIn K (.ref C) name = some none)
    (h : ∀ h', h'.get? x = some ⟨.ref C, some s.heap.objs.size, .fields vs, sl⟩ → h'.Ns1 s.heap.objs.size (fun y => if y = name then some v else none) → (∀ b o, b ≠ x → s.heap.get? b = some o → h'.get? b = some o) → Q () { s with heap := h', toks := s.toks + 2 }) :
    wpAny (model prog w) A (setAttr (.ref x) name v) Q E s := by
  have I : InstAt s.heap x ⟨.ref C, none, .fields vs, sl⟩ C none := ⟨hx, rfl, rfl, trivial⟩
  obtain ⟨cd, hc, hd'⟩ := any_some hh
  have nx : x ≠ s.heap.objs.size := Nat.ne_of_lt (Heap.lt_size hx)
  refine set_plain X I hs (osa_exc (s := { s with toks := s.toks + 1 }) X I hp ht ?_)
  refine wpAny_bind (wpAny_pure (wpAny_bind (wpAny_bind (wpAny_loadPart hx (wpAny_bind (Looks.here (s := { s with toks := s.toks + 1 }) (looks_clsIn X hc) ?_))))))
  rw [hd']
  refine wpAny_bind (wpAny_alloc (wpAny_bind (wpAny_update (Heap.get?_push_of_some _ hx) (wpAny_pure ?_))))
  generalize hH : (s.heap.push { cls := .type "dict", data := .dict #[] }).update x (fun o => { o with dict := some s.heap.objs.size }) = H1
  have hx1 : H1.get? x = some ⟨.ref C, some s.heap.objs.size, .fields vs, sl⟩ := by
    rw [← hH]; exact Heap.get?_update_self _ (Heap.get?_push_of_some _ hx) rfl
  have hd1 : H1.get? s.heap.objs.size = some { cls := .type "dict", data := .dict #[] } := by
    rw [← hH, Heap.get?_update_ne _ _ _ _ (Ne.symm nx)]; exact Heap.get?_push_size _ rfl
  have hk1 : ∀ b o, b ≠ x → s.heap.get? b = some o → H1.get? b = some o := fun b o hb e => by
    rw [← hH, Heap.get?_update_ne _ _ _ _ hb]; exact Heap.get?_push_of_some _ e
  have hn1 : H1.Ns1 s.heap.objs.size (fun _ => none) := Heap.Ns1.of_empty ⟨_, #[], _, hd1, rfl, fun e he => absurd he (by simp), fun _ => rfl⟩
  refine wpAny_bind (wpAny_pure (wpAny_bind (wpAny_nsSet1 (s := { s with heap := H1, toks := s.toks + 1 }) hn1 fun h' hn2 hs2 => ?_)))
  obtain ⟨oD, esD, epD, hoD, hdD, hcD⟩ := hn2.count (Within.cons name v Within.nil)
  refine wpAny_bind (wpAny_lookBehind hoD (by rw [hdD]; exact pastItsLine_dict (Nat.le_trans hcD (by rw [List.length_cons, List.length_nil, sizeLine_eq]; first | lia | omega))) ?_)
  exact wpAny_pure (h _ ((hs2.2 _ nx).trans hx1) hn2 fun b o hb e => (hs2.2 _ (Nat.ne_of_lt (Heap.lt_size e))).trans (hk1 b o hb e))
/-- a further one -/
theorem set_exc {vs : Array Value} {sl : Array (Option Value)} {dx : Addr} {mA : Str → Option Value} {ns : List Str} {Q : Unit → Shared → Prop} (X : K.In s.heap) (hx : s.heap.get? x = some ⟨.ref C, some dx, .fields vs, sl⟩) (hn : s.heap.Ns1 dx mA) (hne : dx ≠ x)
    (hs : findIn K (.ref C) "__setattr__" = some (some (.builtin "object.__setattr__"))) (hp : excIn K C = true) (hh : hasDictIn K C = true) (ht : findIn K (.ref C) name = some none) (hw : PySem.Within mA ns) (hsz : ns.length ≤ sizeLine)
    (h : ∀ h', h'.get? x = some ⟨.ref C, some dx, .fields vs, sl⟩ → h'.Ns1 dx (fun y => if y = name then some v else mA y) → Heap.SameBut dx s.heap h' → Q () { s with heap := h', toks := s.toks + 2 }) :
    wpAny (model prog w) A (setAttr (.ref x) name v) Q E s := by
  obtain ⟨od, ho⟩ : ∃ o, s.heap.get? dx = some o := let ⟨o, _, _, e, _⟩ := hn; ⟨o, e⟩
  have I : InstAt s.heap x ⟨.ref C, some dx, .fields vs, sl⟩ C (some od) := ⟨hx, rfl, rfl, ho⟩
  obtain ⟨cd, hc, hd'⟩ := any_some hh
  refine set_plain X I hs (osa_exc (s := { s with toks := s.toks + 1 }) X I hp ht ?_)
  refine wpAny_bind (wpAny_pure (wpAny_bind (wpAny_bind (wpAny_loadPart hx (wpAny_bind (Looks.here (s := { s with toks := s.toks + 1 }) (looks_clsIn X hc) ?_))))))
  rw [hd']
  refine wpAny_pure (a := some dx) (wpAny_bind (wpAny_pure (wpAny_bind (wpAny_nsSet1 (s := { s with toks := s.toks + 1 }) hn fun h' hn2 hs2 => ?_))))
  obtain ⟨oD, esD, epD, hoD, hdD, hcD⟩ := hn2.count (Within.cons name v hw)
  refine wpAny_bind (wpAny_lookBehind hoD (by rw [hdD]; exact pastItsLine_dict (Nat.le_trans hcD (by rw [List.length_cons]; first | lia | omega))) ?_)
  exact wpAny_pure (h _ ((hs2.2 _ (Ne.symm hne)).trans hx) hn2 hs2)
end
end L2
namespace L2
open PySem PySem.Spec PyProof.Rows PySem.W
section
variable {cmp : Nat → Nat → (Bool → Shared → Prop) → Shared → Prop} {key : Nat → Int} {N : Nat} {s : Shared}
variable (hcmp : ∀ i j (C : Bool → Shared → Prop), i < N → j < N → C (decide (key i < key j)) s → cmp i j C s)
include hcmp
end
end L2
namespace L2
open PySem PySem.Spec PyProof.Rows PySem.W
section
variable {prog : Program} {w : World} {A : Around} {E : Value → Shared → Prop} {s : Shared}
end
section
variable {X : Cx}
end
end L2
namespace L2
open PySem PySem.Spec PyProof.Rows

section
variable {κ : Type} [DecidableEq κ]
end


section
variable {P : Program} {w : World} {H : Hp} {h : Heap} {a : Addr}
end

section
variable {X : Cx} {pins : List (Addr × Obj)} {σ : St} {H : Hp} {s : Shared} {a : Addr} {y v : V} {u r : Value} {o : Option V} {A : Around} {E : Value → Shared → Prop}

end

section
variable {X : Cx} {pins : List (Addr × Obj)} {σ : St} {H : Hp} {s : Shared} {a : Addr} {kvs : List (Key × V)} {k : Key} {u : Value} {A : Around} {E : Value → Shared → Prop}
end


section
variable {X : Cx} {o i e value : Expr} {pos pos' tpos : Pos} {td ty tv : TE}
end


section
variable {X : Cx} {pos : Pos}
end

section
variable {X : Cx} {pins : List (Addr × Obj)} {σ : St} {H : Hp} {s : Shared} {a : Addr} {y d : V} {u r : Value} {o : Option V} {A : Around} {E : Value → Shared → Prop}
end

section
variable {X : Cx} {o e f : Expr} {apos cpos : Pos} {td ty tx : TE}
end

section
variable {X : Cx} {pins : List (Addr × Obj)} {σ : St} {H : Hp} {s : Shared} {a : Addr} {kvs : List (Key × V)} {A : Around} {E : Value → Shared → Prop}
end


section
variable {X : Cx} {pins : List (Addr × Obj)} {σ : St} {H : Hp} {s : Shared} {a : Addr} {y : V} {u : Value} {A : Around} {E : Value → Shared → Prop}
end
section
variable {κ : Type} [DecidableEq κ]
end
section
variable {X : Cx}
end
end L2
namespace L2
open PySem PySem.Spec PyProof.Rows
section
variable {X : Cx}
end
end L2
namespace L2
open PySem PySem.Spec PyProof.Rows PySem.SeqAt
mutual
inductive D where
  | at (v : V)
  | tup (xs : Ds)
  | lst (xs : Ds)
inductive Ds where
  | nil
  | cons (d : D) (r : Ds)
end
mutual
def DIs (K : PySem.W.Frag) (H : Hp) : D → V → Prop
  | .at u, v => v = u ∧ flatV u = true
  | .tup ds, v => ∃ a xs, v = .ref a ∧ SqT K H a xs ∧ DIss K H ds xs
  | .lst ds, v => ∃ a xs, v = .ref a ∧ SqL K H a xs ∧ DIss K H ds xs
def DIss (K : PySem.W.Frag) (H : Hp) : Ds → List V → Prop
  | .nil, xs => xs = []
  | .cons d r, xs => ∃ x ys, xs = x :: ys ∧ DIs K H d x ∧ DIss K H r ys
end
mutual
def dep : D → Nat
  | .at _ => 0
  | .tup ds => deps ds + 1
  | .lst ds => deps ds + 1
def deps : Ds → Nat
  | .nil => 0
  | .cons d r => max (dep d) (deps r)
end
mutual
def deq : D → D → Bool
  | .at u, .at v => eqV u v
  | .tup xs, .tup ys => deqs xs ys
  | .lst xs, .lst ys => deqs xs ys
  | _, _ => false
def deqs : Ds → Ds → Bool
  | .nil, .nil => true
  | .cons d r, .cons e q => deq d e && deqs r q
  | _, _ => false
end
def Ds.len : Ds → Nat
  | .nil => 0
  | .cons _ r => r.len + 1
def Ds.get : Ds → Nat → D
  | .nil, _ => .at .non
  | .cons d _, 0 => d
  | .cons _ r, i + 1 => r.get i
theorem deqs_all : ∀ (ds es : Ds), ((List.range (min ds.len es.len)).all (fun j => deq (ds.get j) (es.get j)) && ds.len == es.len) = deqs ds es
  | .nil, .nil => rfl
  | .nil, .cons e q => by simp [Ds.len, deqs]
  | .cons d r, .nil => by simp [Ds.len, deqs]
  | .cons d r, .cons e q => by
    have ih := deqs_all r q
    rw [show deqs (.cons d r) (.cons e q) = (deq d e && deqs r q) from by rw [deqs], ← ih]
    show ((List.range (min (r.len + 1) (q.len + 1))).all _ && (r.len + 1 == q.len + 1)) = _
    rw [show min (r.len + 1) (q.len + 1) = min r.len q.len + 1 by first | lia | omega, List.range_succ_eq_map, List.all_cons, List.all_map, Bool.and_assoc]
    congr 1
    rw [show (r.len + 1 == q.len + 1) = (r.len == q.len) by simp]
    rfl
mutual
theorem deq_refl : ∀ {K : PySem.W.Frag} {H : Hp} (d : D) {v : V}, DIs K H d v → deq d d = true
  | _, _, .at u, v, h => by
    obtain ⟨_, hf⟩ := (show v = u ∧ flatV u = true by simpa [DIs] using h)
    rw [deq]
    cases u <;> simp_all [flatV, eqV]
  | _, _, .tup ds, v, h => by
    rw [DIs] at h
    obtain ⟨a, xs, _, _, q⟩ := h
    rw [deq]; exact deqs_refl ds q
  | _, _, .lst ds, v, h => by
    rw [DIs] at h
    obtain ⟨a, xs, _, _, q⟩ := h
    rw [deq]; exact deqs_refl ds q
theorem deqs_refl : ∀ {K : PySem.W.Frag} {H : Hp} (ds : Ds) {xs : List V}, DIss K H ds xs → deqs ds ds = true
  | _, _, .nil, _, _ => by rw [deqs]
  | _, _, .cons d r, xs, h => by
    rw [DIss] at h
    obtain ⟨x, ys, _, h1, h2⟩ := h
    rw [deqs, deq_refl d h1, deqs_refl r h2]; rfl
end
theorem DIss.len {K : PySem.W.Frag} {H : Hp} : ∀ {ds : Ds} {xs : List V}, DIss K H ds xs → ds.len = xs.length
  | .nil, xs, h => by rw [DIss] at h; rw [h]; rfl
  | .cons d r, xs, h => by
    rw [DIss] at h
    obtain ⟨x, ys, rfl, _, h2⟩ := h
    show r.len + 1 = ys.length + 1
    rw [DIss.len h2]
theorem DIss.get {K : PySem.W.Frag} {H : Hp} : ∀ {ds : Ds} {xs : List V} {i : Nat} {x : V}, DIss K H ds xs → xs[i]? = some x → DIs K H (ds.get i) x
  | .nil, xs, i, x, h, e => by rw [DIss] at h; rw [h] at e; simp at e
  | .cons d r, xs, i, x, h, e => by
    rw [DIss] at h
    obtain ⟨y, ys, rfl, h1, h2⟩ := h
    cases i with
    | zero => simp at e; subst e; exact h1
    | succ i =>
      show DIs K H (r.get i) x
      exact DIss.get h2 (by simpa using e)
theorem dep_get : ∀ (ds : Ds) (i : Nat), i < ds.len → dep (ds.get i) ≤ deps ds
  | .nil, i, h => absurd h (by simp [Ds.len])
  | .cons d r, 0, _ => by show dep d ≤ _; rw [deps]; first | lia | omega
  | .cons d r, i + 1, h => by
    have := dep_get r i (by simpa [Ds.len] using h)
    show dep (r.get i) ≤ _
    rw [deps]; first | lia | omega
section
variable {X : Cx} {pins : List (Addr × Obj)} {σ : St} {H : Hp} {s : Shared}
mutual
theorem DIs.inj (I : Inv X pins σ H s) : ∀ {d e : D} {v : V}, DIs X.K H d v → DIs X.K H e v → d = e
  | .at u, .at w', v, h, h' => by
    rw [DIs] at h
    rw [DIs] at h'
    rw [← h.1, ← h'.1]
  | .at u, .tup ds, v, h, h' => by
    rw [DIs] at h
    rw [DIs] at h'
    obtain ⟨a, xs, e, _⟩ := h'
    have := h.2
    rw [← h.1, e] at this
    cases this
  | .at u, .lst ds, v, h, h' => by
    rw [DIs] at h
    rw [DIs] at h'
    obtain ⟨a, xs, e, _⟩ := h'
    have := h.2
    rw [← h.1, e] at this
    cases this
  | .tup ds, .at u, v, h', h => by
    rw [DIs] at h
    rw [DIs] at h'
    obtain ⟨a, xs, e, _⟩ := h'
    have := h.2
    rw [← h.1, e] at this
    cases this
  | .lst ds, .at u, v, h', h => by
    rw [DIs] at h
    rw [DIs] at h'
    obtain ⟨a, xs, e, _⟩ := h'
    have := h.2
    rw [← h.1, e] at this
    cases this
  | .tup ds, .tup es, v, h, h' => by
    rw [DIs] at h
    rw [DIs] at h'
    obtain ⟨a, xs, rfl, h1, h2⟩ := h
    obtain ⟨b, ys, e, k1, k2⟩ := h'
    cases e
    have e := I.tuple_inj h1 k1
    subst e
    rw [DIss.inj I h2 k2]
  | .lst ds, .lst es, v, h, h' => by
    rw [DIs] at h
    rw [DIs] at h'
    obtain ⟨a, xs, rfl, h1, h2⟩ := h
    obtain ⟨b, ys, e, k1, k2⟩ := h'
    cases e
    have e := I.list_inj h1 k1
    subst e
    rw [DIss.inj I h2 k2]
  | .tup ds, .lst es, v, h, h' => by
    rw [DIs] at h
    rw [DIs] at h'
    obtain ⟨a, xs, rfl, h1, h2⟩ := h
    obtain ⟨b, ys, e, k1, k2⟩ := h'
    cases e
    obtain ⟨_, _, t1, _⟩ := I.tuple h1
    obtain ⟨_, _, t2, _⟩ := I.list k1
    exact absurd rfl (ne_of_list_tuple t2.isList (show s.heap.IsTuple a _ from t1))
  | .lst ds, .tup es, v, h, h' => by
    rw [DIs] at h
    rw [DIs] at h'
    obtain ⟨a, xs, rfl, h1, h2⟩ := h
    obtain ⟨b, ys, e, k1, k2⟩ := h'
    cases e
    obtain ⟨_, _, t1, _⟩ := I.tuple k1
    obtain ⟨_, _, t2, _⟩ := I.list h1
    exact absurd rfl (ne_of_list_tuple t2.isList (show s.heap.IsTuple a _ from t1))
theorem DIss.inj (I : Inv X pins σ H s) : ∀ {ds es : Ds} {xs : List V}, DIss X.K H ds xs → DIss X.K H es xs → ds = es
  | .nil, .nil, xs, h, h' => rfl
  | .nil, .cons d r, xs, h, h' => by
    rw [DIss] at h
    rw [DIss] at h'
    obtain ⟨x, ys, e, _⟩ := h'
    rw [h] at e; cases e
  | .cons d r, .nil, xs, h', h => by
    rw [DIss] at h
    rw [DIss] at h'
    obtain ⟨x, ys, e, _⟩ := h'
    rw [h] at e; cases e
  | .cons d r, .cons e q, xs, h, h' => by
    rw [DIss] at h
    rw [DIss] at h'
    obtain ⟨x, ys, rfl, h1, h2⟩ := h
    obtain ⟨y, zs, e', k1, k2⟩ := h'
    cases e'
    rw [DIs.inj I h1 k1, DIss.inj I h2 k2]
end
theorem flat_tup {A : Around} {u : V} {x : Value} {l : Addr} {items : Array Value} (r : RelV u x) (f : flatV u = true) (hl : s.heap.IsTuple l items) (hu : A.units < cLine) : EqAt A s x (.ref l) false ∧ EqAt A s (.ref l) x false := by
  cases u with
  | non => cases r; exact ⟨.none_tuple hl hu, .tuple_none hl hu⟩
  | bl b => cases r; exact ⟨.bool_tuple b hl hu, .tuple_bool b hl hu⟩
  | int b => obtain ⟨t, rfl⟩ := r; exact ⟨.int_tuple b t hl hu, .tuple_int b t hl hu⟩
  | str b => obtain ⟨t, rfl⟩ := r; exact ⟨.str_tuple b t hl hu, .tuple_str b t hl hu⟩
  | _ => exact absurd (show false = true from f) Bool.false_ne_true
theorem flat_lst {A : Around} {u : V} {x : Value} {l : Addr} {items : Array Value} (r : RelV u x) (f : flatV u = true) (hl : s.heap.IsList l items) (hu : A.units < cLine) : EqAt A s x (.ref l) false ∧ EqAt A s (.ref l) x false := by
  cases u with
  | non => cases r; exact ⟨.none_list hl hu, .list_none hl hu⟩
  | bl b => cases r; exact ⟨.bool_list b hl hu, .list_bool b hl hu⟩
  | int b => obtain ⟨t, rfl⟩ := r; exact ⟨.int_list b t hl hu, .list_int b t hl hu⟩
  | str b => obtain ⟨t, rfl⟩ := r; exact ⟨.str_list b t hl hu, .list_str b t hl hu⟩
  | _ => exact absurd (show false = true from f) Bool.false_ne_true
theorem eqAt_D (I : Inv X pins σ H s) : ∀ (n : Nat) (A : Around) (d e : D) (x y : V) (u v : Value), dep d ≤ n → DIs X.K H d x → DIs X.K H e y → RelV x u → RelV y v → A.units + n < cLine → EqAt A s u v (deq d e) := by
  intro n
  induction n with
  | zero =>
    intro A d e x y u v hn hd he rx ry hu
    cases d with
    | tup ds => rw [dep] at hn; first | lia | omega
    | lst ds => rw [dep] at hn; first | lia | omega
    | «at» p =>
      rw [DIs] at hd
      obtain ⟨rfl, hf⟩ := hd
      cases e with
      | «at» q =>
        rw [DIs] at he
        obtain ⟨rfl, hg⟩ := he
        rw [deq]; exact eqAt_V rx ry hf hg
      | tup es =>
        rw [DIs] at he
        obtain ⟨b, ys, rfl, h1, _⟩ := he
        obtain ⟨_, _, t, _⟩ := I.tuple h1
        cases ry
        rw [deq]
        · exact (flat_tup rx hf (show s.heap.IsTuple b _ from t) hu).1
        all_goals (intros; simp_all)
      | lst es =>
        rw [DIs] at he
        obtain ⟨b, ys, rfl, h1, _⟩ := he
        obtain ⟨_, _, t, _⟩ := I.list h1
        cases ry
        rw [deq]
        · exact (flat_lst rx hf t.isList hu).1
        all_goals (intros; simp_all)
  | succ n ih =>
    intro A d e x y u v hn hd he rx ry hu
    have hu1 : A.in1.units + n < cLine := by show A.units + 1 + n < cLine; first | lia | omega
    cases d with
    | «at» p =>
      rw [DIs] at hd
      obtain ⟨rfl, hf⟩ := hd
      cases e with
      | «at» q =>
        rw [DIs] at he
        obtain ⟨rfl, hg⟩ := he
        rw [deq]; exact eqAt_V rx ry hf hg
      | tup es =>
        rw [DIs] at he
        obtain ⟨b, ys, rfl, h1, _⟩ := he
        obtain ⟨_, _, t, _⟩ := I.tuple h1
        cases ry
        rw [deq]
        · exact (flat_tup rx hf (show s.heap.IsTuple b _ from t) (by first | lia | omega)).1
        all_goals (intros; simp_all)
      | lst es =>
        rw [DIs] at he
        obtain ⟨b, ys, rfl, h1, _⟩ := he
        obtain ⟨_, _, t, _⟩ := I.list h1
        cases ry
        rw [deq]
        · exact (flat_lst rx hf t.isList (by first | lia | omega)).1
        all_goals (intros; simp_all)
    | tup ds =>
      have hd0 := hd
      rw [dep] at hn
      rw [DIs] at hd
      obtain ⟨a, xs, rfl, h1, h2⟩ := hd
      obtain ⟨i1, r1, t1, _⟩ := I.tuple h1
      cases rx
      cases e with
      | «at» q =>
        rw [DIs] at he
        obtain ⟨rfl, hg⟩ := he
        rw [deq]
        · exact (flat_tup ry hg (show s.heap.IsTuple a _ from t1) (by first | lia | omega)).2
        all_goals (intros; simp_all)
      | lst es =>
        rw [DIs] at he
        obtain ⟨b, ys, rfl, k1, _⟩ := he
        obtain ⟨_, _, t2, _⟩ := I.list k1
        cases ry
        rw [deq]
        · exact EqAt.tuple_list (show s.heap.IsTuple a _ from t1) t2.isList (by first | lia | omega)
        all_goals (intros; simp_all)
      | tup es =>
        have he0 := he
        rw [DIs] at he
        obtain ⟨b, ys, rfl, k1, k2⟩ := he
        obtain ⟨i2, r2, t2, _⟩ := I.tuple k1
        cases ry
        by_cases hab : a = b
        · subst hab
          rw [DIs.inj I he0 hd0, deq_refl _ hd0]
          exact EqAt.same _
        · refine EqAt.of_refs hab ?_
          have := RcAt.tuples (A := A) (e := fun j => deq (ds.get j) (es.get j)) (show s.heap.IsTuple a i1.toArray from t1) (show s.heap.IsTuple b i2.toArray from t2) (by first | lia | omega) fun j g1 g2 => ?_
          · have l1 := r1.length
            have l2 := r2.length
            have m1 := h2.len
            have m2 := k2.len
            rw [List.size_toArray, List.size_toArray, ← l1, ← l2, ← m1, ← m2, deqs_all] at this
            rw [deq]; exact this
          · have l1 := r1.length
            have l2 := r2.length
            have m1 := h2.len
            have g1' : j < xs.length := by simp at g1; first | lia | omega
            have g2' : j < ys.length := by simp at g2; first | lia | omega
            obtain ⟨u1, e1, q1⟩ := r1.get (List.getElem?_eq_getElem g1')
            obtain ⟨u2, e2, q2⟩ := r2.get (List.getElem?_eq_getElem g2')
            have d1 : i1.toArray[j] = u1 := by
              have : i1[j]? = some i1.toArray[j] := by simp
              rw [e1] at this; exact (Option.some.inj this).symm
            have d2 : i2.toArray[j] = u2 := by
              have : i2[j]? = some i2.toArray[j] := by simp
              rw [e2] at this; exact (Option.some.inj this).symm
            rw [d1, d2]
            exact ih _ _ _ _ _ _ _ (Nat.le_trans (dep_get ds j (by first | lia | omega)) (by first | lia | omega)) (h2.get (List.getElem?_eq_getElem g1')) (k2.get (List.getElem?_eq_getElem g2')) q1 q2 hu1
    | lst ds =>
      have hd0 := hd
      rw [dep] at hn
      rw [DIs] at hd
      obtain ⟨a, xs, rfl, h1, h2⟩ := hd
      obtain ⟨i1, r1, t1, _⟩ := I.list h1
      cases rx
      cases e with
      | «at» q =>
        rw [DIs] at he
        obtain ⟨rfl, hg⟩ := he
        rw [deq]
        · exact (flat_lst ry hg t1.isList (by first | lia | omega)).2
        all_goals (intros; simp_all)
      | tup es =>
        rw [DIs] at he
        obtain ⟨b, ys, rfl, k1, _⟩ := he
        obtain ⟨_, _, t2, _⟩ := I.tuple k1
        cases ry
        rw [deq]
        · exact EqAt.list_tuple t1.isList (show s.heap.IsTuple b _ from t2) (by first | lia | omega)
        all_goals (intros; simp_all)
      | lst es =>
        have he0 := he
        rw [DIs] at he
        obtain ⟨b, ys, rfl, k1, k2⟩ := he
        obtain ⟨i2, r2, t2, _⟩ := I.list k1
        cases ry
        by_cases hab : a = b
        · subst hab
          rw [DIs.inj I he0 hd0, deq_refl _ hd0]
          exact EqAt.same _
        · refine EqAt.of_refs hab ?_
          have l1 := r1.length
          have l2 := r2.length
          have m1 := h2.len
          have m2 := k2.len
          rw [deq]
          rw [← deqs_all]
          by_cases hz : ds.len = es.len
          · have := RcAt.lists (A := A) (e := fun j => deq (ds.get j) (es.get j)) t1.isList t2.isList (by simp; first | lia | omega) (by first | lia | omega) fun j g1 g2 => ?_
            · rw [List.size_toArray, ← l1, ← m1] at this
              rw [hz, Nat.min_self, beq_self_eq_true, Bool.and_true, ← hz]
              exact this
            · have g1' : j < xs.length := by simp at g1; first | lia | omega
              have g2' : j < ys.length := by simp at g2; first | lia | omega
              obtain ⟨u1, e1, q1⟩ := r1.get (List.getElem?_eq_getElem g1')
              obtain ⟨u2, e2, q2⟩ := r2.get (List.getElem?_eq_getElem g2')
              have d1 : i1.toArray[j] = u1 := by
                have : i1[j]? = some i1.toArray[j] := by simp
                rw [e1] at this; exact (Option.some.inj this).symm
              have d2 : i2.toArray[j] = u2 := by
                have : i2[j]? = some i2.toArray[j] := by simp
                rw [e2] at this; exact (Option.some.inj this).symm
              rw [d1, d2]
              exact ih _ _ _ _ _ _ _ (Nat.le_trans (dep_get ds j (by first | lia | omega)) (by first | lia | omega)) (h2.get (List.getElem?_eq_getElem g1')) (k2.get (List.getElem?_eq_getElem g2')) q1 q2 hu1
          · have e0 : (ds.len == es.len) = false := by simpa using hz
            rw [e0, Bool.and_false]
            exact RcAt.lists_lengths t1.isList t2.isList (by simp; first | lia | omega) (by first | lia | omega)
end
section
variable {X : Cx}
/-- the items, one by one -/
theorem eqItems {pins : List (Addr × Obj)} {σ : St} {H : Hp} {s : Shared} (I : Inv X pins σ H s) {A : Around} {ds es : Ds} {xs ys : List V} {i1 i2 : List Value} (h2 : DIss X.K H ds xs) (k2 : DIss X.K H es ys) (r1 : Vals xs i1) (r2 : Vals ys i2)
    (hu : A.units + 60 < cLine) (hd : deps ds ≤ 50) : ∀ j (g1 : j < i1.toArray.size) (g2 : j < i2.toArray.size), EqAt A.in1 s i1.toArray[j] i2.toArray[j] (deq (ds.get j) (es.get j)) := fun j g1 g2 => by
  have l1 := r1.length
  have l2 := r2.length
  have m1 := h2.len
  have g1' : j < xs.length := by simp at g1; first | lia | omega
  have g2' : j < ys.length := by simp at g2; first | lia | omega
  obtain ⟨u1, e1, q1⟩ := r1.get (List.getElem?_eq_getElem g1')
  obtain ⟨u2, e2, q2⟩ := r2.get (List.getElem?_eq_getElem g2')
  have d1 : i1.toArray[j] = u1 := by
    have : i1[j]? = some i1.toArray[j] := by simp
    rw [e1] at this; exact (Option.some.inj this).symm
  have d2 : i2.toArray[j] = u2 := by
    have : i2[j]? = some i2.toArray[j] := by simp
    rw [e2] at this; exact (Option.some.inj this).symm
  rw [d1, d2]
  exact eqAt_D I 50 _ _ _ _ _ _ _ (Nat.le_trans (dep_get ds j (by first | lia | omega)) hd) (h2.get (List.getElem?_eq_getElem g1')) (k2.get (List.getElem?_eq_getElem g2')) q1 q2 (by show A.units + 1 + 50 < cLine; first | lia | omega)
/-- == of two lists or tuples of data -/
def rEqD (K : PySem.W.Frag) (neg : Bool) : R2 := fun x y H Q => ∃ d e, DIs K H d x ∧ DIs K H e y ∧ (∃ a, x = .ref a) ∧ (∃ b, y = .ref b) ∧ dep d ≤ 50 ∧ Q (.bl (if neg then !deq d e else deq d e)) H
theorem op_eqD {k : Nat} (hr : Room k X.A) : OpR X (compareOp .Eq) (rEqD X.K false) := by
  intro pins s σ H x y v u Q I rx ry h
  obtain ⟨d, e, hd, he, ⟨a, rfl⟩, ⟨b, rfl⟩, hn, q⟩ := h
  cases rx
  cases ry
  have hu := hr.units
  cases d with
  | «at» p => rw [DIs] at hd; obtain ⟨rfl, hf⟩ := hd; cases hf
  | tup ds =>
    rw [dep] at hn
    rw [DIs] at hd
    obtain ⟨a', xs, e', h1, h2⟩ := hd
    cases e'
    obtain ⟨i1, r1, t1, _⟩ := I.tuple h1
    cases e with
    | «at» p => rw [DIs] at he; obtain ⟨rfl, hf⟩ := he; cases hf
    | tup es =>
      rw [DIs] at he
      obtain ⟨b', ys, e', k1, k2⟩ := he
      cases e'
      obtain ⟨i2, r2, t2, _⟩ := I.tuple k1
      refine RcAt.tuples (show s.heap.IsTuple a i1.toArray from t1) (show s.heap.IsTuple b i2.toArray from t2) (by first | lia | omega) (eqItems I h2 k2 r1 r2 (by first | lia | omega) (by first | lia | omega)) _ _ _ _ ⟨.bl _, H, I, ?_, q⟩
      show Value.bool _ = Value.bool _
      rw [List.size_toArray, List.size_toArray, ← r1.length, ← r2.length, ← h2.len, ← k2.len, deqs_all]
      simp only [Bool.false_eq_true, if_false]
      rw [deq]
    | lst es =>
      rw [DIs] at he
      obtain ⟨b', ys, e', k1, k2⟩ := he
      cases e'
      obtain ⟨i2, r2, t2, _⟩ := I.list k1
      refine RcAt.tuple_list (show s.heap.IsTuple a _ from t1) t2.isList (by first | lia | omega) _ _ _ _ ⟨.bl _, H, I, ?_, q⟩
      show Value.bool _ = Value.bool _
      simp only [Bool.false_eq_true, if_false]
      rw [deq] <;> (intros; simp_all)
  | lst ds =>
    rw [dep] at hn
    rw [DIs] at hd
    obtain ⟨a', xs, e', h1, h2⟩ := hd
    cases e'
    obtain ⟨i1, r1, t1, _⟩ := I.list h1
    cases e with
    | «at» p => rw [DIs] at he; obtain ⟨rfl, hf⟩ := he; cases hf
    | tup es =>
      rw [DIs] at he
      obtain ⟨b', ys, e', k1, k2⟩ := he
      cases e'
      obtain ⟨i2, r2, t2, _⟩ := I.tuple k1
      refine RcAt.list_tuple t1.isList (show s.heap.IsTuple b _ from t2) (by first | lia | omega) _ _ _ _ ⟨.bl _, H, I, ?_, q⟩
      show Value.bool _ = Value.bool _
      simp only [Bool.false_eq_true, if_false]
      rw [deq] <;> (intros; simp_all)
    | lst es =>
      rw [DIs] at he
      obtain ⟨b', ys, e', k1, k2⟩ := he
      cases e'
      obtain ⟨i2, r2, t2, _⟩ := I.list k1
      have l1 := r1.length
      have l2 := r2.length
      have m1 := h2.len
      have m2 := k2.len
      by_cases hz : ds.len = es.len
      · refine RcAt.lists t1.isList t2.isList (by simp; first | lia | omega) (by first | lia | omega) (eqItems I h2 k2 r1 r2 (by first | lia | omega) (by first | lia | omega)) _ _ _ _ ⟨.bl _, H, I, ?_, q⟩
        show Value.bool _ = Value.bool _
        simp only [Bool.false_eq_true, if_false]
        rw [deq, ← deqs_all, List.size_toArray, ← l1, ← m1, hz, Nat.min_self, beq_self_eq_true, Bool.and_true]
      · refine RcAt.lists_lengths t1.isList t2.isList (by simp; first | lia | omega) (by first | lia | omega) _ _ _ _ ⟨.bl _, H, I, ?_, q⟩
        show Value.bool _ = Value.bool _
        have e0 : (ds.len == es.len) = false := by simpa using hz
        simp only [Bool.false_eq_true, if_false]
        rw [deq, ← deqs_all, e0, Bool.and_false]
theorem op_neD {k : Nat} (hr : Room k X.A) : OpR X (compareOp .NotEq) (rEqD X.K true) := by
  intro pins s σ H x y v u Q I rx ry h
  obtain ⟨d, e, hd, he, ⟨a, rfl⟩, ⟨b, rfl⟩, hn, q⟩ := h
  cases rx
  cases ry
  have hu := hr.units
  cases d with
  | «at» p => rw [DIs] at hd; obtain ⟨rfl, hf⟩ := hd; cases hf
  | tup ds =>
    rw [dep] at hn
    rw [DIs] at hd
    obtain ⟨a', xs, e', h1, h2⟩ := hd
    cases e'
    obtain ⟨i1, r1, t1, _⟩ := I.tuple h1
    cases e with
    | «at» p => rw [DIs] at he; obtain ⟨rfl, hf⟩ := he; cases hf
    | tup es =>
      rw [DIs] at he
      obtain ⟨b', ys, e', k1, k2⟩ := he
      cases e'
      obtain ⟨i2, r2, t2, _⟩ := I.tuple k1
      refine RcNeAt.tuples (show s.heap.IsTuple a i1.toArray from t1) (show s.heap.IsTuple b i2.toArray from t2) (by first | lia | omega) (eqItems I h2 k2 r1 r2 (by first | lia | omega) (by first | lia | omega)) _ _ _ _ ⟨.bl _, H, I, ?_, q⟩
      show Value.bool _ = Value.bool _
      rw [List.size_toArray, List.size_toArray, ← r1.length, ← r2.length, ← h2.len, ← k2.len, deqs_all]
      simp only [if_true]
      rw [deq]
    | lst es =>
      rw [DIs] at he
      obtain ⟨b', ys, e', k1, k2⟩ := he
      cases e'
      obtain ⟨i2, r2, t2, _⟩ := I.list k1
      refine RcNeAt.tuple_list (show s.heap.IsTuple a _ from t1) t2.isList (by first | lia | omega) _ _ _ _ ⟨.bl _, H, I, ?_, q⟩
      show Value.bool _ = Value.bool _
      simp only [if_true]
      rw [deq] <;> first | rfl | (intros; simp_all)
  | lst ds =>
    rw [dep] at hn
    rw [DIs] at hd
    obtain ⟨a', xs, e', h1, h2⟩ := hd
    cases e'
    obtain ⟨i1, r1, t1, _⟩ := I.list h1
    cases e with
    | «at» p => rw [DIs] at he; obtain ⟨rfl, hf⟩ := he; cases hf
    | tup es =>
      rw [DIs] at he
      obtain ⟨b', ys, e', k1, k2⟩ := he
      cases e'
      obtain ⟨i2, r2, t2, _⟩ := I.tuple k1
      refine RcNeAt.list_tuple t1.isList (show s.heap.IsTuple b _ from t2) (by first | lia | omega) _ _ _ _ ⟨.bl _, H, I, ?_, q⟩
      show Value.bool _ = Value.bool _
      simp only [if_true]
      rw [deq] <;> first | rfl | (intros; simp_all)
    | lst es =>
      rw [DIs] at he
      obtain ⟨b', ys, e', k1, k2⟩ := he
      cases e'
      obtain ⟨i2, r2, t2, _⟩ := I.list k1
      have l1 := r1.length
      have l2 := r2.length
      have m1 := h2.len
      have m2 := k2.len
      by_cases hz : ds.len = es.len
      · refine RcNeAt.lists t1.isList t2.isList (by simp; first | lia | omega) (by first | lia | omega) (eqItems I h2 k2 r1 r2 (by first | lia | omega) (by first | lia | omega)) _ _ _ _ ⟨.bl _, H, I, ?_, q⟩
        show Value.bool _ = Value.bool _
        simp only [if_true]
        rw [deq, ← deqs_all, List.size_toArray, ← l1, ← m1, hz, Nat.min_self, beq_self_eq_true, Bool.and_true]
      · refine RcNeAt.lists_lengths t1.isList t2.isList (by simp; first | lia | omega) (by first | lia | omega) _ _ _ _ ⟨.bl _, H, I, ?_, q⟩
        show Value.bool _ = Value.bool _
        have e0 : (ds.len == es.len) = false := by simpa using hz
        simp only [if_true]
        rw [deq, ← deqs_all, e0, Bool.and_false]; rfl
end
end L2
namespace L2
open PySem PySem.Spec PyProof.Rows
section
variable {X : Cx} {e st : Expr} {te ts : TE} {pos p2 : Pos}
end
end L2
namespace L2
open PySem PySem.Spec PyProof.Rows
section
variable {X : Cx} {k j : Nat} {x m : Str} {C : Addr} {ps : List Str} {sp : Sp} {p pos apos : Pos} {e o : Expr} {es : List Expr} {t : TA} {ta : TE}
end
section
variable {X : Cx} {K : PySem.W.Frag} {pos : Pos}
end
end L2
namespace GB
open PySem L2
/-- the order of rectangles, as one number -/
def key : List Int → Int
  | [a, b, c, d] => ((a * 13 + b) * 13 + c) * 13 + d
  | _ => 0
end GB
namespace L2
open PySem PySem.Spec PyProof.Rows PySem.W PySem.Builtin PySem.Builtin.ObjectAttr
section
variable {prog : Program} {w : World} {A : Around} {E : Value → Shared → Prop} {R : Result → Shared → Prop} {s : Shared} {K : Frag} {x C : Addr} {ox : Obj} {od : Option Obj} {name : Str} {tk : Tok} {v : Value} {expr : Bool}
theorem ga_code (X : K.In s.heap) (I : InstAt s.heap x ox C od) (hp : L2.excIn K C = true)
    (h : wpAny (model prog w) A.in1 (Builtin.«object.__getattribute__» ⟨[.ref x, .str name tk], []⟩)
      (fun fin s' => match fin with | .done f => R (.ok f) s' | .again c' => c'.quiet = true ∧ codeAny (model prog w) A c' R s') (fun e s' => R (.error e) s') s) :
    codeAny (model prog w) A (.call (.builtin "BaseException.__getattribute__") ⟨[.ref x, .str name tk], []⟩) R s := by
  obtain ⟨cd, hc, ho⟩ := any_some hp
  have ne : cd.mro.isEmpty = false := by cases q : cd.mro with | nil => rw [q] at ho; cases ho | cons _ _ => rfl
  have tB : Looks (model prog w) s.heap (isInstance (.ref x) (.type "BaseException")) true := I.type.andThen (looks_mroIn X (by
    unfold mroIn
    rw [hc, Option.bind_some, ne]
    show some (cd.mro.contains (.type "BaseException")) = some true
    rw [exc_has (by decide +kernel) ho]))
  exact codeAny_call_builtin PySem.F.attrBase_ValueError.ga.plain PySem.F.entry_bexc_ga (@check_slot (model prog w) _ _ s "BaseException.__getattribute__" "BaseException" "__getattribute__" (.ref x) [.str name tk] [] _ (by decide +kernel) (by decide +kernel) tB (PySem.F.args_bexc_ga (.ref x) (.str name tk)) h)
theorem ga_by (X : K.In s.heap) (I : InstAt s.heap x ox C od) (hp : L2.excIn K C = true) (hga : findIn K (.ref C) "__getattribute__" = some (some (.builtin "BaseException.__getattribute__"))) (hk : findIn K (.ref C) "__getattr__" = some none) {fill : Bool} {Q : Value → Shared → Prop}
    (h : wpAny (model prog w) A.in1 (Builtin.«object.__getattribute__» ⟨[.ref x, .str name tk], []⟩)
      (fun fin s' => match fin with | .done (.ret v) => wpAny (model prog w) A (handedOut v) Q E s' | _ => False) (fun _ _ => False) s) :
    wpAny (model prog w) A (getAttrBy (.ref x) (.str name tk) fill expr) Q E s := by
  have L0 := I.type (M := model prog w)
  have L1 := looks_findIn (M := model prog w) X hga
  have L2 := looks_findIn (M := model prog w) X hk
  unfold getAttrBy
  refine wpAny_holding (wpAny_bind (L0.here (wpAny_bind (L1.here ?_))))
  show wpAny _ _ (getAttrByItsOwn (.ref x) (.str name tk) (.ref C) (.builtin "BaseException.__getattribute__") fill expr) _ _ _
  unfold getAttrByItsOwn hookBefore callGetattribute boundAndCalled
  refine wpAny_bind (L2.here ?_)
  refine wpAny_bind (wpAny_attempt (wpAny_holding ?_))
  rw [show (expr && onTheHeap (Value.builtin "BaseException.__getattribute__")) = false from by cases expr <;> rfl, if_neg Bool.false_ne_true]
  refine wpAny_bind (wpAny_of_eq (PySem.F.attrBase_ValueError.ga.bind _) ?_)
  refine wpAny_call (ga_code X I hp (wpAny_mono h (fun fin s' z => ?_) fun _ _ z => z.elim))
  rcases fin with (_ | _ | _ | _) | _ <;> first | exact z.elim | exact z
theorem get_exc {Q : Value → Shared → Prop} (X : K.In s.heap) (I : InstAt s.heap x ox C od) (hp : L2.excIn K C = true) (hga : findIn K (.ref C) "__getattribute__" = some (some (.builtin "BaseException.__getattribute__"))) (hk : findIn K (.ref C) "__getattr__" = some none)
    (hf : findObj K C od name = some (.value v)) (hh : handedIn v = true) (h : Q v { s with toks := s.toks + 1 }) : wpAny (model prog w) A (getAttr (.ref x) name expr) Q E s := by
  unfold getAttr
  refine wpAny_bind (wpAny_mkText (ga_by (s := { s with toks := s.toks + 1 }) X I hp hga hk ?_))
  have L0 := I.type (M := model prog w)
  have L1 := looks_find (M := model prog w) X I hf
  refine wpAny_bind (wpAny_of_eq (show slotArgs "__getattribute__" 1 ⟨[.ref x, .str name s.toks], []⟩ = pure (.ref x, [.str name s.toks]) from rfl) ?_)
  refine wpAny_bind (wpAny_pure (wpAny_bind (Looks.here (s := { s with toks := s.toks + 1 }) L0 (wpAny_bind (Looks.here (s := { s with toks := s.toks + 1 }) L1 ?_)))))
  refine wpAny_pure ?_
  show wpAny _ _ (handedOut v) _ _ _
  rw [handedOut_of hh]; exact wpAny_pure h
theorem class_exc {Q : Option Value → Shared → Prop} (X : K.In s.heap) (I : InstAt s.heap x ox C od) (hp : L2.excIn K C = true) (hga : findIn K (.ref C) "__getattribute__" = some (some (.builtin "BaseException.__getattribute__"))) (hk : findIn K (.ref C) "__getattr__" = some none)
    (hf : findObj K C od "__class__" = some (.bind (.builtin "getset_descriptor.__get__") (.builtin "object.__class__"))) (hm : mroIn K C (.type "object") = some true) (h : Q (some (.ref C)) { s with toks := s.toks + 1 }) : wpAny (model prog w) A (getAttr? (.ref x) "__class__") Q E s := by
  unfold getAttr? getAttrBy?
  refine wpAny_bind (wpAny_mkText (wpAny_bind (wpAny_attempt (ga_by (s := { s with toks := s.toks + 1 }) X I hp hga hk ?_))))
  have L0 := I.type (M := model prog w)
  have L1 := looks_find (M := model prog w) X I hf
  refine wpAny_bind (wpAny_of_eq (show slotArgs "__getattribute__" 1 ⟨[.ref x, .str "__class__" s.toks], []⟩ = pure (.ref x, [.str "__class__" s.toks]) from rfl) ?_)
  refine wpAny_bind (wpAny_pure (wpAny_bind (Looks.here (s := { s with toks := s.toks + 1 }) L0 (wpAny_bind (Looks.here (s := { s with toks := s.toks + 1 }) L1 ?_)))))
  show wpAny _ _ (holding [.builtin "object.__class__"] (call (.builtin "getset_descriptor.__get__") [.builtin "object.__class__", .ref x, .ref C]) >>= ret) _ _ _
  refine wpAny_bind (wpAny_holding (wpAny_call (class_get (s := { s with toks := s.toks + 1 }) (ox := ox) (od := od) X I hm ?_)))
  exact wpAny_pure (handed_on rfl (wpAny_pure h))
end
end L2
namespace L2
open PySem PySem.Spec PyProof.Rows PySem.W
def ExcN (C x : Addr) : HO := .ext fun h => ∃ vs sl, h.get? x = some ⟨.ref C, none, .fields vs, sl⟩
def ExcO (C dx x : Addr) : HO := .ext fun h => ∃ vs sl, h.get? x = some ⟨.ref C, some dx, .fields vs, sl⟩
def ExcD (dx : Addr) (fs : List (Str × V)) : HO := .ext fun h => ∃ mA, h.Ns1 dx mA ∧ (∀ f, RelO (fs.lookup f) (mA f)) ∧ PySem.Within mA (fs.map (·.1))
section
variable {P : Program} {w : World} {H : Hp} {h : Heap} {x C dx : Addr} {fs : List (Str × V)}
theorem excN_ok {vs : Array Value} {sl : Array (Option Value)} (e : h.get? x = some ⟨.ref C, none, .fields vs, sl⟩) : ObjOk P w H h x (ExcN C x) :=
  ⟨⟨vs, sl, e⟩, ⟨_, e⟩, fun _ _ ⟨vs, sl, e⟩ k => ⟨vs, sl, k _ e⟩⟩
theorem excO_ok {vs : Array Value} {sl : Array (Option Value)} (e : h.get? x = some ⟨.ref C, some dx, .fields vs, sl⟩) : ObjOk P w H h x (ExcO C dx x) :=
  ⟨⟨vs, sl, e⟩, ⟨_, e⟩, fun _ _ ⟨vs, sl, e⟩ k => ⟨vs, sl, k _ e⟩⟩
theorem excD_ok {mA : Str → Option Value} (n : h.Ns1 dx mA) (r : ∀ f, RelO (fs.lookup f) (mA f)) (wi : PySem.Within mA (fs.map (·.1))) : ObjOk P w H h dx (ExcD dx fs) :=
  ⟨⟨mA, n, r, wi⟩, let ⟨o, _, _, e, _⟩ := n; ⟨o, e⟩, fun _ _ ⟨mA, n, r, wi⟩ k => ⟨mA, n.at k, r, wi⟩⟩
end
/-- what is asked of a refusal's class -/
structure XCls (K : Frag) (C : Addr) : Prop where
  ga : findIn K (.ref C) "__getattribute__" = some (some (.builtin "BaseException.__getattribute__"))
  gh : findIn K (.ref C) "__getattr__" = some none
  hd : hasDictIn K C = true
  sa : findIn K (.ref C) "__setattr__" = some (some (.builtin "object.__setattr__"))
  ex : L2.excIn K C = true
  ca : findIn K (.ref C) "__class__" = some (some (.builtin "object.__class__"))
  gn : specialIn K (.builtin "object.__class__") "__get__" = some (some (.builtin "getset_descriptor.__get__"))
  tk : takesIn K (.builtin "object.__class__") = some true
  mo : mroIn K C (.type "object") = some true
def xclsB (K : Frag) (C : Addr) : Bool := (findIn K (.ref C) "__getattribute__" == some (some (.builtin "BaseException.__getattribute__"))) && (findIn K (.ref C) "__getattr__" == some none) && hasDictIn K C && (findIn K (.ref C) "__setattr__" == some (some (.builtin "object.__setattr__"))) && L2.excIn K C &&
  (findIn K (.ref C) "__class__" == some (some (.builtin "object.__class__"))) && (specialIn K (.builtin "object.__class__") "__get__" == some (some (.builtin "getset_descriptor.__get__"))) &&
  (takesIn K (.builtin "object.__class__") == some true) && (mroIn K C (.type "object") == some true)
theorem XCls.of {K : Frag} {C : Addr} (h : xclsB K C = true) : XCls K C := by
  unfold xclsB at h
  simp only [Bool.and_eq_true, beq_iff_eq] at h
  obtain ⟨⟨⟨⟨⟨⟨⟨⟨a, a'⟩, b⟩, c⟩, d⟩, e⟩, f⟩, g⟩, i⟩ := h
  exact ⟨a, a', b, c, d, e, f, g, i⟩
section
variable {X : Cx} {pins : List (Addr × Obj)} {σ : St} {H : Hp} {s : Shared} {a C dx : Addr} {fs : List (Str × V)} {f : Str} {v : V} {A : Around} {E : Value → Shared → Prop}
theorem ext_ne_own {φ : Heap → Prop} {b c : Addr} (h : H b = some (.ext φ)) : H b ≠ some (.own c) := fun e => by rw [h] at e; cases e
theorem setexc0_ok {y : V} {u : Value} {Q : Unit → Shared → Prop} (I : Inv X pins σ H s) (e : H a = some (ExcN C a)) (c : XCls X.K C) (n : NoAttr X.K C f) (ry : RelV y u)
    (h : ∀ s' d, H d = none → Inv X pins σ (upd (upd H d (ExcD d [(f, y)])) a (ExcO C d a)) s' → Q () s') : wpAny (model X.prog X.w) A (setAttr (.ref a) f u) Q E s := by
  obtain ⟨⟨vs, sl, hx⟩, _⟩ := (show ObjOk X.prog X.w H s.heap a (ExcN C a) from I.hok a _ e)
  refine set_exc0 I.kIn hx c.sa c.ex c.hd n fun h' h1 h2 k => ?_
  have hn : H s.heap.objs.size = none := I.hok.fresh (Nat.le_refl _)
  have nea : s.heap.objs.size ≠ a := Ne.symm (ne_of_none e hn)
  refine h _ s.heap.objs.size hn ?_
  have e' : ∀ b o, H b = some o → b ≠ s.heap.objs.size := fun b o q => ne_of_none q hn
  have lt : ∀ b o, s.heap.get? b = some o → b ≠ s.heap.objs.size := fun b o q => Nat.ne_of_lt (Heap.lt_size q)
  have na : ∀ b o, H b = some o → (∀ φ, o ≠ .ext φ) → b ≠ a := fun b o q z t => by subst t; rw [e] at q; cases q; exact z _ rfl
  refine I.un (h' := h') (t' := s.toks + 2) ⟨fun b o q m _ _ => k b o (fun z => by rw [z, e] at m; cases m) q, fun b o q m _ _ => ⟨o.slots, k b o (fun z => by rw [z, e] at m; cases m) q⟩,
    fun b o q m _ => by rw [upd_ne (fun z => by rw [z, e] at m; cases m), upd_ne (lt b o q)]; exact m, fun b o q _ => ?_, fun b xs q => by rw [upd_ne (na b _ q (fun φ z => by cases z)), upd_ne (e' b _ q)]; exact q,
    fun b o u q => by rw [upd_ne (na b _ q (fun φ z => by cases z)), upd_ne (e' b _ q)]; exact q, fun b ps q => ⟨#[], by rw [upd_ne (na b _ q (fun φ z => by cases z)), upd_ne (e' b _ q), q]; simp⟩⟩ fun b o q => ?_
  · by_cases hb : b = a
    · subst hb; exact ⟨_, h1⟩
    · exact ⟨o, k b o hb q⟩
  · by_cases hb : b = a
    · subst hb; rw [upd_same] at q; cases q; exact excO_ok h1
    · rw [upd_ne hb] at q
      by_cases hd : b = s.heap.objs.size
      · subst hd; rw [upd_same] at q; cases q
        refine excD_ok h2 (fun g => ?_) fun g hg => ?_
        · show RelO (List.lookup g [(f, y)]) (if g = f then some u else none)
          by_cases q : g = f
          · have hb : (g == f) = true := beq_iff_eq.mpr q
            rw [if_pos q]; simp only [List.lookup, hb]; exact ry
          · have hb : (g == f) = false := beq_eq_false_iff_ne.mpr q
            rw [if_neg q]; simp only [List.lookup, hb]; exact True.intro
        · by_cases q : g = f
          · rw [q]; simp
          · exact absurd (if_neg q) hg
      · rw [upd_ne hd] at q
        refine (I.hok b o q).stay (fun cc w' hc z => k cc w' ?_ z) (fun cc z => ?_) fun cc xs z => ?_
        · rcases hc with rfl | hc
          · exact hb
          · exact fun t => ext_ne_own e (t ▸ hc)
        · rw [upd_ne (fun t => ext_ne_own e (t ▸ z)), upd_ne (e' cc _ z)]; exact z
        · rw [upd_ne (na cc _ z (fun φ t => by cases t)), upd_ne (e' cc _ z)]; exact z
theorem setexc_ok {y : V} {u : Value} {Q : Unit → Shared → Prop} (I : Inv X pins σ H s) (e : H a = some (ExcO C dx a)) (ed : H dx = some (ExcD dx fs)) (c : XCls X.K C) (n : NoAttr X.K C f) (hl : fs.length < 1000) (ry : RelV y u)
    (h : ∀ s', Inv X pins σ (upd H dx (ExcD dx (putF f y fs))) s' → Q () s') : wpAny (model X.prog X.w) A (setAttr (.ref a) f u) Q E s := by
  obtain ⟨⟨vs, sl, hx⟩, _⟩ := (show ObjOk X.prog X.w H s.heap a (ExcO C dx a) from I.hok a _ e)
  obtain ⟨⟨mA, hn, r, wi⟩, _⟩ := (show ObjOk X.prog X.w H s.heap dx (ExcD dx fs) from I.hok dx _ ed)
  have hne : dx ≠ a := fun z => by
    subst z
    obtain ⟨o, es, ep, ho, hd, _⟩ := hn
    rw [hx] at ho
    cases ho
    cases hd
  have hz : (fs.map (·.1)).length ≤ sizeLine := by rw [List.length_map, sizeLine_eq]; first | lia | omega
  refine set_exc I.kIn hx hn hne c.sa c.ex c.hd n wi hz fun h' h1 h2 sb => h _ ?_
  have hd : ∃ o, h'.get? dx = some o := let ⟨o, _, _, e', _⟩ := h2; ⟨o, e'⟩
  refine I.write (x := dx) (e := dx) (t' := s.toks + 2) (by rw [ed]; exact True.intro) (.inl rfl) (fun b q hb z => (sb.2 b hb).trans z) hd (excD_ok h2 (fun g => ?_) fun g hg => ?_)
  · show RelO ((putF f y fs).lookup g) (if g = f then some u else mA g)
    rw [lookup_putF]
    by_cases q : g = f
    · rw [if_pos q, if_pos q]; exact ry
    · rw [if_neg q, if_neg q]; exact r g
  · by_cases q : g = f
    · rw [q]; exact (keys_putF f y fs).1
    · refine (keys_putF f y fs).2 g (wi g fun z => hg ?_)
      show (if g = f then some u else mA g) = none
      rw [if_neg q]; exact z
theorem getexc_ok {b : Bool} {Q : Value → Shared → Prop} (I : Inv X pins σ H s) (e : H a = some (ExcO C dx a)) (ed : H dx = some (ExcD dx fs)) (c : XCls X.K C) (n : NoAttr X.K C f) (l : fs.lookup f = some v)
    (h : ∀ u s', Inv X pins σ H s' → RelV v u → Q u s') : wpAny (model X.prog X.w) A (getAttr (.ref a) f b) Q E s := by
  obtain ⟨⟨vs, sl, hx⟩, _⟩ := (show ObjOk X.prog X.w H s.heap a (ExcO C dx a) from I.hok a _ e)
  obtain ⟨⟨mA, hn, r, wi⟩, _⟩ := (show ObjOk X.prog X.w H s.heap dx (ExcD dx fs) from I.hok dx _ ed)
  obtain ⟨u, hu, ru⟩ := RelO.some_of (v := v) (o := mA f) (by rw [← l]; exact r f)
  obtain ⟨od, ho, hl⟩ := lookIn_ns hn
  have J : InstAt s.heap a ⟨.ref C, some dx, .fields vs, sl⟩ C (some od) := ⟨hx, rfl, rfl, ho⟩
  exact get_exc I.kIn J c.ex c.ga c.gh (findObj_own c.hd n rfl (by rw [hl, hu])) (handed_of ru) (h u _ (I.tok _) ru)
end
theorem kitx_exc {K : Frag} {x D : Addr} (c : XCls K D) : KitX K (.ref x) (.ref D) (fun h => ∃ (ox : Obj) (od : Option Obj), InstAt h x ox D od) where
  ty := fun _ _ _ ⟨_, _, I⟩ => I.type
  it := fun _ _ X _ => by
    obtain ⟨cdD, hcD, _⟩ := any_some c.hd
    unfold clsIn at hcD
    split at hcD
    · rename_i c' d' cd' sl' ho
      intro A' Q' E' s' k q
      unfold isType loadHead
      exact wpAny_bind (wpAny_loadPart (k _ _ (X _ _ ho)) (wpAny_pure q))
    · cases hcD
  ne := fun h tp dd its n sl X htp => by
    obtain ⟨cdD, hcD, _⟩ := any_some c.hd
    refine Bool.eq_false_iff.mpr fun q => ?_
    have e : D = tp := Value.ref.inj (beq_iff_eq.mp q)
    subst e
    unfold clsIn at hcD
    split at hcD
    · rename_i c' d' cd' sl' ho
      have z := (X _ _ ho).symm.trans htp
      cases z
    · cases hcD
  ca := fun {prog w A E Q s} X ⟨ox, od, I⟩ h => by
    have hf : findObj K D od "__class__" = some (.bind (.builtin "getset_descriptor.__get__") (.builtin "object.__class__")) := by
      obtain ⟨cd, hc, _⟩ := any_some c.hd
      unfold findObj
      rw [hc, Option.bind_some, c.ca, Option.bind_some]
      simp [c.gn, c.tk]
    exact class_exc X I c.ex c.ga c.gh hf c.mo h
/-- a refusal stands at a, of the class at C -/
def IsExc (H : Hp) (a C : Addr) : Prop := (∃ dx fs, H a = some (ExcO C dx a) ∧ H dx = some (ExcD dx fs)) ∨ H a = some (ExcN C a)
theorem IsExc.same {H H' : Hp} {a C : Addr} (h : IsExc H a C) (s : Same H H') : IsExc H' a C := by
  rcases h with ⟨dx, fs, h1, h2⟩ | h
  · exact .inl ⟨dx, fs, s _ _ h1, s _ _ h2⟩
  · exact .inr (s _ _ h)
section
variable {X : Cx}
theorem isexc_inst {pins : List (Addr × Obj)} {σ : St} {H : Hp} {s : Shared} {a C : Addr} (I : Inv X pins σ H s) (h : IsExc H a C) : ∃ (ox : Obj) (od : Option Obj), InstAt s.heap a ox C od := by
  rcases h with ⟨dx, fs, h1, h2⟩ | h
  · obtain ⟨⟨vs, sl, hx⟩, _⟩ := (show ObjOk X.prog X.w H s.heap a (ExcO C dx a) from I.hok a _ h1)
    obtain ⟨⟨mA, hn, _⟩, _⟩ := (show ObjOk X.prog X.w H s.heap dx (ExcD dx fs) from I.hok dx _ h2)
    obtain ⟨o, _, _, ho, _⟩ := hn
    exact ⟨_, some o, ⟨hx, rfl, rfl, ho⟩⟩
  · obtain ⟨⟨vs, sl, hx⟩, _⟩ := (show ObjOk X.prog X.w H s.heap a (ExcN C a) from I.hok a _ h)
    exact ⟨_, none, ⟨hx, rfl, rfl, trivial⟩⟩
/-- isinstance(e, C) of a refusal, C an own class or a built-in one -/
theorem call_isinX : CallR X (.builtin "isinstance") (fun xs H Q => ∃ a C c u b, xs = [.ref a, c] ∧ IsExc H a C ∧ XCls X.K C ∧ RelV c u ∧ (∀ u', RelV c u' → u' = u) ∧ kitOne X.K (.ref C) u = some b ∧ Q (.bl b) H) := by
  intro pins s σ H xs us Q I r h
  obtain ⟨a, C, c, u, b, rfl, he, hc, ru, uq, hk, q⟩ := h
  obtain ⟨v1, v2, rfl, r1, r2⟩ := vals2 r
  cases r1
  have := uq v2 r2
  subst this
  exact kia_one (kitx_exc hc) I.kIn (isexc_inst I he) hk (fun z => nomatch z) fun tk => ⟨.bl b, H, I.tok tk, rfl, q⟩
end
def tXFld (K : Frag) (ta : TE) (f : Str) : TE := fun σ H Q => ta σ H fun x H1 => ∃ a C dx fs v, x = .ref a ∧ H1 a = some (ExcO C dx a) ∧ H1 dx = some (ExcD dx fs) ∧ XCls K C ∧ NoAttr K C f ∧ fs.lookup f = some v ∧ Q v H1
def sXFld (K : Frag) (ta tv : TE) (f : Str) : TS := fun D σ H => tv σ H fun y H1 => ta σ H1 fun x H2 => ∃ a C, x = .ref a ∧ XCls K C ∧ NoAttr K C f ∧
  ((H2 a = some (ExcN C a) ∧ ∀ d, H2 d = none → D.nx σ (upd (upd H2 d (ExcD d [(f, y)])) a (ExcO C d a))) ∨ ∃ dx fs, H2 a = some (ExcO C dx a) ∧ H2 dx = some (ExcD dx fs) ∧ fs.length < 1000 ∧ D.nx σ (upd H2 dx (ExcD dx (putF f y fs))))
section
variable {X : Cx} {o e value : Expr} {f : Str} {pos pos' : Pos} {ta tv : TE}
theorem pe_xfld (he : PE X e ta) (hb : attributeBase e f X.env (eval e X.env) = eval e X.env) : PE X (.Attribute e f pos) (tXFld X.K ta f) := by
  intro pins s σ H Q I h
  refine attr_of hb (thn (he pins s σ H _ I h) fun u s1 ⟨x, H1, I1, rx, a, C, dx, fs, v, ex, ea, ed, c, n, l, q⟩ => ?_)
  subst ex
  obtain rfl : u = Value.ref a := rx
  exact getexc_ok I1 ea ed c n l fun u' s2 I2 ru => ⟨v, H1, I2, ru, q⟩
theorem ps_xfld (ha : PE X o ta) (hv : PE X value tv) (hs : swapsWith value (some (.Attribute o f pos')) pos.line X.env = pure false) : PS X (.Assign [.Attribute o f pos'] value pos) (sXFld X.K ta tv f) := by
  intro pins s σ H D I h
  refine plainObj_wpAny_Assign_Attribute (thn (hv pins s σ H _ I h) fun u s1 ⟨y, H1, I1, ry, q⟩ => thn (ha pins s1 σ H1 _ I1 q) fun ov s2 ⟨x, H2, I2, rx, a, C, ex, c, n, q2⟩ => ?_) hs
  subst ex
  obtain rfl : ov = Value.ref a := rx
  rcases q2 with ⟨e0, q2⟩ | ⟨dx, fs, e1, e2, l, q2⟩
  · exact setexc0_ok I2 e0 c n ry fun s3 d hd I3 => ⟨σ, _, I3, q2 d hd⟩
  · exact setexc_ok I2 e1 e2 c n l ry fun s3 I3 => ⟨σ, _, I3, q2⟩
end
/-- its class, as the top has left it, with an __init__ of its own at fI -/
def excInI (K : Frag) (C : Addr) (fI : Addr) : Bool := match K.lookup C with
  | some ⟨.type "type", _, .cls cd, sl⟩ => (match cd.mro, sl.toList with
    | .ref C' :: bm, [_, _, _, _, some (.builtin n), _] => C' == C && n == "ValueError.__new__" && !cd.hasDel && tailIn K vErr bm && nsOkIn K cd.ns && nsIn K cd.ns "__init__" == some (some (.ref fI))
    | _, _ => false)
  | _ => false
theorem ns_some_of {K : Frag} {h : Heap} {N : Addr} {mg : Str → Option Value} {n : Str} {v : Value} (X : K.In h) (G : h.Ns N mg) (e : nsIn K N n = some (some v)) : mg n = some v := by
  obtain ⟨o, es, ep, ho, hd, _, hf⟩ := G
  unfold nsIn at e
  split at e
  · rename_i c d es' n' sl q
    have := X _ _ q
    rw [ho] at this
    cases this
    cases hd
    split at e
    · rename_i e' he
      cases e
      rw [← hf]
      unfold nsFind findBy
      rw [← Array.find?_toList, he]
      rfl
    · split at e <;> cases e
  · cases e
/-- what is asked of a class to be made by an __init__ of its own -/
structure XMk (K : Frag) (C fI : Addr) : Prop where
  cl : XCls K C
  ei : excInI K C fI = true
  kp : keepIn K (.ref C) = true
  fn : isFn K (.ref fI) = true
theorem XMk.call {K : Frag} {C fI : Addr} (M : XMk K C fI) {prog : Program} {w : World} {A : Around} {E : Value → Shared → Prop} {s : Shared} {rest : List Value} {Q : Value → Shared → Prop} (X : K.In s.heap) (hrest : rest.length ≤ sizeLine)
    (hq : wpAny (model prog w) (A.under (.builtin "type.__call__" ⟨.ref C :: rest, []⟩)) (call (.ref fI) (.ref (s.heap.objs.size + 1) :: rest)) (fun r s' => r = .none ∧ Q (.ref (s.heap.objs.size + 1)) s') E { s with heap := rawExc s.heap C rest }) :
    wpAny (model prog w) A (call (.ref C) rest) Q E s := by
  obtain ⟨hh, g, d, t, os⟩ := s
  have q := M.ei
  have fnt : typeIn K (.ref fI) = some (.type "function") := beq_iff_eq.mp M.fn
  have hfI : ∃ oI : Obj, hh.get? fI = some oI ∧ oI.cls = .type "function" := by
    cases z : K.lookup fI with
    | none => simp [typeIn, z] at fnt
    | some o => exact ⟨o, X _ _ z, by simpa [typeIn, z] using fnt⟩
  obtain ⟨oI, hoI, hcI⟩ := hfI
  unfold excInI at q
  split at q
  · rename_i dd cd sl ho
    split at q
    · rename_i C' bm k0 k1 k2 k3 n k5 hm hs
      simp only [Bool.and_eq_true, beq_iff_eq, Bool.not_eq_true'] at q
      obtain ⟨⟨⟨⟨⟨rfl, rfl⟩, hdel⟩, ht⟩, hok⟩, hni⟩ := q
      obtain ⟨nm, bs, mro, ns, qn, hd, sn, sub, ab, col, del⟩ := cd
      dsimp only at hm hdel hok hni
      subst hm hdel
      have hsl : sl = #[k0, k1, k2, k3, some (.builtin "ValueError.__new__"), k5] := by
        obtain ⟨l⟩ := sl
        simp only at hs
        rw [hs]
      subst hsl
      have G : hh.Ns ns (hh.nsMap ns) := .of_isNs (isNs_of_in X hok)
      exact call_excT PySem.F.excBase_ValueError (tail_of_in X ht) (X _ _ ho) G (ns_some_of X G hni) hoI hcI hrest hq
    · cases q
  · cases q
end L2
namespace L2
open PySem PySem.Spec PyProof.Rows PySem.W
theorem ObjOk.there {P : Program} {w : World} {H : Hp} {h : Heap} {a : Addr} {o : HO} (x : ObjOk P w H h a o) : ∃ u, h.get? a = some u := by
  cases o with
  | lst xs => obtain ⟨_, _, _, _, e⟩ := x; exact ⟨_, e⟩
  | tup xs => obtain ⟨_, _, _, p⟩ := x; obtain ⟨_, e, _⟩ := p; exact ⟨_, e⟩
  | dK kvs => obtain ⟨_, _, _, _, o, _, _, e, _⟩ := x; exact ⟨_, e⟩
  | dT kvs => obtain ⟨_, _, _, _, o, _, _, e, _⟩ := x; exact ⟨_, e⟩
  | set S n => obtain ⟨o, _, _, _, e, _⟩ := x; exact ⟨_, e⟩
  | ins C dx fs => obtain ⟨_, _, _, e, _⟩ := x; exact ⟨_, e⟩
  | own y => obtain ⟨_, e⟩ := x; exact ⟨_, e⟩
  | xd fs => obtain ⟨_, ⟨_, _, _, e, _⟩, _⟩ := x; exact ⟨_, e⟩
  | rng lo hi => obtain ⟨_, _, _, e⟩ := x; exact ⟨_, e⟩
  | frz ob u => obtain ⟨e, _⟩ := x; exact ⟨_, e⟩
  | tbl ps => exact ⟨_, (show h.get? a = some _ from x)⟩
  | met f y => exact ⟨_, (show h.get? a = some _ from x)⟩
  | ext φ => obtain ⟨_, ⟨_, e⟩, _⟩ := x; exact ⟨_, e⟩
/-- a refusal with the values fs stands at a -/
def XObj (H : Hp) (C : Addr) (fs : List (Str × V)) (a : Addr) : Prop := (∃ d, H a = some (ExcO C d a) ∧ H d = some (ExcD d fs)) ∨ (fs = [] ∧ H a = some (ExcN C a))
theorem XObj.same {H H' : Hp} {C a : Addr} {fs : List (Str × V)} (h : XObj H C fs a) (s : Same H H') : XObj H' C fs a := by
  rcases h with ⟨d, h1, h2⟩ | ⟨e, h⟩
  · exact .inl ⟨d, s _ _ h1, s _ _ h2⟩
  · exact .inr ⟨e, s _ _ h⟩
theorem XObj.is {H : Hp} {C a : Addr} {fs : List (Str × V)} (h : XObj H C fs a) : IsExc H a C := by
  rcases h with ⟨d, h1, h2⟩ | ⟨e, h⟩
  · exact .inl ⟨d, fs, h1, h2⟩
  · exact .inr h
/-- the promise of its __init__ -/
def sp_x (C : Addr) (names : List Str) : Sp := fun vs H Q _ => ∃ x ws, vs = .ref x :: ws ∧ ws.length = names.length ∧ H x = some (ExcN C x) ∧
  ∀ d H', H d = none → H' x = some (ExcO C d x) → H' d = some (ExcD d (names.zip ws)) → (∀ a o, a ≠ x → H a = some o → H' a = some o) → Q .non H'
structure XMkOk (P : Program) (w : World) (K : PySem.W.Frag) (mg : Str → Option Value) (base : Heap) (k : Nat) (x : Str) (C : Addr) (ps names : List Str) : Prop where
  few : names.length ≤ 1000
  ex : ∃ (f : Addr) (fd : FuncData), XMk K C f ∧ FnOk P w K mg base CX0 k f fd ps (sp_x C names) ∧ mg x = some (.ref C) ∧ Binds K fd ps []
def tXMk (C : Addr) (names : List Str) (t : TA) : TE := fun σ H Q => t σ H fun vs H1 => vs.length = names.length ∧ ∀ x H2, Same H1 H2 → XObj H2 C (names.zip vs) x → Q (.ref x) H2
section
variable {X : Cx} {CX : CXT} {k j : Nat} {f C : Addr} {fd : FuncData} {ps names : List Str} {sp : Sp} {E : XK} {x m : Str} {p pos apos : Pos} {e o : Expr} {es : List Expr} {ta : TE} {t : TA}
theorem run_xmk {pins : List (Addr × Obj)} {σ : St} {H : Hp} {s : Shared} {Q : VK} {us : List Value} {vs : List V} (M : XMk X.K C f) (F : FnOk X.prog X.w X.K X.mg X.base CX k f fd ps sp) (hr : Room (k + 1) X.A) (hb : Binds X.K fd ps [])
    (hx : Passes CX X E) (I : Inv X pins σ H s) (r : Vals vs us) (hz : vs.length ≤ 1000)
    (h : ∀ x, H x = none → sp (.ref x :: vs) (upd H x (ExcN C x)) (fun v H2 => v = .non ∧ Q (.ref x) H2) E) :
    wpAny (model X.prog X.w) X.A (call (.ref C) us) (EP X pins σ Q) X.xe s := by
  have hq := h (s.heap.objs.size + 1) (I.hok.fresh (Nat.le_succ _))
  have hus : us.length ≤ sizeLine := by rw [← r.length, sizeLine_eq]; first | lia | omega
  have I2 : Inv X pins σ (upd H (s.heap.objs.size + 1) (ExcN C (s.heap.objs.size + 1))) { s with heap := rawExc s.heap C us } :=
    I.laid (t' := s.toks) (fun b u z => rawExc_keep z) (Nat.le_succ _) (excN_ok (rawExc_at C us))
  have r2 : Vals (V.ref (s.heap.objs.size + 1) :: vs) (Value.ref (s.heap.objs.size + 1) :: us) := .cons rfl r
  have hl : (Value.ref (s.heap.objs.size + 1) :: us ++ []).length = ps.length := by
    have e := r2.length
    rw [F.len _ _ _ _ hq] at e
    rw [List.append_nil]
    exact e.symm
  have hb2 := hb { s with heap := rawExc s.heap C us } (Value.ref (s.heap.objs.size + 1) :: us) I2.kIn hl
  rw [List.append_nil] at hb2
  refine M.call I.kIn hus (wpAny_call (codeAny_mono (F.run _ X.stack _ _ ⟨Value.ref (s.heap.objs.size + 1) :: us, []⟩ (Value.ref (s.heap.objs.size + 1) :: us) _ _ E (hr.make C us [])
    (I2.env0.make C us []) hb2 r2 hq) fun r s' hq' => ?_))
  cases r with
  | error e => exact hx pins σ _ _ e s' I2 hq'
  | ok fl =>
    cases fl with
    | ret u =>
      obtain ⟨v, H', I3, rv, ev, q3⟩ := I2.after hq'
      subst ev
      exact ⟨rv, ⟨V.ref (s.heap.objs.size + 1), H', I3, rfl, q3⟩⟩
    | next => exact False.elim hq'
    | brk => exact False.elim hq'
    | cont => exact False.elim hq'
theorem pe_xmk (D : XMkOk X.prog X.w X.K X.mg X.base k x C ps names) (hr : Room j X.A) (ha : PA X (e :: es) t) (hj : k + 1 ≤ j := by decide) (hg : Gl X x := by rfl) (hdb : (x == ("__debug__" : Str)) = false := by decide)
    (he : starEach (e :: es) X.env = (false, eval e X.env) :: starEach es X.env := by rfl) (hpl : (backTo pos (starEach es X.env)).any (·.1) = false := by rfl) : PE X (.Call (.Name x p) (e :: es) [] pos) (tXMk C names t) := by
  obtain ⟨f, fd, M, F, hm, hb⟩ := D.ex
  intro pins s σ H Q I h
  refine wpAny_Call_Name_kw (ld_glob I hg hm ?_ hdb)
  refine PySem.W.callWith_K (h₀ := X.base) I.ok.mod.kin M.kp (thn (ha pos pins s σ H _ I h) fun us s1 ⟨vs, H1, I1, r, hl, q⟩ => ⟨I1.kIn, ?_⟩) he hpl
  refine run_xmk M F (hr.mono hj) hb pass0 I1 r (hl ▸ D.few) fun x hx => ⟨x, vs, rfl, hl, upd_same, fun d H' hd h1 h2 hs => ⟨rfl, q x H' (fun a o ho => hs a o (ne_of_none ho hx) ?_) (.inl ⟨d, h1, h2⟩)⟩⟩
  rw [upd_ne (ne_of_none ho hx)]; exact ho
/-- a refusal of no values -/
structure XMk0 (K : Frag) (mg : Str → Option Value) (x : Str) (C : Addr) : Prop where
  ei : PySem.W.excIn K C vErr "ValueError.__new__" = true
  kp : keepIn K (.ref C) = true
  mm : mg x = some (.ref C)
def tXMk0 (C : Addr) : TE := fun σ H Q => ∀ x H2, Same H H2 → XObj H2 C [] x → Q (.ref x) H2
theorem XMk0.call {K : Frag} {mg : Str → Option Value} {x : Str} {C : Addr} (M : XMk0 K mg x C) {prog : Program} {w : World} {A : Around} {E : Value → Shared → Prop} {s : Shared} {Q : Value → Shared → Prop} (X : K.In s.heap)
    (hq : ∀ h' e, Heap.MadeExcOf s.heap h' e (.ref C) [] → Q (.ref e) { s with heap := h' }) : wpAny (model prog w) A (PySem.call (.ref C) []) Q E s := by
  obtain ⟨hh, g, d, t, os⟩ := s
  have q := M.ei
  unfold PySem.W.excIn at q
  split at q
  · rename_i dd cd sl ho
    split at q
    · rename_i C' bm k0 k1 k2 k3 n k5 hm hs
      simp only [Bool.and_eq_true, beq_iff_eq, Bool.not_eq_true'] at q
      obtain ⟨⟨⟨⟨⟨rfl, rfl⟩, hdel⟩, ht⟩, hok⟩, hni⟩ := q
      obtain ⟨nm, bs, mro, ns, qn, hd, sn, sub, ab, col, del⟩ := cd
      dsimp only at hm hdel hok hni
      subst hm hdel
      have hsl : sl = #[k0, k1, k2, k3, some (.builtin "ValueError.__new__"), k5] := by
        obtain ⟨l⟩ := sl
        simp only at hs
        rw [hs]
      subst hsl
      have G : hh.Ns ns (hh.nsMap ns) := .of_isNs (isNs_of_in X hok)
      exact wpAny_call_exc_subT PySem.F.excBase_ValueError (tail_of_in X ht) (X _ _ ho) G (nsMap_none_of_in X hok hni) hq
    · cases q
  · cases q
theorem pe_xmk0 (M : XMk0 X.K X.mg x C) (hg : Gl X x := by rfl) (hdb : (x == ("__debug__" : Str)) = false := by decide) : PE X (.Call (.Name x p) [] [] pos) (tXMk0 C) := by
  intro pins s σ H Q I h
  refine wpAny_Call_Name_kw (ld_glob I hg M.mm ?_ hdb)
  refine PySem.W.callWith_K0 I.kIn M.kp (M.call I.kIn fun h' e hm => ?_)
  obtain ⟨hk, hfr, t, he, _, _⟩ := hm
  have hn : H e = none := by
    cases q : H e with
    | none => rfl
    | some u =>
      obtain ⟨o, ho⟩ := (I.hok e u q).there
      rw [ho] at hfr; cases hfr
  refine ⟨V.ref e, upd H e (ExcN C e), I.un (t' := s.toks) ⟨fun b u q _ _ _ => hk b u q, fun b u q _ _ _ => ⟨u.slots, hk b u q⟩, fun b u q n _ => ?_, fun b u q _ => ⟨u, hk b u q⟩, fun b xs q => by rw [upd_ne (ne_of_none q hn)]; exact q,
    fun b u xs q => by rw [upd_ne (ne_of_none q hn)]; exact q, fun b ps q => ⟨#[], by rw [upd_ne (ne_of_none q hn), q]; simp⟩⟩ (fun b u q => ?_), rfl, h e _ (fun a o ho => ?_) (.inr ⟨rfl, upd_same⟩)⟩
  · rw [upd_ne (fun z => by subst z; rw [q] at hfr; cases hfr)]; exact n
  · by_cases hb : b = e
    · subst hb; rw [upd_same] at q; cases q; exact excN_ok he
    · rw [upd_ne hb] at q
      exact (I.hok b u q).stay (fun c v _ q => hk c v q) (fun c q => by rw [upd_ne (ne_of_none q hn)]; exact q) fun c xs q => by rw [upd_ne (ne_of_none q hn)]; exact q
  · rw [upd_ne (ne_of_none ho hn)]; exact ho
end
end L2
namespace L2
open PySem PySem.Spec PyProof.Rows
theorem vals_strs : ∀ {ys : List Str} {us : List Value}, Vals (ys.map V.str) us → StrsAre us ys
  | [], _, .nil => .nil
  | y :: ys, _, .cons r t => by
    obtain ⟨tk, rfl⟩ := r
    exact .cons y tk (vals_strs t)
def rJoin : V → List V → Hp → VK → Prop := fun x xs H Q => ∃ z l ys, x = .str z ∧ xs = [.ref l] ∧ H l = some (.lst (ys.map V.str)) ∧ (ys.map (·.length)).sum + ys.length * z.length ≤ 16777216 ∧ Q (.str (Txt.join z ys)) H
section
variable {X : Cx}
theorem mt_join : MtR X "str.join" rJoin := by
  intro pins s σ H x xs v us Q I rx rv h
  obtain ⟨z, l, ys, rfl, rfl, hl, hz, q⟩ := h
  obtain ⟨t, rfl⟩ := rx
  obtain ⟨u, rfl, ru⟩ := rv.one
  cases ru
  obtain ⟨its, n, r, e, _⟩ := I.lst hl
  exact join_list (items := its.toArray) ⟨_, e, rfl, n, rfl⟩ (vals_strs r) hz fun t' k => ⟨.str _, H, I.tok k, ⟨t', rfl⟩, q⟩
end
end L2
namespace L2
open PySem PySem.W PyProof.Rows
def lookO {α β : Type} (oS : Program → List Str → List Str → (Shared → Bool) → Bool → Shared → α) (ms : List Str) (p q : Program) (lo : List Str) (Xt : Shared → Bool) (Yf : Shared → β) (h0 : Heap) (s : Shared) : Bool × α × β :=
  ((((staticsOk ms h0 s.heap && namesBound p s.heap) && gensDone s) && laidKept h0 s.heap), oS q lo ms Xt true s, Yf s)
noncomputable abbrev atBoot (P : Params) (os : OsState) : Shared := Shared.mk (boot_heap P) (Array.mk []) boot_drawn boot_toks os
theorem left_once {p q : Program} {lo : List Str} {Xt : Shared → Bool} {β : Type} {Yf : Shared → β} {Ya : World → β} {N m : Nat} {an : Option Value}
    (bo : ∀ w : World, Option.map (fun s => (s.heap, s.gens, s.drawn, s.toks)) (fencedOpening treeTable p w N) = some (boot_heap w.params, Array.mk [], boot_drawn, boot_toks))
    (sz : ∀ w : World, ((boot_heap w.params).isNs mainGlobals, (boot_heap w.params).objs.size, (boot_heap w.params).nsMap mainGlobals "__annotations__") = (true, m, an))
    (rn : ∀ (w : World) (os : OsState), Option.map (lookO openSeen (importedModules p.main.body) p q lo Xt Yf (boot_heap w.params)) (topRun treeTable p w m an N (atBoot w.params os) (topStub p)) = some (true, openGood q lo, Ya w)) :
    LeftO p q lo Xt Yf Ya N := by
  intro w
  obtain ⟨s0, e0, e1⟩ := Option.map_eq_some_iff.mp (bo w)
  obtain ⟨hp, gs, dr, tk, os⟩ := s0
  simp only [Prod.mk.injEq] at e1
  obtain ⟨rfl, rfl, rfl, rfl⟩ := e1
  have z := sz w
  simp only [Prod.mk.injEq] at z
  obtain ⟨z1, z2, z3⟩ := z
  obtain ⟨s1, r1, r2⟩ := Option.map_eq_some_iff.mp (rn w os)
  unfold lookO at r2
  simp only [Prod.mk.injEq] at r2
  obtain ⟨l1, l2, l3⟩ := r2
  have tf : topFrom treeTable p w N (atBoot w.params os) = some s1 := by
    unfold topFrom
    dsimp only
    rw [z1, z2, z3]
    show Option.bind (topRun treeTable p w m an N (atBoot w.params os) (topStub p)) _ = _
    rw [r1]
    show (match (((staticsOk (importedModules p.main.body) (boot_heap w.params) s1.heap && namesBound p s1.heap) && gensDone s1) && laidKept (boot_heap w.params) s1.heap) with | true => some s1 | false => none) = _
    rw [l1]
  unfold openEnds
  rw [e0]
  show Option.map _ (topFrom treeTable p w N (atBoot w.params os)) = _
  rw [tf]
  exact congrArg some (Prod.ext l2 l3)
def treeAt : List Obj → Nat → BT → BT
  | [], _, t => t
  | o :: r, i, t => treeAt r (i + 1) (t.ins i o)
def topRunT (ok : Thread → Bool) (stp : SharedT → Thread → Option (SharedT × Thread)) : Nat → SharedT → Thread → Option SharedT
  | 0, _, _ => none
  | n + 1, s, t => match through t with
    | true => some s
    | false => match ok t with
      | false => none
      | true => match stp s t with
        | some (s1, t1) => topRunT ok stp n s1 t1
        | none => none
theorem topRunT_of {tb : String → Option Builtin} {p : Program} {w : World} {m : Nat} {an : Option Value} : ∀ {n : Nat} {s s1 : SharedT} {t : Thread}, topRunT (stepOk m an) (stepT (denote tb) p w) n s t = some s1 → topRun tb p w m an n s.abs t = some s1.abs
  | 0, _, _, _, h => by cases h
  | n + 1, s, s1, t, h => by
    rw [topRunT] at h
    rw [topRun]
    cases ht : through t with
    | true => rw [ht] at h; cases h; rfl
    | false =>
      rw [ht] at h
      cases hk : stepOk m an t with
      | false => rw [hk] at h; cases h
      | true =>
        rw [hk] at h
        cases hs : stepT (denote tb) p w s t with
        | none => rw [hs] at h; cases h
        | some r =>
          obtain ⟨s2, t2⟩ := r
          rw [hs] at h
          rw [stepT_spec hs]
          exact topRunT_of h
noncomputable def bootT (P : Params) : BT := treeAt (boot_heap P).objs.toList 0 .nil
noncomputable def atBootT (P : Params) (os : OsState) : SharedT := SharedT.mk (bootT P) 11 (boot_heap P).life (Array.mk []) boot_drawn boot_toks os
theorem bootT_is (P : Params) (os : OsState) : (atBootT P os).abs = atBoot P os := by kernel_rfl
theorem ran_of {p q : Program} {lo ms : List Str} {Xt : Shared → Bool} {α β : Type} {Yf : Shared → β} {N m : Nat} {an : Option Value} {w : World} {os : OsState} {r : Bool × α × β} {oS : Program → List Str → List Str → (Shared → Bool) → Bool → Shared → α}
    (h : Option.map (fun s => lookO oS ms p q lo Xt Yf (boot_heap w.params) (SharedT.abs s)) (topRunT (stepOk m an) (stepT (denote treeTable) p w) N (atBootT w.params os) (topStub p)) = some r) :
    Option.map (lookO oS ms p q lo Xt Yf (boot_heap w.params)) (topRun treeTable p w m an N (atBoot w.params os) (topStub p)) = some r := by
  obtain ⟨s, e, z⟩ := Option.map_eq_some_iff.mp h
  have e := topRunT_of e
  rw [bootT_is] at e
  rw [e]
  exact congrArg some z
/-- by twins -/
theorem run_by {p p' : Program} {q : Program → Program} {lo : List Str} {Xt : Program → Shared → Bool} {β : Type} {Yf : Shared → β} {Ya : World → β} {N m : Nat} {an : Option Value}
    {sT : (Code → Sem Fin) → Program → World → SharedT → Thread → Option (SharedT × Thread)} {dn : (String → Option Builtin) → Code → Sem Fin} {tT : String → Option Builtin} {iM : List Stmt → List Str}
    (h1 : @stepT = sT) (h0 : @denote = dn) (h2 : treeTable = tT) (h3 : @importedModules = iM) {oS : ∀ (q : Program) (lo ms : List Str) (Xt : Shared → Bool) (g0 : Bool) (s : Shared), _} (h4 : @openSeen = oS) (h5 : p = p')
    (rn : ∀ (w : World) (os : OsState), Option.map (fun s => lookO oS (iM p'.main.body) p' (q p') lo (Xt p') Yf (boot_heap w.params) (SharedT.abs s)) (topRunT (stepOk m an) (sT (dn tT) p' w) N (atBootT w.params os) (topStub p')) = some (true, openGood (q p') lo, Ya w)) :
    ∀ (w : World) (os : OsState), Option.map (lookO openSeen (importedModules p.main.body) p (q p) lo (Xt p) Yf (boot_heap w.params)) (topRun treeTable p w m an N (atBoot w.params os) (topStub p)) = some (true, openGood (q p) lo, Ya w) := by
  subst h1 h0 h2 h3 h4 h5
  exact fun w os => ran_of (rn w os)
end L2
namespace K6
open PySem L2
def top (i : Nat) : Stmt := PySem.Challenge.pw_glazebench_k06_refusals_told.main.body.getD i (.Pass ⟨0, 0, 0, 0⟩)
abbrev s_NoSide_init : Stmt := inClass (top 2) 0
abbrev s_TooMany_init : Stmt := inClass (top 3) 0
abbrev s_NoPane_init : Stmt := inClass (top 4) 0
abbrev s_Overlap_init : Stmt := inClass (top 5) 0
abbrev s_Bare_init : Stmt := inClass (top 6) 0
abbrev s_NoDrawing_init : Stmt := inClass (top 7) 0
abbrev s_Ragged_init : Stmt := inClass (top 8) 0
abbrev s_NoCut_init : Stmt := inClass (top 9) 0
abbrev s_NoTree_init : Stmt := inClass (top 10) 0
abbrev s_NoBlock_init : Stmt := inClass (top 11) 0
abbrev s_Stuck_init : Stmt := inClass (top 12) 0
abbrev s_NoMove_init : Stmt := inClass (top 13) 0
abbrev s_NoNumber_init : Stmt := inClass (top 15) 0
abbrev s_NoKind_init : Stmt := inClass (top 16) 0
abbrev s_Unfit_init : Stmt := inClass (top 17) 0
abbrev s_NoFlaw_init : Stmt := inClass (top 18) 0
abbrev s_NoWant_init : Stmt := inClass (top 19) 0
abbrev s_NoSheet_init : Stmt := inClass (top 20) 0
abbrev s_NoSize_init : Stmt := inClass (top 21) 0
abbrev s_NoPlan_init : Stmt := inClass (top 22) 0
abbrev s_NoGlass_init : Stmt := inClass (top 23) 0
abbrev s_NoLine_init : Stmt := inClass (top 24) 0
abbrev s_NoName_init : Stmt := inClass (top 25) 0
abbrev s__law_purse : Stmt := top 27
abbrev s__law_take : Stmt := top 28
abbrev s__law_kin : Stmt := top 29
abbrev s__law_text : Stmt := top 30
abbrev s__law_made : Stmt := top 31
abbrev s__law_numbers : Stmt := top 32
abbrev s_law : Stmt := top 33
abbrev four (a b c d : Int) : List V := [.int a, .int b, .int c, .int d]
/-- refusals of the classes C k, C (k + 1), .. with the values fs -/
def XAll (H : Hp) (C : Nat → Addr) : Nat → List Addr → List (List (Str × V)) → Prop
  | k, a :: as, f :: fs => XObj H (C k) f a ∧ XAll H C (k + 1) as fs
  | _, [], [] => True
  | _, _, _ => False
theorem XAll.get {H : Hp} {C : Nat → Addr} : ∀ {as : List Addr} {fs : List (List (Str × V))} {k i : Nat} {a : Addr} {f : List (Str × V)}, XAll H C k as fs → as[i]? = some a → fs[i]? = some f → XObj H (C (k + i)) f a
  | a :: as, f :: fs, k, 0, _, _, h, e1, e2 => by cases e1; cases e2; exact h.1
  | a :: as, f :: fs, k, i + 1, _, _, h, e1, e2 => by
    have := XAll.get (k := k + 1) h.2 (i := i) e1 e2
    rw [show k + (i + 1) = k + 1 + i from by first | lia | omega]; exact this
  | [], _, _, _, _, _, _, e1, _ => by cases e1
  | _ :: _, [], _, _, _, _, h, _, e2 => by cases e2
theorem XAll.same {H H' : Hp} {C : Nat → Addr} (s : Same H H') : ∀ {as : List Addr} {fs : List (List (Str × V))} {k : Nat}, XAll H C k as fs → XAll H' C k as fs
  | a :: as, f :: fs, k, h => ⟨h.1.same s, XAll.same s h.2⟩
  | [], [], _, _ => trivial
  | [], _ :: _, _, h => h
  | _ :: _, [], _, h => h
/-- flat data -/
def flats : List V → Ds
  | [] => .nil
  | v :: r => .cons (.at v) (flats r)
theorem flats_is {K : PySem.W.Frag} {H : Hp} : ∀ {vs : List V}, (∀ v ∈ vs, flatV v = true) → DIss K H (flats vs) vs
  | [], _ => by rw [flats, DIss]
  | v :: r, h => by
    rw [flats, DIss]
    exact ⟨v, r, rfl, by rw [DIs]; exact ⟨rfl, h v List.mem_cons_self⟩, flats_is fun u hu => h u (List.mem_cons_of_mem _ hu)⟩
theorem flats_dep : ∀ vs : List V, deps (flats vs) = 0
  | [] => by rw [flats, deps]
  | v :: r => by rw [flats, deps, dep, flats_dep r]; rfl
theorem flatT {K : PySem.W.Frag} {H : Hp} {a : Addr} {vs : List V} (h : SqT K H a vs) (f : ∀ v ∈ vs, flatV v = true) : DIs K H (.tup (flats vs)) (.ref a) := by rw [DIs]; exact ⟨a, vs, rfl, h, flats_is f⟩
theorem flatL {K : PySem.W.Frag} {H : Hp} {a : Addr} {vs : List V} (h : SqL K H a vs) (f : ∀ v ∈ vs, flatV v = true) : DIs K H (.lst (flats vs)) (.ref a) := by rw [DIs]; exact ⟨a, vs, rfl, h, flats_is f⟩
theorem flatT_dep (vs : List V) : dep (.tup (flats vs)) ≤ 50 := by rw [dep, flats_dep]; first | lia | omega
theorem flatL_dep (vs : List V) : dep (.lst (flats vs)) ≤ 50 := by rw [dep, flats_dep]; first | lia | omega
theorem flat_ints (ns : List Int) : ∀ v ∈ ns.map V.int, flatV v = true := fun v h => by obtain ⟨i, _, rfl⟩ := List.mem_map.mp h; rfl
theorem flat_four (a b c d : Int) : ∀ v ∈ four a b c d, flatV v = true := flat_ints [a, b, c, d]
theorem flat_two (a b : Int) : ∀ v ∈ [V.int a, V.int b], flatV v = true := flat_ints [a, b]
theorem same_not {K : PySem.W.Frag} {H : Hp} {d : D} {v : V} (h : DIs K H d v) : (!deq d d) = false := by rw [deq_refl d h]; rfl

def sp_purse (K : PySem.W.Frag) : Sp := fun vs H Q _ => ∃ (a : Addr) (ns : List Int) (k : Int), vs = [.ref a, .int k] ∧ SqL K H a (ns.map V.int) ∧ 0 ≤ k ∧ k < 1000 ∧ ∀ p z, H p = none → Q (.ref p) (upd H p (.lst [.int z]))
def sp_take : Sp := fun vs H Q _ => ∃ p z m, vs = [.ref p, .int m] ∧ H p = some (.lst [.int z]) ∧ 0 < m ∧ m < 18446744073709551616 ∧ ∀ r z', 0 ≤ r → r < m → Q (.int r) (upd H p (.lst [.int z']))
def kins (i : Nat) : List V := (List.range 24).map fun (j : Nat) => V.bl (decide ((j : Int) = (i : Int)))
def sp_kin (C : Nat → Addr) : Sp := fun vs H Q _ => ∃ (a : Addr) (i : Nat), vs = [.ref a] ∧ i < 24 ∧ IsExc H a (C i) ∧ ∀ l H', Same H H' → H' l = some (.lst (kins i)) → Q (.ref l) H'
def sp_text : Sp := fun vs H Q _ => ∃ p z, vs = [.ref p] ∧ H p = some (.lst [.int z]) ∧ ∀ t H', SameX p H H' → (∃ z', H' p = some (.lst [.int z'])) → Q (.str t) H'

/-- the values of the refusals made -/
def fsL (n : Int) (z : Str) (b ls b2 b3 pc l4 : Addr) : List (List (Str × V)) := [[("side", .int n)], [("many", .int n)], [("place", .int n)], [("place", .int n)], [("square", .ref b2)], [("drawing", .str z)], [("letter", .str z)], [("at", .int n)], [("place", .int n)], [("block", .ref b)], [("room", .ref b), ("breaks", .ref ls), ("leads", .ref l4)], [("steps", .ref b)], [], [("number", .int n)], [("place", .int n)], [("piece", .ref pc)], [("place", .int n)], [("place", .int n)], [("place", .int n)], [("size", .ref b3)], [("want", .int n)], [("width", .int n), ("height", .int (n + 1))], [("line", .str z)], [("name", .str z)]]
def sp_made (C : Nat → Addr) : Sp := fun vs H Q _ => ∃ (n : Int) (z : Str) (b ls : Addr) (t l o r : Int) (xs : List V), vs = [.int n, .str z, .ref b, .ref ls] ∧ H b = some (.tup (four t l o r)) ∧ H ls = some (.lst xs) ∧
  ∀ (m : Addr) (as : List Addr) (b2 b3 pc l4 : Addr) (H' : Hp), Same H H' → H' m = some (.lst (as.map V.ref)) → as.length = 24 → H' b2 = some (.tup [.int t, .int l]) → H' b3 = some (.tup [.int o, .int r]) → H' pc = some (.tup [.ref b, .non]) →
    H' l4 = some (.lst (cutV xs none (some 4))) → XAll H' C 0 as (fsL n z b ls b2 b3 pc l4) → Q (.ref m) H'
def sp_numbers (C : Nat → Addr) : Sp := fun vs H Q _ => ∃ (m : Addr) (as : List Addr) (n : Int) (z : Str) (b ls b2 b3 pc l4 : Addr), vs = [.ref m] ∧ H m = some (.lst (as.map V.ref)) ∧ as.length = 24 ∧ XAll H C 0 as (fsL n z b ls b2 b3 pc l4) ∧
  ∀ l H', Same H H' → H' l = some (.lst (List.replicate 14 (.int n))) → Q (.ref l) H'
def sp_law (K : PySem.W.Frag) : Sp := fun vs H Q _ => ∃ (a : Addr) (ns : List Int), vs = [.ref a] ∧ SqL K H a (ns.map V.int) ∧ ns.length ≤ 63 ∧ ∀ H', Q (.bl true) H'

structure Txt (mg : Str → Option Value) : Prop where
  z_isinstance : mg "isinstance" = none
  z_range : mg "range" = none
  z_len : mg "len" = none
  z_list : mg "list" = none
  z_ValueError : mg "ValueError" = none
/-- the refusals' classes -/
structure RX (mg : Str → Option Value) (K : PySem.W.Frag) (C : Nat → Addr) (G : Addr) : Prop where
  g_NoSide : mg "NoSide" = some (.ref (C 0))
  g_TooMany : mg "TooMany" = some (.ref (C 1))
  g_NoPane : mg "NoPane" = some (.ref (C 2))
  g_Overlap : mg "Overlap" = some (.ref (C 3))
  g_Bare : mg "Bare" = some (.ref (C 4))
  g_NoDrawing : mg "NoDrawing" = some (.ref (C 5))
  g_Ragged : mg "Ragged" = some (.ref (C 6))
  g_NoCut : mg "NoCut" = some (.ref (C 7))
  g_NoTree : mg "NoTree" = some (.ref (C 8))
  g_NoBlock : mg "NoBlock" = some (.ref (C 9))
  g_Stuck : mg "Stuck" = some (.ref (C 10))
  g_NoMove : mg "NoMove" = some (.ref (C 11))
  g_Unlike : mg "Unlike" = some (.ref (C 12))
  g_NoNumber : mg "NoNumber" = some (.ref (C 13))
  g_NoKind : mg "NoKind" = some (.ref (C 14))
  g_Unfit : mg "Unfit" = some (.ref (C 15))
  g_NoFlaw : mg "NoFlaw" = some (.ref (C 16))
  g_NoWant : mg "NoWant" = some (.ref (C 17))
  g_NoSheet : mg "NoSheet" = some (.ref (C 18))
  g_NoSize : mg "NoSize" = some (.ref (C 19))
  g_NoPlan : mg "NoPlan" = some (.ref (C 20))
  g_NoGlass : mg "NoGlass" = some (.ref (C 21))
  g_NoLine : mg "NoLine" = some (.ref (C 22))
  g_NoName : mg "NoName" = some (.ref (C 23))
  g_GlassError : mg "GlassError" = some (.ref G)
  cl : ∀ i, i < 24 → XCls K (C i)
  kt : ∀ i j, i < 24 → j < 24 → PySem.W.kitOne K (.ref (C i)) (.ref (C j)) = some (decide ((j : Int) = (i : Int)))
  kg : ∀ i, i < 24 → PySem.W.kitOne K (.ref (C i)) (.ref G) = some true
  kv : ∀ i, i < 24 → PySem.W.kitOne K (.ref (C i)) (.type "ValueError") = some true
  n_NoSide_side : NoAttr K (C 0) "side"
  n_TooMany_many : NoAttr K (C 1) "many"
  n_NoPane_place : NoAttr K (C 2) "place"
  n_Overlap_place : NoAttr K (C 3) "place"
  n_Bare_square : NoAttr K (C 4) "square"
  n_NoDrawing_drawing : NoAttr K (C 5) "drawing"
  n_Ragged_letter : NoAttr K (C 6) "letter"
  n_NoCut_at : NoAttr K (C 7) "at"
  n_NoTree_place : NoAttr K (C 8) "place"
  n_NoBlock_block : NoAttr K (C 9) "block"
  n_Stuck_room : NoAttr K (C 10) "room"
  n_Stuck_breaks : NoAttr K (C 10) "breaks"
  n_Stuck_leads : NoAttr K (C 10) "leads"
  n_NoMove_steps : NoAttr K (C 11) "steps"
  n_NoNumber_number : NoAttr K (C 13) "number"
  n_NoKind_place : NoAttr K (C 14) "place"
  n_Unfit_piece : NoAttr K (C 15) "piece"
  n_NoFlaw_place : NoAttr K (C 16) "place"
  n_NoWant_place : NoAttr K (C 17) "place"
  n_NoSheet_place : NoAttr K (C 18) "place"
  n_NoSize_size : NoAttr K (C 19) "size"
  n_NoPlan_want : NoAttr K (C 20) "want"
  n_NoGlass_width : NoAttr K (C 21) "width"
  n_NoGlass_height : NoAttr K (C 21) "height"
  n_NoLine_line : NoAttr K (C 22) "line"
  n_NoName_name : NoAttr K (C 23) "name"
section
variable {P : Program} {w : World} {K : PySem.W.Frag} {mg : Str → Option Value} {base : Heap} {C : Nat → Addr} {G : Addr}
theorem S_law_take : FnScope ["_law_purse_here", "_law_many", "_law_found"] ["_law_purse_here", "_law_many"] (defScope s__law_take) := ⟨rfl, rfl, rfl, by decide +kernel, rfl, by decide +kernel, by decide +kernel⟩
theorem S_law_purse : FnScope ["_law_script", "_law_k", "_law_cell"] ["_law_script", "_law_k"] (defScope s__law_purse) := ⟨rfl, rfl, rfl, by decide +kernel, rfl, by decide +kernel, by decide +kernel⟩
theorem pow18 : CPow 10 18 := ⟨by decide, by decide, by decide⟩
theorem pow30 : CPow 10 30 := ⟨by decide, by decide, by decide⟩
theorem div18 (z : Int) : CDivL z (10 ^ (18 : Int).toNat) := ⟨by decide +kernel, by decide +kernel⟩
theorem big_eq : (10 : Int) ^ (30 : Int).toNat + 57 = 1000000000000000000000000000057 := by decide +kernel
theorem big_pos : (0 : Int) < (10 : Int) ^ (30 : Int).toNat + 57 := by rw [big_eq]; decide
theorem big_mul {z k : Int} (h0 : 0 ≤ k) (h1 : k < 1000) : IntMulOk (z % ((10 : Int) ^ (30 : Int).toNat + 57) + k + 1) 618033988749894848204586834365 := by
  rw [big_eq]
  refine mulOk_of ?_ (by decide +kernel)
  have a := Int.emod_nonneg z (b := 1000000000000000000000000000057) (by decide)
  have b := Int.emod_lt_of_pos z (b := 1000000000000000000000000000057) (by decide)
  have c : (2 : Nat) ^ 128 = 340282366920938463463374607431768211456 := by decide +kernel
  rw [c]
  first | lia | omega
theorem ok_law_take {f : Addr} {fd : FuncData} (F : Fun K "_law_take" "_law_take" s__law_take f fd) : FnOk P w K mg base CX0 1 f fd ["_law_purse_here", "_law_many"] sp_take := by
  have S := S_law_take
  refine F.ok S (fun vs H Q E h => ?_) (fun cdv A outer s H vs Q E hr h => ?_)
  · obtain ⟨p, z, m, rfl, _⟩ := h; rfl
  · obtain ⟨p, z, m, rfl, hp, hm, hm2, q⟩ := h
    refine ⟨_, (pss_cons (ps_set (i := 2) S.nd rfl (Or.inl rfl) (pe_op op_mod (pe_ix ix_list (pv 0) pe_int (fun _ _ => rfl)) (pv 1)))
      (pss_cons (ps_asg (pe_op op_fdivL (pe_ix ix_list (pv 0) pe_int (fun _ _ => rfl)) (pv 1)) (pg_sub (pv 0) pe_int set_list))
      (pss_one (ps_ret (pv 2))))), ?_⟩
    have hdiv : CDivL z m := ⟨hm, Nat.lt_trans (log2_lt_of (k := 64) (by decide) (by first | lia | omega)) (by decide)⟩
    refine ⟨_, rfl, p, _, _, _, rfl, rfl, SqL.of hp, rfl, _, rfl, _, _, rfl, rfl, hm, ?_⟩
    refine ⟨_, rfl, p, _, _, _, rfl, rfl, SqL.of hp, rfl, _, rfl, _, _, rfl, rfl, hdiv, _, rfl, p, _, _, 0, rfl, rfl, hp, rfl, ?_⟩
    exact ⟨_, rfl, q _ _ (Int.emod_nonneg _ (by first | lia | omega)) (Int.emod_lt_of_pos _ hm)⟩
theorem ok_law_purse {f : Addr} {fd : FuncData} (F : Fun K "_law_purse" "_law_purse" s__law_purse f fd) (T : Txt mg) : FnOk P w K mg base CX0 1 f fd ["_law_script", "_law_k"] (sp_purse K) := by
  have S := S_law_purse
  refine F.ok S (fun vs H Q E h => ?_) (fun cdv A outer s H vs Q E hr h => ?_)
  · obtain ⟨a, ns, k, rfl, _⟩ := h; rfl
  · obtain ⟨a, ns, k, rfl, hS, hk0, hk1, q⟩ := h
    refine ⟨_, (pss_cons (ps_set (i := 2) S.nd rfl (Or.inl rfl) pe_int)
      (pss_cons (ps_if (pt_cmpR op_lt (pv 1) (pe_callB call_len_seq rfl T.z_len rfl (pa_cons (pv 0) pa_nil)) (nomark _)) (pss_one (ps_set (i := 2) S.nd rfl (Or.inl rfl) (pe_ix ix_list (pv 0) (pv 1) (fun _ _ => rfl)))) pss_nil)
      (pss_cons (ps_if (pt_cmpR op_ne (pe_op op_fdivL (pv 2) (pe_op op_pow pe_int pe_int)) pe_int (nomark _)) (pss_one (ps_ret (pe_lst (pa_cons (pv 2) pa_nil)))) pss_nil)
      (pss_one (ps_ret (pe_lst (pa_cons (pe_op op_mod (pe_op op_mulL (pe_op op_add (pe_op op_add (pe_op op_mod (pv 2) (pe_op op_add (pe_op op_pow pe_int pe_int) pe_int)) (pv 1)) pe_int) pe_int) (pe_op op_add (pe_op op_pow pe_int pe_int) pe_int)) pa_nil))))))), ?_⟩
    refine ⟨_, rfl, _, rfl, a, _, rfl, .inl hS, _, _, rfl, rfl, _, rfl, ite3 (fun h => ?_) (fun h => ?_)⟩
    · have hk : k.toNat < ns.length := by
        have h' : k < ((ns.map V.int).length : Int) := of_decide_eq_true h
        rw [List.length_map] at h'
        first | lia | omega
      have hz : (ns.map V.int)[k.toNat]? = some (.int ns[k.toNat]) := by rw [List.getElem?_map, List.getElem?_eq_getElem hk]; rfl
      have hat : atI (ns.map V.int) k = some (.int ns[k.toNat]) := by
        have e := atI_nat hz
        rw [Int.toNat_of_nonneg hk0] at e
        exact e
      refine ⟨_, rfl, _, rfl, a, _, k, _, rfl, rfl, hS, hat, ?_⟩
      generalize ns[k.toNat] = z0
      refine ⟨_, rfl, _, _, rfl, rfl, pow18, _, _, rfl, rfl, div18 _, rfl, _, rfl, ite3 (fun h => ?_) (fun h => ?_)⟩
      · exact ⟨_, rfl, lenOk 1, fun p hp => q p _ hp⟩
      · exact ⟨_, rfl, _, _, rfl, rfl, pow30, _, _, rfl, rfl, _, _, rfl, rfl, big_pos, _, rfl, _, _, rfl, rfl, _, _, rfl, rfl, _, _, rfl, rfl, big_mul hk0 hk1, _, _, rfl, rfl, pow30, _, _, rfl, rfl, _, _, rfl, rfl, big_pos, lenOk 1, fun p hp => q p _ hp⟩
    · refine ⟨_, rfl, _, _, rfl, rfl, pow18, _, _, rfl, rfl, div18 _, rfl, _, rfl, ite3 (fun h => ?_) (fun h => ?_)⟩
      · exact ⟨_, rfl, lenOk 1, fun p hp => q p _ hp⟩
      · exact ⟨_, rfl, _, _, rfl, rfl, pow30, _, _, rfl, rfl, _, _, rfl, rfl, big_pos, _, rfl, _, _, rfl, rfl, _, _, rfl, rfl, _, _, rfl, rfl, big_mul hk0 hk1, _, _, rfl, rfl, pow30, _, _, rfl, rfl, _, _, rfl, rfl, big_pos, lenOk 1, fun p hp => q p _ hp⟩
theorem xfin {H H1 : Hp} {Q : VK} {x d : Addr} {o1 o2 : HO} {E1 : HO} (hx : H x = some E1) (hd : H d = none) : (upd (upd H d o1) x o2) x = some o2 ∧ (upd (upd H d o1) x o2) d = some o1 ∧ ∀ a o, a ≠ x → H a = some o → (upd (upd H d o1) x o2) a = some o :=
  ⟨upd_same, by rw [upd_ne (Ne.symm (ne_of_none hx hd)), upd_same], fun a o ne e => by rw [upd_ne ne, upd_ne (ne_of_none e hd)]; exact e⟩
theorem xmore {H H1 : Hp} {x d : Addr} {o1 o2 : HO} (hd : H d = none) (ne : d ≠ x) (h1 : H1 x = some o1) (hs : ∀ a o, a ≠ x → H a = some o → H1 a = some o) : (upd H1 d o2) x = some o1 ∧ (upd H1 d o2) d = some o2 ∧ ∀ a o, a ≠ x → H a = some o → (upd H1 d o2) a = some o :=
  ⟨by rw [upd_ne (Ne.symm ne)]; exact h1, upd_same, fun a o na e => by rw [upd_ne (ne_of_none e hd)]; exact hs a o na e⟩
theorem S_NoSide_init : FnScope ["self", "side"] ["self", "side"] (defScope s_NoSide_init) := ⟨rfl, rfl, rfl, by decide +kernel, rfl, by decide +kernel, by decide +kernel⟩
theorem ok_NoSide_init {f : Addr} {fd : FuncData} (F : Fun K "__init__" "NoSide.__init__" s_NoSide_init f fd) (R : RX mg K C G) : FnOk P w K mg base CX0 1 f fd ["self", "side"] (sp_x (C 0) ["side"]) := by
  have S := S_NoSide_init
  refine F.ok S (fun vs H Q E h => ?_) (fun cdv A outer s H vs Q E hr h => ?_)
  · obtain ⟨x, ws, rfl, hl, _⟩ := h; rw [List.length_cons, hl]; rfl
  · obtain ⟨x, ws, rfl, hl, hx, q⟩ := h
    obtain ⟨v0, rfl⟩ : ∃ v0, ws = [v0] := match ws, hl with | [v0], _ => ⟨_, rfl⟩
    refine ⟨_, (pss_one (ps_xfld (pv 0) (pv 1) rfl)), ?_⟩
    refine ⟨_, rfl, _, rfl, x, C 0, rfl, R.cl 0 (by decide), R.n_NoSide_side, .inl ⟨hx, fun d hd => ?_⟩⟩
    obtain ⟨e1, e2, e3⟩ := xfin (H1 := H) (Q := Q) (o1 := ExcD d [("side", v0)]) (o2 := ExcO (C 0) d x) hx hd
    exact q d _ hd e1 e2 e3
theorem S_TooMany_init : FnScope ["self", "many"] ["self", "many"] (defScope s_TooMany_init) := ⟨rfl, rfl, rfl, by decide +kernel, rfl, by decide +kernel, by decide +kernel⟩
theorem ok_TooMany_init {f : Addr} {fd : FuncData} (F : Fun K "__init__" "TooMany.__init__" s_TooMany_init f fd) (R : RX mg K C G) : FnOk P w K mg base CX0 1 f fd ["self", "many"] (sp_x (C 1) ["many"]) := by
  have S := S_TooMany_init
  refine F.ok S (fun vs H Q E h => ?_) (fun cdv A outer s H vs Q E hr h => ?_)
  · obtain ⟨x, ws, rfl, hl, _⟩ := h; rw [List.length_cons, hl]; rfl
  · obtain ⟨x, ws, rfl, hl, hx, q⟩ := h
    obtain ⟨v0, rfl⟩ : ∃ v0, ws = [v0] := match ws, hl with | [v0], _ => ⟨_, rfl⟩
    refine ⟨_, (pss_one (ps_xfld (pv 0) (pv 1) rfl)), ?_⟩
    refine ⟨_, rfl, _, rfl, x, C 1, rfl, R.cl 1 (by decide), R.n_TooMany_many, .inl ⟨hx, fun d hd => ?_⟩⟩
    obtain ⟨e1, e2, e3⟩ := xfin (H1 := H) (Q := Q) (o1 := ExcD d [("many", v0)]) (o2 := ExcO (C 1) d x) hx hd
    exact q d _ hd e1 e2 e3
theorem S_NoPane_init : FnScope ["self", "place"] ["self", "place"] (defScope s_NoPane_init) := ⟨rfl, rfl, rfl, by decide +kernel, rfl, by decide +kernel, by decide +kernel⟩
theorem ok_NoPane_init {f : Addr} {fd : FuncData} (F : Fun K "__init__" "NoPane.__init__" s_NoPane_init f fd) (R : RX mg K C G) : FnOk P w K mg base CX0 1 f fd ["self", "place"] (sp_x (C 2) ["place"]) := by
  have S := S_NoPane_init
  refine F.ok S (fun vs H Q E h => ?_) (fun cdv A outer s H vs Q E hr h => ?_)
  · obtain ⟨x, ws, rfl, hl, _⟩ := h; rw [List.length_cons, hl]; rfl
  · obtain ⟨x, ws, rfl, hl, hx, q⟩ := h
    obtain ⟨v0, rfl⟩ : ∃ v0, ws = [v0] := match ws, hl with | [v0], _ => ⟨_, rfl⟩
    refine ⟨_, (pss_one (ps_xfld (pv 0) (pv 1) rfl)), ?_⟩
    refine ⟨_, rfl, _, rfl, x, C 2, rfl, R.cl 2 (by decide), R.n_NoPane_place, .inl ⟨hx, fun d hd => ?_⟩⟩
    obtain ⟨e1, e2, e3⟩ := xfin (H1 := H) (Q := Q) (o1 := ExcD d [("place", v0)]) (o2 := ExcO (C 2) d x) hx hd
    exact q d _ hd e1 e2 e3
theorem S_Overlap_init : FnScope ["self", "place"] ["self", "place"] (defScope s_Overlap_init) := ⟨rfl, rfl, rfl, by decide +kernel, rfl, by decide +kernel, by decide +kernel⟩
theorem ok_Overlap_init {f : Addr} {fd : FuncData} (F : Fun K "__init__" "Overlap.__init__" s_Overlap_init f fd) (R : RX mg K C G) : FnOk P w K mg base CX0 1 f fd ["self", "place"] (sp_x (C 3) ["place"]) := by
  have S := S_Overlap_init
  refine F.ok S (fun vs H Q E h => ?_) (fun cdv A outer s H vs Q E hr h => ?_)
  · obtain ⟨x, ws, rfl, hl, _⟩ := h; rw [List.length_cons, hl]; rfl
  · obtain ⟨x, ws, rfl, hl, hx, q⟩ := h
    obtain ⟨v0, rfl⟩ : ∃ v0, ws = [v0] := match ws, hl with | [v0], _ => ⟨_, rfl⟩
    refine ⟨_, (pss_one (ps_xfld (pv 0) (pv 1) rfl)), ?_⟩
    refine ⟨_, rfl, _, rfl, x, C 3, rfl, R.cl 3 (by decide), R.n_Overlap_place, .inl ⟨hx, fun d hd => ?_⟩⟩
    obtain ⟨e1, e2, e3⟩ := xfin (H1 := H) (Q := Q) (o1 := ExcD d [("place", v0)]) (o2 := ExcO (C 3) d x) hx hd
    exact q d _ hd e1 e2 e3
theorem S_Bare_init : FnScope ["self", "square"] ["self", "square"] (defScope s_Bare_init) := ⟨rfl, rfl, rfl, by decide +kernel, rfl, by decide +kernel, by decide +kernel⟩
theorem ok_Bare_init {f : Addr} {fd : FuncData} (F : Fun K "__init__" "Bare.__init__" s_Bare_init f fd) (R : RX mg K C G) : FnOk P w K mg base CX0 1 f fd ["self", "square"] (sp_x (C 4) ["square"]) := by
  have S := S_Bare_init
  refine F.ok S (fun vs H Q E h => ?_) (fun cdv A outer s H vs Q E hr h => ?_)
  · obtain ⟨x, ws, rfl, hl, _⟩ := h; rw [List.length_cons, hl]; rfl
  · obtain ⟨x, ws, rfl, hl, hx, q⟩ := h
    obtain ⟨v0, rfl⟩ : ∃ v0, ws = [v0] := match ws, hl with | [v0], _ => ⟨_, rfl⟩
    refine ⟨_, (pss_one (ps_xfld (pv 0) (pv 1) rfl)), ?_⟩
    refine ⟨_, rfl, _, rfl, x, C 4, rfl, R.cl 4 (by decide), R.n_Bare_square, .inl ⟨hx, fun d hd => ?_⟩⟩
    obtain ⟨e1, e2, e3⟩ := xfin (H1 := H) (Q := Q) (o1 := ExcD d [("square", v0)]) (o2 := ExcO (C 4) d x) hx hd
    exact q d _ hd e1 e2 e3
theorem S_NoDrawing_init : FnScope ["self", "drawing"] ["self", "drawing"] (defScope s_NoDrawing_init) := ⟨rfl, rfl, rfl, by decide +kernel, rfl, by decide +kernel, by decide +kernel⟩
theorem ok_NoDrawing_init {f : Addr} {fd : FuncData} (F : Fun K "__init__" "NoDrawing.__init__" s_NoDrawing_init f fd) (R : RX mg K C G) : FnOk P w K mg base CX0 1 f fd ["self", "drawing"] (sp_x (C 5) ["drawing"]) := by
  have S := S_NoDrawing_init
  refine F.ok S (fun vs H Q E h => ?_) (fun cdv A outer s H vs Q E hr h => ?_)
  · obtain ⟨x, ws, rfl, hl, _⟩ := h; rw [List.length_cons, hl]; rfl
  · obtain ⟨x, ws, rfl, hl, hx, q⟩ := h
    obtain ⟨v0, rfl⟩ : ∃ v0, ws = [v0] := match ws, hl with | [v0], _ => ⟨_, rfl⟩
    refine ⟨_, (pss_one (ps_xfld (pv 0) (pv 1) rfl)), ?_⟩
    refine ⟨_, rfl, _, rfl, x, C 5, rfl, R.cl 5 (by decide), R.n_NoDrawing_drawing, .inl ⟨hx, fun d hd => ?_⟩⟩
    obtain ⟨e1, e2, e3⟩ := xfin (H1 := H) (Q := Q) (o1 := ExcD d [("drawing", v0)]) (o2 := ExcO (C 5) d x) hx hd
    exact q d _ hd e1 e2 e3
theorem S_Ragged_init : FnScope ["self", "letter"] ["self", "letter"] (defScope s_Ragged_init) := ⟨rfl, rfl, rfl, by decide +kernel, rfl, by decide +kernel, by decide +kernel⟩
theorem ok_Ragged_init {f : Addr} {fd : FuncData} (F : Fun K "__init__" "Ragged.__init__" s_Ragged_init f fd) (R : RX mg K C G) : FnOk P w K mg base CX0 1 f fd ["self", "letter"] (sp_x (C 6) ["letter"]) := by
  have S := S_Ragged_init
  refine F.ok S (fun vs H Q E h => ?_) (fun cdv A outer s H vs Q E hr h => ?_)
  · obtain ⟨x, ws, rfl, hl, _⟩ := h; rw [List.length_cons, hl]; rfl
  · obtain ⟨x, ws, rfl, hl, hx, q⟩ := h
    obtain ⟨v0, rfl⟩ : ∃ v0, ws = [v0] := match ws, hl with | [v0], _ => ⟨_, rfl⟩
    refine ⟨_, (pss_one (ps_xfld (pv 0) (pv 1) rfl)), ?_⟩
    refine ⟨_, rfl, _, rfl, x, C 6, rfl, R.cl 6 (by decide), R.n_Ragged_letter, .inl ⟨hx, fun d hd => ?_⟩⟩
    obtain ⟨e1, e2, e3⟩ := xfin (H1 := H) (Q := Q) (o1 := ExcD d [("letter", v0)]) (o2 := ExcO (C 6) d x) hx hd
    exact q d _ hd e1 e2 e3
theorem S_NoCut_init : FnScope ["self", "at"] ["self", "at"] (defScope s_NoCut_init) := ⟨rfl, rfl, rfl, by decide +kernel, rfl, by decide +kernel, by decide +kernel⟩
theorem ok_NoCut_init {f : Addr} {fd : FuncData} (F : Fun K "__init__" "NoCut.__init__" s_NoCut_init f fd) (R : RX mg K C G) : FnOk P w K mg base CX0 1 f fd ["self", "at"] (sp_x (C 7) ["at"]) := by
  have S := S_NoCut_init
  refine F.ok S (fun vs H Q E h => ?_) (fun cdv A outer s H vs Q E hr h => ?_)
  · obtain ⟨x, ws, rfl, hl, _⟩ := h; rw [List.length_cons, hl]; rfl
  · obtain ⟨x, ws, rfl, hl, hx, q⟩ := h
    obtain ⟨v0, rfl⟩ : ∃ v0, ws = [v0] := match ws, hl with | [v0], _ => ⟨_, rfl⟩
    refine ⟨_, (pss_one (ps_xfld (pv 0) (pv 1) rfl)), ?_⟩
    refine ⟨_, rfl, _, rfl, x, C 7, rfl, R.cl 7 (by decide), R.n_NoCut_at, .inl ⟨hx, fun d hd => ?_⟩⟩
    obtain ⟨e1, e2, e3⟩ := xfin (H1 := H) (Q := Q) (o1 := ExcD d [("at", v0)]) (o2 := ExcO (C 7) d x) hx hd
    exact q d _ hd e1 e2 e3
theorem S_NoTree_init : FnScope ["self", "place"] ["self", "place"] (defScope s_NoTree_init) := ⟨rfl, rfl, rfl, by decide +kernel, rfl, by decide +kernel, by decide +kernel⟩
theorem ok_NoTree_init {f : Addr} {fd : FuncData} (F : Fun K "__init__" "NoTree.__init__" s_NoTree_init f fd) (R : RX mg K C G) : FnOk P w K mg base CX0 1 f fd ["self", "place"] (sp_x (C 8) ["place"]) := by
  have S := S_NoTree_init
  refine F.ok S (fun vs H Q E h => ?_) (fun cdv A outer s H vs Q E hr h => ?_)
  · obtain ⟨x, ws, rfl, hl, _⟩ := h; rw [List.length_cons, hl]; rfl
  · obtain ⟨x, ws, rfl, hl, hx, q⟩ := h
    obtain ⟨v0, rfl⟩ : ∃ v0, ws = [v0] := match ws, hl with | [v0], _ => ⟨_, rfl⟩
    refine ⟨_, (pss_one (ps_xfld (pv 0) (pv 1) rfl)), ?_⟩
    refine ⟨_, rfl, _, rfl, x, C 8, rfl, R.cl 8 (by decide), R.n_NoTree_place, .inl ⟨hx, fun d hd => ?_⟩⟩
    obtain ⟨e1, e2, e3⟩ := xfin (H1 := H) (Q := Q) (o1 := ExcD d [("place", v0)]) (o2 := ExcO (C 8) d x) hx hd
    exact q d _ hd e1 e2 e3
theorem S_NoBlock_init : FnScope ["self", "block"] ["self", "block"] (defScope s_NoBlock_init) := ⟨rfl, rfl, rfl, by decide +kernel, rfl, by decide +kernel, by decide +kernel⟩
theorem ok_NoBlock_init {f : Addr} {fd : FuncData} (F : Fun K "__init__" "NoBlock.__init__" s_NoBlock_init f fd) (R : RX mg K C G) : FnOk P w K mg base CX0 1 f fd ["self", "block"] (sp_x (C 9) ["block"]) := by
  have S := S_NoBlock_init
  refine F.ok S (fun vs H Q E h => ?_) (fun cdv A outer s H vs Q E hr h => ?_)
  · obtain ⟨x, ws, rfl, hl, _⟩ := h; rw [List.length_cons, hl]; rfl
  · obtain ⟨x, ws, rfl, hl, hx, q⟩ := h
    obtain ⟨v0, rfl⟩ : ∃ v0, ws = [v0] := match ws, hl with | [v0], _ => ⟨_, rfl⟩
    refine ⟨_, (pss_one (ps_xfld (pv 0) (pv 1) rfl)), ?_⟩
    refine ⟨_, rfl, _, rfl, x, C 9, rfl, R.cl 9 (by decide), R.n_NoBlock_block, .inl ⟨hx, fun d hd => ?_⟩⟩
    obtain ⟨e1, e2, e3⟩ := xfin (H1 := H) (Q := Q) (o1 := ExcD d [("block", v0)]) (o2 := ExcO (C 9) d x) hx hd
    exact q d _ hd e1 e2 e3
theorem S_Stuck_init : FnScope ["self", "room", "breaks", "leads"] ["self", "room", "breaks", "leads"] (defScope s_Stuck_init) := ⟨rfl, rfl, rfl, by decide +kernel, rfl, by decide +kernel, by decide +kernel⟩
theorem ok_Stuck_init {f : Addr} {fd : FuncData} (F : Fun K "__init__" "Stuck.__init__" s_Stuck_init f fd) (R : RX mg K C G) : FnOk P w K mg base CX0 1 f fd ["self", "room", "breaks", "leads"] (sp_x (C 10) ["room", "breaks", "leads"]) := by
  have S := S_Stuck_init
  refine F.ok S (fun vs H Q E h => ?_) (fun cdv A outer s H vs Q E hr h => ?_)
  · obtain ⟨x, ws, rfl, hl, _⟩ := h; rw [List.length_cons, hl]; rfl
  · obtain ⟨x, ws, rfl, hl, hx, q⟩ := h
    obtain ⟨v0, v1, v2, rfl⟩ : ∃ v0 v1 v2, ws = [v0, v1, v2] := match ws, hl with | [v0, v1, v2], _ => ⟨_, _, _, rfl⟩
    refine ⟨_, (pss_cons (ps_xfld (pv 0) (pv 1) rfl)
      (pss_cons (ps_xfld (pv 0) (pv 2) rfl)
      (pss_one (ps_xfld (pv 0) (pv 3) rfl)))), ?_⟩
    refine ⟨_, rfl, _, rfl, x, C 10, rfl, R.cl 10 (by decide), R.n_Stuck_room, .inl ⟨hx, fun d hd => ?_⟩⟩
    obtain ⟨e1, e2, e3⟩ := xfin (H1 := H) (Q := Q) (o1 := ExcD d [("room", v0)]) (o2 := ExcO (C 10) d x) hx hd
    generalize upd (upd H d (ExcD d [("room", v0)])) x (ExcO (C 10) d x) = H1 at e1 e2 e3 ⊢
    have nd : d ≠ x := Ne.symm (ne_of_none hx hd)
    have p1 : putF "breaks" v1 [(("room" : Str), v0)] = [(("room" : Str), v0), (("breaks" : Str), v1)] := by
      rw [putF, if_neg (by decide +kernel)]; rfl
    refine ⟨_, rfl, _, rfl, x, C 10, rfl, R.cl 10 (by decide), R.n_Stuck_breaks, .inr ⟨d, _, e1, e2, by show 1 < 1000; decide, ?_⟩⟩
    rw [p1]
    obtain ⟨f1, f2, f3⟩ := xmore (o2 := ExcD d [(("room" : Str), v0), (("breaks" : Str), v1)]) hd nd e1 e3
    clear e1 e2 e3
    generalize upd H1 d (ExcD d [(("room" : Str), v0), (("breaks" : Str), v1)]) = H2 at f1 f2 f3 ⊢
    have e1 := f1; have e2 := f2; have e3 := f3; clear f1 f2 f3
    skip
    have p2 : putF "leads" v2 [(("room" : Str), v0), (("breaks" : Str), v1)] = [(("room" : Str), v0), (("breaks" : Str), v1), (("leads" : Str), v2)] := by
      rw [putF, if_neg (by decide +kernel)]; rw [putF, if_neg (by decide +kernel)]; rfl
    refine ⟨_, rfl, _, rfl, x, C 10, rfl, R.cl 10 (by decide), R.n_Stuck_leads, .inr ⟨d, _, e1, e2, by show 2 < 1000; decide, ?_⟩⟩
    rw [p2]
    obtain ⟨f1, f2, f3⟩ := xmore (o2 := ExcD d [(("room" : Str), v0), (("breaks" : Str), v1), (("leads" : Str), v2)]) hd nd e1 e3
    exact q d _ hd f1 f2 f3
theorem S_NoMove_init : FnScope ["self", "steps"] ["self", "steps"] (defScope s_NoMove_init) := ⟨rfl, rfl, rfl, by decide +kernel, rfl, by decide +kernel, by decide +kernel⟩
theorem ok_NoMove_init {f : Addr} {fd : FuncData} (F : Fun K "__init__" "NoMove.__init__" s_NoMove_init f fd) (R : RX mg K C G) : FnOk P w K mg base CX0 1 f fd ["self", "steps"] (sp_x (C 11) ["steps"]) := by
  have S := S_NoMove_init
  refine F.ok S (fun vs H Q E h => ?_) (fun cdv A outer s H vs Q E hr h => ?_)
  · obtain ⟨x, ws, rfl, hl, _⟩ := h; rw [List.length_cons, hl]; rfl
  · obtain ⟨x, ws, rfl, hl, hx, q⟩ := h
    obtain ⟨v0, rfl⟩ : ∃ v0, ws = [v0] := match ws, hl with | [v0], _ => ⟨_, rfl⟩
    refine ⟨_, (pss_one (ps_xfld (pv 0) (pv 1) rfl)), ?_⟩
    refine ⟨_, rfl, _, rfl, x, C 11, rfl, R.cl 11 (by decide), R.n_NoMove_steps, .inl ⟨hx, fun d hd => ?_⟩⟩
    obtain ⟨e1, e2, e3⟩ := xfin (H1 := H) (Q := Q) (o1 := ExcD d [("steps", v0)]) (o2 := ExcO (C 11) d x) hx hd
    exact q d _ hd e1 e2 e3
theorem S_NoNumber_init : FnScope ["self", "number"] ["self", "number"] (defScope s_NoNumber_init) := ⟨rfl, rfl, rfl, by decide +kernel, rfl, by decide +kernel, by decide +kernel⟩
theorem ok_NoNumber_init {f : Addr} {fd : FuncData} (F : Fun K "__init__" "NoNumber.__init__" s_NoNumber_init f fd) (R : RX mg K C G) : FnOk P w K mg base CX0 1 f fd ["self", "number"] (sp_x (C 13) ["number"]) := by
  have S := S_NoNumber_init
  refine F.ok S (fun vs H Q E h => ?_) (fun cdv A outer s H vs Q E hr h => ?_)
  · obtain ⟨x, ws, rfl, hl, _⟩ := h; rw [List.length_cons, hl]; rfl
  · obtain ⟨x, ws, rfl, hl, hx, q⟩ := h
    obtain ⟨v0, rfl⟩ : ∃ v0, ws = [v0] := match ws, hl with | [v0], _ => ⟨_, rfl⟩
    refine ⟨_, (pss_one (ps_xfld (pv 0) (pv 1) rfl)), ?_⟩
    refine ⟨_, rfl, _, rfl, x, C 13, rfl, R.cl 13 (by decide), R.n_NoNumber_number, .inl ⟨hx, fun d hd => ?_⟩⟩
    obtain ⟨e1, e2, e3⟩ := xfin (H1 := H) (Q := Q) (o1 := ExcD d [("number", v0)]) (o2 := ExcO (C 13) d x) hx hd
    exact q d _ hd e1 e2 e3
theorem S_NoKind_init : FnScope ["self", "place"] ["self", "place"] (defScope s_NoKind_init) := ⟨rfl, rfl, rfl, by decide +kernel, rfl, by decide +kernel, by decide +kernel⟩
theorem ok_NoKind_init {f : Addr} {fd : FuncData} (F : Fun K "__init__" "NoKind.__init__" s_NoKind_init f fd) (R : RX mg K C G) : FnOk P w K mg base CX0 1 f fd ["self", "place"] (sp_x (C 14) ["place"]) := by
  have S := S_NoKind_init
  refine F.ok S (fun vs H Q E h => ?_) (fun cdv A outer s H vs Q E hr h => ?_)
  · obtain ⟨x, ws, rfl, hl, _⟩ := h; rw [List.length_cons, hl]; rfl
  · obtain ⟨x, ws, rfl, hl, hx, q⟩ := h
    obtain ⟨v0, rfl⟩ : ∃ v0, ws = [v0] := match ws, hl with | [v0], _ => ⟨_, rfl⟩
    refine ⟨_, (pss_one (ps_xfld (pv 0) (pv 1) rfl)), ?_⟩
    refine ⟨_, rfl, _, rfl, x, C 14, rfl, R.cl 14 (by decide), R.n_NoKind_place, .inl ⟨hx, fun d hd => ?_⟩⟩
    obtain ⟨e1, e2, e3⟩ := xfin (H1 := H) (Q := Q) (o1 := ExcD d [("place", v0)]) (o2 := ExcO (C 14) d x) hx hd
    exact q d _ hd e1 e2 e3
theorem S_Unfit_init : FnScope ["self", "piece"] ["self", "piece"] (defScope s_Unfit_init) := ⟨rfl, rfl, rfl, by decide +kernel, rfl, by decide +kernel, by decide +kernel⟩
theorem ok_Unfit_init {f : Addr} {fd : FuncData} (F : Fun K "__init__" "Unfit.__init__" s_Unfit_init f fd) (R : RX mg K C G) : FnOk P w K mg base CX0 1 f fd ["self", "piece"] (sp_x (C 15) ["piece"]) := by
  have S := S_Unfit_init
  refine F.ok S (fun vs H Q E h => ?_) (fun cdv A outer s H vs Q E hr h => ?_)
  · obtain ⟨x, ws, rfl, hl, _⟩ := h; rw [List.length_cons, hl]; rfl
  · obtain ⟨x, ws, rfl, hl, hx, q⟩ := h
    obtain ⟨v0, rfl⟩ : ∃ v0, ws = [v0] := match ws, hl with | [v0], _ => ⟨_, rfl⟩
    refine ⟨_, (pss_one (ps_xfld (pv 0) (pv 1) rfl)), ?_⟩
    refine ⟨_, rfl, _, rfl, x, C 15, rfl, R.cl 15 (by decide), R.n_Unfit_piece, .inl ⟨hx, fun d hd => ?_⟩⟩
    obtain ⟨e1, e2, e3⟩ := xfin (H1 := H) (Q := Q) (o1 := ExcD d [("piece", v0)]) (o2 := ExcO (C 15) d x) hx hd
    exact q d _ hd e1 e2 e3
theorem S_NoFlaw_init : FnScope ["self", "place"] ["self", "place"] (defScope s_NoFlaw_init) := ⟨rfl, rfl, rfl, by decide +kernel, rfl, by decide +kernel, by decide +kernel⟩
theorem ok_NoFlaw_init {f : Addr} {fd : FuncData} (F : Fun K "__init__" "NoFlaw.__init__" s_NoFlaw_init f fd) (R : RX mg K C G) : FnOk P w K mg base CX0 1 f fd ["self", "place"] (sp_x (C 16) ["place"]) := by
  have S := S_NoFlaw_init
  refine F.ok S (fun vs H Q E h => ?_) (fun cdv A outer s H vs Q E hr h => ?_)
  · obtain ⟨x, ws, rfl, hl, _⟩ := h; rw [List.length_cons, hl]; rfl
  · obtain ⟨x, ws, rfl, hl, hx, q⟩ := h
    obtain ⟨v0, rfl⟩ : ∃ v0, ws = [v0] := match ws, hl with | [v0], _ => ⟨_, rfl⟩
    refine ⟨_, (pss_one (ps_xfld (pv 0) (pv 1) rfl)), ?_⟩
    refine ⟨_, rfl, _, rfl, x, C 16, rfl, R.cl 16 (by decide), R.n_NoFlaw_place, .inl ⟨hx, fun d hd => ?_⟩⟩
    obtain ⟨e1, e2, e3⟩ := xfin (H1 := H) (Q := Q) (o1 := ExcD d [("place", v0)]) (o2 := ExcO (C 16) d x) hx hd
    exact q d _ hd e1 e2 e3
theorem S_NoWant_init : FnScope ["self", "place"] ["self", "place"] (defScope s_NoWant_init) := ⟨rfl, rfl, rfl, by decide +kernel, rfl, by decide +kernel, by decide +kernel⟩
theorem ok_NoWant_init {f : Addr} {fd : FuncData} (F : Fun K "__init__" "NoWant.__init__" s_NoWant_init f fd) (R : RX mg K C G) : FnOk P w K mg base CX0 1 f fd ["self", "place"] (sp_x (C 17) ["place"]) := by
  have S := S_NoWant_init
  refine F.ok S (fun vs H Q E h => ?_) (fun cdv A outer s H vs Q E hr h => ?_)
  · obtain ⟨x, ws, rfl, hl, _⟩ := h; rw [List.length_cons, hl]; rfl
  · obtain ⟨x, ws, rfl, hl, hx, q⟩ := h
    obtain ⟨v0, rfl⟩ : ∃ v0, ws = [v0] := match ws, hl with | [v0], _ => ⟨_, rfl⟩
    refine ⟨_, (pss_one (ps_xfld (pv 0) (pv 1) rfl)), ?_⟩
    refine ⟨_, rfl, _, rfl, x, C 17, rfl, R.cl 17 (by decide), R.n_NoWant_place, .inl ⟨hx, fun d hd => ?_⟩⟩
    obtain ⟨e1, e2, e3⟩ := xfin (H1 := H) (Q := Q) (o1 := ExcD d [("place", v0)]) (o2 := ExcO (C 17) d x) hx hd
    exact q d _ hd e1 e2 e3
theorem S_NoSheet_init : FnScope ["self", "place"] ["self", "place"] (defScope s_NoSheet_init) := ⟨rfl, rfl, rfl, by decide +kernel, rfl, by decide +kernel, by decide +kernel⟩
theorem ok_NoSheet_init {f : Addr} {fd : FuncData} (F : Fun K "__init__" "NoSheet.__init__" s_NoSheet_init f fd) (R : RX mg K C G) : FnOk P w K mg base CX0 1 f fd ["self", "place"] (sp_x (C 18) ["place"]) := by
  have S := S_NoSheet_init
  refine F.ok S (fun vs H Q E h => ?_) (fun cdv A outer s H vs Q E hr h => ?_)
  · obtain ⟨x, ws, rfl, hl, _⟩ := h; rw [List.length_cons, hl]; rfl
  · obtain ⟨x, ws, rfl, hl, hx, q⟩ := h
    obtain ⟨v0, rfl⟩ : ∃ v0, ws = [v0] := match ws, hl with | [v0], _ => ⟨_, rfl⟩
    refine ⟨_, (pss_one (ps_xfld (pv 0) (pv 1) rfl)), ?_⟩
    refine ⟨_, rfl, _, rfl, x, C 18, rfl, R.cl 18 (by decide), R.n_NoSheet_place, .inl ⟨hx, fun d hd => ?_⟩⟩
    obtain ⟨e1, e2, e3⟩ := xfin (H1 := H) (Q := Q) (o1 := ExcD d [("place", v0)]) (o2 := ExcO (C 18) d x) hx hd
    exact q d _ hd e1 e2 e3
theorem S_NoSize_init : FnScope ["self", "size"] ["self", "size"] (defScope s_NoSize_init) := ⟨rfl, rfl, rfl, by decide +kernel, rfl, by decide +kernel, by decide +kernel⟩
theorem ok_NoSize_init {f : Addr} {fd : FuncData} (F : Fun K "__init__" "NoSize.__init__" s_NoSize_init f fd) (R : RX mg K C G) : FnOk P w K mg base CX0 1 f fd ["self", "size"] (sp_x (C 19) ["size"]) := by
  have S := S_NoSize_init
  refine F.ok S (fun vs H Q E h => ?_) (fun cdv A outer s H vs Q E hr h => ?_)
  · obtain ⟨x, ws, rfl, hl, _⟩ := h; rw [List.length_cons, hl]; rfl
  · obtain ⟨x, ws, rfl, hl, hx, q⟩ := h
    obtain ⟨v0, rfl⟩ : ∃ v0, ws = [v0] := match ws, hl with | [v0], _ => ⟨_, rfl⟩
    refine ⟨_, (pss_one (ps_xfld (pv 0) (pv 1) rfl)), ?_⟩
    refine ⟨_, rfl, _, rfl, x, C 19, rfl, R.cl 19 (by decide), R.n_NoSize_size, .inl ⟨hx, fun d hd => ?_⟩⟩
    obtain ⟨e1, e2, e3⟩ := xfin (H1 := H) (Q := Q) (o1 := ExcD d [("size", v0)]) (o2 := ExcO (C 19) d x) hx hd
    exact q d _ hd e1 e2 e3
theorem S_NoPlan_init : FnScope ["self", "want"] ["self", "want"] (defScope s_NoPlan_init) := ⟨rfl, rfl, rfl, by decide +kernel, rfl, by decide +kernel, by decide +kernel⟩
theorem ok_NoPlan_init {f : Addr} {fd : FuncData} (F : Fun K "__init__" "NoPlan.__init__" s_NoPlan_init f fd) (R : RX mg K C G) : FnOk P w K mg base CX0 1 f fd ["self", "want"] (sp_x (C 20) ["want"]) := by
  have S := S_NoPlan_init
  refine F.ok S (fun vs H Q E h => ?_) (fun cdv A outer s H vs Q E hr h => ?_)
  · obtain ⟨x, ws, rfl, hl, _⟩ := h; rw [List.length_cons, hl]; rfl
  · obtain ⟨x, ws, rfl, hl, hx, q⟩ := h
    obtain ⟨v0, rfl⟩ : ∃ v0, ws = [v0] := match ws, hl with | [v0], _ => ⟨_, rfl⟩
    refine ⟨_, (pss_one (ps_xfld (pv 0) (pv 1) rfl)), ?_⟩
    refine ⟨_, rfl, _, rfl, x, C 20, rfl, R.cl 20 (by decide), R.n_NoPlan_want, .inl ⟨hx, fun d hd => ?_⟩⟩
    obtain ⟨e1, e2, e3⟩ := xfin (H1 := H) (Q := Q) (o1 := ExcD d [("want", v0)]) (o2 := ExcO (C 20) d x) hx hd
    exact q d _ hd e1 e2 e3
theorem S_NoGlass_init : FnScope ["self", "width", "height"] ["self", "width", "height"] (defScope s_NoGlass_init) := ⟨rfl, rfl, rfl, by decide +kernel, rfl, by decide +kernel, by decide +kernel⟩
theorem ok_NoGlass_init {f : Addr} {fd : FuncData} (F : Fun K "__init__" "NoGlass.__init__" s_NoGlass_init f fd) (R : RX mg K C G) : FnOk P w K mg base CX0 1 f fd ["self", "width", "height"] (sp_x (C 21) ["width", "height"]) := by
  have S := S_NoGlass_init
  refine F.ok S (fun vs H Q E h => ?_) (fun cdv A outer s H vs Q E hr h => ?_)
  · obtain ⟨x, ws, rfl, hl, _⟩ := h; rw [List.length_cons, hl]; rfl
  · obtain ⟨x, ws, rfl, hl, hx, q⟩ := h
    obtain ⟨v0, v1, rfl⟩ : ∃ v0 v1, ws = [v0, v1] := match ws, hl with | [v0, v1], _ => ⟨_, _, rfl⟩
    refine ⟨_, (pss_cons (ps_xfld (pv 0) (pv 1) rfl)
      (pss_one (ps_xfld (pv 0) (pv 2) rfl))), ?_⟩
    refine ⟨_, rfl, _, rfl, x, C 21, rfl, R.cl 21 (by decide), R.n_NoGlass_width, .inl ⟨hx, fun d hd => ?_⟩⟩
    obtain ⟨e1, e2, e3⟩ := xfin (H1 := H) (Q := Q) (o1 := ExcD d [("width", v0)]) (o2 := ExcO (C 21) d x) hx hd
    generalize upd (upd H d (ExcD d [("width", v0)])) x (ExcO (C 21) d x) = H1 at e1 e2 e3 ⊢
    have nd : d ≠ x := Ne.symm (ne_of_none hx hd)
    have p1 : putF "height" v1 [(("width" : Str), v0)] = [(("width" : Str), v0), (("height" : Str), v1)] := by
      rw [putF, if_neg (by decide +kernel)]; rfl
    refine ⟨_, rfl, _, rfl, x, C 21, rfl, R.cl 21 (by decide), R.n_NoGlass_height, .inr ⟨d, _, e1, e2, by show 1 < 1000; decide, ?_⟩⟩
    rw [p1]
    obtain ⟨f1, f2, f3⟩ := xmore (o2 := ExcD d [(("width" : Str), v0), (("height" : Str), v1)]) hd nd e1 e3
    exact q d _ hd f1 f2 f3
theorem S_NoLine_init : FnScope ["self", "line"] ["self", "line"] (defScope s_NoLine_init) := ⟨rfl, rfl, rfl, by decide +kernel, rfl, by decide +kernel, by decide +kernel⟩
theorem ok_NoLine_init {f : Addr} {fd : FuncData} (F : Fun K "__init__" "NoLine.__init__" s_NoLine_init f fd) (R : RX mg K C G) : FnOk P w K mg base CX0 1 f fd ["self", "line"] (sp_x (C 22) ["line"]) := by
  have S := S_NoLine_init
  refine F.ok S (fun vs H Q E h => ?_) (fun cdv A outer s H vs Q E hr h => ?_)
  · obtain ⟨x, ws, rfl, hl, _⟩ := h; rw [List.length_cons, hl]; rfl
  · obtain ⟨x, ws, rfl, hl, hx, q⟩ := h
    obtain ⟨v0, rfl⟩ : ∃ v0, ws = [v0] := match ws, hl with | [v0], _ => ⟨_, rfl⟩
    refine ⟨_, (pss_one (ps_xfld (pv 0) (pv 1) rfl)), ?_⟩
    refine ⟨_, rfl, _, rfl, x, C 22, rfl, R.cl 22 (by decide), R.n_NoLine_line, .inl ⟨hx, fun d hd => ?_⟩⟩
    obtain ⟨e1, e2, e3⟩ := xfin (H1 := H) (Q := Q) (o1 := ExcD d [("line", v0)]) (o2 := ExcO (C 22) d x) hx hd
    exact q d _ hd e1 e2 e3
theorem S_NoName_init : FnScope ["self", "name"] ["self", "name"] (defScope s_NoName_init) := ⟨rfl, rfl, rfl, by decide +kernel, rfl, by decide +kernel, by decide +kernel⟩
theorem ok_NoName_init {f : Addr} {fd : FuncData} (F : Fun K "__init__" "NoName.__init__" s_NoName_init f fd) (R : RX mg K C G) : FnOk P w K mg base CX0 1 f fd ["self", "name"] (sp_x (C 23) ["name"]) := by
  have S := S_NoName_init
  refine F.ok S (fun vs H Q E h => ?_) (fun cdv A outer s H vs Q E hr h => ?_)
  · obtain ⟨x, ws, rfl, hl, _⟩ := h; rw [List.length_cons, hl]; rfl
  · obtain ⟨x, ws, rfl, hl, hx, q⟩ := h
    obtain ⟨v0, rfl⟩ : ∃ v0, ws = [v0] := match ws, hl with | [v0], _ => ⟨_, rfl⟩
    refine ⟨_, (pss_one (ps_xfld (pv 0) (pv 1) rfl)), ?_⟩
    refine ⟨_, rfl, _, rfl, x, C 23, rfl, R.cl 23 (by decide), R.n_NoName_name, .inl ⟨hx, fun d hd => ?_⟩⟩
    obtain ⟨e1, e2, e3⟩ := xfin (H1 := H) (Q := Q) (o1 := ExcD d [("name", v0)]) (o2 := ExcO (C 23) d x) hx hd
    exact q d _ hd e1 e2 e3
theorem S_law_kin : FnScope ["_law_e", "_law_some"] ["_law_e"] (defScope s__law_kin) := ⟨rfl, rfl, rfl, by decide +kernel, rfl, by decide +kernel, by decide +kernel⟩
abbrev kb (i j : Nat) : V := V.bl (decide ((j : Int) = (i : Int)))
theorem ok_law_kin {f : Addr} {fd : FuncData} (F : Fun K "_law_kin" "_law_kin" s__law_kin f fd) (T : Txt mg) (R : RX mg K C G) : FnOk P w K mg base CX0 1 f fd ["_law_e"] (sp_kin C) := by
  have S := S_law_kin
  refine F.ok S (fun vs H Q E h => ?_) (fun cdv A outer s H vs Q E hr h => ?_)
  · obtain ⟨a, i, rfl, _⟩ := h; rfl
  · obtain ⟨a, i, rfl, hi, he, q⟩ := h
    have s0 : Same H H := fun _ _ e => e
    refine ⟨_, (pss_cons (ps_set (i := 1) S.nd rfl (Or.inl rfl) (pe_lst (pa_cons (pe_callB call_isinX rfl T.z_isinstance rfl (pa_cons (pv 0) (pa_cons (pe_glob (v := .ref (C 0)) rfl R.g_NoSide rfl) pa_nil))) (pa_cons (pe_callB call_isinX rfl T.z_isinstance rfl (pa_cons (pv 0) (pa_cons (pe_glob (v := .ref (C 1)) rfl R.g_TooMany rfl) pa_nil))) (pa_cons (pe_callB call_isinX rfl T.z_isinstance rfl (pa_cons (pv 0) (pa_cons (pe_glob (v := .ref (C 2)) rfl R.g_NoPane rfl) pa_nil))) (pa_cons (pe_callB call_isinX rfl T.z_isinstance rfl (pa_cons (pv 0) (pa_cons (pe_glob (v := .ref (C 3)) rfl R.g_Overlap rfl) pa_nil))) pa_nil))))))
      (pss_cons (ps_set (i := 1) S.nd rfl (Or.inl rfl) (pe_op op_cat (pv 1) (pe_lst (pa_cons (pe_callB call_isinX rfl T.z_isinstance rfl (pa_cons (pv 0) (pa_cons (pe_glob (v := .ref (C 4)) rfl R.g_Bare rfl) pa_nil))) (pa_cons (pe_callB call_isinX rfl T.z_isinstance rfl (pa_cons (pv 0) (pa_cons (pe_glob (v := .ref (C 5)) rfl R.g_NoDrawing rfl) pa_nil))) (pa_cons (pe_callB call_isinX rfl T.z_isinstance rfl (pa_cons (pv 0) (pa_cons (pe_glob (v := .ref (C 6)) rfl R.g_Ragged rfl) pa_nil))) (pa_cons (pe_callB call_isinX rfl T.z_isinstance rfl (pa_cons (pv 0) (pa_cons (pe_glob (v := .ref (C 7)) rfl R.g_NoCut rfl) pa_nil))) pa_nil)))))))
      (pss_cons (ps_set (i := 1) S.nd rfl (Or.inl rfl) (pe_op op_cat (pv 1) (pe_lst (pa_cons (pe_callB call_isinX rfl T.z_isinstance rfl (pa_cons (pv 0) (pa_cons (pe_glob (v := .ref (C 8)) rfl R.g_NoTree rfl) pa_nil))) (pa_cons (pe_callB call_isinX rfl T.z_isinstance rfl (pa_cons (pv 0) (pa_cons (pe_glob (v := .ref (C 9)) rfl R.g_NoBlock rfl) pa_nil))) (pa_cons (pe_callB call_isinX rfl T.z_isinstance rfl (pa_cons (pv 0) (pa_cons (pe_glob (v := .ref (C 10)) rfl R.g_Stuck rfl) pa_nil))) (pa_cons (pe_callB call_isinX rfl T.z_isinstance rfl (pa_cons (pv 0) (pa_cons (pe_glob (v := .ref (C 11)) rfl R.g_NoMove rfl) pa_nil))) pa_nil)))))))
      (pss_cons (ps_set (i := 1) S.nd rfl (Or.inl rfl) (pe_op op_cat (pv 1) (pe_lst (pa_cons (pe_callB call_isinX rfl T.z_isinstance rfl (pa_cons (pv 0) (pa_cons (pe_glob (v := .ref (C 12)) rfl R.g_Unlike rfl) pa_nil))) (pa_cons (pe_callB call_isinX rfl T.z_isinstance rfl (pa_cons (pv 0) (pa_cons (pe_glob (v := .ref (C 13)) rfl R.g_NoNumber rfl) pa_nil))) (pa_cons (pe_callB call_isinX rfl T.z_isinstance rfl (pa_cons (pv 0) (pa_cons (pe_glob (v := .ref (C 14)) rfl R.g_NoKind rfl) pa_nil))) (pa_cons (pe_callB call_isinX rfl T.z_isinstance rfl (pa_cons (pv 0) (pa_cons (pe_glob (v := .ref (C 15)) rfl R.g_Unfit rfl) pa_nil))) pa_nil)))))))
      (pss_cons (ps_set (i := 1) S.nd rfl (Or.inl rfl) (pe_op op_cat (pv 1) (pe_lst (pa_cons (pe_callB call_isinX rfl T.z_isinstance rfl (pa_cons (pv 0) (pa_cons (pe_glob (v := .ref (C 16)) rfl R.g_NoFlaw rfl) pa_nil))) (pa_cons (pe_callB call_isinX rfl T.z_isinstance rfl (pa_cons (pv 0) (pa_cons (pe_glob (v := .ref (C 17)) rfl R.g_NoWant rfl) pa_nil))) (pa_cons (pe_callB call_isinX rfl T.z_isinstance rfl (pa_cons (pv 0) (pa_cons (pe_glob (v := .ref (C 18)) rfl R.g_NoSheet rfl) pa_nil))) (pa_cons (pe_callB call_isinX rfl T.z_isinstance rfl (pa_cons (pv 0) (pa_cons (pe_glob (v := .ref (C 19)) rfl R.g_NoSize rfl) pa_nil))) pa_nil)))))))
      (pss_one (ps_ret (pe_op op_cat (pv 1) (pe_lst (pa_cons (pe_callB call_isinX rfl T.z_isinstance rfl (pa_cons (pv 0) (pa_cons (pe_glob (v := .ref (C 20)) rfl R.g_NoPlan rfl) pa_nil))) (pa_cons (pe_callB call_isinX rfl T.z_isinstance rfl (pa_cons (pv 0) (pa_cons (pe_glob (v := .ref (C 21)) rfl R.g_NoGlass rfl) pa_nil))) (pa_cons (pe_callB call_isinX rfl T.z_isinstance rfl (pa_cons (pv 0) (pa_cons (pe_glob (v := .ref (C 22)) rfl R.g_NoLine rfl) pa_nil))) (pa_cons (pe_callB call_isinX rfl T.z_isinstance rfl (pa_cons (pv 0) (pa_cons (pe_glob (v := .ref (C 23)) rfl R.g_NoName rfl) pa_nil))) pa_nil))))))))))))), ?_⟩
    refine ⟨_, rfl, a, C i, .ref (C 0), .ref (C 0), _, rfl, (he.same s0), R.cl i hi, rfl, fun _ z => z, R.kt i 0 hi (by decide), _, rfl, a, C i, .ref (C 1), .ref (C 1), _, rfl, (he.same s0), R.cl i hi, rfl, fun _ z => z, R.kt i 1 hi (by decide), _, rfl, a, C i, .ref (C 2), .ref (C 2), _, rfl, (he.same s0), R.cl i hi, rfl, fun _ z => z, R.kt i 2 hi (by decide), _, rfl, a, C i, .ref (C 3), .ref (C 3), _, rfl, (he.same s0), R.cl i hi, rfl, fun _ z => z, R.kt i 3 hi (by decide), lenOk 4, fun l0 hl0 => ?_⟩
    have s1 : Same H (upd H l0 (.lst [kb i 0, kb i 1, kb i 2, kb i 3])) := Same.new hl0
    have e1 : (upd H l0 (.lst [kb i 0, kb i 1, kb i 2, kb i 3])) l0 = some (.lst [kb i 0, kb i 1, kb i 2, kb i 3]) := upd_same
    generalize upd H l0 (.lst [kb i 0, kb i 1, kb i 2, kb i 3]) = H1 at s1 e1 ⊢
    refine ⟨_, rfl, _, rfl, a, C i, .ref (C 4), .ref (C 4), _, rfl, (he.same s1), R.cl i hi, rfl, fun _ z => z, R.kt i 4 hi (by decide), _, rfl, a, C i, .ref (C 5), .ref (C 5), _, rfl, (he.same s1), R.cl i hi, rfl, fun _ z => z, R.kt i 5 hi (by decide), _, rfl, a, C i, .ref (C 6), .ref (C 6), _, rfl, (he.same s1), R.cl i hi, rfl, fun _ z => z, R.kt i 6 hi (by decide), _, rfl, a, C i, .ref (C 7), .ref (C 7), _, rfl, (he.same s1), R.cl i hi, rfl, fun _ z => z, R.kt i 7 hi (by decide), lenOk 4, fun m1 hm1 => ⟨l0, m1, [kb i 0, kb i 1, kb i 2, kb i 3], [kb i 4, kb i 5, kb i 6, kb i 7], rfl, rfl, Same.new hm1 _ _ e1, upd_same, by show _ ≤ _; exact lenOk (xs := [kb i 0, kb i 1, kb i 2, kb i 3, kb i 4, kb i 5, kb i 6, kb i 7]) 8, fun l1 hl1 => ?_⟩⟩
    have s2 : Same H (upd (upd H1 m1 (.lst [kb i 4, kb i 5, kb i 6, kb i 7])) l1 (.lst ([kb i 0, kb i 1, kb i 2, kb i 3] ++ [kb i 4, kb i 5, kb i 6, kb i 7]))) := s1.trans ((Same.new hm1).trans (Same.new hl1))
    have e2 : (upd (upd H1 m1 (.lst [kb i 4, kb i 5, kb i 6, kb i 7])) l1 (.lst ([kb i 0, kb i 1, kb i 2, kb i 3] ++ [kb i 4, kb i 5, kb i 6, kb i 7]))) l1 = some (.lst [kb i 0, kb i 1, kb i 2, kb i 3, kb i 4, kb i 5, kb i 6, kb i 7]) := upd_same
    generalize upd (upd H1 m1 (.lst [kb i 4, kb i 5, kb i 6, kb i 7])) l1 (.lst ([kb i 0, kb i 1, kb i 2, kb i 3] ++ [kb i 4, kb i 5, kb i 6, kb i 7])) = H2 at s2 e2 ⊢
    refine ⟨_, rfl, _, rfl, a, C i, .ref (C 8), .ref (C 8), _, rfl, (he.same s2), R.cl i hi, rfl, fun _ z => z, R.kt i 8 hi (by decide), _, rfl, a, C i, .ref (C 9), .ref (C 9), _, rfl, (he.same s2), R.cl i hi, rfl, fun _ z => z, R.kt i 9 hi (by decide), _, rfl, a, C i, .ref (C 10), .ref (C 10), _, rfl, (he.same s2), R.cl i hi, rfl, fun _ z => z, R.kt i 10 hi (by decide), _, rfl, a, C i, .ref (C 11), .ref (C 11), _, rfl, (he.same s2), R.cl i hi, rfl, fun _ z => z, R.kt i 11 hi (by decide), lenOk 4, fun m2 hm2 => ⟨l1, m2, [kb i 0, kb i 1, kb i 2, kb i 3, kb i 4, kb i 5, kb i 6, kb i 7], [kb i 8, kb i 9, kb i 10, kb i 11], rfl, rfl, Same.new hm2 _ _ e2, upd_same, by show _ ≤ _; exact lenOk (xs := [kb i 0, kb i 1, kb i 2, kb i 3, kb i 4, kb i 5, kb i 6, kb i 7, kb i 8, kb i 9, kb i 10, kb i 11]) 12, fun l2 hl2 => ?_⟩⟩
    have s3 : Same H (upd (upd H2 m2 (.lst [kb i 8, kb i 9, kb i 10, kb i 11])) l2 (.lst ([kb i 0, kb i 1, kb i 2, kb i 3, kb i 4, kb i 5, kb i 6, kb i 7] ++ [kb i 8, kb i 9, kb i 10, kb i 11]))) := s2.trans ((Same.new hm2).trans (Same.new hl2))
    have e3 : (upd (upd H2 m2 (.lst [kb i 8, kb i 9, kb i 10, kb i 11])) l2 (.lst ([kb i 0, kb i 1, kb i 2, kb i 3, kb i 4, kb i 5, kb i 6, kb i 7] ++ [kb i 8, kb i 9, kb i 10, kb i 11]))) l2 = some (.lst [kb i 0, kb i 1, kb i 2, kb i 3, kb i 4, kb i 5, kb i 6, kb i 7, kb i 8, kb i 9, kb i 10, kb i 11]) := upd_same
    generalize upd (upd H2 m2 (.lst [kb i 8, kb i 9, kb i 10, kb i 11])) l2 (.lst ([kb i 0, kb i 1, kb i 2, kb i 3, kb i 4, kb i 5, kb i 6, kb i 7] ++ [kb i 8, kb i 9, kb i 10, kb i 11])) = H3 at s3 e3 ⊢
    refine ⟨_, rfl, _, rfl, a, C i, .ref (C 12), .ref (C 12), _, rfl, (he.same s3), R.cl i hi, rfl, fun _ z => z, R.kt i 12 hi (by decide), _, rfl, a, C i, .ref (C 13), .ref (C 13), _, rfl, (he.same s3), R.cl i hi, rfl, fun _ z => z, R.kt i 13 hi (by decide), _, rfl, a, C i, .ref (C 14), .ref (C 14), _, rfl, (he.same s3), R.cl i hi, rfl, fun _ z => z, R.kt i 14 hi (by decide), _, rfl, a, C i, .ref (C 15), .ref (C 15), _, rfl, (he.same s3), R.cl i hi, rfl, fun _ z => z, R.kt i 15 hi (by decide), lenOk 4, fun m3 hm3 => ⟨l2, m3, [kb i 0, kb i 1, kb i 2, kb i 3, kb i 4, kb i 5, kb i 6, kb i 7, kb i 8, kb i 9, kb i 10, kb i 11], [kb i 12, kb i 13, kb i 14, kb i 15], rfl, rfl, Same.new hm3 _ _ e3, upd_same, by show _ ≤ _; exact lenOk (xs := [kb i 0, kb i 1, kb i 2, kb i 3, kb i 4, kb i 5, kb i 6, kb i 7, kb i 8, kb i 9, kb i 10, kb i 11, kb i 12, kb i 13, kb i 14, kb i 15]) 16, fun l3 hl3 => ?_⟩⟩
    have s4 : Same H (upd (upd H3 m3 (.lst [kb i 12, kb i 13, kb i 14, kb i 15])) l3 (.lst ([kb i 0, kb i 1, kb i 2, kb i 3, kb i 4, kb i 5, kb i 6, kb i 7, kb i 8, kb i 9, kb i 10, kb i 11] ++ [kb i 12, kb i 13, kb i 14, kb i 15]))) := s3.trans ((Same.new hm3).trans (Same.new hl3))
    have e4 : (upd (upd H3 m3 (.lst [kb i 12, kb i 13, kb i 14, kb i 15])) l3 (.lst ([kb i 0, kb i 1, kb i 2, kb i 3, kb i 4, kb i 5, kb i 6, kb i 7, kb i 8, kb i 9, kb i 10, kb i 11] ++ [kb i 12, kb i 13, kb i 14, kb i 15]))) l3 = some (.lst [kb i 0, kb i 1, kb i 2, kb i 3, kb i 4, kb i 5, kb i 6, kb i 7, kb i 8, kb i 9, kb i 10, kb i 11, kb i 12, kb i 13, kb i 14, kb i 15]) := upd_same
    generalize upd (upd H3 m3 (.lst [kb i 12, kb i 13, kb i 14, kb i 15])) l3 (.lst ([kb i 0, kb i 1, kb i 2, kb i 3, kb i 4, kb i 5, kb i 6, kb i 7, kb i 8, kb i 9, kb i 10, kb i 11] ++ [kb i 12, kb i 13, kb i 14, kb i 15])) = H4 at s4 e4 ⊢
    refine ⟨_, rfl, _, rfl, a, C i, .ref (C 16), .ref (C 16), _, rfl, (he.same s4), R.cl i hi, rfl, fun _ z => z, R.kt i 16 hi (by decide), _, rfl, a, C i, .ref (C 17), .ref (C 17), _, rfl, (he.same s4), R.cl i hi, rfl, fun _ z => z, R.kt i 17 hi (by decide), _, rfl, a, C i, .ref (C 18), .ref (C 18), _, rfl, (he.same s4), R.cl i hi, rfl, fun _ z => z, R.kt i 18 hi (by decide), _, rfl, a, C i, .ref (C 19), .ref (C 19), _, rfl, (he.same s4), R.cl i hi, rfl, fun _ z => z, R.kt i 19 hi (by decide), lenOk 4, fun m4 hm4 => ⟨l3, m4, [kb i 0, kb i 1, kb i 2, kb i 3, kb i 4, kb i 5, kb i 6, kb i 7, kb i 8, kb i 9, kb i 10, kb i 11, kb i 12, kb i 13, kb i 14, kb i 15], [kb i 16, kb i 17, kb i 18, kb i 19], rfl, rfl, Same.new hm4 _ _ e4, upd_same, by show _ ≤ _; exact lenOk (xs := [kb i 0, kb i 1, kb i 2, kb i 3, kb i 4, kb i 5, kb i 6, kb i 7, kb i 8, kb i 9, kb i 10, kb i 11, kb i 12, kb i 13, kb i 14, kb i 15, kb i 16, kb i 17, kb i 18, kb i 19]) 20, fun l4 hl4 => ?_⟩⟩
    have s5 : Same H (upd (upd H4 m4 (.lst [kb i 16, kb i 17, kb i 18, kb i 19])) l4 (.lst ([kb i 0, kb i 1, kb i 2, kb i 3, kb i 4, kb i 5, kb i 6, kb i 7, kb i 8, kb i 9, kb i 10, kb i 11, kb i 12, kb i 13, kb i 14, kb i 15] ++ [kb i 16, kb i 17, kb i 18, kb i 19]))) := s4.trans ((Same.new hm4).trans (Same.new hl4))
    have e5 : (upd (upd H4 m4 (.lst [kb i 16, kb i 17, kb i 18, kb i 19])) l4 (.lst ([kb i 0, kb i 1, kb i 2, kb i 3, kb i 4, kb i 5, kb i 6, kb i 7, kb i 8, kb i 9, kb i 10, kb i 11, kb i 12, kb i 13, kb i 14, kb i 15] ++ [kb i 16, kb i 17, kb i 18, kb i 19]))) l4 = some (.lst [kb i 0, kb i 1, kb i 2, kb i 3, kb i 4, kb i 5, kb i 6, kb i 7, kb i 8, kb i 9, kb i 10, kb i 11, kb i 12, kb i 13, kb i 14, kb i 15, kb i 16, kb i 17, kb i 18, kb i 19]) := upd_same
    generalize upd (upd H4 m4 (.lst [kb i 16, kb i 17, kb i 18, kb i 19])) l4 (.lst ([kb i 0, kb i 1, kb i 2, kb i 3, kb i 4, kb i 5, kb i 6, kb i 7, kb i 8, kb i 9, kb i 10, kb i 11, kb i 12, kb i 13, kb i 14, kb i 15] ++ [kb i 16, kb i 17, kb i 18, kb i 19])) = H5 at s5 e5 ⊢
    refine ⟨_, rfl, _, rfl, a, C i, .ref (C 20), .ref (C 20), _, rfl, (he.same s5), R.cl i hi, rfl, fun _ z => z, R.kt i 20 hi (by decide), _, rfl, a, C i, .ref (C 21), .ref (C 21), _, rfl, (he.same s5), R.cl i hi, rfl, fun _ z => z, R.kt i 21 hi (by decide), _, rfl, a, C i, .ref (C 22), .ref (C 22), _, rfl, (he.same s5), R.cl i hi, rfl, fun _ z => z, R.kt i 22 hi (by decide), _, rfl, a, C i, .ref (C 23), .ref (C 23), _, rfl, (he.same s5), R.cl i hi, rfl, fun _ z => z, R.kt i 23 hi (by decide), lenOk 4, fun m5 hm5 => ⟨l4, m5, [kb i 0, kb i 1, kb i 2, kb i 3, kb i 4, kb i 5, kb i 6, kb i 7, kb i 8, kb i 9, kb i 10, kb i 11, kb i 12, kb i 13, kb i 14, kb i 15, kb i 16, kb i 17, kb i 18, kb i 19], [kb i 20, kb i 21, kb i 22, kb i 23], rfl, rfl, Same.new hm5 _ _ e5, upd_same, by show _ ≤ _; exact lenOk (xs := [kb i 0, kb i 1, kb i 2, kb i 3, kb i 4, kb i 5, kb i 6, kb i 7, kb i 8, kb i 9, kb i 10, kb i 11, kb i 12, kb i 13, kb i 14, kb i 15, kb i 16, kb i 17, kb i 18, kb i 19, kb i 20, kb i 21, kb i 22, kb i 23]) 24, fun l5 hl5 => ?_⟩⟩
    exact q l5 _ (s5.trans ((Same.new hm5).trans (Same.new hl5))) upd_same
abbrev XK1 (P : Program) (w : World) (K : PySem.W.Frag) (mg : Str → Option Value) (base : Heap) (C : Nat → Addr) (i : Nat) (x : Str) (names : List Str) : Prop := XMkOk P w K mg base 1 x (C i) ("self" :: names) names
/-- all of them can be made -/
structure XS (P : Program) (w : World) (K : PySem.W.Frag) (mg : Str → Option Value) (base : Heap) (C : Nat → Addr) : Prop where
  x_NoSide : XK1 P w K mg base C 0 "NoSide" ["side"]
  x_TooMany : XK1 P w K mg base C 1 "TooMany" ["many"]
  x_NoPane : XK1 P w K mg base C 2 "NoPane" ["place"]
  x_Overlap : XK1 P w K mg base C 3 "Overlap" ["place"]
  x_Bare : XK1 P w K mg base C 4 "Bare" ["square"]
  x_NoDrawing : XK1 P w K mg base C 5 "NoDrawing" ["drawing"]
  x_Ragged : XK1 P w K mg base C 6 "Ragged" ["letter"]
  x_NoCut : XK1 P w K mg base C 7 "NoCut" ["at"]
  x_NoTree : XK1 P w K mg base C 8 "NoTree" ["place"]
  x_NoBlock : XK1 P w K mg base C 9 "NoBlock" ["block"]
  x_Stuck : XK1 P w K mg base C 10 "Stuck" ["room", "breaks", "leads"]
  x_NoMove : XK1 P w K mg base C 11 "NoMove" ["steps"]
  x_Unlike : XMk0 K mg "Unlike" (C 12)
  x_NoNumber : XK1 P w K mg base C 13 "NoNumber" ["number"]
  x_NoKind : XK1 P w K mg base C 14 "NoKind" ["place"]
  x_Unfit : XK1 P w K mg base C 15 "Unfit" ["piece"]
  x_NoFlaw : XK1 P w K mg base C 16 "NoFlaw" ["place"]
  x_NoWant : XK1 P w K mg base C 17 "NoWant" ["place"]
  x_NoSheet : XK1 P w K mg base C 18 "NoSheet" ["place"]
  x_NoSize : XK1 P w K mg base C 19 "NoSize" ["size"]
  x_NoPlan : XK1 P w K mg base C 20 "NoPlan" ["want"]
  x_NoGlass : XK1 P w K mg base C 21 "NoGlass" ["width", "height"]
  x_NoLine : XK1 P w K mg base C 22 "NoLine" ["line"]
  x_NoName : XK1 P w K mg base C 23 "NoName" ["name"]
theorem S_law_made : FnScope ["_law_number", "_law_text_here", "_law_block", "_law_some", "_law_made_here"] ["_law_number", "_law_text_here", "_law_block", "_law_some"] (defScope s__law_made) := ⟨rfl, rfl, rfl, by decide +kernel, rfl, by decide +kernel, by decide +kernel⟩
theorem ok_law_made {f : Addr} {fd : FuncData} (F : Fun K "_law_made" "_law_made" s__law_made f fd) (W : XS P w K mg base C) : FnOk P w K mg base CX0 3 f fd ["_law_number", "_law_text_here", "_law_block", "_law_some"] (sp_made C) := by
  have S := S_law_made
  have X_NoSide := W.x_NoSide
  have X_TooMany := W.x_TooMany
  have X_NoPane := W.x_NoPane
  have X_Overlap := W.x_Overlap
  have X_Bare := W.x_Bare
  have X_NoDrawing := W.x_NoDrawing
  have X_Ragged := W.x_Ragged
  have X_NoCut := W.x_NoCut
  have X_NoTree := W.x_NoTree
  have X_NoBlock := W.x_NoBlock
  have X_Stuck := W.x_Stuck
  have X_NoMove := W.x_NoMove
  have X_Unlike := W.x_Unlike
  have X_NoNumber := W.x_NoNumber
  have X_NoKind := W.x_NoKind
  have X_Unfit := W.x_Unfit
  have X_NoFlaw := W.x_NoFlaw
  have X_NoWant := W.x_NoWant
  have X_NoSheet := W.x_NoSheet
  have X_NoSize := W.x_NoSize
  have X_NoPlan := W.x_NoPlan
  have X_NoGlass := W.x_NoGlass
  have X_NoLine := W.x_NoLine
  have X_NoName := W.x_NoName
  refine F.ok S (fun vs H Q E h => ?_) (fun cdv A outer s H vs Q E hr h => ?_)
  · obtain ⟨n, z, b, ls, t, l, o, r, xs, rfl, _⟩ := h; rfl
  · obtain ⟨n, z, b, ls, t, l, o, r, xs, rfl, hb, hls, q⟩ := h
    refine ⟨_, (pss_cons (ps_set (i := 4) S.nd rfl (Or.inl rfl) (pe_lst (pa_cons (pe_xmk X_NoSide hr (pa_cons (pv 0) pa_nil)) (pa_cons (pe_xmk X_TooMany hr (pa_cons (pv 0) pa_nil)) (pa_cons (pe_xmk X_NoPane hr (pa_cons (pv 0) pa_nil)) (pa_cons (pe_xmk X_Overlap hr (pa_cons (pv 0) pa_nil)) (pa_cons (pe_xmk X_Bare hr (pa_cons (pe_slice sl_tup (pv 2) po_none (po_some pe_int)) pa_nil)) (pa_cons (pe_xmk X_NoDrawing hr (pa_cons (pv 1) pa_nil)) pa_nil))))))))
      (pss_cons (ps_set (i := 4) S.nd rfl (Or.inl rfl) (pe_op op_cat (pv 4) (pe_lst (pa_cons (pe_xmk X_Ragged hr (pa_cons (pv 1) pa_nil)) (pa_cons (pe_xmk X_NoCut hr (pa_cons (pv 0) pa_nil)) (pa_cons (pe_xmk X_NoTree hr (pa_cons (pv 0) pa_nil)) (pa_cons (pe_xmk X_NoBlock hr (pa_cons (pv 2) pa_nil)) (pa_cons (pe_xmk X_Stuck hr (pa_cons (pv 2) (pa_cons (pv 3) (pa_cons (pe_slice sl_list (pv 3) po_none (po_some pe_int)) pa_nil)))) pa_nil))))))))
      (pss_cons (ps_set (i := 4) S.nd rfl (Or.inl rfl) (pe_op op_cat (pv 4) (pe_lst (pa_cons (pe_xmk X_NoMove hr (pa_cons (pv 2) pa_nil)) (pa_cons (pe_xmk0 X_Unlike) (pa_cons (pe_xmk X_NoNumber hr (pa_cons (pv 0) pa_nil)) (pa_cons (pe_xmk X_NoKind hr (pa_cons (pv 0) pa_nil)) (pa_cons (pe_xmk X_Unfit hr (pa_cons (pe_tup (pa_cons (pv 2) (pa_cons pe_non pa_nil))) pa_nil)) (pa_cons (pe_xmk X_NoFlaw hr (pa_cons (pv 0) pa_nil)) pa_nil)))))))))
      (pss_cons (ps_set (i := 4) S.nd rfl (Or.inl rfl) (pe_op op_cat (pv 4) (pe_lst (pa_cons (pe_xmk X_NoWant hr (pa_cons (pv 0) pa_nil)) (pa_cons (pe_xmk X_NoSheet hr (pa_cons (pv 0) pa_nil)) (pa_cons (pe_xmk X_NoSize hr (pa_cons (pe_slice sl_tup (pv 2) (po_some pe_int) po_none) pa_nil)) (pa_cons (pe_xmk X_NoPlan hr (pa_cons (pv 0) pa_nil)) (pa_cons (pe_xmk X_NoGlass hr (pa_cons (pv 0) (pa_cons (pe_op op_add (pv 0) pe_int) pa_nil))) pa_nil))))))))
      (pss_one (ps_ret (pe_op op_cat (pv 4) (pe_lst (pa_cons (pe_xmk X_NoLine hr (pa_cons (pv 1) pa_nil)) (pa_cons (pe_xmk X_NoName hr (pa_cons (pv 1) pa_nil)) pa_nil)))))))))), ?_⟩
    have u0 : Same H H := fun _ _ e => e
    refine ⟨_, rfl, rfl, fun x0 H1 s1 o0 => ?_⟩
    have u1 := u0.trans s1
    refine ⟨_, rfl, rfl, fun x1 H2 s2 o1 => ?_⟩
    have u2 := u1.trans s2
    refine ⟨_, rfl, rfl, fun x2 H3 s3 o2 => ?_⟩
    have u3 := u2.trans s3
    refine ⟨_, rfl, rfl, fun x3 H4 s4 o3 => ?_⟩
    have u4 := u3.trans s4
    refine ⟨_, rfl, 2, rfl, b, four t l o r, rfl, SqT.of (u4 _ _ hb), by simp [HT.sIx], fun b2 hb2 => ?_⟩
    have s5 : Same H4 (upd H4 b2 (.tup (cutV (four t l o r) none (some 2)))) := Same.new hb2
    have eb2 : (upd H4 b2 (.tup (cutV (four t l o r) none (some 2)))) b2 = some (.tup (cutV (four t l o r) none (some 2))) := upd_same
    generalize upd H4 b2 (.tup (cutV (four t l o r) none (some 2))) = H5 at s5 eb2 ⊢
    have u5 := u4.trans s5
    refine ⟨rfl, fun x4 H6 s6 o4 => ?_⟩
    have u6 := u5.trans s6
    refine ⟨_, rfl, rfl, fun x5 H7 s7 o5 => ?_⟩
    have u7 := u6.trans s7
    refine ⟨lenOk 6, fun L0 hL0 => ?_⟩
    have s8 : Same H7 (upd H7 L0 (.lst [V.ref x0, V.ref x1, V.ref x2, V.ref x3, V.ref x4, V.ref x5])) := Same.new hL0
    have eL0 : (upd H7 L0 (.lst [V.ref x0, V.ref x1, V.ref x2, V.ref x3, V.ref x4, V.ref x5])) L0 = some (.lst [V.ref x0, V.ref x1, V.ref x2, V.ref x3, V.ref x4, V.ref x5]) := upd_same
    generalize upd H7 L0 (.lst [V.ref x0, V.ref x1, V.ref x2, V.ref x3, V.ref x4, V.ref x5]) = H8 at s8 eL0 ⊢
    have u8 := u7.trans s8
    refine ⟨_, rfl, _, rfl, rfl, fun x6 H9 s9 o6 => ?_⟩
    have u9 := u8.trans s9
    refine ⟨_, rfl, rfl, fun x7 H10 s10 o7 => ?_⟩
    have u10 := u9.trans s10
    refine ⟨_, rfl, rfl, fun x8 H11 s11 o8 => ?_⟩
    have u11 := u10.trans s11
    refine ⟨_, rfl, rfl, fun x9 H12 s12 o9 => ?_⟩
    have u12 := u11.trans s12
    refine ⟨_, rfl, _, rfl, _, rfl, 4, rfl, ls, xs, rfl, SqL.of (u12 _ _ hls), fun l4 hl4 => ?_⟩
    have s13 : Same H12 (upd H12 l4 (.lst (cutV xs none (some 4)))) := Same.new hl4
    have el4 : (upd H12 l4 (.lst (cutV xs none (some 4)))) l4 = some (.lst (cutV xs none (some 4))) := upd_same
    generalize upd H12 l4 (.lst (cutV xs none (some 4))) = H13 at s13 el4 ⊢
    have u13 := u12.trans s13
    refine ⟨rfl, fun x10 H14 s14 o10 => ?_⟩
    have u14 := u13.trans s14
    refine ⟨lenOk 5, fun m1 hm1 => ?_⟩
    have cL : H14 L0 = some _ := s14 _ _ (s13 _ _ (s12 _ _ (s11 _ _ (s10 _ _ (s9 _ _ (eL0))))))
    have s15 : Same H14 (upd H14 m1 (.lst [V.ref x6, V.ref x7, V.ref x8, V.ref x9, V.ref x10])) := Same.new hm1
    have em1 : (upd H14 m1 (.lst [V.ref x6, V.ref x7, V.ref x8, V.ref x9, V.ref x10])) m1 = some (.lst [V.ref x6, V.ref x7, V.ref x8, V.ref x9, V.ref x10]) := upd_same
    generalize upd H14 m1 (.lst [V.ref x6, V.ref x7, V.ref x8, V.ref x9, V.ref x10]) = H15 at s15 em1 ⊢
    have u15 := u14.trans s15
    refine ⟨L0, m1, [V.ref x0, V.ref x1, V.ref x2, V.ref x3, V.ref x4, V.ref x5], [V.ref x6, V.ref x7, V.ref x8, V.ref x9, V.ref x10], rfl, rfl, s15 _ _ cL, em1, by show _ ≤ _; exact lenOk (xs := [V.ref x0, V.ref x1, V.ref x2, V.ref x3, V.ref x4, V.ref x5, V.ref x6, V.ref x7, V.ref x8, V.ref x9, V.ref x10]) 11, fun L1 hL1 => ?_⟩
    clear cL
    have s16 : Same H15 (upd H15 L1 (.lst ([V.ref x0, V.ref x1, V.ref x2, V.ref x3, V.ref x4, V.ref x5] ++ [V.ref x6, V.ref x7, V.ref x8, V.ref x9, V.ref x10]))) := Same.new hL1
    have eL1 : (upd H15 L1 (.lst ([V.ref x0, V.ref x1, V.ref x2, V.ref x3, V.ref x4, V.ref x5] ++ [V.ref x6, V.ref x7, V.ref x8, V.ref x9, V.ref x10]))) L1 = some (.lst ([V.ref x0, V.ref x1, V.ref x2, V.ref x3, V.ref x4, V.ref x5] ++ [V.ref x6, V.ref x7, V.ref x8, V.ref x9, V.ref x10])) := upd_same
    generalize upd H15 L1 (.lst ([V.ref x0, V.ref x1, V.ref x2, V.ref x3, V.ref x4, V.ref x5] ++ [V.ref x6, V.ref x7, V.ref x8, V.ref x9, V.ref x10])) = H16 at s16 eL1 ⊢
    have u16 := u15.trans s16
    refine ⟨_, rfl, _, rfl, rfl, fun x11 H17 s17 o11 => ?_⟩
    have u17 := u16.trans s17
    refine fun x12 H18 s18 o12 => ?_
    have u18 := u17.trans s18
    refine ⟨_, rfl, rfl, fun x13 H19 s19 o13 => ?_⟩
    have u19 := u18.trans s19
    refine ⟨_, rfl, rfl, fun x14 H20 s20 o14 => ?_⟩
    have u20 := u19.trans s20
    refine ⟨_, rfl, lenOk 2, fun pc hpc => ?_⟩
    have s21 : Same H20 (upd H20 pc (.tup [.ref b, .non])) := Same.new hpc
    have epc : (upd H20 pc (.tup [.ref b, .non])) pc = some (.tup [.ref b, .non]) := upd_same
    generalize upd H20 pc (.tup [.ref b, .non]) = H21 at s21 epc ⊢
    have u21 := u20.trans s21
    refine ⟨rfl, fun x15 H22 s22 o15 => ?_⟩
    have u22 := u21.trans s22
    refine ⟨_, rfl, rfl, fun x16 H23 s23 o16 => ?_⟩
    have u23 := u22.trans s23
    refine ⟨lenOk 6, fun m2 hm2 => ?_⟩
    have cL : H23 L1 = some _ := s23 _ _ (s22 _ _ (s21 _ _ (s20 _ _ (s19 _ _ (s18 _ _ (s17 _ _ (eL1)))))))
    have s24 : Same H23 (upd H23 m2 (.lst [V.ref x11, V.ref x12, V.ref x13, V.ref x14, V.ref x15, V.ref x16])) := Same.new hm2
    have em2 : (upd H23 m2 (.lst [V.ref x11, V.ref x12, V.ref x13, V.ref x14, V.ref x15, V.ref x16])) m2 = some (.lst [V.ref x11, V.ref x12, V.ref x13, V.ref x14, V.ref x15, V.ref x16]) := upd_same
    generalize upd H23 m2 (.lst [V.ref x11, V.ref x12, V.ref x13, V.ref x14, V.ref x15, V.ref x16]) = H24 at s24 em2 ⊢
    have u24 := u23.trans s24
    refine ⟨L1, m2, [V.ref x0, V.ref x1, V.ref x2, V.ref x3, V.ref x4, V.ref x5, V.ref x6, V.ref x7, V.ref x8, V.ref x9, V.ref x10], [V.ref x11, V.ref x12, V.ref x13, V.ref x14, V.ref x15, V.ref x16], rfl, rfl, s24 _ _ cL, em2, by show _ ≤ _; exact lenOk (xs := [V.ref x0, V.ref x1, V.ref x2, V.ref x3, V.ref x4, V.ref x5, V.ref x6, V.ref x7, V.ref x8, V.ref x9, V.ref x10, V.ref x11, V.ref x12, V.ref x13, V.ref x14, V.ref x15, V.ref x16]) 17, fun L2 hL2 => ?_⟩
    clear cL
    have s25 : Same H24 (upd H24 L2 (.lst ([V.ref x0, V.ref x1, V.ref x2, V.ref x3, V.ref x4, V.ref x5, V.ref x6, V.ref x7, V.ref x8, V.ref x9, V.ref x10] ++ [V.ref x11, V.ref x12, V.ref x13, V.ref x14, V.ref x15, V.ref x16]))) := Same.new hL2
    have eL2 : (upd H24 L2 (.lst ([V.ref x0, V.ref x1, V.ref x2, V.ref x3, V.ref x4, V.ref x5, V.ref x6, V.ref x7, V.ref x8, V.ref x9, V.ref x10] ++ [V.ref x11, V.ref x12, V.ref x13, V.ref x14, V.ref x15, V.ref x16]))) L2 = some (.lst ([V.ref x0, V.ref x1, V.ref x2, V.ref x3, V.ref x4, V.ref x5, V.ref x6, V.ref x7, V.ref x8, V.ref x9, V.ref x10] ++ [V.ref x11, V.ref x12, V.ref x13, V.ref x14, V.ref x15, V.ref x16])) := upd_same
    generalize upd H24 L2 (.lst ([V.ref x0, V.ref x1, V.ref x2, V.ref x3, V.ref x4, V.ref x5, V.ref x6, V.ref x7, V.ref x8, V.ref x9, V.ref x10] ++ [V.ref x11, V.ref x12, V.ref x13, V.ref x14, V.ref x15, V.ref x16])) = H25 at s25 eL2 ⊢
    have u25 := u24.trans s25
    refine ⟨_, rfl, _, rfl, rfl, fun x17 H26 s26 o17 => ?_⟩
    have u26 := u25.trans s26
    refine ⟨_, rfl, rfl, fun x18 H27 s27 o18 => ?_⟩
    have u27 := u26.trans s27
    refine ⟨_, rfl, 2, rfl, b, four t l o r, rfl, SqT.of (u27 _ _ hb), by simp [HT.sIx], fun b3 hb3 => ?_⟩
    have s28 : Same H27 (upd H27 b3 (.tup (cutV (four t l o r) (some 2) none))) := Same.new hb3
    have eb3 : (upd H27 b3 (.tup (cutV (four t l o r) (some 2) none))) b3 = some (.tup (cutV (four t l o r) (some 2) none)) := upd_same
    generalize upd H27 b3 (.tup (cutV (four t l o r) (some 2) none)) = H28 at s28 eb3 ⊢
    have u28 := u27.trans s28
    refine ⟨rfl, fun x19 H29 s29 o19 => ?_⟩
    have u29 := u28.trans s29
    refine ⟨_, rfl, rfl, fun x20 H30 s30 o20 => ?_⟩
    have u30 := u29.trans s30
    refine ⟨_, rfl, _, rfl, _, _, rfl, rfl, rfl, fun x21 H31 s31 o21 => ?_⟩
    have u31 := u30.trans s31
    refine ⟨lenOk 5, fun m3 hm3 => ?_⟩
    have cL : H31 L2 = some _ := s31 _ _ (s30 _ _ (s29 _ _ (s28 _ _ (s27 _ _ (s26 _ _ (eL2))))))
    have s32 : Same H31 (upd H31 m3 (.lst [V.ref x17, V.ref x18, V.ref x19, V.ref x20, V.ref x21])) := Same.new hm3
    have em3 : (upd H31 m3 (.lst [V.ref x17, V.ref x18, V.ref x19, V.ref x20, V.ref x21])) m3 = some (.lst [V.ref x17, V.ref x18, V.ref x19, V.ref x20, V.ref x21]) := upd_same
    generalize upd H31 m3 (.lst [V.ref x17, V.ref x18, V.ref x19, V.ref x20, V.ref x21]) = H32 at s32 em3 ⊢
    have u32 := u31.trans s32
    refine ⟨L2, m3, [V.ref x0, V.ref x1, V.ref x2, V.ref x3, V.ref x4, V.ref x5, V.ref x6, V.ref x7, V.ref x8, V.ref x9, V.ref x10, V.ref x11, V.ref x12, V.ref x13, V.ref x14, V.ref x15, V.ref x16], [V.ref x17, V.ref x18, V.ref x19, V.ref x20, V.ref x21], rfl, rfl, s32 _ _ cL, em3, by show _ ≤ _; exact lenOk (xs := [V.ref x0, V.ref x1, V.ref x2, V.ref x3, V.ref x4, V.ref x5, V.ref x6, V.ref x7, V.ref x8, V.ref x9, V.ref x10, V.ref x11, V.ref x12, V.ref x13, V.ref x14, V.ref x15, V.ref x16, V.ref x17, V.ref x18, V.ref x19, V.ref x20, V.ref x21]) 22, fun L3 hL3 => ?_⟩
    clear cL
    have s33 : Same H32 (upd H32 L3 (.lst ([V.ref x0, V.ref x1, V.ref x2, V.ref x3, V.ref x4, V.ref x5, V.ref x6, V.ref x7, V.ref x8, V.ref x9, V.ref x10, V.ref x11, V.ref x12, V.ref x13, V.ref x14, V.ref x15, V.ref x16] ++ [V.ref x17, V.ref x18, V.ref x19, V.ref x20, V.ref x21]))) := Same.new hL3
    have eL3 : (upd H32 L3 (.lst ([V.ref x0, V.ref x1, V.ref x2, V.ref x3, V.ref x4, V.ref x5, V.ref x6, V.ref x7, V.ref x8, V.ref x9, V.ref x10, V.ref x11, V.ref x12, V.ref x13, V.ref x14, V.ref x15, V.ref x16] ++ [V.ref x17, V.ref x18, V.ref x19, V.ref x20, V.ref x21]))) L3 = some (.lst ([V.ref x0, V.ref x1, V.ref x2, V.ref x3, V.ref x4, V.ref x5, V.ref x6, V.ref x7, V.ref x8, V.ref x9, V.ref x10, V.ref x11, V.ref x12, V.ref x13, V.ref x14, V.ref x15, V.ref x16] ++ [V.ref x17, V.ref x18, V.ref x19, V.ref x20, V.ref x21])) := upd_same
    generalize upd H32 L3 (.lst ([V.ref x0, V.ref x1, V.ref x2, V.ref x3, V.ref x4, V.ref x5, V.ref x6, V.ref x7, V.ref x8, V.ref x9, V.ref x10, V.ref x11, V.ref x12, V.ref x13, V.ref x14, V.ref x15, V.ref x16] ++ [V.ref x17, V.ref x18, V.ref x19, V.ref x20, V.ref x21])) = H33 at s33 eL3 ⊢
    have u33 := u32.trans s33
    refine ⟨_, rfl, _, rfl, rfl, fun x22 H34 s34 o22 => ?_⟩
    have u34 := u33.trans s34
    refine ⟨_, rfl, rfl, fun x23 H35 s35 o23 => ?_⟩
    have u35 := u34.trans s35
    refine ⟨lenOk 2, fun m4 hm4 => ?_⟩
    have cL : H35 L3 = some _ := s35 _ _ (s34 _ _ (eL3))
    have s36 : Same H35 (upd H35 m4 (.lst [V.ref x22, V.ref x23])) := Same.new hm4
    have em4 : (upd H35 m4 (.lst [V.ref x22, V.ref x23])) m4 = some (.lst [V.ref x22, V.ref x23]) := upd_same
    generalize upd H35 m4 (.lst [V.ref x22, V.ref x23]) = H36 at s36 em4 ⊢
    have u36 := u35.trans s36
    refine ⟨L3, m4, [V.ref x0, V.ref x1, V.ref x2, V.ref x3, V.ref x4, V.ref x5, V.ref x6, V.ref x7, V.ref x8, V.ref x9, V.ref x10, V.ref x11, V.ref x12, V.ref x13, V.ref x14, V.ref x15, V.ref x16, V.ref x17, V.ref x18, V.ref x19, V.ref x20, V.ref x21], [V.ref x22, V.ref x23], rfl, rfl, s36 _ _ cL, em4, by show _ ≤ _; exact lenOk (xs := [V.ref x0, V.ref x1, V.ref x2, V.ref x3, V.ref x4, V.ref x5, V.ref x6, V.ref x7, V.ref x8, V.ref x9, V.ref x10, V.ref x11, V.ref x12, V.ref x13, V.ref x14, V.ref x15, V.ref x16, V.ref x17, V.ref x18, V.ref x19, V.ref x20, V.ref x21, V.ref x22, V.ref x23]) 24, fun L4 hL4 => ?_⟩
    clear cL
    have s37 : Same H36 (upd H36 L4 (.lst ([V.ref x0, V.ref x1, V.ref x2, V.ref x3, V.ref x4, V.ref x5, V.ref x6, V.ref x7, V.ref x8, V.ref x9, V.ref x10, V.ref x11, V.ref x12, V.ref x13, V.ref x14, V.ref x15, V.ref x16, V.ref x17, V.ref x18, V.ref x19, V.ref x20, V.ref x21] ++ [V.ref x22, V.ref x23]))) := Same.new hL4
    have eL4 : (upd H36 L4 (.lst ([V.ref x0, V.ref x1, V.ref x2, V.ref x3, V.ref x4, V.ref x5, V.ref x6, V.ref x7, V.ref x8, V.ref x9, V.ref x10, V.ref x11, V.ref x12, V.ref x13, V.ref x14, V.ref x15, V.ref x16, V.ref x17, V.ref x18, V.ref x19, V.ref x20, V.ref x21] ++ [V.ref x22, V.ref x23]))) L4 = some (.lst ([V.ref x0, V.ref x1, V.ref x2, V.ref x3, V.ref x4, V.ref x5, V.ref x6, V.ref x7, V.ref x8, V.ref x9, V.ref x10, V.ref x11, V.ref x12, V.ref x13, V.ref x14, V.ref x15, V.ref x16, V.ref x17, V.ref x18, V.ref x19, V.ref x20, V.ref x21] ++ [V.ref x22, V.ref x23])) := upd_same
    generalize upd H36 L4 (.lst ([V.ref x0, V.ref x1, V.ref x2, V.ref x3, V.ref x4, V.ref x5, V.ref x6, V.ref x7, V.ref x8, V.ref x9, V.ref x10, V.ref x11, V.ref x12, V.ref x13, V.ref x14, V.ref x15, V.ref x16, V.ref x17, V.ref x18, V.ref x19, V.ref x20, V.ref x21] ++ [V.ref x22, V.ref x23])) = H37 at s37 eL4 ⊢
    have u37 := u36.trans s37
    have t37 : Same H37 H37 := fun _ _ e => e
    have t36 := s37.trans t37
    have t35 := s36.trans t36
    have t34 := s35.trans t35
    have t33 := s34.trans t34
    have t32 := s33.trans t33
    have t31 := s32.trans t32
    have t30 := s31.trans t31
    have t29 := s30.trans t30
    have t28 := s29.trans t29
    have t27 := s28.trans t28
    have t26 := s27.trans t27
    have t25 := s26.trans t26
    have t24 := s25.trans t25
    have t23 := s24.trans t24
    have t22 := s23.trans t23
    have t21 := s22.trans t22
    have t20 := s21.trans t21
    have t19 := s20.trans t20
    have t18 := s19.trans t19
    have t17 := s18.trans t18
    have t16 := s17.trans t17
    have t15 := s16.trans t16
    have t14 := s15.trans t15
    have t13 := s14.trans t14
    have t12 := s13.trans t13
    have t11 := s12.trans t12
    have t10 := s11.trans t11
    have t9 := s10.trans t10
    have t8 := s9.trans t9
    have t7 := s8.trans t8
    have t6 := s7.trans t7
    have t5 := s6.trans t6
    have t4 := s5.trans t5
    have t3 := s4.trans t4
    have t2 := s3.trans t3
    have t1 := s2.trans t2
    exact q L4 [x0, x1, x2, x3, x4, x5, x6, x7, x8, x9, x10, x11, x12, x13, x14, x15, x16, x17, x18, x19, x20, x21, x22, x23] b2 b3 pc l4 _ u37 eL4 rfl (t5 _ _ eb2) (t28 _ _ eb3) (t21 _ _ epc) (t13 _ _ el4) ⟨o0.same t1, o1.same t2, o2.same t3, o3.same t4, o4.same t6, o5.same t7, o6.same t9, o7.same t10, o8.same t11, o9.same t12, o10.same t14, o11.same t17, o12.same t18, o13.same t19, o14.same t20, o15.same t22, o16.same t23, o17.same t26, o18.same t27, o19.same t29, o20.same t30, o21.same t31, o22.same t34, o23.same t35, trivial⟩
theorem xget {H : Hp} {as : List Addr} {n : Int} {z : Str} {b ls b2 b3 pc l4 : Addr} (i : Nat) {f : Str} {v : V} {fs : List (Str × V)} (h : XAll H C 0 as (fsL n z b ls b2 b3 pc l4)) (hl : as.length = 24) (hi : i < 24) (hf : (fsL n z b ls b2 b3 pc l4)[i]? = some fs) (hv : fs.lookup f = some v) (hm : H (0 : Addr) = H 0) :
    ∃ a d, as[i]? = some a ∧ atI (as.map V.ref) (i : Int) = some (.ref a) ∧ H a = some (ExcO (C i) d a) ∧ H d = some (ExcD d fs) := by
  have hlt : i < as.length := by first | lia | omega
  refine ⟨as[i], ?_⟩
  have e := List.getElem?_eq_getElem hlt
  have o := h.get e hf
  rw [Nat.zero_add] at o
  rcases o with ⟨d, h1, h2⟩ | ⟨e0, _⟩
  · exact ⟨d, e, atI_nat (by rw [List.getElem?_map, e]; rfl), h1, h2⟩
  · rw [e0] at hv; cases hv
theorem S_law_numbers : FnScope ["_law_made_here", "_law_some"] ["_law_made_here"] (defScope s__law_numbers) := ⟨rfl, rfl, rfl, by decide +kernel, rfl, by decide +kernel, by decide +kernel⟩
theorem ok_law_numbers {f : Addr} {fd : FuncData} (F : Fun K "_law_numbers" "_law_numbers" s__law_numbers f fd) (R : RX mg K C G) : FnOk P w K mg base CX0 1 f fd ["_law_made_here"] (sp_numbers C) := by
  have S := S_law_numbers
  refine F.ok S (fun vs H Q E h => ?_) (fun cdv A outer s H vs Q E hr h => ?_)
  · obtain ⟨m, as, n, z, b, ls, b2, b3, pc, l4, rfl, _⟩ := h; rfl
  · obtain ⟨m, as, n, z, b, ls, b2, b3, pc, l4, rfl, hm, hn, X0, q⟩ := h
    refine ⟨_, (pss_cons (ps_set (i := 1) S.nd rfl (Or.inl rfl) (pe_lst (pa_cons (pe_xfld (pe_ix ix_list (pv 0) pe_int (fun _ _ => rfl)) rfl) (pa_cons (pe_xfld (pe_ix ix_list (pv 0) pe_int (fun _ _ => rfl)) rfl) (pa_cons (pe_xfld (pe_ix ix_list (pv 0) pe_int (fun _ _ => rfl)) rfl) (pa_cons (pe_xfld (pe_ix ix_list (pv 0) pe_int (fun _ _ => rfl)) rfl) (pa_cons (pe_xfld (pe_ix ix_list (pv 0) pe_int (fun _ _ => rfl)) rfl) (pa_cons (pe_xfld (pe_ix ix_list (pv 0) pe_int (fun _ _ => rfl)) rfl) (pa_cons (pe_xfld (pe_ix ix_list (pv 0) pe_int (fun _ _ => rfl)) rfl) pa_nil)))))))))
      (pss_cons (ps_set (i := 1) S.nd rfl (Or.inl rfl) (pe_op op_cat (pv 1) (pe_lst (pa_cons (pe_xfld (pe_ix ix_list (pv 0) pe_int (fun _ _ => rfl)) rfl) (pa_cons (pe_xfld (pe_ix ix_list (pv 0) pe_int (fun _ _ => rfl)) rfl) (pa_cons (pe_xfld (pe_ix ix_list (pv 0) pe_int (fun _ _ => rfl)) rfl) (pa_cons (pe_xfld (pe_ix ix_list (pv 0) pe_int (fun _ _ => rfl)) rfl) (pa_cons (pe_xfld (pe_ix ix_list (pv 0) pe_int (fun _ _ => rfl)) rfl) pa_nil))))))))
      (pss_one (ps_ret (pe_op op_cat (pv 1) (pe_lst (pa_cons (pe_xfld (pe_ix ix_list (pv 0) pe_int (fun _ _ => rfl)) rfl) (pa_cons (pe_op op_sub (pe_xfld (pe_ix ix_list (pv 0) pe_int (fun _ _ => rfl)) rfl) pe_int) pa_nil)))))))), ?_⟩
    have w0 : List.lookup ("side" : Str) ([(("side" : Str), .int n)] : List (Str × V)) = some (.int n) := by rfl
    obtain ⟨a0, d0, _, i0, g0, k0⟩ := xget 0 X0 hn (by decide) rfl w0 rfl
    have w1 : List.lookup ("many" : Str) ([(("many" : Str), .int n)] : List (Str × V)) = some (.int n) := by rfl
    obtain ⟨a1, d1, _, i1, g1, k1⟩ := xget 1 X0 hn (by decide) rfl w1 rfl
    have w2 : List.lookup ("place" : Str) ([(("place" : Str), .int n)] : List (Str × V)) = some (.int n) := by rfl
    obtain ⟨a2, d2, _, i2, g2, k2⟩ := xget 2 X0 hn (by decide) rfl w2 rfl
    have w3 : List.lookup ("place" : Str) ([(("place" : Str), .int n)] : List (Str × V)) = some (.int n) := by rfl
    obtain ⟨a3, d3, _, i3, g3, k3⟩ := xget 3 X0 hn (by decide) rfl w3 rfl
    have w4 : List.lookup ("at" : Str) ([(("at" : Str), .int n)] : List (Str × V)) = some (.int n) := by rfl
    obtain ⟨a4, d4, _, i4, g4, k4⟩ := xget 7 X0 hn (by decide) rfl w4 rfl
    have w5 : List.lookup ("place" : Str) ([(("place" : Str), .int n)] : List (Str × V)) = some (.int n) := by rfl
    obtain ⟨a5, d5, _, i5, g5, k5⟩ := xget 8 X0 hn (by decide) rfl w5 rfl
    have w6 : List.lookup ("number" : Str) ([(("number" : Str), .int n)] : List (Str × V)) = some (.int n) := by rfl
    obtain ⟨a6, d6, _, i6, g6, k6⟩ := xget 13 X0 hn (by decide) rfl w6 rfl
    have w7 : List.lookup ("place" : Str) ([(("place" : Str), .int n)] : List (Str × V)) = some (.int n) := by rfl
    obtain ⟨a7, d7, _, i7, g7, k7⟩ := xget 14 X0 hn (by decide) rfl w7 rfl
    have w8 : List.lookup ("place" : Str) ([(("place" : Str), .int n)] : List (Str × V)) = some (.int n) := by rfl
    obtain ⟨a8, d8, _, i8, g8, k8⟩ := xget 16 X0 hn (by decide) rfl w8 rfl
    have w9 : List.lookup ("place" : Str) ([(("place" : Str), .int n)] : List (Str × V)) = some (.int n) := by rfl
    obtain ⟨a9, d9, _, i9, g9, k9⟩ := xget 17 X0 hn (by decide) rfl w9 rfl
    have w10 : List.lookup ("place" : Str) ([(("place" : Str), .int n)] : List (Str × V)) = some (.int n) := by rfl
    obtain ⟨a10, d10, _, i10, g10, k10⟩ := xget 18 X0 hn (by decide) rfl w10 rfl
    have w11 : List.lookup ("want" : Str) ([(("want" : Str), .int n)] : List (Str × V)) = some (.int n) := by rfl
    obtain ⟨a11, d11, _, i11, g11, k11⟩ := xget 20 X0 hn (by decide) rfl w11 rfl
    have w12 : List.lookup ("width" : Str) ([(("width" : Str), .int n), (("height" : Str), .int (n + 1))] : List (Str × V)) = some (.int n) := by rfl
    obtain ⟨a12, d12, _, i12, g12, k12⟩ := xget 21 X0 hn (by decide) rfl w12 rfl
    have w13 : List.lookup ("height" : Str) ([(("width" : Str), .int n), (("height" : Str), .int (n + 1))] : List (Str × V)) = some (.int (n + 1)) := by rfl
    obtain ⟨a13, d13, _, i13, g13, k13⟩ := xget 21 X0 hn (by decide) rfl w13 rfl
    have s0 : Same H H := fun _ _ e => e
    refine ⟨_, rfl, m, _, 0, _, rfl, rfl, SqL.of (s0 _ _ hm), i0, a0, C 0, d0, _, _, rfl, s0 _ _ g0, s0 _ _ k0, R.cl 0 (by decide), R.n_NoSide_side, w0, _, rfl, m, _, 1, _, rfl, rfl, SqL.of (s0 _ _ hm), i1, a1, C 1, d1, _, _, rfl, s0 _ _ g1, s0 _ _ k1, R.cl 1 (by decide), R.n_TooMany_many, w1, _, rfl, m, _, 2, _, rfl, rfl, SqL.of (s0 _ _ hm), i2, a2, C 2, d2, _, _, rfl, s0 _ _ g2, s0 _ _ k2, R.cl 2 (by decide), R.n_NoPane_place, w2, _, rfl, m, _, 3, _, rfl, rfl, SqL.of (s0 _ _ hm), i3, a3, C 3, d3, _, _, rfl, s0 _ _ g3, s0 _ _ k3, R.cl 3 (by decide), R.n_Overlap_place, w3, _, rfl, m, _, 7, _, rfl, rfl, SqL.of (s0 _ _ hm), i4, a4, C 7, d4, _, _, rfl, s0 _ _ g4, s0 _ _ k4, R.cl 7 (by decide), R.n_NoCut_at, w4, _, rfl, m, _, 8, _, rfl, rfl, SqL.of (s0 _ _ hm), i5, a5, C 8, d5, _, _, rfl, s0 _ _ g5, s0 _ _ k5, R.cl 8 (by decide), R.n_NoTree_place, w5, _, rfl, m, _, 13, _, rfl, rfl, SqL.of (s0 _ _ hm), i6, a6, C 13, d6, _, _, rfl, s0 _ _ g6, s0 _ _ k6, R.cl 13 (by decide), R.n_NoNumber_number, w6, lenOk 7, fun L0 hL0 => ?_⟩
    have s1 : Same H (upd H L0 (.lst [V.int n, V.int n, V.int n, V.int n, V.int n, V.int n, V.int n])) := Same.new hL0
    have e1 : (upd H L0 (.lst [V.int n, V.int n, V.int n, V.int n, V.int n, V.int n, V.int n])) L0 = some (.lst [V.int n, V.int n, V.int n, V.int n, V.int n, V.int n, V.int n]) := upd_same
    generalize upd H L0 (.lst [V.int n, V.int n, V.int n, V.int n, V.int n, V.int n, V.int n]) = H1 at s1 e1 ⊢
    refine ⟨_, rfl, _, rfl, m, _, 14, _, rfl, rfl, SqL.of (s1 _ _ hm), i7, a7, C 14, d7, _, _, rfl, s1 _ _ g7, s1 _ _ k7, R.cl 14 (by decide), R.n_NoKind_place, w7, _, rfl, m, _, 16, _, rfl, rfl, SqL.of (s1 _ _ hm), i8, a8, C 16, d8, _, _, rfl, s1 _ _ g8, s1 _ _ k8, R.cl 16 (by decide), R.n_NoFlaw_place, w8, _, rfl, m, _, 17, _, rfl, rfl, SqL.of (s1 _ _ hm), i9, a9, C 17, d9, _, _, rfl, s1 _ _ g9, s1 _ _ k9, R.cl 17 (by decide), R.n_NoWant_place, w9, _, rfl, m, _, 18, _, rfl, rfl, SqL.of (s1 _ _ hm), i10, a10, C 18, d10, _, _, rfl, s1 _ _ g10, s1 _ _ k10, R.cl 18 (by decide), R.n_NoSheet_place, w10, _, rfl, m, _, 20, _, rfl, rfl, SqL.of (s1 _ _ hm), i11, a11, C 20, d11, _, _, rfl, s1 _ _ g11, s1 _ _ k11, R.cl 20 (by decide), R.n_NoPlan_want, w11, lenOk 5, fun m1 hm1 => ⟨L0, m1, [V.int n, V.int n, V.int n, V.int n, V.int n, V.int n, V.int n], [V.int n, V.int n, V.int n, V.int n, V.int n], rfl, rfl, Same.new hm1 _ _ e1, upd_same, by show _ ≤ _; exact lenOk (xs := [V.int n, V.int n, V.int n, V.int n, V.int n, V.int n, V.int n, V.int n, V.int n, V.int n, V.int n, V.int n]) 12, fun L1 hL1 => ?_⟩⟩
    have s2 : Same H (upd (upd H1 m1 (.lst [V.int n, V.int n, V.int n, V.int n, V.int n])) L1 (.lst ([V.int n, V.int n, V.int n, V.int n, V.int n, V.int n, V.int n] ++ [V.int n, V.int n, V.int n, V.int n, V.int n]))) := s1.trans ((Same.new hm1).trans (Same.new hL1))
    have e2 : (upd (upd H1 m1 (.lst [V.int n, V.int n, V.int n, V.int n, V.int n])) L1 (.lst ([V.int n, V.int n, V.int n, V.int n, V.int n, V.int n, V.int n] ++ [V.int n, V.int n, V.int n, V.int n, V.int n]))) L1 = some (.lst [V.int n, V.int n, V.int n, V.int n, V.int n, V.int n, V.int n, V.int n, V.int n, V.int n, V.int n, V.int n]) := upd_same
    generalize upd (upd H1 m1 (.lst [V.int n, V.int n, V.int n, V.int n, V.int n])) L1 (.lst ([V.int n, V.int n, V.int n, V.int n, V.int n, V.int n, V.int n] ++ [V.int n, V.int n, V.int n, V.int n, V.int n])) = H2 at s2 e2 ⊢
    refine ⟨_, rfl, _, rfl, m, _, 21, _, rfl, rfl, SqL.of (s2 _ _ hm), i12, a12, C 21, d12, _, _, rfl, s2 _ _ g12, s2 _ _ k12, R.cl 21 (by decide), R.n_NoGlass_width, w12, _, rfl, m, _, 21, _, rfl, rfl, SqL.of (s2 _ _ hm), i13, a13, C 21, d13, _, _, rfl, s2 _ _ g13, s2 _ _ k13, R.cl 21 (by decide), R.n_NoGlass_height, w13, _, _, rfl, rfl, lenOk 2, fun m2 hm2 => ⟨L1, m2, [V.int n, V.int n, V.int n, V.int n, V.int n, V.int n, V.int n, V.int n, V.int n, V.int n, V.int n, V.int n], [V.int n, V.int (n + 1 - 1)], rfl, rfl, Same.new hm2 _ _ e2, upd_same, by show _ ≤ _; exact lenOk (xs := [V.int n, V.int n, V.int n, V.int n, V.int n, V.int n, V.int n, V.int n, V.int n, V.int n, V.int n, V.int n, V.int n, V.int n]) 14, fun L2 hL2 => ?_⟩⟩
    refine q L2 _ (s2.trans ((Same.new hm2).trans (Same.new hL2))) (upd_same.trans ?_)
    rw [show n + 1 - 1 = n from by first | lia | omega]; rfl
theorem atI_any {α : Type} {L : List α} {i : Int} (h0 : 0 ≤ i) (h1 : i < L.length) : ∃ v, atI L i = some v := by
  have h : i.toNat < L.length := by first | lia | omega
  have e := atI_nat (List.getElem?_eq_getElem h)
  rw [Int.toNat_of_nonneg h0] at e
  exact ⟨_, e⟩
theorem sum_ones : ∀ {ys : List Str}, (∀ y ∈ ys, y.length = 1) → (ys.map (·.length)).sum = ys.length
  | [], _ => rfl
  | y :: ys, h => by
    rw [List.map_cons, List.sum_cons, h y List.mem_cons_self, sum_ones fun x hx => h x (List.mem_cons_of_mem _ hx), List.length_cons]; first | lia | omega
theorem S_law_text : FnScope ["_law_purse_here"] ["_law_purse_here"] (defScope s__law_text) := ⟨rfl, rfl, rfl, by decide +kernel, rfl, by decide +kernel, by decide +kernel⟩
theorem ok_law_text {f : Addr} {fd : FuncData} (F : Fun K "_law_text" "_law_text" s__law_text f fd) (T : Txt mg) (D__law_take : DefOk P w K mg base 1 "_law_take" ["_law_purse_here", "_law_many"] sp_take) : FnOk P w K mg base CX0 2 f fd ["_law_purse_here"] sp_text := by
  have S := S_law_text
  refine F.ok S (fun vs H Q E h => ?_) (fun cdv A outer s H vs Q E hr h => ?_)
  · obtain ⟨p, z, rfl, _⟩ := h; rfl
  · obtain ⟨p, z, rfl, hp, q⟩ := h
    refine ⟨_, (pss_one (ps_ret (pe_bm PySem.F.plainAttrs_str PySem.F.slot_str_join PySem.F.type_str_join mt_join pe_str (pa_cons (pe_comp rfl (pi_range1 rfl T.z_range (pa_cons (pe_fn D__law_take hr (pa_cons (pv 0) (pa_cons pe_int pa_nil))) pa_nil)) (fun _ _ _ _ _ => (pg_name (i := 0) (show List.Nodup (["_law_k", "_law_purse_here"] : List Str) from by decide +kernel) rfl (Or.inl rfl))) (fun _ _ _ _ _ => (pe_ix ix_str pe_str (pe_fn D__law_take hr (pa_cons (pv 1) (pa_cons pe_int pa_nil))) (fun _ _ => rfl))) (N := ["_law_k", "_law_purse_here"]) (fr := [none, some 0])) pa_nil)))), ?_⟩
    refine ⟨rfl, _, rfl, p, z, 10, rfl, hp, by decide, by decide, fun n z1 n0 n1 => ?_⟩
    have e1 : (upd H p (.lst [.int z1])) p = some (.lst [.int z1]) := upd_same
    have s1 : SameX p H (upd H p (.lst [.int z1])) := SameX.upd
    generalize upd H p (.lst [.int z1]) = H1 at e1 s1 ⊢
    refine ⟨n, rfl, by first | lia | omega, by first | lia | omega, fun acc hacc => comp_range (lo := 0) (n := n.toNat)
      (fun i xs σ H' => (∃ y, σ = [y, some (.ref p)]) ∧ (∃ z', H' p = some (.lst [.int z'])) ∧ SameX p H1 H' ∧ ∃ ys : List Str, xs = ys.map V.str ∧ ∀ y ∈ ys, y.length = 1)
      ⟨⟨none, rfl⟩, ⟨z1, by rw [upd_ne (ne_of_none e1 hacc)]; exact e1⟩, SameX.new hacc, [], rfl, fun _ h => nomatch h⟩ ?_ ?_⟩
    · rintro i xs σ H' hi hl hacc' ⟨⟨y, rfl⟩, ⟨z', hz'⟩, hs, ⟨ys, rfl, hy⟩⟩
      have nap : acc ≠ p := Ne.symm (ne_of_none e1 hacc)
      refine ⟨_, rfl, p, z', 9, rfl, hz', by decide, by decide, fun r z2 r0 r1 => ?_⟩
      obtain ⟨c, hc⟩ := atI_any (L := ("ab/c .#|Z" : Str).cps.toList) r0 (by rw [show ((("ab/c .#|Z" : Str).cps.toList).length : Int) = 9 from by decide +kernel]; exact r1)
      refine ⟨_, r, c, rfl, rfl, by decide +kernel, hc, cNx.mk (Nat.le_of_lt (small1000 (by first | lia | omega))) hi hl (by rw [upd_ne nap]; exact hacc') ⟨⟨_, rfl⟩, ⟨z2, by rw [upd_ne (Ne.symm nap)]; exact upd_same⟩, ?_, ys ++ [⟨#[c]⟩], by rw [List.map_append]; rfl, fun y hy' => ?_⟩⟩
      · intro b o hb e
        have nb : b ≠ acc := ne_of_none e hacc
        rw [upd_ne nb, upd_ne hb]
        exact hs b o hb e
      · rcases List.mem_append.mp hy' with h | h
        · exact hy y h
        · rw [List.mem_singleton.mp h]; rfl
    · rintro xs σ H' hl hacc' ⟨_, hz', hs, ⟨ys, rfl, hy⟩⟩
      rw [List.length_map] at hl
      refine ⟨_, acc, ys, rfl, rfl, hacc', ?_, q _ _ (s1.trans hs) hz'⟩
      rw [sum_ones hy, show ("" : Str).length = 0 from by decide +kernel]
      first | lia | omega
/-- the tuples of the list drawn -/
def Tps (H : Hp) (ts : List (Addr × Int)) : Prop := ∀ t ∈ ts, H t.1 = some (.tup [.str "level", .int t.2, .int 0, .int 5])
theorem Tps.same {H H' : Hp} {ts : List (Addr × Int)} (h : Tps H ts) (s : Same H H') : Tps H' ts := fun t ht => s _ _ (h t ht)
abbrev trefs (ts : List (Addr × Int)) : List V := ts.map fun t => V.ref t.1
def tpD : List (Addr × Int) → Ds
  | [] => .nil
  | t :: r => .cons (.tup (flats [.str "level", .int t.2, .int 0, .int 5])) (tpD r)
theorem tpD_is {K : PySem.W.Frag} {H : Hp} : ∀ {ts : List (Addr × Int)}, Tps H ts → DIss K H (tpD ts) (trefs ts)
  | [], _ => by rw [tpD, DIss]; rfl
  | t :: r, h => by
    rw [tpD, DIss]
    refine ⟨_, _, rfl, flatT (SqT.of (h t List.mem_cons_self)) ?_, tpD_is fun u hu => h u (List.mem_cons_of_mem _ hu)⟩
    intro v hv
    simp only [List.mem_cons, List.not_mem_nil, or_false] at hv
    rcases hv with rfl | rfl | rfl | rfl <;> rfl
theorem tpD_dep : ∀ ts : List (Addr × Int), deps (tpD ts) ≤ 1
  | [] => by rw [tpD, deps]; first | lia | omega
  | t :: r => by
    have := tpD_dep r
    rw [tpD, deps, dep, flats_dep]; first | lia | omega
theorem tpL_is {K : PySem.W.Frag} {H : Hp} {l : Addr} {ts : List (Addr × Int)} (hl : SqL K H l (trefs ts)) (h : Tps H ts) : DIs K H (.lst (tpD ts)) (.ref l) := by rw [DIs]; exact ⟨l, _, rfl, hl, tpD_is h⟩
theorem tpL_dep (ts : List (Addr × Int)) : dep (.lst (tpD ts)) ≤ 50 := by have := tpD_dep ts; rw [dep]; first | lia | omega
theorem cut4 (ts : List (Addr × Int)) : cutV (trefs ts) none (some 4) = trefs (ts.take 4) := by
  show ((trefs ts).drop 0).take (min 4 (trefs ts).length - 0) = _
  rw [List.drop_zero, Nat.sub_zero, show trefs (ts.take 4) = (trefs ts).take 4 from List.map_take]
  by_cases h : 4 ≤ (trefs ts).length
  · rw [Nat.min_eq_left h]
  · rw [Nat.min_eq_right (by first | lia | omega), List.take_length, List.take_of_length_le (by first | lia | omega)]
theorem neD {K : PySem.W.Frag} {H : Hp} {d : D} {v : V} (h : DIs K H d v) : (if true = true then !deq d d else deq d d) = false := by rw [if_pos rfl, same_not h]
theorem eqD {K : PySem.W.Frag} {H : Hp} {d : D} {v : V} (h : DIs K H d v) : (if false = true then !deq d d else deq d d) = true := by rw [if_neg Bool.false_ne_true, deq_refl d h]
theorem kins_flat (i : Nat) : ∀ v ∈ kins i, flatV v = true := fun v h => by obtain ⟨j, _, rfl⟩ := List.mem_map.mp h; rfl
theorem rep_flat (n : Int) (k : Nat) : ∀ v ∈ List.replicate k (V.int n), flatV v = true := fun v h => by rw [List.eq_of_mem_replicate h]; rfl
theorem decNS (i : Str) : (!decide (V.str i = V.str i)) = false := by rw [decide_eq_true rfl]; rfl
theorem pow12 : CPow 10 12 := ⟨by decide, by decide, by decide⟩
abbrev N_law : List Str := ["_law_script", "_law_purse_here", "_law_number", "_law_text_here", "_law_top", "_law_left", "_law_block", "_law_some", "_law_made_here", "_law_k"]
theorem S_law : FnScope N_law ["_law_script"] (defScope s_law) := ⟨rfl, rfl, rfl, by decide +kernel, rfl, by decide +kernel, by decide +kernel⟩
theorem xat {H : Hp} {as : List Addr} {fs : List (List (Str × V))} (h : XAll H C 0 as fs) (hl : as.length = 24) (hf : fs.length = 24) {i : Nat} (hi : i < 24) : ∃ a f, atI (as.map V.ref) (i : Int) = some (.ref a) ∧ XObj H (C i) f a := by
  have hlt : i < as.length := by first | lia | omega
  have hlf : i < fs.length := by first | lia | omega
  have e := List.getElem?_eq_getElem hlt
  have o := h.get e (List.getElem?_eq_getElem hlf)
  rw [Nat.zero_add] at o
  exact ⟨_, _, atI_nat (by rw [List.getElem?_map, e]; rfl), o⟩
theorem ok_law {f : Addr} {fd : FuncData} (F : Fun K "law" "law" s_law f fd) (T : Txt mg) (R : RX mg K C G) (D__law_purse : DefOk P w K mg base 1 "_law_purse" ["_law_script", "_law_k"] (sp_purse K)) (D__law_take : DefOk P w K mg base 1 "_law_take" ["_law_purse_here", "_law_many"] sp_take)
    (D__law_kin : DefOk P w K mg base 1 "_law_kin" ["_law_e"] (sp_kin C)) (D__law_text : DefOk P w K mg base 2 "_law_text" ["_law_purse_here"] sp_text) (D__law_made : DefOk P w K mg base 3 "_law_made" ["_law_number", "_law_text_here", "_law_block", "_law_some"] (sp_made C))
    (D__law_numbers : DefOk P w K mg base 1 "_law_numbers" ["_law_made_here"] (sp_numbers C)) : FnOk P w K mg base CX0 4 f fd ["_law_script"] (sp_law K) := by
  have S := S_law
  refine F.ok S (fun vs H Q E h => ?_) (fun cdv A outer s H vs Q E hr h => ?_)
  · obtain ⟨a, ns, rfl, _⟩ := h; rfl
  · obtain ⟨a, ns, rfl, hS, hlen, k⟩ := h
    refine ⟨_, (pss_cons (ps_set (i := 1) S.nd rfl (Or.inl rfl) (pe_fn D__law_purse hr (pa_cons (pv 0) (pa_cons pe_int pa_nil))))
      (pss_cons (ps_set (i := 2) S.nd rfl (Or.inl rfl) (pe_op op_sub (pe_fn D__law_take hr (pa_cons (pv 1) (pa_cons (pe_op op_mulL pe_int (pe_op op_pow pe_int pe_int)) pa_nil))) (pe_op op_pow pe_int pe_int)))
      (pss_cons (ps_set (i := 3) S.nd rfl (Or.inl rfl) (pe_fn D__law_text hr (pa_cons (pe_fn D__law_purse hr (pa_cons (pv 0) (pa_cons pe_int pa_nil))) pa_nil)))
      (pss_cons (ps_set (i := 4) S.nd rfl (Or.inl rfl) (pe_fn D__law_take hr (pa_cons (pv 1) (pa_cons pe_int pa_nil))))
      (pss_cons (ps_set (i := 5) S.nd rfl (Or.inl rfl) (pe_fn D__law_take hr (pa_cons (pv 1) (pa_cons pe_int pa_nil))))
      (pss_cons (ps_set (i := 6) S.nd rfl (Or.inl rfl) (pe_tup (pa_cons (pv 4) (pa_cons (pv 5) (pa_cons (pe_op op_add (pe_op op_add (pv 4) pe_int) (pe_fn D__law_take hr (pa_cons (pv 1) (pa_cons (pe_op op_sub pe_int (pv 4)) pa_nil)))) (pa_cons (pe_op op_add (pe_op op_add (pv 5) pe_int) (pe_fn D__law_take hr (pa_cons (pv 1) (pa_cons (pe_op op_sub pe_int (pv 5)) pa_nil)))) pa_nil))))))
      (pss_cons (ps_setComp rfl (pg_name (i := 7) S.nd rfl (Or.inl rfl)) (pi_list (pe_slice sl_list (pv 0) (po_some pe_int) (po_some pe_int))) (fun _ _ _ _ _ => (pg_name (i := 0) (show List.Nodup (["_law_cell"] : List Str) from by decide +kernel) rfl (Or.inl rfl))) (fun _ _ _ _ _ => (pe_tup (pa_cons pe_str (pa_cons (pe_op op_mod (pv 0) pe_int) (pa_cons pe_int (pa_cons pe_int pa_nil)))))) (N := ["_law_cell"]) (fr := [none]))
      (pss_cons (ps_set (i := 8) S.nd rfl (Or.inl rfl) (pe_fn D__law_made hr (pa_cons (pv 2) (pa_cons (pv 3) (pa_cons (pv 6) (pa_cons (pv 7) pa_nil))))))
      (pss_cons (ps_for PassesOwn.never rfl (pi_range1 rfl T.z_range (pa_cons pe_int pa_nil)) (pg_name (i := 9) S.nd rfl (Or.inr rfl)) (pss_cons (ps_if (PW.pt (pw_or (pt_cmpR (op_neD hr) (pe_fn D__law_kin hr (pa_cons (pe_ix ix_list (pv 8) (pv 9) (fun _ _ => rfl)) pa_nil)) (pe_comp rfl (pi_range1 rfl T.z_range (pa_cons pe_int pa_nil)) (fun _ _ _ _ _ => (pg_name (i := 0) (show List.Nodup (["_law_j", "_law_k"] : List Str) from by decide +kernel) rfl (Or.inl rfl))) (fun _ _ _ _ _ => (pe_cmpR op_eq (pv 0) (pv 1) (nomark _))) (N := ["_law_j", "_law_k"]) (fr := [none, some 9])) (nomark _)) (pw_or1 (pt_not (pt_val (pe_callB call_isinX rfl T.z_isinstance rfl (pa_cons (pe_ix ix_list (pv 8) (pv 9) (fun _ _ => rfl)) (pa_cons (pe_glob (v := .ref (G)) rfl R.g_GlassError rfl) pa_nil)))))))) (pss_one (ps_ret pe_bl)) pss_nil)
      (pss_one (ps_if (pt_not (pt_val (pe_callB call_isinX rfl T.z_isinstance rfl (pa_cons (pe_ix ix_list (pv 8) (pv 9) (fun _ _ => rfl)) (pa_cons (pe_bltn (v := .ty "ValueError") rfl T.z_ValueError rfl rfl) pa_nil))))) (pss_one (ps_ret pe_bl)) pss_nil))))
      (pss_cons (ps_if (PW.pt (pw_or (pt_cmpR (op_neD hr) (pe_fn D__law_numbers hr (pa_cons (pv 8) pa_nil)) (pe_op op_rep (pe_lst (pa_cons (pv 2) pa_nil)) pe_int) (nomark _)) (pw_or (pt_cmpR (op_neD hr) (pe_xfld (pe_ix ix_list (pv 8) pe_int (fun _ _ => rfl)) rfl) (pe_slice sl_tup (pv 6) po_none (po_some pe_int)) (nomark _)) (pw_or1 (pt_cmpR op_ne (pe_xfld (pe_ix ix_list (pv 8) pe_int (fun _ _ => rfl)) rfl) (pv 3) (nomark _)))))) (pss_one (ps_ret pe_bl)) pss_nil)
      (pss_cons (ps_if (PW.pt (pw_or (pt_cmpR op_ne (pe_xfld (pe_ix ix_list (pv 8) pe_int (fun _ _ => rfl)) rfl) (pv 3) (nomark _)) (pw_or (pt_cmpR (op_neD hr) (pe_xfld (pe_ix ix_list (pv 8) pe_int (fun _ _ => rfl)) rfl) (pv 6) (nomark _)) (pw_or (pt_cmpR (op_neD hr) (pe_xfld (pe_ix ix_list (pv 8) pe_int (fun _ _ => rfl)) rfl) (pv 6) (nomark _)) (pw_or1 (pt_cmpR (op_neD hr) (pe_xfld (pe_ix ix_list (pv 8) pe_int (fun _ _ => rfl)) rfl) (pe_tup (pa_cons (pv 6) (pa_cons pe_non pa_nil))) (nomark _))))))) (pss_one (ps_ret pe_bl)) pss_nil)
      (pss_cons (ps_if (PW.pt (pw_or (pt_cmpR (op_neD hr) (pe_xfld (pe_ix ix_list (pv 8) pe_int (fun _ _ => rfl)) rfl) (pe_slice sl_tup (pv 6) (po_some pe_int) po_none) (nomark _)) (pw_or (pt_cmpR op_ne (pe_xfld (pe_ix ix_list (pv 8) pe_int (fun _ _ => rfl)) rfl) (pv 3) (nomark _)) (pw_or1 (pt_cmpR op_ne (pe_xfld (pe_ix ix_list (pv 8) pe_int (fun _ _ => rfl)) rfl) (pv 3) (nomark _)))))) (pss_one (ps_ret pe_bl)) pss_nil)
      (pss_one (ps_ret (pe_and (pe_cmpR (op_eqD hr) (pe_xfld (pe_ix ix_list (pv 8) pe_int (fun _ _ => rfl)) rfl) (pv 6) (nomark _)) (pe_and (pe_cmpR (op_eqD hr) (pe_callTy call_list_of rfl T.z_list rfl (pa_cons (pe_xfld (pe_ix ix_list (pv 8) pe_int (fun _ _ => rfl)) rfl) pa_nil)) (pv 7) (nomark _)) (pe_one (pe_cmpR (op_eqD hr) (pe_callTy call_list_of rfl T.z_list rfl (pa_cons (pe_xfld (pe_ix ix_list (pv 8) pe_int (fun _ _ => rfl)) rfl) pa_nil)) (pe_slice sl_list (pv 7) po_none (po_some pe_int)) (nomark _))))))))))))))))))), ?_⟩
    refine ⟨_, rfl, a, ns, 0, rfl, hS, by decide, by decide, fun p z hp => ?_⟩
    have S1 : Same H (upd H p (.lst [.int z])) := Same.new hp
    have P1 : (upd H p (.lst [.int z])) p = some (.lst [.int z]) := upd_same
    generalize upd H p (.lst [.int z]) = H1 at S1 P1 ⊢
    refine ⟨_, rfl, _, _, rfl, rfl, pow12, _, _, rfl, rfl, mulOk_of (by decide +kernel) (by decide +kernel), p, z, _, rfl, P1, by decide +kernel, by decide +kernel, fun r z1 r0 r1 => ⟨_, _, rfl, rfl, pow12, _, _, rfl, rfl, ?_⟩⟩
    obtain ⟨n, hn0⟩ : ∃ n : Int, n = r - 10 ^ (12 : Int).toNat := ⟨_, rfl⟩
    have S2 : Same H (upd H1 p (.lst [.int z1])) := (SameX.upd (p := p) (H := H1)).same S1 hp
    have P2 : (upd H1 p (.lst [.int z1])) p = some (.lst [.int z1]) := upd_same
    generalize upd H1 p (.lst [.int z1]) = H2 at S2 P2 ⊢
    refine ⟨_, rfl, a, ns, 1, rfl, S2.seq hS, by decide, by decide, fun p2 z2 hp2 => ⟨p2, z2, rfl, upd_same, fun tx H3 s3 _ => ?_⟩⟩
    have s23 : Same H2 H3 := s3.same (Same.new hp2) hp2
    have S3 := S2.trans s23
    have P3 := s23 _ _ P2
    refine ⟨_, rfl, p, z1, 11, rfl, P3, by decide, by decide, fun t z3 t0 t1 => ?_⟩
    refine ⟨_, rfl, p, z3, 11, rfl, upd_same, by decide, by decide, fun l z4 l0 l1 => ?_⟩
    refine ⟨_, rfl, _, rfl, _, rfl, _, _, rfl, rfl, _, rfl, _, rfl, _, _, rfl, rfl, p, z4, _, rfl, upd_same, by first | lia | omega, by first | lia | omega, fun o z5 o0 o1 => ?_⟩
    refine ⟨_, _, rfl, rfl, _, rfl, _, _, rfl, rfl, _, rfl, _, rfl, _, _, rfl, rfl, p, z5, _, rfl, upd_same, by first | lia | omega, by first | lia | omega, fun q z6 q0 q1 => ?_⟩
    have S4 : Same H (upd (upd (upd (upd H3 p (.lst [.int z3])) p (.lst [.int z4])) p (.lst [.int z5])) p (.lst [.int z6])) := (((SameX.upd (p := p) (H := H3)).trans SameX.upd).trans (SameX.upd.trans SameX.upd)).same S3 hp
    generalize upd (upd (upd (upd H3 p (.lst [.int z3])) p (.lst [.int z4])) p (.lst [.int z5])) p (.lst [.int z6]) = H4 at S4 ⊢
    refine ⟨_, _, rfl, rfl, lenOk 4, fun b hb => ?_⟩
    have s5 : Same H4 (upd H4 b (.tup [.int t, .int l, .int (t + 1 + o), .int (l + 1 + q)])) := Same.new hb
    have eb : (upd H4 b (.tup [.int t, .int l, .int (t + 1 + o), .int (l + 1 + q)])) b = some (.tup (four t l (t + 1 + o) (l + 1 + q))) := upd_same
    generalize upd H4 b (.tup [.int t, .int l, .int (t + 1 + o), .int (l + 1 + q)]) = H5 at s5 eb ⊢
    generalize t + 1 + o = bo at eb
    generalize l + 1 + q = ri at eb
    have S5 := S4.trans s5
    refine ⟨_, rfl, 2, rfl, 22, rfl, a, _, rfl, S5.seq hS, fun c hc => ?_⟩
    have lc : (cutV (ns.map V.int) (some 2) (some 22)).length ≤ 63 := Nat.le_trans (cutV_length _ _ _) (by rw [List.length_map]; exact hlen)
    have ic : ∀ v ∈ cutV (ns.map V.int) (some 2) (some 22), ∃ i, v = V.int i := fun v hv => by
      unfold cutV at hv
      obtain ⟨i, _, rfl⟩ := List.mem_map.mp (List.mem_of_mem_drop (List.mem_of_mem_take hv))
      exact ⟨i, rfl⟩
    generalize cutV (ns.map V.int) (some 2) (some 22) = cs at lc ic hc ⊢
    have s6 : Same H5 (upd H5 c (.lst cs)) := Same.new hc
    have ec : (upd H5 c (.lst cs)) c = some (.lst cs) := upd_same
    generalize upd H5 c (.lst cs) = H6 at s6 ec ⊢
    refine ⟨c, rfl, ⟨_, SqL.of ec⟩, fun acc hacc => comp_list (K := K) (a := c) (ys := cs) (fun i xs σ H' => (∃ y, σ = [y]) ∧ Same H6 H' ∧ ∃ ts : List (Addr × Int), xs = trefs ts ∧ Tps H' ts)
      ⟨⟨none, rfl⟩, Same.new hacc, [], rfl, fun _ h => nomatch h⟩ (fun i xs σ H' _ _ h => SqL.of (h.2.1 _ _ ec)) ?_ ?_⟩
    · rintro i x xs σ H' hx hi hl hacc' ⟨⟨y, rfl⟩, hs, ⟨ts, rfl, ht⟩⟩
      obtain ⟨v, rfl⟩ := ic x (List.mem_of_getElem? hx)
      refine ⟨_, rfl, _, _, rfl, rfl, (show (0 : Int) < 12 from by decide), lenOk 4, fun u hu => ?_⟩
      have su : Same H' (upd H' u (.tup [.str "level", .int (v % 12), .int 0, .int 5])) := Same.new hu
      have eu : (upd H' u (.tup [.str "level", .int (v % 12), .int 0, .int 5])) u = some (.tup [.str "level", .int (v % 12), .int 0, .int 5]) := upd_same
      generalize upd H' u (.tup [.str "level", .int (v % 12), .int 0, .int 5]) = H7 at su eu ⊢
      have ha7 := su _ _ hacc'
      have nt : ∀ {d : Addr} {xs : List V}, H7 d = some (.tup xs) → d ≠ acc := fun h => ne_of h ha7 (by intro z; cases z)
      refine cNx.mk (Nat.le_of_lt (small1000 (by first | lia | omega))) hi hl ha7 ⟨⟨_, rfl⟩, fun d w' e => ?_, ts ++ [(u, v % 12)], by show _ = List.map _ _; rw [List.map_append]; rfl, fun t ht' => ?_⟩
      · rw [upd_ne (ne_of_none e hacc)]; exact su d w' (hs d w' e)
      · rcases List.mem_append.mp ht' with h | h
        · have e := su _ _ (ht t h)
          rw [upd_ne (nt e)]; exact e
        · rw [List.mem_singleton.mp h]
          rw [upd_ne (nt eu)]; exact eu
    · rintro xs σ H' hl hacc' ⟨_, hs, ⟨ts, rfl, ht⟩⟩
      have eb' := hs _ _ (s6 _ _ eb)
      refine ⟨_, rfl, _, rfl, _, rfl, _, rfl, n, tx, b, acc, t, l, bo, ri, trefs ts, by subst hn0; rfl, eb', hacc', fun m as b2 b3 pc l4 H7 s7 hm hn h2 h3 hpc hl4 X7 => ?_⟩
      have eb7 := s7 _ _ eb'
      have ea7 := s7 _ _ hacc'
      have tp7 := ht.same s7
      rw [cut4] at hl4
      have Lf : (fsL n tx b acc b2 b3 pc l4).length = 24 := rfl
      refine ⟨24, rfl, by decide, by decide, for_range (lo := 0) (n := (24 : Int).toNat) (fun i σ H' => Same H7 H' ∧ ∃ x9, σ = [some (.ref a), some (.ref p), some (.int n), some (.str tx), some (.int t), some (.int l), some (.ref b), some (.ref acc), some (.ref m), x9])
        ⟨Same.refl _, none, by subst hn0; rfl⟩ ?_ ?_⟩
      · rintro i σ H8 hi ⟨s8, x9, rfl⟩
        have hi : i < 24 := hi
        obtain ⟨ai, fi, hat, oi⟩ := xat (X7.same s8) hn Lf hi
        have hz : (0 : Int) + (i : Int) = (i : Int) := Int.zero_add _
        rw [hz]
        refine ⟨_, rfl, _, rfl, m, _, _, _, rfl, rfl, SqL.of (s8 _ _ hm), hat, ai, i, rfl, hi, oi.is, fun lk H9 s9 hlk => ?_⟩
        refine ⟨24, rfl, by decide, by decide, fun acc2 hacc2 => comp_range (lo := 0) (n := (24 : Int).toNat) (fun j xs σ H' => (∃ y, σ = [y, some (.int (i : Int))]) ∧ Same H9 H' ∧ xs = (List.range j).map fun (j : Nat) => V.bl (decide ((j : Int) = (i : Int))))
          ⟨⟨none, rfl⟩, Same.new hacc2, rfl⟩ ?_ ?_⟩
        · rintro j xs σ H' hj hl2 hacc' ⟨⟨y, rfl⟩, hs', rfl⟩
          refine ⟨_, rfl, _, rfl, rfl, cNx.mk (by decide) hj hl2 hacc' ⟨⟨_, rfl⟩, fun d w' e => by rw [upd_ne (ne_of_none e hacc2)]; exact hs' d w' e, ?_⟩⟩
          rw [List.range_succ, List.map_append]
          refine congrArg _ ?_
          show [V.bl (decide (V.int (0 + (j : Int)) = V.int (i : Int)))] = [V.bl (decide ((j : Int) = (i : Int)))]
          rw [Int.zero_add]
          by_cases h : (j : Int) = (i : Int)
          · rw [decide_eq_true h, decide_eq_true (by rw [h])]
          · rw [decide_eq_false h, decide_eq_false (fun z => h (V.int.inj z))]
        · rintro xs σ H10 hl2 hacc' ⟨_, s10, rfl⟩
          have hd : DIs K H10 (.lst (flats (kins i))) (.ref lk) := flatL (SqL.of (s10 _ _ hlk)) (kins_flat i)
          have s810 := s9.trans s10
          have o10 := oi.same s810
          have m10 := s810 _ _ (s8 _ _ hm)
          refine ⟨_, _, hd, flatL (SqL.of hacc') (kins_flat i), ⟨_, rfl⟩, ⟨_, rfl⟩, flatL_dep _, _, rfl, iteN (neD hd) ?_⟩
          refine ⟨_, rfl, _, rfl, m, _, _, _, rfl, rfl, SqL.of m10, hat, ai, C i, .ref G, .ref G, true, rfl, o10.is, R.cl i hi, rfl, fun _ z => z, R.kg i hi, _, rfl, iteN rfl ?_⟩
          refine ⟨_, rfl, _, rfl, m, _, _, _, rfl, rfl, SqL.of m10, hat, ai, C i, .ty "ValueError", .type "ValueError", true, rfl, o10.is, R.cl i hi, rfl, fun _ z => z, R.kv i hi, _, rfl, iteN rfl ?_⟩
          exact ⟨s8.trans s810, _, rfl⟩
      · rintro σ H8 ⟨s8, x9, rfl⟩
        have X8 := X7.same s8
        have m8 := s8 _ _ hm
        have b8 := s8 _ _ eb7
        have a8 := s8 _ _ ea7
        have t8 := tp7.same s8
        -- the numbers
        refine ⟨_, rfl, m, as, n, tx, b, acc, b2, b3, pc, l4, rfl, m8, hn, X8, fun ln H9 s9 hln => ?_⟩
        have hrp : (List.replicate (14 : Int).toNat [V.int n]).flatten = List.replicate 14 (V.int n) := rfl
        refine ⟨_, rfl, lenOk 1, fun lr hlr => ⟨lr, 14, [.int n], rfl, rfl, upd_same, by decide, by decide, (show 1 * (14 : Int).toNat ≤ sizeLine from by decide +kernel), fun lp hlp => ?_⟩⟩
        have s11 : Same H9 (upd (upd H9 lr (.lst [.int n])) lp (.lst (List.replicate 14 (V.int n)))) := (Same.new hlr).trans (Same.new hlp)
        have elp : (upd (upd H9 lr (.lst [.int n])) lp (.lst (List.replicate 14 (V.int n)))) lp = some (.lst (List.replicate 14 (V.int n))) := upd_same
        rw [hrp]
        generalize upd (upd H9 lr (.lst [.int n])) lp (.lst (List.replicate 14 (V.int n))) = HA at s11 elp ⊢
        have hd1 : DIs K HA (.lst (flats (List.replicate 14 (V.int n)))) (.ref ln) := flatL (SqL.of (s11 _ _ hln)) (rep_flat n 14)
        refine ⟨_, _, hd1, flatL (SqL.of elp) (rep_flat n 14), ⟨_, rfl⟩, ⟨_, rfl⟩, flatL_dep _, _, rfl, iteN (neD hd1) ?_⟩
        have s8A := s9.trans s11
        have XA := X8.same s8A
        have mA := s8A _ _ m8
        have bA := s8A _ _ b8
        have aA := s8A _ _ a8
        have tA := t8.same s8A
        have h2A := s8A _ _ (s8 _ _ h2)
        have h3A := s8A _ _ (s8 _ _ h3)
        have hpA := s8A _ _ (s8 _ _ hpc)
        have h4A := s8A _ _ (s8 _ _ hl4)
        clear hln hlr hlp elp hd1 s11 s9 X8 m8 b8 a8 t8
        -- the square
        obtain ⟨x4, d4, _, i4, g4, k4⟩ := xget 4 XA hn (by decide) rfl (show List.lookup ("square" : Str) ([(("square" : Str), .ref b2)] : List (Str × V)) = some (.ref b2) from rfl) rfl
        refine ⟨_, rfl, m, _, 4, _, rfl, rfl, SqL.of mA, i4, x4, C 4, d4, _, _, rfl, g4, k4, R.cl 4 (by decide), R.n_Bare_square, rfl, ?_⟩
        refine ⟨_, rfl, 2, rfl, b, four t l bo ri, rfl, SqT.of bA, by simp [HT.sIx], fun c1 hc1 => ?_⟩
        have sB : Same HA (upd HA c1 (.tup (cutV (four t l bo ri) none (some 2)))) := Same.new hc1
        have ec1 : (upd HA c1 (.tup (cutV (four t l bo ri) none (some 2)))) c1 = some (.tup [.int t, .int l]) := upd_same
        generalize upd HA c1 (.tup (cutV (four t l bo ri) none (some 2))) = HB at sB ec1 ⊢
        have hd2 : DIs K HB (.tup (flats [.int t, .int l])) (.ref b2) := flatT (SqT.of (sB _ _ h2A)) (flat_two t l)
        refine ⟨_, _, hd2, flatT (SqT.of ec1) (flat_two t l), ⟨_, rfl⟩, ⟨_, rfl⟩, flatT_dep _, _, rfl, iteN (neD hd2) ?_⟩
        have XB := XA.same sB
        have mB := sB _ _ mA
        -- the drawing, the letter
        obtain ⟨x5, d5, _, i5, g5, k5⟩ := xget 5 XB hn (by decide) rfl (show List.lookup ("drawing" : Str) ([(("drawing" : Str), .str tx)] : List (Str × V)) = some (.str tx) from rfl) rfl
        refine ⟨_, rfl, m, _, 5, _, rfl, rfl, SqL.of mB, i5, x5, C 5, d5, _, _, rfl, g5, k5, R.cl 5 (by decide), R.n_NoDrawing_drawing, rfl, _, rfl, rfl, _, rfl, iteN (decNS _) ?_⟩
        obtain ⟨x6, d6, _, i6, g6, k6⟩ := xget 6 XB hn (by decide) rfl (show List.lookup ("letter" : Str) ([(("letter" : Str), .str tx)] : List (Str × V)) = some (.str tx) from rfl) rfl
        refine ⟨_, rfl, m, _, 6, _, rfl, rfl, SqL.of mB, i6, x6, C 6, d6, _, _, rfl, g6, k6, R.cl 6 (by decide), R.n_Ragged_letter, rfl, _, rfl, rfl, _, rfl, iteN (decNS _) ?_⟩
        -- the blocks
        have bB := sB _ _ bA
        have hd3 : DIs K HB (.tup (flats (four t l bo ri))) (.ref b) := flatT (SqT.of bB) (flat_four t l bo ri)
        obtain ⟨x9', d9, _, i9, g9, k9⟩ := xget 9 XB hn (by decide) rfl (show List.lookup ("block" : Str) ([(("block" : Str), .ref b)] : List (Str × V)) = some (.ref b) from rfl) rfl
        refine ⟨_, rfl, m, _, 9, _, rfl, rfl, SqL.of mB, i9, x9', C 9, d9, _, _, rfl, g9, k9, R.cl 9 (by decide), R.n_NoBlock_block, rfl, _, rfl, _, _, hd3, hd3, ⟨_, rfl⟩, ⟨_, rfl⟩, flatT_dep _, _, rfl, iteN (neD hd3) ?_⟩
        obtain ⟨x11, d11, _, i11, g11, k11⟩ := xget 11 XB hn (by decide) rfl (show List.lookup ("steps" : Str) ([(("steps" : Str), .ref b)] : List (Str × V)) = some (.ref b) from rfl) rfl
        refine ⟨_, rfl, m, _, 11, _, rfl, rfl, SqL.of mB, i11, x11, C 11, d11, _, _, rfl, g11, k11, R.cl 11 (by decide), R.n_NoMove_steps, rfl, _, rfl, _, _, hd3, hd3, ⟨_, rfl⟩, ⟨_, rfl⟩, flatT_dep _, _, rfl, iteN (neD hd3) ?_⟩
        -- the piece
        obtain ⟨x15, d15, _, i15, g15, k15⟩ := xget 15 XB hn (by decide) rfl (show List.lookup ("piece" : Str) ([(("piece" : Str), .ref pc)] : List (Str × V)) = some (.ref pc) from rfl) rfl
        refine ⟨_, rfl, m, _, 15, _, rfl, rfl, SqL.of mB, i15, x15, C 15, d15, _, _, rfl, g15, k15, R.cl 15 (by decide), R.n_Unfit_piece, rfl, _, rfl, lenOk 2, fun c2 hc2 => ?_⟩
        have sC : Same HB (upd HB c2 (.tup [.ref b, .non])) := Same.new hc2
        have ec2 : (upd HB c2 (.tup [.ref b, .non])) c2 = some (.tup [.ref b, .non]) := upd_same
        generalize upd HB c2 (.tup [.ref b, .non]) = HC at sC ec2 ⊢
        have pcD : ∀ {a : Addr}, HC a = some (.tup [.ref b, .non]) → DIs K HC (.tup (.cons (.tup (flats (four t l bo ri))) (.cons (.at .non) .nil))) (.ref a) := fun {a} h => by
          rw [DIs]
          refine ⟨a, _, rfl, SqT.of h, ?_⟩
          rw [DIss]
          refine ⟨_, _, rfl, flatT (SqT.of (sC _ _ bB)) (flat_four t l bo ri), ?_⟩
          rw [DIss]
          exact ⟨_, _, rfl, by rw [DIs]; exact ⟨rfl, rfl⟩, by rw [DIss]⟩
        have hd4 := pcD (sC _ _ (sB _ _ hpA))
        refine ⟨_, _, hd4, pcD ec2, ⟨_, rfl⟩, ⟨_, rfl⟩, by rw [dep, deps, deps, deps, dep, dep, flats_dep]; first | lia | omega, _, rfl, iteN (neD hd4) ?_⟩
        have XC := XB.same sC
        have mC := sC _ _ mB
        have bC := sC _ _ bB
        -- the size
        obtain ⟨x19, d19, _, i19, g19, k19⟩ := xget 19 XC hn (by decide) rfl (show List.lookup ("size" : Str) ([(("size" : Str), .ref b3)] : List (Str × V)) = some (.ref b3) from rfl) rfl
        refine ⟨_, rfl, m, _, 19, _, rfl, rfl, SqL.of mC, i19, x19, C 19, d19, _, _, rfl, g19, k19, R.cl 19 (by decide), R.n_NoSize_size, rfl, ?_⟩
        refine ⟨_, rfl, 2, rfl, b, four t l bo ri, rfl, SqT.of bC, by simp [HT.sIx], fun c3 hc3 => ?_⟩
        have sD : Same HC (upd HC c3 (.tup (cutV (four t l bo ri) (some 2) none))) := Same.new hc3
        have ec3 : (upd HC c3 (.tup (cutV (four t l bo ri) (some 2) none))) c3 = some (.tup [.int bo, .int ri]) := upd_same
        generalize upd HC c3 (.tup (cutV (four t l bo ri) (some 2) none)) = HD at sD ec3 ⊢
        have hd5 : DIs K HD (.tup (flats [.int bo, .int ri])) (.ref b3) := flatT (SqT.of (sD _ _ (sC _ _ (sB _ _ h3A)))) (flat_two bo ri)
        refine ⟨_, _, hd5, flatT (SqT.of ec3) (flat_two bo ri), ⟨_, rfl⟩, ⟨_, rfl⟩, flatT_dep _, _, rfl, iteN (neD hd5) ?_⟩
        have XD := XC.same sD
        have mD := sD _ _ mC
        have bD := sD _ _ bC
        obtain ⟨x22, d22, _, i22, g22, k22⟩ := xget 22 XD hn (by decide) rfl (show List.lookup ("line" : Str) ([(("line" : Str), .str tx)] : List (Str × V)) = some (.str tx) from rfl) rfl
        refine ⟨_, rfl, m, _, 22, _, rfl, rfl, SqL.of mD, i22, x22, C 22, d22, _, _, rfl, g22, k22, R.cl 22 (by decide), R.n_NoLine_line, rfl, _, rfl, rfl, _, rfl, iteN (decNS _) ?_⟩
        obtain ⟨x23, d23, _, i23, g23, k23⟩ := xget 23 XD hn (by decide) rfl (show List.lookup ("name" : Str) ([(("name" : Str), .str tx)] : List (Str × V)) = some (.str tx) from rfl) rfl
        refine ⟨_, rfl, m, _, 23, _, rfl, rfl, SqL.of mD, i23, x23, C 23, d23, _, _, rfl, g23, k23, R.cl 23 (by decide), R.n_NoName_name, rfl, _, rfl, rfl, _, rfl, iteN (decNS _) ?_⟩
        -- the room
        have fs10 : ∀ {f : Str} {v : V}, List.lookup f ([(("room" : Str), .ref b), ("breaks", .ref acc), ("leads", .ref l4)] : List (Str × V)) = some v → List.lookup f ([(("room" : Str), .ref b), ("breaks", .ref acc), ("leads", .ref l4)] : List (Str × V)) = some v := fun h => h
        obtain ⟨x10, d10, _, i10, g10, k10⟩ := xget 10 XD hn (by decide) rfl (show List.lookup ("room" : Str) ([(("room" : Str), .ref b), ("breaks", .ref acc), ("leads", .ref l4)] : List (Str × V)) = some (.ref b) from rfl) rfl
        have hd6 : DIs K HD (.tup (flats (four t l bo ri))) (.ref b) := flatT (SqT.of bD) (flat_four t l bo ri)
        refine ⟨_, rfl, m, _, 10, _, rfl, rfl, SqL.of mD, i10, x10, C 10, d10, _, _, rfl, g10, k10, R.cl 10 (by decide), R.n_Stuck_room, rfl, _, rfl, _, _, hd6, hd6, ⟨_, rfl⟩, ⟨_, rfl⟩, flatT_dep _, _, rfl, iteP (eqD hd6) ?_⟩
        have sAD := sB.trans (sC.trans sD)
        refine ⟨_, rfl, m, _, 10, _, rfl, rfl, SqL.of mD, i10, x10, C 10, d10, _, _, rfl, g10, k10, R.cl 10 (by decide), R.n_Stuck_breaks, (show List.lookup ("breaks" : Str) ([(("room" : Str), .ref b), ("breaks", .ref acc), ("leads", .ref l4)] : List (Str × V)) = some (.ref acc) from rfl), acc, trefs ts, rfl, .inl (SqL.of (sAD _ _ aA)), fun c4 hc4 => ?_⟩
        have sE : Same HD (upd HD c4 (.lst (trefs ts))) := Same.new hc4
        have ec4 : (upd HD c4 (.lst (trefs ts))) c4 = some (.lst (trefs ts)) := upd_same
        generalize upd HD c4 (.lst (trefs ts)) = HE at sE ec4 ⊢
        have tE := tA.same (sAD.trans sE)
        have hd7 : DIs K HE (.lst (tpD ts)) (.ref c4) := tpL_is (SqL.of ec4) tE
        have hd8 : DIs K HE (.lst (tpD ts)) (.ref acc) := tpL_is (SqL.of (sE _ _ (sAD _ _ aA))) tE
        refine ⟨_, rfl, _, _, hd7, hd8, ⟨_, rfl⟩, ⟨_, rfl⟩, tpL_dep _, _, rfl, iteP (eqD hd7) ?_⟩
        refine ⟨_, rfl, m, _, 10, _, rfl, rfl, SqL.of (sE _ _ mD), i10, x10, C 10, d10, _, _, rfl, sE _ _ g10, sE _ _ k10, R.cl 10 (by decide), R.n_Stuck_leads, (show List.lookup ("leads" : Str) ([(("room" : Str), .ref b), ("breaks", .ref acc), ("leads", .ref l4)] : List (Str × V)) = some (.ref l4) from rfl), l4, trefs (ts.take 4), rfl, .inl (SqL.of (sE _ _ (sAD _ _ h4A))), fun c5 hc5 => ?_⟩
        have sF : Same HE (upd HE c5 (.lst (trefs (ts.take 4)))) := Same.new hc5
        have ec5 : (upd HE c5 (.lst (trefs (ts.take 4)))) c5 = some (.lst (trefs (ts.take 4))) := upd_same
        generalize upd HE c5 (.lst (trefs (ts.take 4))) = HF at sF ec5 ⊢
        refine ⟨_, rfl, 4, rfl, acc, trefs ts, rfl, SqL.of (sF _ _ (sE _ _ (sAD _ _ aA))), fun c6 hc6 => ?_⟩
        rw [cut4]
        have sG : Same HF (upd HF c6 (.lst (trefs (ts.take 4)))) := Same.new hc6
        have ec6 : (upd HF c6 (.lst (trefs (ts.take 4)))) c6 = some (.lst (trefs (ts.take 4))) := upd_same
        generalize upd HF c6 (.lst (trefs (ts.take 4))) = HG at sG ec6 ⊢
        have tG : Tps HG (ts.take 4) := fun u hu => (tE.same (sF.trans sG)) u (List.mem_of_mem_take hu)
        have hd9 : DIs K HG (.lst (tpD (ts.take 4))) (.ref c5) := tpL_is (SqL.of (sG _ _ ec5)) tG
        refine ⟨_, _, hd9, tpL_is (SqL.of ec6) tG, ⟨_, rfl⟩, ⟨_, rfl⟩, tpL_dep _, ?_⟩
        rw [eqD hd9]
        exact k _
end
def clsAll (K : PySem.W.Frag) (cs : List Addr) (g : Addr) : Bool := cs.all (fun c => xclsB K c && (PySem.W.kitOne K (.ref c) (.ref g) == some true) && (PySem.W.kitOne K (.ref c) (.type "ValueError") == some true)) &&
  (List.range 24).all fun i => (List.range 24).all fun j => PySem.W.kitOne K (.ref (cs.getD i 0)) (.ref (cs.getD j 0)) == some (j == i)
theorem clsAll_of {K : PySem.W.Frag} {cs : List Addr} {g : Addr} (hl : cs.length = 24) (h : clsAll K cs g = true) : (∀ i, i < 24 → XCls K (cs.getD i 0)) ∧ (∀ i j, i < 24 → j < 24 → PySem.W.kitOne K (.ref (cs.getD i 0)) (.ref (cs.getD j 0)) = some (decide ((j : Int) = (i : Int)))) ∧
    (∀ i, i < 24 → PySem.W.kitOne K (.ref (cs.getD i 0)) (.ref g) = some true) ∧ ∀ i, i < 24 → PySem.W.kitOne K (.ref (cs.getD i 0)) (.type "ValueError") = some true := by
  unfold clsAll at h
  rw [Bool.and_eq_true, List.all_eq_true, List.all_eq_true] at h
  obtain ⟨h1, h2⟩ := h
  have hm : ∀ i, i < 24 → cs.getD i 0 ∈ cs := fun i hi => by
    rw [List.getD_eq_getElem?_getD, List.getElem?_eq_getElem (show i < cs.length by first | lia | omega)]
    exact List.getElem_mem _
  refine ⟨fun i hi => ?_, fun i j hi hj => ?_, fun i hi => ?_, fun i hi => ?_⟩
  · have := h1 _ (hm i hi)
    simp only [Bool.and_eq_true] at this
    exact XCls.of this.1.1
  · have := h2 i (List.mem_range.mpr hi)
    rw [List.all_eq_true] at this
    have := beq_iff_eq.mp (this j (List.mem_range.mpr hj))
    rw [this]
    by_cases e : j = i
    · subst e; simp
    · have n : ¬ (j : Int) = (i : Int) := fun z => e (by first | lia | omega)
      rw [decide_eq_false n, beq_eq_false_iff_ne.mpr e]
  · have := h1 _ (hm i hi)
    simp only [Bool.and_eq_true, beq_iff_eq] at this
    exact this.1.2
  · have := h1 _ (hm i hi)
    simp only [Bool.and_eq_true, beq_iff_eq] at this
    exact this.2
theorem all_mk {l : PySem.W.OpenLaw} {w : World} {K : PySem.W.Frag} {h : Heap} {mg : Str → Option Value} {fa : Addr} (X : K.In h) (G : h.Ns mainGlobals mg) (hfa : mg "law" = some (.ref fa))
    {cG : Addr} (aG : PySem.W.nsIn K mainGlobals "GlassError" = some (some (.ref cG)))
    {c0 : Addr} (aC0 : PySem.W.nsIn K mainGlobals "NoSide" = some (some (.ref c0))) (kC0 : PySem.W.keepIn K (.ref c0) = true)
    (nC0_side : PySem.W.findIn K (.ref c0) "side" = some none)
    {f0 : Addr} {od0 an0 : Option Addr} {sl0 : Array (Option Value)} {oc0 kV0 dc0 pm0 cd0 ct0 : Value} (a0 : PySem.W.findIn K (.ref c0) "__init__" = some (some (.ref f0))) (i0 : PySem.W.isFn K (.ref f0) = true) (l0 : K.lookup f0 = some ⟨oc0, od0, .func (PySem.W.fnOf "__init__" "NoSide.__init__" (defArgs s_NoSide_init) (defBody s_NoSide_init) (defScope s_NoSide_init) .none kV0 dc0 pm0 an0 cd0 ct0), sl0⟩) (cc0 : PySem.W.codeIn K cd0 "NoSide.__init__" = true) (k0 : PySem.W.keepIn K (.ref f0) = true) (ei0 : excInI K c0 f0 = true)
    {c1 : Addr} (aC1 : PySem.W.nsIn K mainGlobals "TooMany" = some (some (.ref c1))) (kC1 : PySem.W.keepIn K (.ref c1) = true)
    (nC1_many : PySem.W.findIn K (.ref c1) "many" = some none)
    {f1 : Addr} {od1 an1 : Option Addr} {sl1 : Array (Option Value)} {oc1 kV1 dc1 pm1 cd1 ct1 : Value} (a1 : PySem.W.findIn K (.ref c1) "__init__" = some (some (.ref f1))) (i1 : PySem.W.isFn K (.ref f1) = true) (l1 : K.lookup f1 = some ⟨oc1, od1, .func (PySem.W.fnOf "__init__" "TooMany.__init__" (defArgs s_TooMany_init) (defBody s_TooMany_init) (defScope s_TooMany_init) .none kV1 dc1 pm1 an1 cd1 ct1), sl1⟩) (cc1 : PySem.W.codeIn K cd1 "TooMany.__init__" = true) (k1 : PySem.W.keepIn K (.ref f1) = true) (ei1 : excInI K c1 f1 = true)
    {c2 : Addr} (aC2 : PySem.W.nsIn K mainGlobals "NoPane" = some (some (.ref c2))) (kC2 : PySem.W.keepIn K (.ref c2) = true)
    (nC2_place : PySem.W.findIn K (.ref c2) "place" = some none)
    {f2 : Addr} {od2 an2 : Option Addr} {sl2 : Array (Option Value)} {oc2 kV2 dc2 pm2 cd2 ct2 : Value} (a2 : PySem.W.findIn K (.ref c2) "__init__" = some (some (.ref f2))) (i2 : PySem.W.isFn K (.ref f2) = true) (l2 : K.lookup f2 = some ⟨oc2, od2, .func (PySem.W.fnOf "__init__" "NoPane.__init__" (defArgs s_NoPane_init) (defBody s_NoPane_init) (defScope s_NoPane_init) .none kV2 dc2 pm2 an2 cd2 ct2), sl2⟩) (cc2 : PySem.W.codeIn K cd2 "NoPane.__init__" = true) (k2 : PySem.W.keepIn K (.ref f2) = true) (ei2 : excInI K c2 f2 = true)
    {c3 : Addr} (aC3 : PySem.W.nsIn K mainGlobals "Overlap" = some (some (.ref c3))) (kC3 : PySem.W.keepIn K (.ref c3) = true)
    (nC3_place : PySem.W.findIn K (.ref c3) "place" = some none)
    {f3 : Addr} {od3 an3 : Option Addr} {sl3 : Array (Option Value)} {oc3 kV3 dc3 pm3 cd3 ct3 : Value} (a3 : PySem.W.findIn K (.ref c3) "__init__" = some (some (.ref f3))) (i3 : PySem.W.isFn K (.ref f3) = true) (l3 : K.lookup f3 = some ⟨oc3, od3, .func (PySem.W.fnOf "__init__" "Overlap.__init__" (defArgs s_Overlap_init) (defBody s_Overlap_init) (defScope s_Overlap_init) .none kV3 dc3 pm3 an3 cd3 ct3), sl3⟩) (cc3 : PySem.W.codeIn K cd3 "Overlap.__init__" = true) (k3 : PySem.W.keepIn K (.ref f3) = true) (ei3 : excInI K c3 f3 = true)
    {c4 : Addr} (aC4 : PySem.W.nsIn K mainGlobals "Bare" = some (some (.ref c4))) (kC4 : PySem.W.keepIn K (.ref c4) = true)
    (nC4_square : PySem.W.findIn K (.ref c4) "square" = some none)
    {f4 : Addr} {od4 an4 : Option Addr} {sl4 : Array (Option Value)} {oc4 kV4 dc4 pm4 cd4 ct4 : Value} (a4 : PySem.W.findIn K (.ref c4) "__init__" = some (some (.ref f4))) (i4 : PySem.W.isFn K (.ref f4) = true) (l4 : K.lookup f4 = some ⟨oc4, od4, .func (PySem.W.fnOf "__init__" "Bare.__init__" (defArgs s_Bare_init) (defBody s_Bare_init) (defScope s_Bare_init) .none kV4 dc4 pm4 an4 cd4 ct4), sl4⟩) (cc4 : PySem.W.codeIn K cd4 "Bare.__init__" = true) (k4 : PySem.W.keepIn K (.ref f4) = true) (ei4 : excInI K c4 f4 = true)
    {c5 : Addr} (aC5 : PySem.W.nsIn K mainGlobals "NoDrawing" = some (some (.ref c5))) (kC5 : PySem.W.keepIn K (.ref c5) = true)
    (nC5_drawing : PySem.W.findIn K (.ref c5) "drawing" = some none)
    {f5 : Addr} {od5 an5 : Option Addr} {sl5 : Array (Option Value)} {oc5 kV5 dc5 pm5 cd5 ct5 : Value} (a5 : PySem.W.findIn K (.ref c5) "__init__" = some (some (.ref f5))) (i5 : PySem.W.isFn K (.ref f5) = true) (l5 : K.lookup f5 = some ⟨oc5, od5, .func (PySem.W.fnOf "__init__" "NoDrawing.__init__" (defArgs s_NoDrawing_init) (defBody s_NoDrawing_init) (defScope s_NoDrawing_init) .none kV5 dc5 pm5 an5 cd5 ct5), sl5⟩) (cc5 : PySem.W.codeIn K cd5 "NoDrawing.__init__" = true) (k5 : PySem.W.keepIn K (.ref f5) = true) (ei5 : excInI K c5 f5 = true)
    {c6 : Addr} (aC6 : PySem.W.nsIn K mainGlobals "Ragged" = some (some (.ref c6))) (kC6 : PySem.W.keepIn K (.ref c6) = true)
    (nC6_letter : PySem.W.findIn K (.ref c6) "letter" = some none)
    {f6 : Addr} {od6 an6 : Option Addr} {sl6 : Array (Option Value)} {oc6 kV6 dc6 pm6 cd6 ct6 : Value} (a6 : PySem.W.findIn K (.ref c6) "__init__" = some (some (.ref f6))) (i6 : PySem.W.isFn K (.ref f6) = true) (l6 : K.lookup f6 = some ⟨oc6, od6, .func (PySem.W.fnOf "__init__" "Ragged.__init__" (defArgs s_Ragged_init) (defBody s_Ragged_init) (defScope s_Ragged_init) .none kV6 dc6 pm6 an6 cd6 ct6), sl6⟩) (cc6 : PySem.W.codeIn K cd6 "Ragged.__init__" = true) (k6 : PySem.W.keepIn K (.ref f6) = true) (ei6 : excInI K c6 f6 = true)
    {c7 : Addr} (aC7 : PySem.W.nsIn K mainGlobals "NoCut" = some (some (.ref c7))) (kC7 : PySem.W.keepIn K (.ref c7) = true)
    (nC7_at : PySem.W.findIn K (.ref c7) "at" = some none)
    {f7 : Addr} {od7 an7 : Option Addr} {sl7 : Array (Option Value)} {oc7 kV7 dc7 pm7 cd7 ct7 : Value} (a7 : PySem.W.findIn K (.ref c7) "__init__" = some (some (.ref f7))) (i7 : PySem.W.isFn K (.ref f7) = true) (l7 : K.lookup f7 = some ⟨oc7, od7, .func (PySem.W.fnOf "__init__" "NoCut.__init__" (defArgs s_NoCut_init) (defBody s_NoCut_init) (defScope s_NoCut_init) .none kV7 dc7 pm7 an7 cd7 ct7), sl7⟩) (cc7 : PySem.W.codeIn K cd7 "NoCut.__init__" = true) (k7 : PySem.W.keepIn K (.ref f7) = true) (ei7 : excInI K c7 f7 = true)
    {c8 : Addr} (aC8 : PySem.W.nsIn K mainGlobals "NoTree" = some (some (.ref c8))) (kC8 : PySem.W.keepIn K (.ref c8) = true)
    (nC8_place : PySem.W.findIn K (.ref c8) "place" = some none)
    {f8 : Addr} {od8 an8 : Option Addr} {sl8 : Array (Option Value)} {oc8 kV8 dc8 pm8 cd8 ct8 : Value} (a8 : PySem.W.findIn K (.ref c8) "__init__" = some (some (.ref f8))) (i8 : PySem.W.isFn K (.ref f8) = true) (l8 : K.lookup f8 = some ⟨oc8, od8, .func (PySem.W.fnOf "__init__" "NoTree.__init__" (defArgs s_NoTree_init) (defBody s_NoTree_init) (defScope s_NoTree_init) .none kV8 dc8 pm8 an8 cd8 ct8), sl8⟩) (cc8 : PySem.W.codeIn K cd8 "NoTree.__init__" = true) (k8 : PySem.W.keepIn K (.ref f8) = true) (ei8 : excInI K c8 f8 = true)
    {c9 : Addr} (aC9 : PySem.W.nsIn K mainGlobals "NoBlock" = some (some (.ref c9))) (kC9 : PySem.W.keepIn K (.ref c9) = true)
    (nC9_block : PySem.W.findIn K (.ref c9) "block" = some none)
    {f9 : Addr} {od9 an9 : Option Addr} {sl9 : Array (Option Value)} {oc9 kV9 dc9 pm9 cd9 ct9 : Value} (a9 : PySem.W.findIn K (.ref c9) "__init__" = some (some (.ref f9))) (i9 : PySem.W.isFn K (.ref f9) = true) (l9 : K.lookup f9 = some ⟨oc9, od9, .func (PySem.W.fnOf "__init__" "NoBlock.__init__" (defArgs s_NoBlock_init) (defBody s_NoBlock_init) (defScope s_NoBlock_init) .none kV9 dc9 pm9 an9 cd9 ct9), sl9⟩) (cc9 : PySem.W.codeIn K cd9 "NoBlock.__init__" = true) (k9 : PySem.W.keepIn K (.ref f9) = true) (ei9 : excInI K c9 f9 = true)
    {c10 : Addr} (aC10 : PySem.W.nsIn K mainGlobals "Stuck" = some (some (.ref c10))) (kC10 : PySem.W.keepIn K (.ref c10) = true)
    (nC10_room : PySem.W.findIn K (.ref c10) "room" = some none)
    (nC10_breaks : PySem.W.findIn K (.ref c10) "breaks" = some none)
    (nC10_leads : PySem.W.findIn K (.ref c10) "leads" = some none)
    {f10 : Addr} {od10 an10 : Option Addr} {sl10 : Array (Option Value)} {oc10 kV10 dc10 pm10 cd10 ct10 : Value} (a10 : PySem.W.findIn K (.ref c10) "__init__" = some (some (.ref f10))) (i10 : PySem.W.isFn K (.ref f10) = true) (l10 : K.lookup f10 = some ⟨oc10, od10, .func (PySem.W.fnOf "__init__" "Stuck.__init__" (defArgs s_Stuck_init) (defBody s_Stuck_init) (defScope s_Stuck_init) .none kV10 dc10 pm10 an10 cd10 ct10), sl10⟩) (cc10 : PySem.W.codeIn K cd10 "Stuck.__init__" = true) (k10 : PySem.W.keepIn K (.ref f10) = true) (ei10 : excInI K c10 f10 = true)
    {c11 : Addr} (aC11 : PySem.W.nsIn K mainGlobals "NoMove" = some (some (.ref c11))) (kC11 : PySem.W.keepIn K (.ref c11) = true)
    (nC11_steps : PySem.W.findIn K (.ref c11) "steps" = some none)
    {f11 : Addr} {od11 an11 : Option Addr} {sl11 : Array (Option Value)} {oc11 kV11 dc11 pm11 cd11 ct11 : Value} (a11 : PySem.W.findIn K (.ref c11) "__init__" = some (some (.ref f11))) (i11 : PySem.W.isFn K (.ref f11) = true) (l11 : K.lookup f11 = some ⟨oc11, od11, .func (PySem.W.fnOf "__init__" "NoMove.__init__" (defArgs s_NoMove_init) (defBody s_NoMove_init) (defScope s_NoMove_init) .none kV11 dc11 pm11 an11 cd11 ct11), sl11⟩) (cc11 : PySem.W.codeIn K cd11 "NoMove.__init__" = true) (k11 : PySem.W.keepIn K (.ref f11) = true) (ei11 : excInI K c11 f11 = true)
    {c12 : Addr} (aC12 : PySem.W.nsIn K mainGlobals "Unlike" = some (some (.ref c12))) (kC12 : PySem.W.keepIn K (.ref c12) = true)
    (ei12 : PySem.W.excIn K c12 vErr "ValueError.__new__" = true)
    {c13 : Addr} (aC13 : PySem.W.nsIn K mainGlobals "NoNumber" = some (some (.ref c13))) (kC13 : PySem.W.keepIn K (.ref c13) = true)
    (nC13_number : PySem.W.findIn K (.ref c13) "number" = some none)
    {f13 : Addr} {od13 an13 : Option Addr} {sl13 : Array (Option Value)} {oc13 kV13 dc13 pm13 cd13 ct13 : Value} (a13 : PySem.W.findIn K (.ref c13) "__init__" = some (some (.ref f13))) (i13 : PySem.W.isFn K (.ref f13) = true) (l13 : K.lookup f13 = some ⟨oc13, od13, .func (PySem.W.fnOf "__init__" "NoNumber.__init__" (defArgs s_NoNumber_init) (defBody s_NoNumber_init) (defScope s_NoNumber_init) .none kV13 dc13 pm13 an13 cd13 ct13), sl13⟩) (cc13 : PySem.W.codeIn K cd13 "NoNumber.__init__" = true) (k13 : PySem.W.keepIn K (.ref f13) = true) (ei13 : excInI K c13 f13 = true)
    {c14 : Addr} (aC14 : PySem.W.nsIn K mainGlobals "NoKind" = some (some (.ref c14))) (kC14 : PySem.W.keepIn K (.ref c14) = true)
    (nC14_place : PySem.W.findIn K (.ref c14) "place" = some none)
    {f14 : Addr} {od14 an14 : Option Addr} {sl14 : Array (Option Value)} {oc14 kV14 dc14 pm14 cd14 ct14 : Value} (a14 : PySem.W.findIn K (.ref c14) "__init__" = some (some (.ref f14))) (i14 : PySem.W.isFn K (.ref f14) = true) (l14 : K.lookup f14 = some ⟨oc14, od14, .func (PySem.W.fnOf "__init__" "NoKind.__init__" (defArgs s_NoKind_init) (defBody s_NoKind_init) (defScope s_NoKind_init) .none kV14 dc14 pm14 an14 cd14 ct14), sl14⟩) (cc14 : PySem.W.codeIn K cd14 "NoKind.__init__" = true) (k14 : PySem.W.keepIn K (.ref f14) = true) (ei14 : excInI K c14 f14 = true)
    {c15 : Addr} (aC15 : PySem.W.nsIn K mainGlobals "Unfit" = some (some (.ref c15))) (kC15 : PySem.W.keepIn K (.ref c15) = true)
    (nC15_piece : PySem.W.findIn K (.ref c15) "piece" = some none)
    {f15 : Addr} {od15 an15 : Option Addr} {sl15 : Array (Option Value)} {oc15 kV15 dc15 pm15 cd15 ct15 : Value} (a15 : PySem.W.findIn K (.ref c15) "__init__" = some (some (.ref f15))) (i15 : PySem.W.isFn K (.ref f15) = true) (l15 : K.lookup f15 = some ⟨oc15, od15, .func (PySem.W.fnOf "__init__" "Unfit.__init__" (defArgs s_Unfit_init) (defBody s_Unfit_init) (defScope s_Unfit_init) .none kV15 dc15 pm15 an15 cd15 ct15), sl15⟩) (cc15 : PySem.W.codeIn K cd15 "Unfit.__init__" = true) (k15 : PySem.W.keepIn K (.ref f15) = true) (ei15 : excInI K c15 f15 = true)
    {c16 : Addr} (aC16 : PySem.W.nsIn K mainGlobals "NoFlaw" = some (some (.ref c16))) (kC16 : PySem.W.keepIn K (.ref c16) = true)
    (nC16_place : PySem.W.findIn K (.ref c16) "place" = some none)
    {f16 : Addr} {od16 an16 : Option Addr} {sl16 : Array (Option Value)} {oc16 kV16 dc16 pm16 cd16 ct16 : Value} (a16 : PySem.W.findIn K (.ref c16) "__init__" = some (some (.ref f16))) (i16 : PySem.W.isFn K (.ref f16) = true) (l16 : K.lookup f16 = some ⟨oc16, od16, .func (PySem.W.fnOf "__init__" "NoFlaw.__init__" (defArgs s_NoFlaw_init) (defBody s_NoFlaw_init) (defScope s_NoFlaw_init) .none kV16 dc16 pm16 an16 cd16 ct16), sl16⟩) (cc16 : PySem.W.codeIn K cd16 "NoFlaw.__init__" = true) (k16 : PySem.W.keepIn K (.ref f16) = true) (ei16 : excInI K c16 f16 = true)
    {c17 : Addr} (aC17 : PySem.W.nsIn K mainGlobals "NoWant" = some (some (.ref c17))) (kC17 : PySem.W.keepIn K (.ref c17) = true)
    (nC17_place : PySem.W.findIn K (.ref c17) "place" = some none)
    {f17 : Addr} {od17 an17 : Option Addr} {sl17 : Array (Option Value)} {oc17 kV17 dc17 pm17 cd17 ct17 : Value} (a17 : PySem.W.findIn K (.ref c17) "__init__" = some (some (.ref f17))) (i17 : PySem.W.isFn K (.ref f17) = true) (l17 : K.lookup f17 = some ⟨oc17, od17, .func (PySem.W.fnOf "__init__" "NoWant.__init__" (defArgs s_NoWant_init) (defBody s_NoWant_init) (defScope s_NoWant_init) .none kV17 dc17 pm17 an17 cd17 ct17), sl17⟩) (cc17 : PySem.W.codeIn K cd17 "NoWant.__init__" = true) (k17 : PySem.W.keepIn K (.ref f17) = true) (ei17 : excInI K c17 f17 = true)
    {c18 : Addr} (aC18 : PySem.W.nsIn K mainGlobals "NoSheet" = some (some (.ref c18))) (kC18 : PySem.W.keepIn K (.ref c18) = true)
    (nC18_place : PySem.W.findIn K (.ref c18) "place" = some none)
    {f18 : Addr} {od18 an18 : Option Addr} {sl18 : Array (Option Value)} {oc18 kV18 dc18 pm18 cd18 ct18 : Value} (a18 : PySem.W.findIn K (.ref c18) "__init__" = some (some (.ref f18))) (i18 : PySem.W.isFn K (.ref f18) = true) (l18 : K.lookup f18 = some ⟨oc18, od18, .func (PySem.W.fnOf "__init__" "NoSheet.__init__" (defArgs s_NoSheet_init) (defBody s_NoSheet_init) (defScope s_NoSheet_init) .none kV18 dc18 pm18 an18 cd18 ct18), sl18⟩) (cc18 : PySem.W.codeIn K cd18 "NoSheet.__init__" = true) (k18 : PySem.W.keepIn K (.ref f18) = true) (ei18 : excInI K c18 f18 = true)
    {c19 : Addr} (aC19 : PySem.W.nsIn K mainGlobals "NoSize" = some (some (.ref c19))) (kC19 : PySem.W.keepIn K (.ref c19) = true)
    (nC19_size : PySem.W.findIn K (.ref c19) "size" = some none)
    {f19 : Addr} {od19 an19 : Option Addr} {sl19 : Array (Option Value)} {oc19 kV19 dc19 pm19 cd19 ct19 : Value} (a19 : PySem.W.findIn K (.ref c19) "__init__" = some (some (.ref f19))) (i19 : PySem.W.isFn K (.ref f19) = true) (l19 : K.lookup f19 = some ⟨oc19, od19, .func (PySem.W.fnOf "__init__" "NoSize.__init__" (defArgs s_NoSize_init) (defBody s_NoSize_init) (defScope s_NoSize_init) .none kV19 dc19 pm19 an19 cd19 ct19), sl19⟩) (cc19 : PySem.W.codeIn K cd19 "NoSize.__init__" = true) (k19 : PySem.W.keepIn K (.ref f19) = true) (ei19 : excInI K c19 f19 = true)
    {c20 : Addr} (aC20 : PySem.W.nsIn K mainGlobals "NoPlan" = some (some (.ref c20))) (kC20 : PySem.W.keepIn K (.ref c20) = true)
    (nC20_want : PySem.W.findIn K (.ref c20) "want" = some none)
    {f20 : Addr} {od20 an20 : Option Addr} {sl20 : Array (Option Value)} {oc20 kV20 dc20 pm20 cd20 ct20 : Value} (a20 : PySem.W.findIn K (.ref c20) "__init__" = some (some (.ref f20))) (i20 : PySem.W.isFn K (.ref f20) = true) (l20 : K.lookup f20 = some ⟨oc20, od20, .func (PySem.W.fnOf "__init__" "NoPlan.__init__" (defArgs s_NoPlan_init) (defBody s_NoPlan_init) (defScope s_NoPlan_init) .none kV20 dc20 pm20 an20 cd20 ct20), sl20⟩) (cc20 : PySem.W.codeIn K cd20 "NoPlan.__init__" = true) (k20 : PySem.W.keepIn K (.ref f20) = true) (ei20 : excInI K c20 f20 = true)
    {c21 : Addr} (aC21 : PySem.W.nsIn K mainGlobals "NoGlass" = some (some (.ref c21))) (kC21 : PySem.W.keepIn K (.ref c21) = true)
    (nC21_width : PySem.W.findIn K (.ref c21) "width" = some none)
    (nC21_height : PySem.W.findIn K (.ref c21) "height" = some none)
    {f21 : Addr} {od21 an21 : Option Addr} {sl21 : Array (Option Value)} {oc21 kV21 dc21 pm21 cd21 ct21 : Value} (a21 : PySem.W.findIn K (.ref c21) "__init__" = some (some (.ref f21))) (i21 : PySem.W.isFn K (.ref f21) = true) (l21 : K.lookup f21 = some ⟨oc21, od21, .func (PySem.W.fnOf "__init__" "NoGlass.__init__" (defArgs s_NoGlass_init) (defBody s_NoGlass_init) (defScope s_NoGlass_init) .none kV21 dc21 pm21 an21 cd21 ct21), sl21⟩) (cc21 : PySem.W.codeIn K cd21 "NoGlass.__init__" = true) (k21 : PySem.W.keepIn K (.ref f21) = true) (ei21 : excInI K c21 f21 = true)
    {c22 : Addr} (aC22 : PySem.W.nsIn K mainGlobals "NoLine" = some (some (.ref c22))) (kC22 : PySem.W.keepIn K (.ref c22) = true)
    (nC22_line : PySem.W.findIn K (.ref c22) "line" = some none)
    {f22 : Addr} {od22 an22 : Option Addr} {sl22 : Array (Option Value)} {oc22 kV22 dc22 pm22 cd22 ct22 : Value} (a22 : PySem.W.findIn K (.ref c22) "__init__" = some (some (.ref f22))) (i22 : PySem.W.isFn K (.ref f22) = true) (l22 : K.lookup f22 = some ⟨oc22, od22, .func (PySem.W.fnOf "__init__" "NoLine.__init__" (defArgs s_NoLine_init) (defBody s_NoLine_init) (defScope s_NoLine_init) .none kV22 dc22 pm22 an22 cd22 ct22), sl22⟩) (cc22 : PySem.W.codeIn K cd22 "NoLine.__init__" = true) (k22 : PySem.W.keepIn K (.ref f22) = true) (ei22 : excInI K c22 f22 = true)
    {c23 : Addr} (aC23 : PySem.W.nsIn K mainGlobals "NoName" = some (some (.ref c23))) (kC23 : PySem.W.keepIn K (.ref c23) = true)
    (nC23_name : PySem.W.findIn K (.ref c23) "name" = some none)
    {f23 : Addr} {od23 an23 : Option Addr} {sl23 : Array (Option Value)} {oc23 kV23 dc23 pm23 cd23 ct23 : Value} (a23 : PySem.W.findIn K (.ref c23) "__init__" = some (some (.ref f23))) (i23 : PySem.W.isFn K (.ref f23) = true) (l23 : K.lookup f23 = some ⟨oc23, od23, .func (PySem.W.fnOf "__init__" "NoName.__init__" (defArgs s_NoName_init) (defBody s_NoName_init) (defScope s_NoName_init) .none kV23 dc23 pm23 an23 cd23 ct23), sl23⟩) (cc23 : PySem.W.codeIn K cd23 "NoName.__init__" = true) (k23 : PySem.W.keepIn K (.ref f23) = true) (ei23 : excInI K c23 f23 = true)
    {f100 : Addr} {od100 an100 : Option Addr} {sl100 : Array (Option Value)} {oc100 kV100 dc100 pm100 cd100 ct100 : Value} (a100 : PySem.W.nsIn K mainGlobals "_law_purse" = some (some (.ref f100))) (l100 : K.lookup f100 = some ⟨oc100, od100, .func (PySem.W.fnOf "_law_purse" "_law_purse" (defArgs s__law_purse) (defBody s__law_purse) (defScope s__law_purse) .none kV100 dc100 pm100 an100 cd100 ct100), sl100⟩) (cc100 : PySem.W.codeIn K cd100 "_law_purse" = true) (k100 : PySem.W.keepIn K (.ref f100) = true)
    {f101 : Addr} {od101 an101 : Option Addr} {sl101 : Array (Option Value)} {oc101 kV101 dc101 pm101 cd101 ct101 : Value} (a101 : PySem.W.nsIn K mainGlobals "_law_take" = some (some (.ref f101))) (l101 : K.lookup f101 = some ⟨oc101, od101, .func (PySem.W.fnOf "_law_take" "_law_take" (defArgs s__law_take) (defBody s__law_take) (defScope s__law_take) .none kV101 dc101 pm101 an101 cd101 ct101), sl101⟩) (cc101 : PySem.W.codeIn K cd101 "_law_take" = true) (k101 : PySem.W.keepIn K (.ref f101) = true)
    {f102 : Addr} {od102 an102 : Option Addr} {sl102 : Array (Option Value)} {oc102 kV102 dc102 pm102 cd102 ct102 : Value} (a102 : PySem.W.nsIn K mainGlobals "_law_kin" = some (some (.ref f102))) (l102 : K.lookup f102 = some ⟨oc102, od102, .func (PySem.W.fnOf "_law_kin" "_law_kin" (defArgs s__law_kin) (defBody s__law_kin) (defScope s__law_kin) .none kV102 dc102 pm102 an102 cd102 ct102), sl102⟩) (cc102 : PySem.W.codeIn K cd102 "_law_kin" = true) (k102 : PySem.W.keepIn K (.ref f102) = true)
    {f103 : Addr} {od103 an103 : Option Addr} {sl103 : Array (Option Value)} {oc103 kV103 dc103 pm103 cd103 ct103 : Value} (a103 : PySem.W.nsIn K mainGlobals "_law_text" = some (some (.ref f103))) (l103 : K.lookup f103 = some ⟨oc103, od103, .func (PySem.W.fnOf "_law_text" "_law_text" (defArgs s__law_text) (defBody s__law_text) (defScope s__law_text) .none kV103 dc103 pm103 an103 cd103 ct103), sl103⟩) (cc103 : PySem.W.codeIn K cd103 "_law_text" = true) (k103 : PySem.W.keepIn K (.ref f103) = true)
    {f104 : Addr} {od104 an104 : Option Addr} {sl104 : Array (Option Value)} {oc104 kV104 dc104 pm104 cd104 ct104 : Value} (a104 : PySem.W.nsIn K mainGlobals "_law_made" = some (some (.ref f104))) (l104 : K.lookup f104 = some ⟨oc104, od104, .func (PySem.W.fnOf "_law_made" "_law_made" (defArgs s__law_made) (defBody s__law_made) (defScope s__law_made) .none kV104 dc104 pm104 an104 cd104 ct104), sl104⟩) (cc104 : PySem.W.codeIn K cd104 "_law_made" = true) (k104 : PySem.W.keepIn K (.ref f104) = true)
    {f105 : Addr} {od105 an105 : Option Addr} {sl105 : Array (Option Value)} {oc105 kV105 dc105 pm105 cd105 ct105 : Value} (a105 : PySem.W.nsIn K mainGlobals "_law_numbers" = some (some (.ref f105))) (l105 : K.lookup f105 = some ⟨oc105, od105, .func (PySem.W.fnOf "_law_numbers" "_law_numbers" (defArgs s__law_numbers) (defBody s__law_numbers) (defScope s__law_numbers) .none kV105 dc105 pm105 an105 cd105 ct105), sl105⟩) (cc105 : PySem.W.codeIn K cd105 "_law_numbers" = true) (k105 : PySem.W.keepIn K (.ref f105) = true)
    {f106 : Addr} {od106 an106 : Option Addr} {sl106 : Array (Option Value)} {oc106 kV106 dc106 pm106 cd106 ct106 : Value} (a106 : PySem.W.nsIn K mainGlobals "law" = some (some (.ref f106))) (l106 : K.lookup f106 = some ⟨oc106, od106, .func (PySem.W.fnOf "law" "law" (defArgs s_law) (defBody s_law) (defScope s_law) .none kV106 dc106 pm106 an106 cd106 ct106), sl106⟩) (cc106 : PySem.W.codeIn K cd106 "law" = true) (k106 : PySem.W.keepIn K (.ref f106) = true)
    (z0 : PySem.W.nsIn K mainGlobals "isinstance" = some none)
    (z1 : PySem.W.nsIn K mainGlobals "range" = some none)
    (z2 : PySem.W.nsIn K mainGlobals "len" = some none)
    (z3 : PySem.W.nsIn K mainGlobals "list" = some none)
    (z4 : PySem.W.nsIn K mainGlobals "ValueError" = some none)
    (all : clsAll K [c0, c1, c2, c3, c4, c5, c6, c7, c8, c9, c10, c11, c12, c13, c14, c15, c16, c17, c18, c19, c20, c21, c22, c23] cG = true)
    : ∃ fd : FuncData, (∀ (s : Shared) (v : Value), BindsTo s fd ⟨[v], []⟩ [("_law_script", v)]) ∧ ∀ base : Heap, K.In base → base.Ns mainGlobals mg → FnOk l.prog w K mg base CX0 4 fa fd ["_law_script"] (sp_law K) := by
  have e := hfa.symm.trans (PySem.W.mg_of X G a106)
  cases e
  have T : Txt mg := ⟨PySem.W.mg_none_of X G z0, PySem.W.mg_none_of X G z1, PySem.W.mg_none_of X G z2, PySem.W.mg_none_of X G z3, PySem.W.mg_none_of X G z4⟩
  obtain ⟨q1, q2, q3, q4⟩ := clsAll_of rfl all
  have R : RX mg K (fun i => List.getD [c0, c1, c2, c3, c4, c5, c6, c7, c8, c9, c10, c11, c12, c13, c14, c15, c16, c17, c18, c19, c20, c21, c22, c23] i 0) cG := ⟨PySem.W.mg_of X G aC0, PySem.W.mg_of X G aC1, PySem.W.mg_of X G aC2, PySem.W.mg_of X G aC3, PySem.W.mg_of X G aC4, PySem.W.mg_of X G aC5, PySem.W.mg_of X G aC6, PySem.W.mg_of X G aC7, PySem.W.mg_of X G aC8, PySem.W.mg_of X G aC9, PySem.W.mg_of X G aC10, PySem.W.mg_of X G aC11, PySem.W.mg_of X G aC12, PySem.W.mg_of X G aC13, PySem.W.mg_of X G aC14, PySem.W.mg_of X G aC15, PySem.W.mg_of X G aC16, PySem.W.mg_of X G aC17, PySem.W.mg_of X G aC18, PySem.W.mg_of X G aC19, PySem.W.mg_of X G aC20, PySem.W.mg_of X G aC21, PySem.W.mg_of X G aC22, PySem.W.mg_of X G aC23, PySem.W.mg_of X G aG, q1, q2, q3, q4, nC0_side, nC1_many, nC2_place, nC3_place, nC4_square, nC5_drawing, nC6_letter, nC7_at, nC8_place, nC9_block, nC10_room, nC10_breaks, nC10_leads, nC11_steps, nC13_number, nC14_place, nC15_piece, nC16_place, nC17_place, nC18_place, nC19_size, nC20_want, nC21_width, nC21_height, nC22_line, nC23_name⟩
  have F0 := fun_mk (st := s_NoSide_init) l0 cc0 k0
  have b0 := F0.binds (ps := ["self", "side"]) fun _ _ _ _ _ _ us hl => match us, hl with | [_, _], _ => rfl
  have F1 := fun_mk (st := s_TooMany_init) l1 cc1 k1
  have b1 := F1.binds (ps := ["self", "many"]) fun _ _ _ _ _ _ us hl => match us, hl with | [_, _], _ => rfl
  have F2 := fun_mk (st := s_NoPane_init) l2 cc2 k2
  have b2 := F2.binds (ps := ["self", "place"]) fun _ _ _ _ _ _ us hl => match us, hl with | [_, _], _ => rfl
  have F3 := fun_mk (st := s_Overlap_init) l3 cc3 k3
  have b3 := F3.binds (ps := ["self", "place"]) fun _ _ _ _ _ _ us hl => match us, hl with | [_, _], _ => rfl
  have F4 := fun_mk (st := s_Bare_init) l4 cc4 k4
  have b4 := F4.binds (ps := ["self", "square"]) fun _ _ _ _ _ _ us hl => match us, hl with | [_, _], _ => rfl
  have F5 := fun_mk (st := s_NoDrawing_init) l5 cc5 k5
  have b5 := F5.binds (ps := ["self", "drawing"]) fun _ _ _ _ _ _ us hl => match us, hl with | [_, _], _ => rfl
  have F6 := fun_mk (st := s_Ragged_init) l6 cc6 k6
  have b6 := F6.binds (ps := ["self", "letter"]) fun _ _ _ _ _ _ us hl => match us, hl with | [_, _], _ => rfl
  have F7 := fun_mk (st := s_NoCut_init) l7 cc7 k7
  have b7 := F7.binds (ps := ["self", "at"]) fun _ _ _ _ _ _ us hl => match us, hl with | [_, _], _ => rfl
  have F8 := fun_mk (st := s_NoTree_init) l8 cc8 k8
  have b8 := F8.binds (ps := ["self", "place"]) fun _ _ _ _ _ _ us hl => match us, hl with | [_, _], _ => rfl
  have F9 := fun_mk (st := s_NoBlock_init) l9 cc9 k9
  have b9 := F9.binds (ps := ["self", "block"]) fun _ _ _ _ _ _ us hl => match us, hl with | [_, _], _ => rfl
  have F10 := fun_mk (st := s_Stuck_init) l10 cc10 k10
  have b10 := F10.binds (ps := ["self", "room", "breaks", "leads"]) fun _ _ _ _ _ _ us hl => match us, hl with | [_, _, _, _], _ => rfl
  have F11 := fun_mk (st := s_NoMove_init) l11 cc11 k11
  have b11 := F11.binds (ps := ["self", "steps"]) fun _ _ _ _ _ _ us hl => match us, hl with | [_, _], _ => rfl
  have F13 := fun_mk (st := s_NoNumber_init) l13 cc13 k13
  have b13 := F13.binds (ps := ["self", "number"]) fun _ _ _ _ _ _ us hl => match us, hl with | [_, _], _ => rfl
  have F14 := fun_mk (st := s_NoKind_init) l14 cc14 k14
  have b14 := F14.binds (ps := ["self", "place"]) fun _ _ _ _ _ _ us hl => match us, hl with | [_, _], _ => rfl
  have F15 := fun_mk (st := s_Unfit_init) l15 cc15 k15
  have b15 := F15.binds (ps := ["self", "piece"]) fun _ _ _ _ _ _ us hl => match us, hl with | [_, _], _ => rfl
  have F16 := fun_mk (st := s_NoFlaw_init) l16 cc16 k16
  have b16 := F16.binds (ps := ["self", "place"]) fun _ _ _ _ _ _ us hl => match us, hl with | [_, _], _ => rfl
  have F17 := fun_mk (st := s_NoWant_init) l17 cc17 k17
  have b17 := F17.binds (ps := ["self", "place"]) fun _ _ _ _ _ _ us hl => match us, hl with | [_, _], _ => rfl
  have F18 := fun_mk (st := s_NoSheet_init) l18 cc18 k18
  have b18 := F18.binds (ps := ["self", "place"]) fun _ _ _ _ _ _ us hl => match us, hl with | [_, _], _ => rfl
  have F19 := fun_mk (st := s_NoSize_init) l19 cc19 k19
  have b19 := F19.binds (ps := ["self", "size"]) fun _ _ _ _ _ _ us hl => match us, hl with | [_, _], _ => rfl
  have F20 := fun_mk (st := s_NoPlan_init) l20 cc20 k20
  have b20 := F20.binds (ps := ["self", "want"]) fun _ _ _ _ _ _ us hl => match us, hl with | [_, _], _ => rfl
  have F21 := fun_mk (st := s_NoGlass_init) l21 cc21 k21
  have b21 := F21.binds (ps := ["self", "width", "height"]) fun _ _ _ _ _ _ us hl => match us, hl with | [_, _, _], _ => rfl
  have F22 := fun_mk (st := s_NoLine_init) l22 cc22 k22
  have b22 := F22.binds (ps := ["self", "line"]) fun _ _ _ _ _ _ us hl => match us, hl with | [_, _], _ => rfl
  have F23 := fun_mk (st := s_NoName_init) l23 cc23 k23
  have b23 := F23.binds (ps := ["self", "name"]) fun _ _ _ _ _ _ us hl => match us, hl with | [_, _], _ => rfl
  have F100 := fun_mk (st := s__law_purse) l100 cc100 k100
  have b100 := F100.binds (ps := ["_law_script", "_law_k"]) fun _ _ _ _ _ _ us hl => match us, hl with | [_, _], _ => rfl
  have F101 := fun_mk (st := s__law_take) l101 cc101 k101
  have b101 := F101.binds (ps := ["_law_purse_here", "_law_many"]) fun _ _ _ _ _ _ us hl => match us, hl with | [_, _], _ => rfl
  have F102 := fun_mk (st := s__law_kin) l102 cc102 k102
  have b102 := F102.binds (ps := ["_law_e"]) fun _ _ _ _ _ _ us hl => match us, hl with | [_], _ => rfl
  have F103 := fun_mk (st := s__law_text) l103 cc103 k103
  have b103 := F103.binds (ps := ["_law_purse_here"]) fun _ _ _ _ _ _ us hl => match us, hl with | [_], _ => rfl
  have F104 := fun_mk (st := s__law_made) l104 cc104 k104
  have b104 := F104.binds (ps := ["_law_number", "_law_text_here", "_law_block", "_law_some"]) fun _ _ _ _ _ _ us hl => match us, hl with | [_, _, _, _], _ => rfl
  have F105 := fun_mk (st := s__law_numbers) l105 cc105 k105
  have b105 := F105.binds (ps := ["_law_made_here"]) fun _ _ _ _ _ _ us hl => match us, hl with | [_], _ => rfl
  have F106 := fun_mk (st := s_law) l106 cc106 k106
  refine ⟨PySem.W.fnOf "law" "law" (defArgs s_law) (defBody s_law) (defScope s_law) .none kV106 dc106 pm106 an106 cd106 ct106, fun s v => .of_eq rfl, fun base _ _ => ?_⟩
  have W : XS l.prog w K mg base (fun i => List.getD [c0, c1, c2, c3, c4, c5, c6, c7, c8, c9, c10, c11, c12, c13, c14, c15, c16, c17, c18, c19, c20, c21, c22, c23] i 0) := {
    x_NoSide := ⟨by decide, f0, _, ⟨q1 0 (by decide), ei0, kC0, i0⟩, ok_NoSide_init (C := fun i => List.getD [c0, c1, c2, c3, c4, c5, c6, c7, c8, c9, c10, c11, c12, c13, c14, c15, c16, c17, c18, c19, c20, c21, c22, c23] i 0) F0 R, PySem.W.mg_of X G aC0, b0⟩
    x_TooMany := ⟨by decide, f1, _, ⟨q1 1 (by decide), ei1, kC1, i1⟩, ok_TooMany_init (C := fun i => List.getD [c0, c1, c2, c3, c4, c5, c6, c7, c8, c9, c10, c11, c12, c13, c14, c15, c16, c17, c18, c19, c20, c21, c22, c23] i 0) F1 R, PySem.W.mg_of X G aC1, b1⟩
    x_NoPane := ⟨by decide, f2, _, ⟨q1 2 (by decide), ei2, kC2, i2⟩, ok_NoPane_init (C := fun i => List.getD [c0, c1, c2, c3, c4, c5, c6, c7, c8, c9, c10, c11, c12, c13, c14, c15, c16, c17, c18, c19, c20, c21, c22, c23] i 0) F2 R, PySem.W.mg_of X G aC2, b2⟩
    x_Overlap := ⟨by decide, f3, _, ⟨q1 3 (by decide), ei3, kC3, i3⟩, ok_Overlap_init (C := fun i => List.getD [c0, c1, c2, c3, c4, c5, c6, c7, c8, c9, c10, c11, c12, c13, c14, c15, c16, c17, c18, c19, c20, c21, c22, c23] i 0) F3 R, PySem.W.mg_of X G aC3, b3⟩
    x_Bare := ⟨by decide, f4, _, ⟨q1 4 (by decide), ei4, kC4, i4⟩, ok_Bare_init (C := fun i => List.getD [c0, c1, c2, c3, c4, c5, c6, c7, c8, c9, c10, c11, c12, c13, c14, c15, c16, c17, c18, c19, c20, c21, c22, c23] i 0) F4 R, PySem.W.mg_of X G aC4, b4⟩
    x_NoDrawing := ⟨by decide, f5, _, ⟨q1 5 (by decide), ei5, kC5, i5⟩, ok_NoDrawing_init (C := fun i => List.getD [c0, c1, c2, c3, c4, c5, c6, c7, c8, c9, c10, c11, c12, c13, c14, c15, c16, c17, c18, c19, c20, c21, c22, c23] i 0) F5 R, PySem.W.mg_of X G aC5, b5⟩
    x_Ragged := ⟨by decide, f6, _, ⟨q1 6 (by decide), ei6, kC6, i6⟩, ok_Ragged_init (C := fun i => List.getD [c0, c1, c2, c3, c4, c5, c6, c7, c8, c9, c10, c11, c12, c13, c14, c15, c16, c17, c18, c19, c20, c21, c22, c23] i 0) F6 R, PySem.W.mg_of X G aC6, b6⟩
    x_NoCut := ⟨by decide, f7, _, ⟨q1 7 (by decide), ei7, kC7, i7⟩, ok_NoCut_init (C := fun i => List.getD [c0, c1, c2, c3, c4, c5, c6, c7, c8, c9, c10, c11, c12, c13, c14, c15, c16, c17, c18, c19, c20, c21, c22, c23] i 0) F7 R, PySem.W.mg_of X G aC7, b7⟩
    x_NoTree := ⟨by decide, f8, _, ⟨q1 8 (by decide), ei8, kC8, i8⟩, ok_NoTree_init (C := fun i => List.getD [c0, c1, c2, c3, c4, c5, c6, c7, c8, c9, c10, c11, c12, c13, c14, c15, c16, c17, c18, c19, c20, c21, c22, c23] i 0) F8 R, PySem.W.mg_of X G aC8, b8⟩
    x_NoBlock := ⟨by decide, f9, _, ⟨q1 9 (by decide), ei9, kC9, i9⟩, ok_NoBlock_init (C := fun i => List.getD [c0, c1, c2, c3, c4, c5, c6, c7, c8, c9, c10, c11, c12, c13, c14, c15, c16, c17, c18, c19, c20, c21, c22, c23] i 0) F9 R, PySem.W.mg_of X G aC9, b9⟩
    x_Stuck := ⟨by decide, f10, _, ⟨q1 10 (by decide), ei10, kC10, i10⟩, ok_Stuck_init (C := fun i => List.getD [c0, c1, c2, c3, c4, c5, c6, c7, c8, c9, c10, c11, c12, c13, c14, c15, c16, c17, c18, c19, c20, c21, c22, c23] i 0) F10 R, PySem.W.mg_of X G aC10, b10⟩
    x_NoMove := ⟨by decide, f11, _, ⟨q1 11 (by decide), ei11, kC11, i11⟩, ok_NoMove_init (C := fun i => List.getD [c0, c1, c2, c3, c4, c5, c6, c7, c8, c9, c10, c11, c12, c13, c14, c15, c16, c17, c18, c19, c20, c21, c22, c23] i 0) F11 R, PySem.W.mg_of X G aC11, b11⟩
    x_Unlike := ⟨ei12, kC12, PySem.W.mg_of X G aC12⟩
    x_NoNumber := ⟨by decide, f13, _, ⟨q1 13 (by decide), ei13, kC13, i13⟩, ok_NoNumber_init (C := fun i => List.getD [c0, c1, c2, c3, c4, c5, c6, c7, c8, c9, c10, c11, c12, c13, c14, c15, c16, c17, c18, c19, c20, c21, c22, c23] i 0) F13 R, PySem.W.mg_of X G aC13, b13⟩
    x_NoKind := ⟨by decide, f14, _, ⟨q1 14 (by decide), ei14, kC14, i14⟩, ok_NoKind_init (C := fun i => List.getD [c0, c1, c2, c3, c4, c5, c6, c7, c8, c9, c10, c11, c12, c13, c14, c15, c16, c17, c18, c19, c20, c21, c22, c23] i 0) F14 R, PySem.W.mg_of X G aC14, b14⟩
    x_Unfit := ⟨by decide, f15, _, ⟨q1 15 (by decide), ei15, kC15, i15⟩, ok_Unfit_init (C := fun i => List.getD [c0, c1, c2, c3, c4, c5, c6, c7, c8, c9, c10, c11, c12, c13, c14, c15, c16, c17, c18, c19, c20, c21, c22, c23] i 0) F15 R, PySem.W.mg_of X G aC15, b15⟩
    x_NoFlaw := ⟨by decide, f16, _, ⟨q1 16 (by decide), ei16, kC16, i16⟩, ok_NoFlaw_init (C := fun i => List.getD [c0, c1, c2, c3, c4, c5, c6, c7, c8, c9, c10, c11, c12, c13, c14, c15, c16, c17, c18, c19, c20, c21, c22, c23] i 0) F16 R, PySem.W.mg_of X G aC16, b16⟩
    x_NoWant := ⟨by decide, f17, _, ⟨q1 17 (by decide), ei17, kC17, i17⟩, ok_NoWant_init (C := fun i => List.getD [c0, c1, c2, c3, c4, c5, c6, c7, c8, c9, c10, c11, c12, c13, c14, c15, c16, c17, c18, c19, c20, c21, c22, c23] i 0) F17 R, PySem.W.mg_of X G aC17, b17⟩
    x_NoSheet := ⟨by decide, f18, _, ⟨q1 18 (by decide), ei18, kC18, i18⟩, ok_NoSheet_init (C := fun i => List.getD [c0, c1, c2, c3, c4, c5, c6, c7, c8, c9, c10, c11, c12, c13, c14, c15, c16, c17, c18, c19, c20, c21, c22, c23] i 0) F18 R, PySem.W.mg_of X G aC18, b18⟩
    x_NoSize := ⟨by decide, f19, _, ⟨q1 19 (by decide), ei19, kC19, i19⟩, ok_NoSize_init (C := fun i => List.getD [c0, c1, c2, c3, c4, c5, c6, c7, c8, c9, c10, c11, c12, c13, c14, c15, c16, c17, c18, c19, c20, c21, c22, c23] i 0) F19 R, PySem.W.mg_of X G aC19, b19⟩
    x_NoPlan := ⟨by decide, f20, _, ⟨q1 20 (by decide), ei20, kC20, i20⟩, ok_NoPlan_init (C := fun i => List.getD [c0, c1, c2, c3, c4, c5, c6, c7, c8, c9, c10, c11, c12, c13, c14, c15, c16, c17, c18, c19, c20, c21, c22, c23] i 0) F20 R, PySem.W.mg_of X G aC20, b20⟩
    x_NoGlass := ⟨by decide, f21, _, ⟨q1 21 (by decide), ei21, kC21, i21⟩, ok_NoGlass_init (C := fun i => List.getD [c0, c1, c2, c3, c4, c5, c6, c7, c8, c9, c10, c11, c12, c13, c14, c15, c16, c17, c18, c19, c20, c21, c22, c23] i 0) F21 R, PySem.W.mg_of X G aC21, b21⟩
    x_NoLine := ⟨by decide, f22, _, ⟨q1 22 (by decide), ei22, kC22, i22⟩, ok_NoLine_init (C := fun i => List.getD [c0, c1, c2, c3, c4, c5, c6, c7, c8, c9, c10, c11, c12, c13, c14, c15, c16, c17, c18, c19, c20, c21, c22, c23] i 0) F22 R, PySem.W.mg_of X G aC22, b22⟩
    x_NoName := ⟨by decide, f23, _, ⟨q1 23 (by decide), ei23, kC23, i23⟩, ok_NoName_init (C := fun i => List.getD [c0, c1, c2, c3, c4, c5, c6, c7, c8, c9, c10, c11, c12, c13, c14, c15, c16, c17, c18, c19, c20, c21, c22, c23] i 0) F23 R, PySem.W.mg_of X G aC23, b23⟩
    }
  have D__law_purse : DefOk l.prog w K mg base 1 "_law_purse" ["_law_script", "_law_k"] (sp_purse K) := ⟨_, _, ok_law_purse F100 T, PySem.W.mg_of X G a100, k100, b100⟩
  have D__law_take : DefOk l.prog w K mg base 1 "_law_take" ["_law_purse_here", "_law_many"] sp_take := ⟨_, _, ok_law_take F101, PySem.W.mg_of X G a101, k101, b101⟩
  have D__law_kin : DefOk l.prog w K mg base 1 "_law_kin" ["_law_e"] (sp_kin (fun i => List.getD [c0, c1, c2, c3, c4, c5, c6, c7, c8, c9, c10, c11, c12, c13, c14, c15, c16, c17, c18, c19, c20, c21, c22, c23] i 0)) := ⟨_, _, ok_law_kin F102 T R, PySem.W.mg_of X G a102, k102, b102⟩
  have D__law_text : DefOk l.prog w K mg base 2 "_law_text" ["_law_purse_here"] sp_text := ⟨_, _, ok_law_text F103 T D__law_take, PySem.W.mg_of X G a103, k103, b103⟩
  have D__law_made : DefOk l.prog w K mg base 3 "_law_made" ["_law_number", "_law_text_here", "_law_block", "_law_some"] (sp_made (fun i => List.getD [c0, c1, c2, c3, c4, c5, c6, c7, c8, c9, c10, c11, c12, c13, c14, c15, c16, c17, c18, c19, c20, c21, c22, c23] i 0)) := ⟨_, _, ok_law_made F104 W, PySem.W.mg_of X G a104, k104, b104⟩
  have D__law_numbers : DefOk l.prog w K mg base 1 "_law_numbers" ["_law_made_here"] (sp_numbers (fun i => List.getD [c0, c1, c2, c3, c4, c5, c6, c7, c8, c9, c10, c11, c12, c13, c14, c15, c16, c17, c18, c19, c20, c21, c22, c23] i 0)) := ⟨_, _, ok_law_numbers F105 R, PySem.W.mg_of X G a105, k105, b105⟩
  exact ok_law F106 T R D__law_purse D__law_take D__law_kin D__law_text D__law_made D__law_numbers
theorem walk {l : PySem.W.OpenLaw} {q : Program} {loose : List Str} {XP : (Str → Option Value) → Heap → Prop} {YP : World → Heap → Prop} {d : DefRec} {K : Params → PySem.W.Frag} (hn : l.most = some 63) (hdf : d.params.defaults = [])
    (hY : ∀ (w : World) (h : Heap), YP w h → (K w.params).In h)
    (F : ∀ (w : World) (mg : Str → Option Value) (fa : Addr) (h : Heap), (K w.params).In h → h.Ns mainGlobals mg → mg d.name = some (.ref fa) →
      ∃ fd : FuncData, (∀ (s : Shared) (u : Value), BindsTo s fd ⟨[u], []⟩ [("_law_script", u)]) ∧ ∀ base : Heap, (K w.params).In base → base.Ns mainGlobals mg → FnOk l.prog w (K w.params) mg base CX0 4 fa fd ["_law_script"] (sp_law (K w.params))) :
    PySem.W.WalkO q loose XP YP l.row.toRowW d [] (fun f vs => PySem.call f vs) :=
  L2.walk_of (n := 63) (k := 4) (x := "_law_script") (CX := fun _ => CX0) (sp := fun w => sp_law (K w.params)) hn (by decide) hdf ⟨rfl, by decide, by decide⟩ hY F (fun _ _ a ns hl _ hS => ⟨a, ns, rfl, hS, hl, fun _ => rfl⟩) fun _ _ _ _ _ z => z
end K6
namespace KH
open PySem PySem.W PyProof.Rows L2
def top (i : Nat) : Stmt := PySem.Challenge.pw_glazebench_k06_refusals_told.main.body.getD i (.Pass ⟨0, 0, 0, 0⟩)
def kE (P : Params) (x : Str) (t : Tok) (v : Value) : DictEntry := ⟨PyData.keyHash P x, .str x t, v⟩
def k2 (P : Params) : Obj := ⟨.none, none, (.dict #[] 0), #[]⟩
def k3 (P : Params) : Obj := ⟨(.type "dict"), none, (.dict #[kE P "__name__" 165 (.str "law_glazebench_k06_refusals_told" 804), kE P "__doc__" 166 .none, kE P "__package__" 167 .none, kE P "__loader__" 168 (.builtin "__main__.__loader__#opaque"), kE P "__spec__" 169 .none, kE P "__annotations__" 170 (.ref 6), kE P "__builtins__" 171 (.ref 4), kE P "__file__" 173 (.str "/claim/cut.py" 172), kE P "__cached__" 174 .none, kE P "GlassError" 206 (.ref 24), kE P "NoSide" 231 (.ref 44), kE P "TooMany" 256 (.ref 63), kE P "NoPane" 281 (.ref 82), kE P "Overlap" 306 (.ref 101), kE P "Bare" 331 (.ref 120), kE P "NoDrawing" 356 (.ref 139), kE P "Ragged" 381 (.ref 158), kE P "NoCut" 406 (.ref 177), kE P "NoTree" 431 (.ref 196), kE P "NoBlock" 456 (.ref 215), kE P "Stuck" 485 (.ref 234), kE P "NoMove" 510 (.ref 253), kE P "Unlike" 526 (.ref 265), kE P "NoNumber" 551 (.ref 284), kE P "NoKind" 576 (.ref 303), kE P "Unfit" 601 (.ref 322), kE P "NoFlaw" 626 (.ref 341), kE P "NoWant" 651 (.ref 360), kE P "NoSheet" 676 (.ref 379), kE P "NoSize" 701 (.ref 398), kE P "NoPlan" 726 (.ref 417), kE P "NoGlass" 753 (.ref 436), kE P "NoLine" 778 (.ref 455), kE P "NoName" 803 (.ref 474), kE P "_law_purse" 814 (.ref 483), kE P "_law_take" 823 (.ref 490), kE P "_law_kin" 831 (.ref 497), kE P "_law_text" 837 (.ref 502), kE P "_law_made" 848 (.ref 509), kE P "_law_numbers" 856 (.ref 516), kE P "law" 862 (.ref 521)] 41), #[]⟩
def k15 (P : Params) : Obj := ⟨(.type "tuple"), none, (.seq #[(.type "ValueError")] 0), #[]⟩
def k22 (P : Params) : Obj := ⟨(.type "tuple"), none, (.seq #[] 0), #[]⟩
def k23 (P : Params) : Obj := ⟨(.type "dict"), none, (.dict #[kE P "__module__" 196 (.str "glazebench.errors" 187), kE P "__firstlineno__" 200 (.int (2) 199), kE P "__static_attributes__" 201 (.ref 22), kE P "__weakref__" 203 (.ref 25), kE P "__doc__" 204 .none] 3), #[]⟩
def k24 (P : Params) : Obj := ⟨(.type "type"), none, (.cls { name := "GlassError", bases := [(.type "ValueError")], mro := [(.ref 24), (.type "ValueError"), (.type "Exception"), (.type "BaseException"), (.type "object")], ns := 23, qualname := "GlassError", hasDict := true, slotNames := [], subclasses := [(.ref 44), (.ref 63), (.ref 82), (.ref 101), (.ref 120), (.ref 139), (.ref 158), (.ref 177), (.ref 196), (.ref 215), (.ref 234), (.ref 253), (.ref 265), (.ref 284), (.ref 303), (.ref 322), (.ref 341), (.ref 360), (.ref 379), (.ref 398), (.ref 417), (.ref 436), (.ref 455), (.ref 474)], abstract := false, collection := none, hasDel := false }), #[some (.ref 15), none, some (.str "GlassError" 189), some (.str "GlassError" 197), some (.builtin "ValueError.__new__"), some (.bool true)]⟩
def k25 (P : Params) : Obj := ⟨(.type "getset_descriptor"), none, (.fields #[(.str "__weakref__" 202), (.ref 24), (.builtin "ExceptionGroup.__weakref__"), .none]), #[]⟩
def k28 (P : Params) : Obj := ⟨(.type "tuple"), none, (.seq #[(.ref 24)] 0), #[]⟩
def k35 (P : Params) : Obj := ⟨(.type "tuple"), none, (.seq #[] 0), #[]⟩
def k37 (P : Params) : Obj := ⟨(.type "tuple"), none, (.seq #[(.str "self" 222), (.str "side" 223)] 0), #[]⟩
def k38 (P : Params) : Obj := ⟨(.type "tuple"), none, (.seq #[] 0), #[]⟩
def k40 (P : Params) : Obj := ⟨(.type "code"), none, (.fields #[(.str "__init__" 219), (.str "NoSide.__init__" 220), (.str "/claim/cut.py" 221), (.int (6) 0), (.int (2) 0), (.int (0) 0), (.int (0) 0), (.int (3) 0), (.ref 35), (.bool true), (.int (181) 0), (.ref 36), .none, (.ref 37), (.ref 38), (.ref 39), (.int (224) 0), (.int (6) 0), (.str "/claim/cut.py" 225)]), #[]⟩
def k41 (P : Params) : Obj := ⟨(.type "function"), none, (.func (fnOf "__init__" "NoSide.__init__" (defArgs (inClass (top 2) 0)) (defBody (inClass (top 2) 0)) (defScope (inClass (top 2) 0)) .none .none .none (.str "glazebench.errors" 187) none (.ref 40) .none)), #[]⟩
def k42 (P : Params) : Obj := ⟨(.type "tuple"), none, (.seq #[(.str "side" 227)] 0), #[]⟩
def k43 (P : Params) : Obj := ⟨(.type "dict"), none, (.dict #[kE P "__module__" 214 (.str "glazebench.errors" 187), kE P "__firstlineno__" 218 (.int (4) 217), kE P "__init__" 226 (.ref 41), kE P "__static_attributes__" 228 (.ref 42), kE P "__doc__" 229 .none] 2), #[]⟩
def k44 (P : Params) : Obj := ⟨(.type "type"), none, (.cls { name := "NoSide", bases := [(.ref 24)], mro := [(.ref 44), (.ref 24), (.type "ValueError"), (.type "Exception"), (.type "BaseException"), (.type "object")], ns := 43, qualname := "NoSide", hasDict := true, slotNames := [], subclasses := [], abstract := false, collection := none, hasDel := false }), #[some (.ref 28), none, some (.str "NoSide" 207), some (.str "NoSide" 215), some (.builtin "ValueError.__new__"), some (.bool true)]⟩
def k47 (P : Params) : Obj := ⟨(.type "tuple"), none, (.seq #[(.ref 24)] 0), #[]⟩
def k54 (P : Params) : Obj := ⟨(.type "tuple"), none, (.seq #[] 0), #[]⟩
def k56 (P : Params) : Obj := ⟨(.type "tuple"), none, (.seq #[(.str "self" 247), (.str "many" 248)] 0), #[]⟩
def k57 (P : Params) : Obj := ⟨(.type "tuple"), none, (.seq #[] 0), #[]⟩
def k59 (P : Params) : Obj := ⟨(.type "code"), none, (.fields #[(.str "__init__" 244), (.str "TooMany.__init__" 245), (.str "/claim/cut.py" 246), (.int (10) 0), (.int (2) 0), (.int (0) 0), (.int (0) 0), (.int (3) 0), (.ref 54), (.bool true), (.int (181) 0), (.ref 55), .none, (.ref 56), (.ref 57), (.ref 58), (.int (249) 0), (.int (10) 0), (.str "/claim/cut.py" 250)]), #[]⟩
def k60 (P : Params) : Obj := ⟨(.type "function"), none, (.func (fnOf "__init__" "TooMany.__init__" (defArgs (inClass (top 3) 0)) (defBody (inClass (top 3) 0)) (defScope (inClass (top 3) 0)) .none .none .none (.str "glazebench.errors" 187) none (.ref 59) .none)), #[]⟩
def k61 (P : Params) : Obj := ⟨(.type "tuple"), none, (.seq #[(.str "many" 252)] 0), #[]⟩
def k62 (P : Params) : Obj := ⟨(.type "dict"), none, (.dict #[kE P "__module__" 239 (.str "glazebench.errors" 187), kE P "__firstlineno__" 243 (.int (8) 242), kE P "__init__" 251 (.ref 60), kE P "__static_attributes__" 253 (.ref 61), kE P "__doc__" 254 .none] 2), #[]⟩
def k63 (P : Params) : Obj := ⟨(.type "type"), none, (.cls { name := "TooMany", bases := [(.ref 24)], mro := [(.ref 63), (.ref 24), (.type "ValueError"), (.type "Exception"), (.type "BaseException"), (.type "object")], ns := 62, qualname := "TooMany", hasDict := true, slotNames := [], subclasses := [], abstract := false, collection := none, hasDel := false }), #[some (.ref 47), none, some (.str "TooMany" 232), some (.str "TooMany" 240), some (.builtin "ValueError.__new__"), some (.bool true)]⟩
def k66 (P : Params) : Obj := ⟨(.type "tuple"), none, (.seq #[(.ref 24)] 0), #[]⟩
def k73 (P : Params) : Obj := ⟨(.type "tuple"), none, (.seq #[] 0), #[]⟩
def k75 (P : Params) : Obj := ⟨(.type "tuple"), none, (.seq #[(.str "self" 272), (.str "place" 273)] 0), #[]⟩
def k76 (P : Params) : Obj := ⟨(.type "tuple"), none, (.seq #[] 0), #[]⟩
def k78 (P : Params) : Obj := ⟨(.type "code"), none, (.fields #[(.str "__init__" 269), (.str "NoPane.__init__" 270), (.str "/claim/cut.py" 271), (.int (14) 0), (.int (2) 0), (.int (0) 0), (.int (0) 0), (.int (3) 0), (.ref 73), (.bool true), (.int (181) 0), (.ref 74), .none, (.ref 75), (.ref 76), (.ref 77), (.int (274) 0), (.int (14) 0), (.str "/claim/cut.py" 275)]), #[]⟩
def k79 (P : Params) : Obj := ⟨(.type "function"), none, (.func (fnOf "__init__" "NoPane.__init__" (defArgs (inClass (top 4) 0)) (defBody (inClass (top 4) 0)) (defScope (inClass (top 4) 0)) .none .none .none (.str "glazebench.errors" 187) none (.ref 78) .none)), #[]⟩
def k80 (P : Params) : Obj := ⟨(.type "tuple"), none, (.seq #[(.str "place" 277)] 0), #[]⟩
def k81 (P : Params) : Obj := ⟨(.type "dict"), none, (.dict #[kE P "__module__" 264 (.str "glazebench.errors" 187), kE P "__firstlineno__" 268 (.int (12) 267), kE P "__init__" 276 (.ref 79), kE P "__static_attributes__" 278 (.ref 80), kE P "__doc__" 279 .none] 2), #[]⟩
def k82 (P : Params) : Obj := ⟨(.type "type"), none, (.cls { name := "NoPane", bases := [(.ref 24)], mro := [(.ref 82), (.ref 24), (.type "ValueError"), (.type "Exception"), (.type "BaseException"), (.type "object")], ns := 81, qualname := "NoPane", hasDict := true, slotNames := [], subclasses := [], abstract := false, collection := none, hasDel := false }), #[some (.ref 66), none, some (.str "NoPane" 257), some (.str "NoPane" 265), some (.builtin "ValueError.__new__"), some (.bool true)]⟩
def k85 (P : Params) : Obj := ⟨(.type "tuple"), none, (.seq #[(.ref 24)] 0), #[]⟩
def k92 (P : Params) : Obj := ⟨(.type "tuple"), none, (.seq #[] 0), #[]⟩
def k94 (P : Params) : Obj := ⟨(.type "tuple"), none, (.seq #[(.str "self" 297), (.str "place" 298)] 0), #[]⟩
def k95 (P : Params) : Obj := ⟨(.type "tuple"), none, (.seq #[] 0), #[]⟩
def k97 (P : Params) : Obj := ⟨(.type "code"), none, (.fields #[(.str "__init__" 294), (.str "Overlap.__init__" 295), (.str "/claim/cut.py" 296), (.int (18) 0), (.int (2) 0), (.int (0) 0), (.int (0) 0), (.int (3) 0), (.ref 92), (.bool true), (.int (181) 0), (.ref 93), .none, (.ref 94), (.ref 95), (.ref 96), (.int (299) 0), (.int (18) 0), (.str "/claim/cut.py" 300)]), #[]⟩
def k98 (P : Params) : Obj := ⟨(.type "function"), none, (.func (fnOf "__init__" "Overlap.__init__" (defArgs (inClass (top 5) 0)) (defBody (inClass (top 5) 0)) (defScope (inClass (top 5) 0)) .none .none .none (.str "glazebench.errors" 187) none (.ref 97) .none)), #[]⟩
def k99 (P : Params) : Obj := ⟨(.type "tuple"), none, (.seq #[(.str "place" 302)] 0), #[]⟩
def k100 (P : Params) : Obj := ⟨(.type "dict"), none, (.dict #[kE P "__module__" 289 (.str "glazebench.errors" 187), kE P "__firstlineno__" 293 (.int (16) 292), kE P "__init__" 301 (.ref 98), kE P "__static_attributes__" 303 (.ref 99), kE P "__doc__" 304 .none] 2), #[]⟩
def k101 (P : Params) : Obj := ⟨(.type "type"), none, (.cls { name := "Overlap", bases := [(.ref 24)], mro := [(.ref 101), (.ref 24), (.type "ValueError"), (.type "Exception"), (.type "BaseException"), (.type "object")], ns := 100, qualname := "Overlap", hasDict := true, slotNames := [], subclasses := [], abstract := false, collection := none, hasDel := false }), #[some (.ref 85), none, some (.str "Overlap" 282), some (.str "Overlap" 290), some (.builtin "ValueError.__new__"), some (.bool true)]⟩
def k104 (P : Params) : Obj := ⟨(.type "tuple"), none, (.seq #[(.ref 24)] 0), #[]⟩
def k111 (P : Params) : Obj := ⟨(.type "tuple"), none, (.seq #[] 0), #[]⟩
def k113 (P : Params) : Obj := ⟨(.type "tuple"), none, (.seq #[(.str "self" 322), (.str "square" 323)] 0), #[]⟩
def k114 (P : Params) : Obj := ⟨(.type "tuple"), none, (.seq #[] 0), #[]⟩
def k116 (P : Params) : Obj := ⟨(.type "code"), none, (.fields #[(.str "__init__" 319), (.str "Bare.__init__" 320), (.str "/claim/cut.py" 321), (.int (22) 0), (.int (2) 0), (.int (0) 0), (.int (0) 0), (.int (3) 0), (.ref 111), (.bool true), (.int (181) 0), (.ref 112), .none, (.ref 113), (.ref 114), (.ref 115), (.int (324) 0), (.int (22) 0), (.str "/claim/cut.py" 325)]), #[]⟩
def k117 (P : Params) : Obj := ⟨(.type "function"), none, (.func (fnOf "__init__" "Bare.__init__" (defArgs (inClass (top 6) 0)) (defBody (inClass (top 6) 0)) (defScope (inClass (top 6) 0)) .none .none .none (.str "glazebench.errors" 187) none (.ref 116) .none)), #[]⟩
def k118 (P : Params) : Obj := ⟨(.type "tuple"), none, (.seq #[(.str "square" 327)] 0), #[]⟩
def k119 (P : Params) : Obj := ⟨(.type "dict"), none, (.dict #[kE P "__module__" 314 (.str "glazebench.errors" 187), kE P "__firstlineno__" 318 (.int (20) 317), kE P "__init__" 326 (.ref 117), kE P "__static_attributes__" 328 (.ref 118), kE P "__doc__" 329 .none] 2), #[]⟩
def k120 (P : Params) : Obj := ⟨(.type "type"), none, (.cls { name := "Bare", bases := [(.ref 24)], mro := [(.ref 120), (.ref 24), (.type "ValueError"), (.type "Exception"), (.type "BaseException"), (.type "object")], ns := 119, qualname := "Bare", hasDict := true, slotNames := [], subclasses := [], abstract := false, collection := none, hasDel := false }), #[some (.ref 104), none, some (.str "Bare" 307), some (.str "Bare" 315), some (.builtin "ValueError.__new__"), some (.bool true)]⟩
def k123 (P : Params) : Obj := ⟨(.type "tuple"), none, (.seq #[(.ref 24)] 0), #[]⟩
def k130 (P : Params) : Obj := ⟨(.type "tuple"), none, (.seq #[] 0), #[]⟩
def k132 (P : Params) : Obj := ⟨(.type "tuple"), none, (.seq #[(.str "self" 347), (.str "drawing" 348)] 0), #[]⟩
def k133 (P : Params) : Obj := ⟨(.type "tuple"), none, (.seq #[] 0), #[]⟩
def k135 (P : Params) : Obj := ⟨(.type "code"), none, (.fields #[(.str "__init__" 344), (.str "NoDrawing.__init__" 345), (.str "/claim/cut.py" 346), (.int (26) 0), (.int (2) 0), (.int (0) 0), (.int (0) 0), (.int (3) 0), (.ref 130), (.bool true), (.int (181) 0), (.ref 131), .none, (.ref 132), (.ref 133), (.ref 134), (.int (349) 0), (.int (26) 0), (.str "/claim/cut.py" 350)]), #[]⟩
def k136 (P : Params) : Obj := ⟨(.type "function"), none, (.func (fnOf "__init__" "NoDrawing.__init__" (defArgs (inClass (top 7) 0)) (defBody (inClass (top 7) 0)) (defScope (inClass (top 7) 0)) .none .none .none (.str "glazebench.errors" 187) none (.ref 135) .none)), #[]⟩
def k137 (P : Params) : Obj := ⟨(.type "tuple"), none, (.seq #[(.str "drawing" 352)] 0), #[]⟩
def k138 (P : Params) : Obj := ⟨(.type "dict"), none, (.dict #[kE P "__module__" 339 (.str "glazebench.errors" 187), kE P "__firstlineno__" 343 (.int (24) 342), kE P "__init__" 351 (.ref 136), kE P "__static_attributes__" 353 (.ref 137), kE P "__doc__" 354 .none] 2), #[]⟩
def k139 (P : Params) : Obj := ⟨(.type "type"), none, (.cls { name := "NoDrawing", bases := [(.ref 24)], mro := [(.ref 139), (.ref 24), (.type "ValueError"), (.type "Exception"), (.type "BaseException"), (.type "object")], ns := 138, qualname := "NoDrawing", hasDict := true, slotNames := [], subclasses := [], abstract := false, collection := none, hasDel := false }), #[some (.ref 123), none, some (.str "NoDrawing" 332), some (.str "NoDrawing" 340), some (.builtin "ValueError.__new__"), some (.bool true)]⟩
def k142 (P : Params) : Obj := ⟨(.type "tuple"), none, (.seq #[(.ref 24)] 0), #[]⟩
def k149 (P : Params) : Obj := ⟨(.type "tuple"), none, (.seq #[] 0), #[]⟩
def k151 (P : Params) : Obj := ⟨(.type "tuple"), none, (.seq #[(.str "self" 372), (.str "letter" 373)] 0), #[]⟩
def k152 (P : Params) : Obj := ⟨(.type "tuple"), none, (.seq #[] 0), #[]⟩
def k154 (P : Params) : Obj := ⟨(.type "code"), none, (.fields #[(.str "__init__" 369), (.str "Ragged.__init__" 370), (.str "/claim/cut.py" 371), (.int (30) 0), (.int (2) 0), (.int (0) 0), (.int (0) 0), (.int (3) 0), (.ref 149), (.bool true), (.int (181) 0), (.ref 150), .none, (.ref 151), (.ref 152), (.ref 153), (.int (374) 0), (.int (30) 0), (.str "/claim/cut.py" 375)]), #[]⟩
def k155 (P : Params) : Obj := ⟨(.type "function"), none, (.func (fnOf "__init__" "Ragged.__init__" (defArgs (inClass (top 8) 0)) (defBody (inClass (top 8) 0)) (defScope (inClass (top 8) 0)) .none .none .none (.str "glazebench.errors" 187) none (.ref 154) .none)), #[]⟩
def k156 (P : Params) : Obj := ⟨(.type "tuple"), none, (.seq #[(.str "letter" 377)] 0), #[]⟩
def k157 (P : Params) : Obj := ⟨(.type "dict"), none, (.dict #[kE P "__module__" 364 (.str "glazebench.errors" 187), kE P "__firstlineno__" 368 (.int (28) 367), kE P "__init__" 376 (.ref 155), kE P "__static_attributes__" 378 (.ref 156), kE P "__doc__" 379 .none] 2), #[]⟩
def k158 (P : Params) : Obj := ⟨(.type "type"), none, (.cls { name := "Ragged", bases := [(.ref 24)], mro := [(.ref 158), (.ref 24), (.type "ValueError"), (.type "Exception"), (.type "BaseException"), (.type "object")], ns := 157, qualname := "Ragged", hasDict := true, slotNames := [], subclasses := [], abstract := false, collection := none, hasDel := false }), #[some (.ref 142), none, some (.str "Ragged" 357), some (.str "Ragged" 365), some (.builtin "ValueError.__new__"), some (.bool true)]⟩
def k161 (P : Params) : Obj := ⟨(.type "tuple"), none, (.seq #[(.ref 24)] 0), #[]⟩
def k168 (P : Params) : Obj := ⟨(.type "tuple"), none, (.seq #[] 0), #[]⟩
def k170 (P : Params) : Obj := ⟨(.type "tuple"), none, (.seq #[(.str "self" 397), (.str "at" 398)] 0), #[]⟩
def k171 (P : Params) : Obj := ⟨(.type "tuple"), none, (.seq #[] 0), #[]⟩
def k173 (P : Params) : Obj := ⟨(.type "code"), none, (.fields #[(.str "__init__" 394), (.str "NoCut.__init__" 395), (.str "/claim/cut.py" 396), (.int (34) 0), (.int (2) 0), (.int (0) 0), (.int (0) 0), (.int (3) 0), (.ref 168), (.bool true), (.int (181) 0), (.ref 169), .none, (.ref 170), (.ref 171), (.ref 172), (.int (399) 0), (.int (34) 0), (.str "/claim/cut.py" 400)]), #[]⟩
def k174 (P : Params) : Obj := ⟨(.type "function"), none, (.func (fnOf "__init__" "NoCut.__init__" (defArgs (inClass (top 9) 0)) (defBody (inClass (top 9) 0)) (defScope (inClass (top 9) 0)) .none .none .none (.str "glazebench.errors" 187) none (.ref 173) .none)), #[]⟩
def k175 (P : Params) : Obj := ⟨(.type "tuple"), none, (.seq #[(.str "at" 402)] 0), #[]⟩
def k176 (P : Params) : Obj := ⟨(.type "dict"), none, (.dict #[kE P "__module__" 389 (.str "glazebench.errors" 187), kE P "__firstlineno__" 393 (.int (32) 392), kE P "__init__" 401 (.ref 174), kE P "__static_attributes__" 403 (.ref 175), kE P "__doc__" 404 .none] 2), #[]⟩
def k177 (P : Params) : Obj := ⟨(.type "type"), none, (.cls { name := "NoCut", bases := [(.ref 24)], mro := [(.ref 177), (.ref 24), (.type "ValueError"), (.type "Exception"), (.type "BaseException"), (.type "object")], ns := 176, qualname := "NoCut", hasDict := true, slotNames := [], subclasses := [], abstract := false, collection := none, hasDel := false }), #[some (.ref 161), none, some (.str "NoCut" 382), some (.str "NoCut" 390), some (.builtin "ValueError.__new__"), some (.bool true)]⟩
def k180 (P : Params) : Obj := ⟨(.type "tuple"), none, (.seq #[(.ref 24)] 0), #[]⟩
def k187 (P : Params) : Obj := ⟨(.type "tuple"), none, (.seq #[] 0), #[]⟩
def k189 (P : Params) : Obj := ⟨(.type "tuple"), none, (.seq #[(.str "self" 422), (.str "place" 423)] 0), #[]⟩
def k190 (P : Params) : Obj := ⟨(.type "tuple"), none, (.seq #[] 0), #[]⟩
def k192 (P : Params) : Obj := ⟨(.type "code"), none, (.fields #[(.str "__init__" 419), (.str "NoTree.__init__" 420), (.str "/claim/cut.py" 421), (.int (38) 0), (.int (2) 0), (.int (0) 0), (.int (0) 0), (.int (3) 0), (.ref 187), (.bool true), (.int (181) 0), (.ref 188), .none, (.ref 189), (.ref 190), (.ref 191), (.int (424) 0), (.int (38) 0), (.str "/claim/cut.py" 425)]), #[]⟩
def k193 (P : Params) : Obj := ⟨(.type "function"), none, (.func (fnOf "__init__" "NoTree.__init__" (defArgs (inClass (top 10) 0)) (defBody (inClass (top 10) 0)) (defScope (inClass (top 10) 0)) .none .none .none (.str "glazebench.errors" 187) none (.ref 192) .none)), #[]⟩
def k194 (P : Params) : Obj := ⟨(.type "tuple"), none, (.seq #[(.str "place" 427)] 0), #[]⟩
def k195 (P : Params) : Obj := ⟨(.type "dict"), none, (.dict #[kE P "__module__" 414 (.str "glazebench.errors" 187), kE P "__firstlineno__" 418 (.int (36) 417), kE P "__init__" 426 (.ref 193), kE P "__static_attributes__" 428 (.ref 194), kE P "__doc__" 429 .none] 2), #[]⟩
def k196 (P : Params) : Obj := ⟨(.type "type"), none, (.cls { name := "NoTree", bases := [(.ref 24)], mro := [(.ref 196), (.ref 24), (.type "ValueError"), (.type "Exception"), (.type "BaseException"), (.type "object")], ns := 195, qualname := "NoTree", hasDict := true, slotNames := [], subclasses := [], abstract := false, collection := none, hasDel := false }), #[some (.ref 180), none, some (.str "NoTree" 407), some (.str "NoTree" 415), some (.builtin "ValueError.__new__"), some (.bool true)]⟩
def k199 (P : Params) : Obj := ⟨(.type "tuple"), none, (.seq #[(.ref 24)] 0), #[]⟩
def k206 (P : Params) : Obj := ⟨(.type "tuple"), none, (.seq #[] 0), #[]⟩
def k208 (P : Params) : Obj := ⟨(.type "tuple"), none, (.seq #[(.str "self" 447), (.str "block" 448)] 0), #[]⟩
def k209 (P : Params) : Obj := ⟨(.type "tuple"), none, (.seq #[] 0), #[]⟩
def k211 (P : Params) : Obj := ⟨(.type "code"), none, (.fields #[(.str "__init__" 444), (.str "NoBlock.__init__" 445), (.str "/claim/cut.py" 446), (.int (42) 0), (.int (2) 0), (.int (0) 0), (.int (0) 0), (.int (3) 0), (.ref 206), (.bool true), (.int (181) 0), (.ref 207), .none, (.ref 208), (.ref 209), (.ref 210), (.int (449) 0), (.int (42) 0), (.str "/claim/cut.py" 450)]), #[]⟩
def k212 (P : Params) : Obj := ⟨(.type "function"), none, (.func (fnOf "__init__" "NoBlock.__init__" (defArgs (inClass (top 11) 0)) (defBody (inClass (top 11) 0)) (defScope (inClass (top 11) 0)) .none .none .none (.str "glazebench.errors" 187) none (.ref 211) .none)), #[]⟩
def k213 (P : Params) : Obj := ⟨(.type "tuple"), none, (.seq #[(.str "block" 452)] 0), #[]⟩
def k214 (P : Params) : Obj := ⟨(.type "dict"), none, (.dict #[kE P "__module__" 439 (.str "glazebench.errors" 187), kE P "__firstlineno__" 443 (.int (40) 442), kE P "__init__" 451 (.ref 212), kE P "__static_attributes__" 453 (.ref 213), kE P "__doc__" 454 .none] 2), #[]⟩
def k215 (P : Params) : Obj := ⟨(.type "type"), none, (.cls { name := "NoBlock", bases := [(.ref 24)], mro := [(.ref 215), (.ref 24), (.type "ValueError"), (.type "Exception"), (.type "BaseException"), (.type "object")], ns := 214, qualname := "NoBlock", hasDict := true, slotNames := [], subclasses := [], abstract := false, collection := none, hasDel := false }), #[some (.ref 199), none, some (.str "NoBlock" 432), some (.str "NoBlock" 440), some (.builtin "ValueError.__new__"), some (.bool true)]⟩
def k218 (P : Params) : Obj := ⟨(.type "tuple"), none, (.seq #[(.ref 24)] 0), #[]⟩
def k225 (P : Params) : Obj := ⟨(.type "tuple"), none, (.seq #[] 0), #[]⟩
def k227 (P : Params) : Obj := ⟨(.type "tuple"), none, (.seq #[(.str "self" 472), (.str "room" 473), (.str "breaks" 474), (.str "leads" 475)] 0), #[]⟩
def k228 (P : Params) : Obj := ⟨(.type "tuple"), none, (.seq #[] 0), #[]⟩
def k230 (P : Params) : Obj := ⟨(.type "code"), none, (.fields #[(.str "__init__" 469), (.str "Stuck.__init__" 470), (.str "/claim/cut.py" 471), (.int (46) 0), (.int (4) 0), (.int (0) 0), (.int (0) 0), (.int (3) 0), (.ref 225), (.bool true), (.int (181) 0), (.ref 226), .none, (.ref 227), (.ref 228), (.ref 229), (.int (476) 0), (.int (46) 0), (.str "/claim/cut.py" 477)]), #[]⟩
def k231 (P : Params) : Obj := ⟨(.type "function"), none, (.func (fnOf "__init__" "Stuck.__init__" (defArgs (inClass (top 12) 0)) (defBody (inClass (top 12) 0)) (defScope (inClass (top 12) 0)) .none .none .none (.str "glazebench.errors" 187) none (.ref 230) .none)), #[]⟩
def k232 (P : Params) : Obj := ⟨(.type "tuple"), none, (.seq #[(.str "breaks" 479), (.str "leads" 480), (.str "room" 481)] 0), #[]⟩
def k233 (P : Params) : Obj := ⟨(.type "dict"), none, (.dict #[kE P "__module__" 464 (.str "glazebench.errors" 187), kE P "__firstlineno__" 468 (.int (44) 467), kE P "__init__" 478 (.ref 231), kE P "__static_attributes__" 482 (.ref 232), kE P "__doc__" 483 .none] 2), #[]⟩
def k234 (P : Params) : Obj := ⟨(.type "type"), none, (.cls { name := "Stuck", bases := [(.ref 24)], mro := [(.ref 234), (.ref 24), (.type "ValueError"), (.type "Exception"), (.type "BaseException"), (.type "object")], ns := 233, qualname := "Stuck", hasDict := true, slotNames := [], subclasses := [], abstract := false, collection := none, hasDel := false }), #[some (.ref 218), none, some (.str "Stuck" 457), some (.str "Stuck" 465), some (.builtin "ValueError.__new__"), some (.bool true)]⟩
def k237 (P : Params) : Obj := ⟨(.type "tuple"), none, (.seq #[(.ref 24)] 0), #[]⟩
def k244 (P : Params) : Obj := ⟨(.type "tuple"), none, (.seq #[] 0), #[]⟩
def k246 (P : Params) : Obj := ⟨(.type "tuple"), none, (.seq #[(.str "self" 501), (.str "steps" 502)] 0), #[]⟩
def k247 (P : Params) : Obj := ⟨(.type "tuple"), none, (.seq #[] 0), #[]⟩
def k249 (P : Params) : Obj := ⟨(.type "code"), none, (.fields #[(.str "__init__" 498), (.str "NoMove.__init__" 499), (.str "/claim/cut.py" 500), (.int (52) 0), (.int (2) 0), (.int (0) 0), (.int (0) 0), (.int (3) 0), (.ref 244), (.bool true), (.int (181) 0), (.ref 245), .none, (.ref 246), (.ref 247), (.ref 248), (.int (503) 0), (.int (52) 0), (.str "/claim/cut.py" 504)]), #[]⟩
def k250 (P : Params) : Obj := ⟨(.type "function"), none, (.func (fnOf "__init__" "NoMove.__init__" (defArgs (inClass (top 13) 0)) (defBody (inClass (top 13) 0)) (defScope (inClass (top 13) 0)) .none .none .none (.str "glazebench.errors" 187) none (.ref 249) .none)), #[]⟩
def k251 (P : Params) : Obj := ⟨(.type "tuple"), none, (.seq #[(.str "steps" 506)] 0), #[]⟩
def k252 (P : Params) : Obj := ⟨(.type "dict"), none, (.dict #[kE P "__module__" 493 (.str "glazebench.errors" 187), kE P "__firstlineno__" 497 (.int (50) 496), kE P "__init__" 505 (.ref 250), kE P "__static_attributes__" 507 (.ref 251), kE P "__doc__" 508 .none] 2), #[]⟩
def k253 (P : Params) : Obj := ⟨(.type "type"), none, (.cls { name := "NoMove", bases := [(.ref 24)], mro := [(.ref 253), (.ref 24), (.type "ValueError"), (.type "Exception"), (.type "BaseException"), (.type "object")], ns := 252, qualname := "NoMove", hasDict := true, slotNames := [], subclasses := [], abstract := false, collection := none, hasDel := false }), #[some (.ref 237), none, some (.str "NoMove" 486), some (.str "NoMove" 494), some (.builtin "ValueError.__new__"), some (.bool true)]⟩
def k256 (P : Params) : Obj := ⟨(.type "tuple"), none, (.seq #[(.ref 24)] 0), #[]⟩
def k263 (P : Params) : Obj := ⟨(.type "tuple"), none, (.seq #[] 0), #[]⟩
def k264 (P : Params) : Obj := ⟨(.type "dict"), none, (.dict #[kE P "__module__" 518 (.str "glazebench.errors" 187), kE P "__firstlineno__" 522 (.int (54) 521), kE P "__static_attributes__" 523 (.ref 263), kE P "__doc__" 524 .none] 2), #[]⟩
def k265 (P : Params) : Obj := ⟨(.type "type"), none, (.cls { name := "Unlike", bases := [(.ref 24)], mro := [(.ref 265), (.ref 24), (.type "ValueError"), (.type "Exception"), (.type "BaseException"), (.type "object")], ns := 264, qualname := "Unlike", hasDict := true, slotNames := [], subclasses := [], abstract := false, collection := none, hasDel := false }), #[some (.ref 256), none, some (.str "Unlike" 511), some (.str "Unlike" 519), some (.builtin "ValueError.__new__"), some (.bool true)]⟩
def k268 (P : Params) : Obj := ⟨(.type "tuple"), none, (.seq #[(.ref 24)] 0), #[]⟩
def k275 (P : Params) : Obj := ⟨(.type "tuple"), none, (.seq #[] 0), #[]⟩
def k277 (P : Params) : Obj := ⟨(.type "tuple"), none, (.seq #[(.str "self" 542), (.str "number" 543)] 0), #[]⟩
def k278 (P : Params) : Obj := ⟨(.type "tuple"), none, (.seq #[] 0), #[]⟩
def k280 (P : Params) : Obj := ⟨(.type "code"), none, (.fields #[(.str "__init__" 539), (.str "NoNumber.__init__" 540), (.str "/claim/cut.py" 541), (.int (58) 0), (.int (2) 0), (.int (0) 0), (.int (0) 0), (.int (3) 0), (.ref 275), (.bool true), (.int (181) 0), (.ref 276), .none, (.ref 277), (.ref 278), (.ref 279), (.int (544) 0), (.int (58) 0), (.str "/claim/cut.py" 545)]), #[]⟩
def k281 (P : Params) : Obj := ⟨(.type "function"), none, (.func (fnOf "__init__" "NoNumber.__init__" (defArgs (inClass (top 15) 0)) (defBody (inClass (top 15) 0)) (defScope (inClass (top 15) 0)) .none .none .none (.str "glazebench.errors" 187) none (.ref 280) .none)), #[]⟩
def k282 (P : Params) : Obj := ⟨(.type "tuple"), none, (.seq #[(.str "number" 547)] 0), #[]⟩
def k283 (P : Params) : Obj := ⟨(.type "dict"), none, (.dict #[kE P "__module__" 534 (.str "glazebench.errors" 187), kE P "__firstlineno__" 538 (.int (56) 537), kE P "__init__" 546 (.ref 281), kE P "__static_attributes__" 548 (.ref 282), kE P "__doc__" 549 .none] 2), #[]⟩
def k284 (P : Params) : Obj := ⟨(.type "type"), none, (.cls { name := "NoNumber", bases := [(.ref 24)], mro := [(.ref 284), (.ref 24), (.type "ValueError"), (.type "Exception"), (.type "BaseException"), (.type "object")], ns := 283, qualname := "NoNumber", hasDict := true, slotNames := [], subclasses := [], abstract := false, collection := none, hasDel := false }), #[some (.ref 268), none, some (.str "NoNumber" 527), some (.str "NoNumber" 535), some (.builtin "ValueError.__new__"), some (.bool true)]⟩
def k287 (P : Params) : Obj := ⟨(.type "tuple"), none, (.seq #[(.ref 24)] 0), #[]⟩
def k294 (P : Params) : Obj := ⟨(.type "tuple"), none, (.seq #[] 0), #[]⟩
def k296 (P : Params) : Obj := ⟨(.type "tuple"), none, (.seq #[(.str "self" 567), (.str "place" 568)] 0), #[]⟩
def k297 (P : Params) : Obj := ⟨(.type "tuple"), none, (.seq #[] 0), #[]⟩
def k299 (P : Params) : Obj := ⟨(.type "code"), none, (.fields #[(.str "__init__" 564), (.str "NoKind.__init__" 565), (.str "/claim/cut.py" 566), (.int (62) 0), (.int (2) 0), (.int (0) 0), (.int (0) 0), (.int (3) 0), (.ref 294), (.bool true), (.int (181) 0), (.ref 295), .none, (.ref 296), (.ref 297), (.ref 298), (.int (569) 0), (.int (62) 0), (.str "/claim/cut.py" 570)]), #[]⟩
def k300 (P : Params) : Obj := ⟨(.type "function"), none, (.func (fnOf "__init__" "NoKind.__init__" (defArgs (inClass (top 16) 0)) (defBody (inClass (top 16) 0)) (defScope (inClass (top 16) 0)) .none .none .none (.str "glazebench.errors" 187) none (.ref 299) .none)), #[]⟩
def k301 (P : Params) : Obj := ⟨(.type "tuple"), none, (.seq #[(.str "place" 572)] 0), #[]⟩
def k302 (P : Params) : Obj := ⟨(.type "dict"), none, (.dict #[kE P "__module__" 559 (.str "glazebench.errors" 187), kE P "__firstlineno__" 563 (.int (60) 562), kE P "__init__" 571 (.ref 300), kE P "__static_attributes__" 573 (.ref 301), kE P "__doc__" 574 .none] 2), #[]⟩
def k303 (P : Params) : Obj := ⟨(.type "type"), none, (.cls { name := "NoKind", bases := [(.ref 24)], mro := [(.ref 303), (.ref 24), (.type "ValueError"), (.type "Exception"), (.type "BaseException"), (.type "object")], ns := 302, qualname := "NoKind", hasDict := true, slotNames := [], subclasses := [], abstract := false, collection := none, hasDel := false }), #[some (.ref 287), none, some (.str "NoKind" 552), some (.str "NoKind" 560), some (.builtin "ValueError.__new__"), some (.bool true)]⟩
def k306 (P : Params) : Obj := ⟨(.type "tuple"), none, (.seq #[(.ref 24)] 0), #[]⟩
def k313 (P : Params) : Obj := ⟨(.type "tuple"), none, (.seq #[] 0), #[]⟩
def k315 (P : Params) : Obj := ⟨(.type "tuple"), none, (.seq #[(.str "self" 592), (.str "piece" 593)] 0), #[]⟩
def k316 (P : Params) : Obj := ⟨(.type "tuple"), none, (.seq #[] 0), #[]⟩
def k318 (P : Params) : Obj := ⟨(.type "code"), none, (.fields #[(.str "__init__" 589), (.str "Unfit.__init__" 590), (.str "/claim/cut.py" 591), (.int (66) 0), (.int (2) 0), (.int (0) 0), (.int (0) 0), (.int (3) 0), (.ref 313), (.bool true), (.int (181) 0), (.ref 314), .none, (.ref 315), (.ref 316), (.ref 317), (.int (594) 0), (.int (66) 0), (.str "/claim/cut.py" 595)]), #[]⟩
def k319 (P : Params) : Obj := ⟨(.type "function"), none, (.func (fnOf "__init__" "Unfit.__init__" (defArgs (inClass (top 17) 0)) (defBody (inClass (top 17) 0)) (defScope (inClass (top 17) 0)) .none .none .none (.str "glazebench.errors" 187) none (.ref 318) .none)), #[]⟩
def k320 (P : Params) : Obj := ⟨(.type "tuple"), none, (.seq #[(.str "piece" 597)] 0), #[]⟩
def k321 (P : Params) : Obj := ⟨(.type "dict"), none, (.dict #[kE P "__module__" 584 (.str "glazebench.errors" 187), kE P "__firstlineno__" 588 (.int (64) 587), kE P "__init__" 596 (.ref 319), kE P "__static_attributes__" 598 (.ref 320), kE P "__doc__" 599 .none] 2), #[]⟩
def k322 (P : Params) : Obj := ⟨(.type "type"), none, (.cls { name := "Unfit", bases := [(.ref 24)], mro := [(.ref 322), (.ref 24), (.type "ValueError"), (.type "Exception"), (.type "BaseException"), (.type "object")], ns := 321, qualname := "Unfit", hasDict := true, slotNames := [], subclasses := [], abstract := false, collection := none, hasDel := false }), #[some (.ref 306), none, some (.str "Unfit" 577), some (.str "Unfit" 585), some (.builtin "ValueError.__new__"), some (.bool true)]⟩
def k325 (P : Params) : Obj := ⟨(.type "tuple"), none, (.seq #[(.ref 24)] 0), #[]⟩
def k332 (P : Params) : Obj := ⟨(.type "tuple"), none, (.seq #[] 0), #[]⟩
def k334 (P : Params) : Obj := ⟨(.type "tuple"), none, (.seq #[(.str "self" 617), (.str "place" 618)] 0), #[]⟩
def k335 (P : Params) : Obj := ⟨(.type "tuple"), none, (.seq #[] 0), #[]⟩
def k337 (P : Params) : Obj := ⟨(.type "code"), none, (.fields #[(.str "__init__" 614), (.str "NoFlaw.__init__" 615), (.str "/claim/cut.py" 616), (.int (70) 0), (.int (2) 0), (.int (0) 0), (.int (0) 0), (.int (3) 0), (.ref 332), (.bool true), (.int (181) 0), (.ref 333), .none, (.ref 334), (.ref 335), (.ref 336), (.int (619) 0), (.int (70) 0), (.str "/claim/cut.py" 620)]), #[]⟩
def k338 (P : Params) : Obj := ⟨(.type "function"), none, (.func (fnOf "__init__" "NoFlaw.__init__" (defArgs (inClass (top 18) 0)) (defBody (inClass (top 18) 0)) (defScope (inClass (top 18) 0)) .none .none .none (.str "glazebench.errors" 187) none (.ref 337) .none)), #[]⟩
def k339 (P : Params) : Obj := ⟨(.type "tuple"), none, (.seq #[(.str "place" 622)] 0), #[]⟩
def k340 (P : Params) : Obj := ⟨(.type "dict"), none, (.dict #[kE P "__module__" 609 (.str "glazebench.errors" 187), kE P "__firstlineno__" 613 (.int (68) 612), kE P "__init__" 621 (.ref 338), kE P "__static_attributes__" 623 (.ref 339), kE P "__doc__" 624 .none] 2), #[]⟩
def k341 (P : Params) : Obj := ⟨(.type "type"), none, (.cls { name := "NoFlaw", bases := [(.ref 24)], mro := [(.ref 341), (.ref 24), (.type "ValueError"), (.type "Exception"), (.type "BaseException"), (.type "object")], ns := 340, qualname := "NoFlaw", hasDict := true, slotNames := [], subclasses := [], abstract := false, collection := none, hasDel := false }), #[some (.ref 325), none, some (.str "NoFlaw" 602), some (.str "NoFlaw" 610), some (.builtin "ValueError.__new__"), some (.bool true)]⟩
def k344 (P : Params) : Obj := ⟨(.type "tuple"), none, (.seq #[(.ref 24)] 0), #[]⟩
def k351 (P : Params) : Obj := ⟨(.type "tuple"), none, (.seq #[] 0), #[]⟩
def k353 (P : Params) : Obj := ⟨(.type "tuple"), none, (.seq #[(.str "self" 642), (.str "place" 643)] 0), #[]⟩
def k354 (P : Params) : Obj := ⟨(.type "tuple"), none, (.seq #[] 0), #[]⟩
def k356 (P : Params) : Obj := ⟨(.type "code"), none, (.fields #[(.str "__init__" 639), (.str "NoWant.__init__" 640), (.str "/claim/cut.py" 641), (.int (74) 0), (.int (2) 0), (.int (0) 0), (.int (0) 0), (.int (3) 0), (.ref 351), (.bool true), (.int (181) 0), (.ref 352), .none, (.ref 353), (.ref 354), (.ref 355), (.int (644) 0), (.int (74) 0), (.str "/claim/cut.py" 645)]), #[]⟩
def k357 (P : Params) : Obj := ⟨(.type "function"), none, (.func (fnOf "__init__" "NoWant.__init__" (defArgs (inClass (top 19) 0)) (defBody (inClass (top 19) 0)) (defScope (inClass (top 19) 0)) .none .none .none (.str "glazebench.errors" 187) none (.ref 356) .none)), #[]⟩
def k358 (P : Params) : Obj := ⟨(.type "tuple"), none, (.seq #[(.str "place" 647)] 0), #[]⟩
def k359 (P : Params) : Obj := ⟨(.type "dict"), none, (.dict #[kE P "__module__" 634 (.str "glazebench.errors" 187), kE P "__firstlineno__" 638 (.int (72) 637), kE P "__init__" 646 (.ref 357), kE P "__static_attributes__" 648 (.ref 358), kE P "__doc__" 649 .none] 2), #[]⟩
def k360 (P : Params) : Obj := ⟨(.type "type"), none, (.cls { name := "NoWant", bases := [(.ref 24)], mro := [(.ref 360), (.ref 24), (.type "ValueError"), (.type "Exception"), (.type "BaseException"), (.type "object")], ns := 359, qualname := "NoWant", hasDict := true, slotNames := [], subclasses := [], abstract := false, collection := none, hasDel := false }), #[some (.ref 344), none, some (.str "NoWant" 627), some (.str "NoWant" 635), some (.builtin "ValueError.__new__"), some (.bool true)]⟩
def k363 (P : Params) : Obj := ⟨(.type "tuple"), none, (.seq #[(.ref 24)] 0), #[]⟩
def k370 (P : Params) : Obj := ⟨(.type "tuple"), none, (.seq #[] 0), #[]⟩
def k372 (P : Params) : Obj := ⟨(.type "tuple"), none, (.seq #[(.str "self" 667), (.str "place" 668)] 0), #[]⟩
def k373 (P : Params) : Obj := ⟨(.type "tuple"), none, (.seq #[] 0), #[]⟩
def k375 (P : Params) : Obj := ⟨(.type "code"), none, (.fields #[(.str "__init__" 664), (.str "NoSheet.__init__" 665), (.str "/claim/cut.py" 666), (.int (78) 0), (.int (2) 0), (.int (0) 0), (.int (0) 0), (.int (3) 0), (.ref 370), (.bool true), (.int (181) 0), (.ref 371), .none, (.ref 372), (.ref 373), (.ref 374), (.int (669) 0), (.int (78) 0), (.str "/claim/cut.py" 670)]), #[]⟩
def k376 (P : Params) : Obj := ⟨(.type "function"), none, (.func (fnOf "__init__" "NoSheet.__init__" (defArgs (inClass (top 20) 0)) (defBody (inClass (top 20) 0)) (defScope (inClass (top 20) 0)) .none .none .none (.str "glazebench.errors" 187) none (.ref 375) .none)), #[]⟩
def k377 (P : Params) : Obj := ⟨(.type "tuple"), none, (.seq #[(.str "place" 672)] 0), #[]⟩
def k378 (P : Params) : Obj := ⟨(.type "dict"), none, (.dict #[kE P "__module__" 659 (.str "glazebench.errors" 187), kE P "__firstlineno__" 663 (.int (76) 662), kE P "__init__" 671 (.ref 376), kE P "__static_attributes__" 673 (.ref 377), kE P "__doc__" 674 .none] 2), #[]⟩
def k379 (P : Params) : Obj := ⟨(.type "type"), none, (.cls { name := "NoSheet", bases := [(.ref 24)], mro := [(.ref 379), (.ref 24), (.type "ValueError"), (.type "Exception"), (.type "BaseException"), (.type "object")], ns := 378, qualname := "NoSheet", hasDict := true, slotNames := [], subclasses := [], abstract := false, collection := none, hasDel := false }), #[some (.ref 363), none, some (.str "NoSheet" 652), some (.str "NoSheet" 660), some (.builtin "ValueError.__new__"), some (.bool true)]⟩
def k382 (P : Params) : Obj := ⟨(.type "tuple"), none, (.seq #[(.ref 24)] 0), #[]⟩
def k389 (P : Params) : Obj := ⟨(.type "tuple"), none, (.seq #[] 0), #[]⟩
def k391 (P : Params) : Obj := ⟨(.type "tuple"), none, (.seq #[(.str "self" 692), (.str "size" 693)] 0), #[]⟩
def k392 (P : Params) : Obj := ⟨(.type "tuple"), none, (.seq #[] 0), #[]⟩
def k394 (P : Params) : Obj := ⟨(.type "code"), none, (.fields #[(.str "__init__" 689), (.str "NoSize.__init__" 690), (.str "/claim/cut.py" 691), (.int (82) 0), (.int (2) 0), (.int (0) 0), (.int (0) 0), (.int (3) 0), (.ref 389), (.bool true), (.int (181) 0), (.ref 390), .none, (.ref 391), (.ref 392), (.ref 393), (.int (694) 0), (.int (82) 0), (.str "/claim/cut.py" 695)]), #[]⟩
def k395 (P : Params) : Obj := ⟨(.type "function"), none, (.func (fnOf "__init__" "NoSize.__init__" (defArgs (inClass (top 21) 0)) (defBody (inClass (top 21) 0)) (defScope (inClass (top 21) 0)) .none .none .none (.str "glazebench.errors" 187) none (.ref 394) .none)), #[]⟩
def k396 (P : Params) : Obj := ⟨(.type "tuple"), none, (.seq #[(.str "size" 697)] 0), #[]⟩
def k397 (P : Params) : Obj := ⟨(.type "dict"), none, (.dict #[kE P "__module__" 684 (.str "glazebench.errors" 187), kE P "__firstlineno__" 688 (.int (80) 687), kE P "__init__" 696 (.ref 395), kE P "__static_attributes__" 698 (.ref 396), kE P "__doc__" 699 .none] 2), #[]⟩
def k398 (P : Params) : Obj := ⟨(.type "type"), none, (.cls { name := "NoSize", bases := [(.ref 24)], mro := [(.ref 398), (.ref 24), (.type "ValueError"), (.type "Exception"), (.type "BaseException"), (.type "object")], ns := 397, qualname := "NoSize", hasDict := true, slotNames := [], subclasses := [], abstract := false, collection := none, hasDel := false }), #[some (.ref 382), none, some (.str "NoSize" 677), some (.str "NoSize" 685), some (.builtin "ValueError.__new__"), some (.bool true)]⟩
def k401 (P : Params) : Obj := ⟨(.type "tuple"), none, (.seq #[(.ref 24)] 0), #[]⟩
def k408 (P : Params) : Obj := ⟨(.type "tuple"), none, (.seq #[] 0), #[]⟩
def k410 (P : Params) : Obj := ⟨(.type "tuple"), none, (.seq #[(.str "self" 717), (.str "want" 718)] 0), #[]⟩
def k411 (P : Params) : Obj := ⟨(.type "tuple"), none, (.seq #[] 0), #[]⟩
def k413 (P : Params) : Obj := ⟨(.type "code"), none, (.fields #[(.str "__init__" 714), (.str "NoPlan.__init__" 715), (.str "/claim/cut.py" 716), (.int (86) 0), (.int (2) 0), (.int (0) 0), (.int (0) 0), (.int (3) 0), (.ref 408), (.bool true), (.int (181) 0), (.ref 409), .none, (.ref 410), (.ref 411), (.ref 412), (.int (719) 0), (.int (86) 0), (.str "/claim/cut.py" 720)]), #[]⟩
def k414 (P : Params) : Obj := ⟨(.type "function"), none, (.func (fnOf "__init__" "NoPlan.__init__" (defArgs (inClass (top 22) 0)) (defBody (inClass (top 22) 0)) (defScope (inClass (top 22) 0)) .none .none .none (.str "glazebench.errors" 187) none (.ref 413) .none)), #[]⟩
def k415 (P : Params) : Obj := ⟨(.type "tuple"), none, (.seq #[(.str "want" 722)] 0), #[]⟩
def k416 (P : Params) : Obj := ⟨(.type "dict"), none, (.dict #[kE P "__module__" 709 (.str "glazebench.errors" 187), kE P "__firstlineno__" 713 (.int (84) 712), kE P "__init__" 721 (.ref 414), kE P "__static_attributes__" 723 (.ref 415), kE P "__doc__" 724 .none] 2), #[]⟩
def k417 (P : Params) : Obj := ⟨(.type "type"), none, (.cls { name := "NoPlan", bases := [(.ref 24)], mro := [(.ref 417), (.ref 24), (.type "ValueError"), (.type "Exception"), (.type "BaseException"), (.type "object")], ns := 416, qualname := "NoPlan", hasDict := true, slotNames := [], subclasses := [], abstract := false, collection := none, hasDel := false }), #[some (.ref 401), none, some (.str "NoPlan" 702), some (.str "NoPlan" 710), some (.builtin "ValueError.__new__"), some (.bool true)]⟩
def k420 (P : Params) : Obj := ⟨(.type "tuple"), none, (.seq #[(.ref 24)] 0), #[]⟩
def k427 (P : Params) : Obj := ⟨(.type "tuple"), none, (.seq #[] 0), #[]⟩
def k429 (P : Params) : Obj := ⟨(.type "tuple"), none, (.seq #[(.str "self" 742), (.str "width" 743), (.str "height" 744)] 0), #[]⟩
def k430 (P : Params) : Obj := ⟨(.type "tuple"), none, (.seq #[] 0), #[]⟩
def k432 (P : Params) : Obj := ⟨(.type "code"), none, (.fields #[(.str "__init__" 739), (.str "NoGlass.__init__" 740), (.str "/claim/cut.py" 741), (.int (90) 0), (.int (3) 0), (.int (0) 0), (.int (0) 0), (.int (3) 0), (.ref 427), (.bool true), (.int (181) 0), (.ref 428), .none, (.ref 429), (.ref 430), (.ref 431), (.int (745) 0), (.int (90) 0), (.str "/claim/cut.py" 746)]), #[]⟩
def k433 (P : Params) : Obj := ⟨(.type "function"), none, (.func (fnOf "__init__" "NoGlass.__init__" (defArgs (inClass (top 23) 0)) (defBody (inClass (top 23) 0)) (defScope (inClass (top 23) 0)) .none .none .none (.str "glazebench.errors" 187) none (.ref 432) .none)), #[]⟩
def k434 (P : Params) : Obj := ⟨(.type "tuple"), none, (.seq #[(.str "height" 748), (.str "width" 749)] 0), #[]⟩
def k435 (P : Params) : Obj := ⟨(.type "dict"), none, (.dict #[kE P "__module__" 734 (.str "glazebench.errors" 187), kE P "__firstlineno__" 738 (.int (88) 737), kE P "__init__" 747 (.ref 433), kE P "__static_attributes__" 750 (.ref 434), kE P "__doc__" 751 .none] 2), #[]⟩
def k436 (P : Params) : Obj := ⟨(.type "type"), none, (.cls { name := "NoGlass", bases := [(.ref 24)], mro := [(.ref 436), (.ref 24), (.type "ValueError"), (.type "Exception"), (.type "BaseException"), (.type "object")], ns := 435, qualname := "NoGlass", hasDict := true, slotNames := [], subclasses := [], abstract := false, collection := none, hasDel := false }), #[some (.ref 420), none, some (.str "NoGlass" 727), some (.str "NoGlass" 735), some (.builtin "ValueError.__new__"), some (.bool true)]⟩
def k439 (P : Params) : Obj := ⟨(.type "tuple"), none, (.seq #[(.ref 24)] 0), #[]⟩
def k446 (P : Params) : Obj := ⟨(.type "tuple"), none, (.seq #[] 0), #[]⟩
def k448 (P : Params) : Obj := ⟨(.type "tuple"), none, (.seq #[(.str "self" 769), (.str "line" 770)] 0), #[]⟩
def k449 (P : Params) : Obj := ⟨(.type "tuple"), none, (.seq #[] 0), #[]⟩
def k451 (P : Params) : Obj := ⟨(.type "code"), none, (.fields #[(.str "__init__" 766), (.str "NoLine.__init__" 767), (.str "/claim/cut.py" 768), (.int (95) 0), (.int (2) 0), (.int (0) 0), (.int (0) 0), (.int (3) 0), (.ref 446), (.bool true), (.int (181) 0), (.ref 447), .none, (.ref 448), (.ref 449), (.ref 450), (.int (771) 0), (.int (95) 0), (.str "/claim/cut.py" 772)]), #[]⟩
def k452 (P : Params) : Obj := ⟨(.type "function"), none, (.func (fnOf "__init__" "NoLine.__init__" (defArgs (inClass (top 24) 0)) (defBody (inClass (top 24) 0)) (defScope (inClass (top 24) 0)) .none .none .none (.str "glazebench.errors" 187) none (.ref 451) .none)), #[]⟩
def k453 (P : Params) : Obj := ⟨(.type "tuple"), none, (.seq #[(.str "line" 774)] 0), #[]⟩
def k454 (P : Params) : Obj := ⟨(.type "dict"), none, (.dict #[kE P "__module__" 761 (.str "glazebench.errors" 187), kE P "__firstlineno__" 765 (.int (93) 764), kE P "__init__" 773 (.ref 452), kE P "__static_attributes__" 775 (.ref 453), kE P "__doc__" 776 .none] 2), #[]⟩
def k455 (P : Params) : Obj := ⟨(.type "type"), none, (.cls { name := "NoLine", bases := [(.ref 24)], mro := [(.ref 455), (.ref 24), (.type "ValueError"), (.type "Exception"), (.type "BaseException"), (.type "object")], ns := 454, qualname := "NoLine", hasDict := true, slotNames := [], subclasses := [], abstract := false, collection := none, hasDel := false }), #[some (.ref 439), none, some (.str "NoLine" 754), some (.str "NoLine" 762), some (.builtin "ValueError.__new__"), some (.bool true)]⟩
def k458 (P : Params) : Obj := ⟨(.type "tuple"), none, (.seq #[(.ref 24)] 0), #[]⟩
def k465 (P : Params) : Obj := ⟨(.type "tuple"), none, (.seq #[] 0), #[]⟩
def k467 (P : Params) : Obj := ⟨(.type "tuple"), none, (.seq #[(.str "self" 794), (.str "name" 795)] 0), #[]⟩
def k468 (P : Params) : Obj := ⟨(.type "tuple"), none, (.seq #[] 0), #[]⟩
def k470 (P : Params) : Obj := ⟨(.type "code"), none, (.fields #[(.str "__init__" 791), (.str "NoName.__init__" 792), (.str "/claim/cut.py" 793), (.int (99) 0), (.int (2) 0), (.int (0) 0), (.int (0) 0), (.int (3) 0), (.ref 465), (.bool true), (.int (181) 0), (.ref 466), .none, (.ref 467), (.ref 468), (.ref 469), (.int (796) 0), (.int (99) 0), (.str "/claim/cut.py" 797)]), #[]⟩
def k471 (P : Params) : Obj := ⟨(.type "function"), none, (.func (fnOf "__init__" "NoName.__init__" (defArgs (inClass (top 25) 0)) (defBody (inClass (top 25) 0)) (defScope (inClass (top 25) 0)) .none .none .none (.str "glazebench.errors" 187) none (.ref 470) .none)), #[]⟩
def k472 (P : Params) : Obj := ⟨(.type "tuple"), none, (.seq #[(.str "name" 799)] 0), #[]⟩
def k473 (P : Params) : Obj := ⟨(.type "dict"), none, (.dict #[kE P "__module__" 786 (.str "glazebench.errors" 187), kE P "__firstlineno__" 790 (.int (97) 789), kE P "__init__" 798 (.ref 471), kE P "__static_attributes__" 800 (.ref 472), kE P "__doc__" 801 .none] 2), #[]⟩
def k474 (P : Params) : Obj := ⟨(.type "type"), none, (.cls { name := "NoName", bases := [(.ref 24)], mro := [(.ref 474), (.ref 24), (.type "ValueError"), (.type "Exception"), (.type "BaseException"), (.type "object")], ns := 473, qualname := "NoName", hasDict := true, slotNames := [], subclasses := [], abstract := false, collection := none, hasDel := false }), #[some (.ref 458), none, some (.str "NoName" 779), some (.str "NoName" 787), some (.builtin "ValueError.__new__"), some (.bool true)]⟩
def k477 (P : Params) : Obj := ⟨(.type "tuple"), none, (.seq #[] 0), #[]⟩
def k479 (P : Params) : Obj := ⟨(.type "tuple"), none, (.seq #[(.str "_law_script" 809), (.str "_law_k" 810), (.str "_law_cell" 811)] 0), #[]⟩
def k480 (P : Params) : Obj := ⟨(.type "tuple"), none, (.seq #[] 0), #[]⟩
def k482 (P : Params) : Obj := ⟨(.type "code"), none, (.fields #[(.str "_law_purse" 806), (.str "_law_purse" 807), (.str "/claim/cut.py" 808), (.int (102) 0), (.int (2) 0), (.int (0) 0), (.int (0) 0), (.int (3) 0), (.ref 477), (.bool true), (.int (181) 0), (.ref 478), .none, (.ref 479), (.ref 480), (.ref 481), (.int (812) 0), (.int (102) 0), (.str "/claim/cut.py" 813)]), #[]⟩
def k483 (P : Params) : Obj := ⟨(.type "function"), none, (.func (fnOf "_law_purse" "_law_purse" (defArgs (top 27)) (defBody (top 27)) (defScope (top 27)) .none .none .none (.str "law_glazebench_k06_refusals_told" 804) none (.ref 482) .none)), #[]⟩
def k484 (P : Params) : Obj := ⟨(.type "tuple"), none, (.seq #[] 0), #[]⟩
def k486 (P : Params) : Obj := ⟨(.type "tuple"), none, (.seq #[(.str "_law_purse_here" 818), (.str "_law_many" 819), (.str "_law_found" 820)] 0), #[]⟩
def k487 (P : Params) : Obj := ⟨(.type "tuple"), none, (.seq #[] 0), #[]⟩
def k489 (P : Params) : Obj := ⟨(.type "code"), none, (.fields #[(.str "_law_take" 815), (.str "_law_take" 816), (.str "/claim/cut.py" 817), (.int (109) 0), (.int (2) 0), (.int (0) 0), (.int (0) 0), (.int (3) 0), (.ref 484), (.bool true), (.int (181) 0), (.ref 485), .none, (.ref 486), (.ref 487), (.ref 488), (.int (821) 0), (.int (109) 0), (.str "/claim/cut.py" 822)]), #[]⟩
def k490 (P : Params) : Obj := ⟨(.type "function"), none, (.func (fnOf "_law_take" "_law_take" (defArgs (top 28)) (defBody (top 28)) (defScope (top 28)) .none .none .none (.str "law_glazebench_k06_refusals_told" 804) none (.ref 489) .none)), #[]⟩
def k491 (P : Params) : Obj := ⟨(.type "tuple"), none, (.seq #[] 0), #[]⟩
def k493 (P : Params) : Obj := ⟨(.type "tuple"), none, (.seq #[(.str "_law_e" 827), (.str "_law_some" 828)] 0), #[]⟩
def k494 (P : Params) : Obj := ⟨(.type "tuple"), none, (.seq #[] 0), #[]⟩
def k496 (P : Params) : Obj := ⟨(.type "code"), none, (.fields #[(.str "_law_kin" 824), (.str "_law_kin" 825), (.str "/claim/cut.py" 826), (.int (113) 0), (.int (1) 0), (.int (0) 0), (.int (0) 0), (.int (3) 0), (.ref 491), (.bool true), (.int (181) 0), (.ref 492), .none, (.ref 493), (.ref 494), (.ref 495), (.int (829) 0), (.int (113) 0), (.str "/claim/cut.py" 830)]), #[]⟩
def k497 (P : Params) : Obj := ⟨(.type "function"), none, (.func (fnOf "_law_kin" "_law_kin" (defArgs (top 29)) (defBody (top 29)) (defScope (top 29)) .none .none .none (.str "law_glazebench_k06_refusals_told" 804) none (.ref 496) .none)), #[]⟩
def k498 (P : Params) : Obj := ⟨(.type "tuple"), none, (.seq #[] 0), #[]⟩
def k501 (P : Params) : Obj := ⟨(.type "code"), none, (.fields #[(.str "_law_text" 832), (.str "_law_text" 833), (.str "/claim/cut.py" 834), (.int (120) 0), (.int (1) 0), (.int (0) 0), (.int (0) 0), (.int (3) 0), (.ref 498), (.bool true), (.int (181) 0), (.ref 499), .none, .none, .none, (.ref 500), (.int (835) 0), (.int (120) 0), (.str "/claim/cut.py" 836)]), #[]⟩
def k502 (P : Params) : Obj := ⟨(.type "function"), none, (.func (fnOf "_law_text" "_law_text" (defArgs (top 30)) (defBody (top 30)) (defScope (top 30)) .none .none .none (.str "law_glazebench_k06_refusals_told" 804) none (.ref 501) .none)), #[]⟩
def k503 (P : Params) : Obj := ⟨(.type "tuple"), none, (.seq #[] 0), #[]⟩
def k505 (P : Params) : Obj := ⟨(.type "tuple"), none, (.seq #[(.str "_law_number" 841), (.str "_law_text_here" 842), (.str "_law_block" 843), (.str "_law_some" 844), (.str "_law_made_here" 845)] 0), #[]⟩
def k506 (P : Params) : Obj := ⟨(.type "tuple"), none, (.seq #[] 0), #[]⟩
def k508 (P : Params) : Obj := ⟨(.type "code"), none, (.fields #[(.str "_law_made" 838), (.str "_law_made" 839), (.str "/claim/cut.py" 840), (.int (122) 0), (.int (4) 0), (.int (0) 0), (.int (0) 0), (.int (3) 0), (.ref 503), (.bool true), (.int (181) 0), (.ref 504), .none, (.ref 505), (.ref 506), (.ref 507), (.int (846) 0), (.int (122) 0), (.str "/claim/cut.py" 847)]), #[]⟩
def k509 (P : Params) : Obj := ⟨(.type "function"), none, (.func (fnOf "_law_made" "_law_made" (defArgs (top 31)) (defBody (top 31)) (defScope (top 31)) .none .none .none (.str "law_glazebench_k06_refusals_told" 804) none (.ref 508) .none)), #[]⟩
def k510 (P : Params) : Obj := ⟨(.type "tuple"), none, (.seq #[] 0), #[]⟩
def k512 (P : Params) : Obj := ⟨(.type "tuple"), none, (.seq #[(.str "_law_made_here" 852), (.str "_law_some" 853)] 0), #[]⟩
def k513 (P : Params) : Obj := ⟨(.type "tuple"), none, (.seq #[] 0), #[]⟩
def k515 (P : Params) : Obj := ⟨(.type "code"), none, (.fields #[(.str "_law_numbers" 849), (.str "_law_numbers" 850), (.str "/claim/cut.py" 851), (.int (128) 0), (.int (1) 0), (.int (0) 0), (.int (0) 0), (.int (3) 0), (.ref 510), (.bool true), (.int (181) 0), (.ref 511), .none, (.ref 512), (.ref 513), (.ref 514), (.int (854) 0), (.int (128) 0), (.str "/claim/cut.py" 855)]), #[]⟩
def k516 (P : Params) : Obj := ⟨(.type "function"), none, (.func (fnOf "_law_numbers" "_law_numbers" (defArgs (top 32)) (defBody (top 32)) (defScope (top 32)) .none .none .none (.str "law_glazebench_k06_refusals_told" 804) none (.ref 515) .none)), #[]⟩
def k517 (P : Params) : Obj := ⟨(.type "tuple"), none, (.seq #[] 0), #[]⟩
def k520 (P : Params) : Obj := ⟨(.type "code"), none, (.fields #[(.str "law" 857), (.str "law" 858), (.str "/claim/cut.py" 859), (.int (132) 0), (.int (1) 0), (.int (0) 0), (.int (0) 0), (.int (3) 0), (.ref 517), (.bool true), (.int (181) 0), (.ref 518), .none, .none, .none, (.ref 519), (.int (860) 0), (.int (132) 0), (.str "/claim/cut.py" 861)]), #[]⟩
def k521 (P : Params) : Obj := ⟨(.type "function"), none, (.func (fnOf "law" "law" (defArgs (top 33)) (defBody (top 33)) (defScope (top 33)) .none .none .none (.str "law_glazebench_k06_refusals_told" 804) none (.ref 520) .none)), #[]⟩
def KK : Params → Frag := fun P => (nat_lit 2, k2 P) :: (nat_lit 3, k3 P) :: (nat_lit 15, k15 P) :: (nat_lit 22, k22 P) :: (nat_lit 23, k23 P) :: (nat_lit 24, k24 P) :: (nat_lit 25, k25 P) :: (nat_lit 28, k28 P) :: (nat_lit 35, k35 P) :: (nat_lit 37, k37 P) :: (nat_lit 38, k38 P) :: (nat_lit 40, k40 P) :: (nat_lit 41, k41 P) :: (nat_lit 42, k42 P) :: (nat_lit 43, k43 P) :: (nat_lit 44, k44 P) :: (nat_lit 47, k47 P) :: (nat_lit 54, k54 P) :: (nat_lit 56, k56 P) :: (nat_lit 57, k57 P) :: (nat_lit 59, k59 P) :: (nat_lit 60, k60 P) :: (nat_lit 61, k61 P) :: (nat_lit 62, k62 P) :: (nat_lit 63, k63 P) :: (nat_lit 66, k66 P) :: (nat_lit 73, k73 P) :: (nat_lit 75, k75 P) :: (nat_lit 76, k76 P) :: (nat_lit 78, k78 P) :: (nat_lit 79, k79 P) :: (nat_lit 80, k80 P) :: (nat_lit 81, k81 P) :: (nat_lit 82, k82 P) :: (nat_lit 85, k85 P) :: (nat_lit 92, k92 P) :: (nat_lit 94, k94 P) :: (nat_lit 95, k95 P) :: (nat_lit 97, k97 P) :: (nat_lit 98, k98 P) :: (nat_lit 99, k99 P) :: (nat_lit 100, k100 P) :: (nat_lit 101, k101 P) :: (nat_lit 104, k104 P) :: (nat_lit 111, k111 P) :: (nat_lit 113, k113 P) :: (nat_lit 114, k114 P) :: (nat_lit 116, k116 P) :: (nat_lit 117, k117 P) :: (nat_lit 118, k118 P) :: (nat_lit 119, k119 P) :: (nat_lit 120, k120 P) :: (nat_lit 123, k123 P) :: (nat_lit 130, k130 P) :: (nat_lit 132, k132 P) :: (nat_lit 133, k133 P) :: (nat_lit 135, k135 P) :: (nat_lit 136, k136 P) :: (nat_lit 137, k137 P) :: (nat_lit 138, k138 P) :: (nat_lit 139, k139 P) :: (nat_lit 142, k142 P) :: (nat_lit 149, k149 P) :: (nat_lit 151, k151 P) :: (nat_lit 152, k152 P) :: (nat_lit 154, k154 P) :: (nat_lit 155, k155 P) :: (nat_lit 156, k156 P) :: (nat_lit 157, k157 P) :: (nat_lit 158, k158 P) :: (nat_lit 161, k161 P) :: (nat_lit 168, k168 P) :: (nat_lit 170, k170 P) :: (nat_lit 171, k171 P) :: (nat_lit 173, k173 P) :: (nat_lit 174, k174 P) :: (nat_lit 175, k175 P) :: (nat_lit 176, k176 P) :: (nat_lit 177, k177 P) :: (nat_lit 180, k180 P) :: (nat_lit 187, k187 P) :: (nat_lit 189, k189 P) :: (nat_lit 190, k190 P) :: (nat_lit 192, k192 P) :: (nat_lit 193, k193 P) :: (nat_lit 194, k194 P) :: (nat_lit 195, k195 P) :: (nat_lit 196, k196 P) :: (nat_lit 199, k199 P) :: (nat_lit 206, k206 P) :: (nat_lit 208, k208 P) :: (nat_lit 209, k209 P) :: (nat_lit 211, k211 P) :: (nat_lit 212, k212 P) :: (nat_lit 213, k213 P) :: (nat_lit 214, k214 P) :: (nat_lit 215, k215 P) :: (nat_lit 218, k218 P) :: (nat_lit 225, k225 P) :: (nat_lit 227, k227 P) :: (nat_lit 228, k228 P) :: (nat_lit 230, k230 P) :: (nat_lit 231, k231 P) :: (nat_lit 232, k232 P) :: (nat_lit 233, k233 P) :: (nat_lit 234, k234 P) :: (nat_lit 237, k237 P) :: (nat_lit 244, k244 P) :: (nat_lit 246, k246 P) :: (nat_lit 247, k247 P) :: (nat_lit 249, k249 P) :: (nat_lit 250, k250 P) :: (nat_lit 251, k251 P) :: (nat_lit 252, k252 P) :: (nat_lit 253, k253 P) :: (nat_lit 256, k256 P) :: (nat_lit 263, k263 P) :: (nat_lit 264, k264 P) :: (nat_lit 265, k265 P) :: (nat_lit 268, k268 P) :: (nat_lit 275, k275 P) :: (nat_lit 277, k277 P) :: (nat_lit 278, k278 P) :: (nat_lit 280, k280 P) :: (nat_lit 281, k281 P) :: (nat_lit 282, k282 P) :: (nat_lit 283, k283 P) :: (nat_lit 284, k284 P) :: (nat_lit 287, k287 P) :: (nat_lit 294, k294 P) :: (nat_lit 296, k296 P) :: (nat_lit 297, k297 P) :: (nat_lit 299, k299 P) :: (nat_lit 300, k300 P) :: (nat_lit 301, k301 P) :: (nat_lit 302, k302 P) :: (nat_lit 303, k303 P) :: (nat_lit 306, k306 P) :: (nat_lit 313, k313 P) :: (nat_lit 315, k315 P) :: (nat_lit 316, k316 P) :: (nat_lit 318, k318 P) :: (nat_lit 319, k319 P) :: (nat_lit 320, k320 P) :: (nat_lit 321, k321 P) :: (nat_lit 322, k322 P) :: (nat_lit 325, k325 P) :: (nat_lit 332, k332 P) :: (nat_lit 334, k334 P) :: (nat_lit 335, k335 P) :: (nat_lit 337, k337 P) :: (nat_lit 338, k338 P) :: (nat_lit 339, k339 P) :: (nat_lit 340, k340 P) :: (nat_lit 341, k341 P) :: (nat_lit 344, k344 P) :: (nat_lit 351, k351 P) :: (nat_lit 353, k353 P) :: (nat_lit 354, k354 P) :: (nat_lit 356, k356 P) :: (nat_lit 357, k357 P) :: (nat_lit 358, k358 P) :: (nat_lit 359, k359 P) :: (nat_lit 360, k360 P) :: (nat_lit 363, k363 P) :: (nat_lit 370, k370 P) :: (nat_lit 372, k372 P) :: (nat_lit 373, k373 P) :: (nat_lit 375, k375 P) :: (nat_lit 376, k376 P) :: (nat_lit 377, k377 P) :: (nat_lit 378, k378 P) :: (nat_lit 379, k379 P) :: (nat_lit 382, k382 P) :: (nat_lit 389, k389 P) :: (nat_lit 391, k391 P) :: (nat_lit 392, k392 P) :: (nat_lit 394, k394 P) :: (nat_lit 395, k395 P) :: (nat_lit 396, k396 P) :: (nat_lit 397, k397 P) :: (nat_lit 398, k398 P) :: (nat_lit 401, k401 P) :: (nat_lit 408, k408 P) :: (nat_lit 410, k410 P) :: (nat_lit 411, k411 P) :: (nat_lit 413, k413 P) :: (nat_lit 414, k414 P) :: (nat_lit 415, k415 P) :: (nat_lit 416, k416 P) :: (nat_lit 417, k417 P) :: (nat_lit 420, k420 P) :: (nat_lit 427, k427 P) :: (nat_lit 429, k429 P) :: (nat_lit 430, k430 P) :: (nat_lit 432, k432 P) :: (nat_lit 433, k433 P) :: (nat_lit 434, k434 P) :: (nat_lit 435, k435 P) :: (nat_lit 436, k436 P) :: (nat_lit 439, k439 P) :: (nat_lit 446, k446 P) :: (nat_lit 448, k448 P) :: (nat_lit 449, k449 P) :: (nat_lit 451, k451 P) :: (nat_lit 452, k452 P) :: (nat_lit 453, k453 P) :: (nat_lit 454, k454 P) :: (nat_lit 455, k455 P) :: (nat_lit 458, k458 P) :: (nat_lit 465, k465 P) :: (nat_lit 467, k467 P) :: (nat_lit 468, k468 P) :: (nat_lit 470, k470 P) :: (nat_lit 471, k471 P) :: (nat_lit 472, k472 P) :: (nat_lit 473, k473 P) :: (nat_lit 474, k474 P) :: (nat_lit 477, k477 P) :: (nat_lit 479, k479 P) :: (nat_lit 480, k480 P) :: (nat_lit 482, k482 P) :: (nat_lit 483, k483 P) :: (nat_lit 484, k484 P) :: (nat_lit 486, k486 P) :: (nat_lit 487, k487 P) :: (nat_lit 489, k489 P) :: (nat_lit 490, k490 P) :: (nat_lit 491, k491 P) :: (nat_lit 493, k493 P) :: (nat_lit 494, k494 P) :: (nat_lit 496, k496 P) :: (nat_lit 497, k497 P) :: (nat_lit 498, k498 P) :: (nat_lit 501, k501 P) :: (nat_lit 502, k502 P) :: (nat_lit 503, k503 P) :: (nat_lit 505, k505 P) :: (nat_lit 506, k506 P) :: (nat_lit 508, k508 P) :: (nat_lit 509, k509 P) :: (nat_lit 510, k510 P) :: (nat_lit 512, k512 P) :: (nat_lit 513, k513 P) :: (nat_lit 515, k515 P) :: (nat_lit 516, k516 P) :: (nat_lit 517, k517 P) :: (nat_lit 520, k520 P) :: (nat_lit 521, k521 P) :: []
def kas : List Addr := nat_lit 2 :: nat_lit 3 :: nat_lit 15 :: nat_lit 22 :: nat_lit 23 :: nat_lit 24 :: nat_lit 25 :: nat_lit 28 :: nat_lit 35 :: nat_lit 37 :: nat_lit 38 :: nat_lit 40 :: nat_lit 41 :: nat_lit 42 :: nat_lit 43 :: nat_lit 44 :: nat_lit 47 :: nat_lit 54 :: nat_lit 56 :: nat_lit 57 :: nat_lit 59 :: nat_lit 60 :: nat_lit 61 :: nat_lit 62 :: nat_lit 63 :: nat_lit 66 :: nat_lit 73 :: nat_lit 75 :: nat_lit 76 :: nat_lit 78 :: nat_lit 79 :: nat_lit 80 :: nat_lit 81 :: nat_lit 82 :: nat_lit 85 :: nat_lit 92 :: nat_lit 94 :: nat_lit 95 :: nat_lit 97 :: nat_lit 98 :: nat_lit 99 :: nat_lit 100 :: nat_lit 101 :: nat_lit 104 :: nat_lit 111 :: nat_lit 113 :: nat_lit 114 :: nat_lit 116 :: nat_lit 117 :: nat_lit 118 :: nat_lit 119 :: nat_lit 120 :: nat_lit 123 :: nat_lit 130 :: nat_lit 132 :: nat_lit 133 :: nat_lit 135 :: nat_lit 136 :: nat_lit 137 :: nat_lit 138 :: nat_lit 139 :: nat_lit 142 :: nat_lit 149 :: nat_lit 151 :: nat_lit 152 :: nat_lit 154 :: nat_lit 155 :: nat_lit 156 :: nat_lit 157 :: nat_lit 158 :: nat_lit 161 :: nat_lit 168 :: nat_lit 170 :: nat_lit 171 :: nat_lit 173 :: nat_lit 174 :: nat_lit 175 :: nat_lit 176 :: nat_lit 177 :: nat_lit 180 :: nat_lit 187 :: nat_lit 189 :: nat_lit 190 :: nat_lit 192 :: nat_lit 193 :: nat_lit 194 :: nat_lit 195 :: nat_lit 196 :: nat_lit 199 :: nat_lit 206 :: nat_lit 208 :: nat_lit 209 :: nat_lit 211 :: nat_lit 212 :: nat_lit 213 :: nat_lit 214 :: nat_lit 215 :: nat_lit 218 :: nat_lit 225 :: nat_lit 227 :: nat_lit 228 :: nat_lit 230 :: nat_lit 231 :: nat_lit 232 :: nat_lit 233 :: nat_lit 234 :: nat_lit 237 :: nat_lit 244 :: nat_lit 246 :: nat_lit 247 :: nat_lit 249 :: nat_lit 250 :: nat_lit 251 :: nat_lit 252 :: nat_lit 253 :: nat_lit 256 :: nat_lit 263 :: nat_lit 264 :: nat_lit 265 :: nat_lit 268 :: nat_lit 275 :: nat_lit 277 :: nat_lit 278 :: nat_lit 280 :: nat_lit 281 :: nat_lit 282 :: nat_lit 283 :: nat_lit 284 :: nat_lit 287 :: nat_lit 294 :: nat_lit 296 :: nat_lit 297 :: nat_lit 299 :: nat_lit 300 :: nat_lit 301 :: nat_lit 302 :: nat_lit 303 :: nat_lit 306 :: nat_lit 313 :: nat_lit 315 :: nat_lit 316 :: nat_lit 318 :: nat_lit 319 :: nat_lit 320 :: nat_lit 321 :: nat_lit 322 :: nat_lit 325 :: nat_lit 332 :: nat_lit 334 :: nat_lit 335 :: nat_lit 337 :: nat_lit 338 :: nat_lit 339 :: nat_lit 340 :: nat_lit 341 :: nat_lit 344 :: nat_lit 351 :: nat_lit 353 :: nat_lit 354 :: nat_lit 356 :: nat_lit 357 :: nat_lit 358 :: nat_lit 359 :: nat_lit 360 :: nat_lit 363 :: nat_lit 370 :: nat_lit 372 :: nat_lit 373 :: nat_lit 375 :: nat_lit 376 :: nat_lit 377 :: nat_lit 378 :: nat_lit 379 :: nat_lit 382 :: nat_lit 389 :: nat_lit 391 :: nat_lit 392 :: nat_lit 394 :: nat_lit 395 :: nat_lit 396 :: nat_lit 397 :: nat_lit 398 :: nat_lit 401 :: nat_lit 408 :: nat_lit 410 :: nat_lit 411 :: nat_lit 413 :: nat_lit 414 :: nat_lit 415 :: nat_lit 416 :: nat_lit 417 :: nat_lit 420 :: nat_lit 427 :: nat_lit 429 :: nat_lit 430 :: nat_lit 432 :: nat_lit 433 :: nat_lit 434 :: nat_lit 435 :: nat_lit 436 :: nat_lit 439 :: nat_lit 446 :: nat_lit 448 :: nat_lit 449 :: nat_lit 451 :: nat_lit 452 :: nat_lit 453 :: nat_lit 454 :: nat_lit 455 :: nat_lit 458 :: nat_lit 465 :: nat_lit 467 :: nat_lit 468 :: nat_lit 470 :: nat_lit 471 :: nat_lit 472 :: nat_lit 473 :: nat_lit 474 :: nat_lit 477 :: nat_lit 479 :: nat_lit 480 :: nat_lit 482 :: nat_lit 483 :: nat_lit 484 :: nat_lit 486 :: nat_lit 487 :: nat_lit 489 :: nat_lit 490 :: nat_lit 491 :: nat_lit 493 :: nat_lit 494 :: nat_lit 496 :: nat_lit 497 :: nat_lit 498 :: nat_lit 501 :: nat_lit 502 :: nat_lit 503 :: nat_lit 505 :: nat_lit 506 :: nat_lit 508 :: nat_lit 509 :: nat_lit 510 :: nat_lit 512 :: nat_lit 513 :: nat_lit 515 :: nat_lit 516 :: nat_lit 517 :: nat_lit 520 :: nat_lit 521 :: []
def keeps : List Nat := 1 :: 2 :: 3 :: 4 :: 5 :: 6 :: 7 :: 8 :: 9 :: 10 :: 11 :: 12 :: 13 :: 14 :: 15 :: 16 :: 17 :: 18 :: 19 :: 20 :: 21 :: 22 :: 23 :: 24 :: 25 :: 27 :: 28 :: 29 :: 30 :: 31 :: 32 :: 33 :: []
def lo : List Str := []

theorem prep (h : PySem.Challenge.rw_glazebench_k06_refusals_told.row.wellSaid = true → PySem.Challenge.rw_glazebench_k06_refusals_told.row.Holds) : PySem.Challenge.rw_glazebench_k06_refusals_told.Holds := by
  w_on
  o_law
  exact h (by assumption)
def qv (p : Program) : Program := view p keeps
def Xp (p : Program) (s : Shared) : Bool := xlAt (qv p) [] s && recOk (RowW.records (OpenRow.toRowW PySem.Challenge.rw_glazebench_k06_refusals_told.row)) s
theorem kas_is (P : Params) : kas = (KK P).map (fun x => x.1) := by kernel_rfl
theorem op_is : opening PySem.Challenge.pw_glazebench_k06_refusals_told = plainProg PySem.Challenge.pw_glazebench_k06_refusals_told.main.scope.names := by kernel_rfl
theorem fence_is (s : Shared) : fenceModules? PySem.Challenge.pw_glazebench_k06_refusals_told s = some s := by kernel_rfl
theorem boot_is (w : World) : ((boot_heap w.params).isNs mainGlobals, (boot_heap w.params).objs.size, (boot_heap w.params).nsMap mainGlobals "__annotations__") = (true, 11, (some (.ref 6))) := by kernel_rfl
theorem ran : ∀ (w : World) (os : OsState), Option.map (lookO openSeen (importedModules PySem.Challenge.pw_glazebench_k06_refusals_told.main.body) PySem.Challenge.pw_glazebench_k06_refusals_told (qv PySem.Challenge.pw_glazebench_k06_refusals_told) lo (Xp PySem.Challenge.pw_glazebench_k06_refusals_told) (kHook KK kas kas_is).obs (boot_heap w.params)) (topRun treeTable PySem.Challenge.pw_glazebench_k06_refusals_told w 11 (some (.ref 6)) 12656 (atBoot w.params os) (topStub PySem.Challenge.pw_glazebench_k06_refusals_told)) = some (true, openGood (qv PySem.Challenge.pw_glazebench_k06_refusals_told) lo, (kHook KK kas kas_is).val w) :=
  run_by (q := qv) (Xt := Xp) (Yf := (kHook KK kas kas_is).obs) (Ya := (kHook KK kas kas_is).val) (lo := lo) PySem.W.Fast.te10156331382660048174 PySem.W.Fast.te11892475500146522536 PySem.W.Fast.te14364793385576792824 PySem.W.Fast.te5923862056798008813 PySem.W.Fast.te4187177175401517315 PySem.W.Fast.te11516365750693786475 fun w os => by kernel_rfl
theorem left : LeftO PySem.Challenge.pw_glazebench_k06_refusals_told (qv PySem.Challenge.pw_glazebench_k06_refusals_told) lo (Xp PySem.Challenge.pw_glazebench_k06_refusals_told) (kHook KK kas kas_is).obs (kHook KK kas kas_is).val 12656 := left_once (boot_open op_is (by decide) fence_is) boot_is ran
end KH
open PySem PySem.W PyProof.Rows
set_option maxRecDepth 100000 in
set_option maxHeartbeats 0 in
theorem PySem.Challenge.cw_glazebench_k06_refusals_told_holds : PySem.Challenge.rw_glazebench_k06_refusals_told.Holds := by
  refine KH.prep fun said => ?_
  have fx : ∀ s, KH.Xp PySem.Challenge.pw_glazebench_k06_refusals_told s = true → XL (KH.qv PySem.Challenge.pw_glazebench_k06_refusals_told) [] (s.heap.nsMap mainGlobals) s.heap := fun s e => xl_of s (Bool.and_eq_true_iff.mp e).1
  have fr : ∀ s, KH.Xp PySem.Challenge.pw_glazebench_k06_refusals_told s = true → RecFacts (RowW.records (OpenRow.toRowW PySem.Challenge.rw_glazebench_k06_refusals_told.row)) s.heap := fun s e => recFacts_of (Bool.and_eq_true_iff.mp e).2
  refine holds_open (XP := XL (KH.qv PySem.Challenge.pw_glazebench_k06_refusals_told) []) KH.left (kHook KH.KK KH.kas KH.kas_is).of (kHook KH.KK KH.kas KH.kas_is).keeps fx XL.keeps (by rfl) (by rfl) (by rfl) fr (by rfl) said (by decide +kernel) ?hb ?hw ?hc
  case hb => exact ⟨rfl, rfl, rfl, rfl, rfl, by decide +kernel⟩
  case hw => w_witness2
  case hc =>
    k_fill
    refine K6.walk (l := PySem.Challenge.rw_glazebench_k06_refusals_told) rfl rfl (fun w h Y => PySem.W.kIn_of Y) ?F
    case F =>
      intro w mg fa h KX G hmg
      refine' K6.all_mk KX G hmg ?my_aG ?my_aC0 ?my_kC0 ?my_nC0_side ?my_a0 ?my_i0 ?my_l0 ?my_cc0 ?my_k0 ?my_ei0 ?my_aC1 ?my_kC1 ?my_nC1_many ?my_a1 ?my_i1 ?my_l1 ?my_cc1 ?my_k1 ?my_ei1 ?my_aC2 ?my_kC2 ?my_nC2_place ?my_a2 ?my_i2 ?my_l2 ?my_cc2 ?my_k2 ?my_ei2 ?my_aC3 ?my_kC3 ?my_nC3_place ?my_a3 ?my_i3 ?my_l3 ?my_cc3 ?my_k3 ?my_ei3 ?my_aC4 ?my_kC4 ?my_nC4_square ?my_a4 ?my_i4 ?my_l4 ?my_cc4 ?my_k4 ?my_ei4 ?my_aC5 ?my_kC5 ?my_nC5_drawing ?my_a5 ?my_i5 ?my_l5 ?my_cc5 ?my_k5 ?my_ei5 ?my_aC6 ?my_kC6 ?my_nC6_letter ?my_a6 ?my_i6 ?my_l6 ?my_cc6 ?my_k6 ?my_ei6 ?my_aC7 ?my_kC7 ?my_nC7_at ?my_a7 ?my_i7 ?my_l7 ?my_cc7 ?my_k7 ?my_ei7 ?my_aC8 ?my_kC8 ?my_nC8_place ?my_a8 ?my_i8 ?my_l8 ?my_cc8 ?my_k8 ?my_ei8 ?my_aC9 ?my_kC9 ?my_nC9_block ?my_a9 ?my_i9 ?my_l9 ?my_cc9 ?my_k9 ?my_ei9 ?my_aC10 ?my_kC10 ?my_nC10_room ?my_nC10_breaks ?my_nC10_leads ?my_a10 ?my_i10 ?my_l10 ?my_cc10 ?my_k10 ?my_ei10 ?my_aC11 ?my_kC11 ?my_nC11_steps ?my_a11 ?my_i11 ?my_l11 ?my_cc11 ?my_k11 ?my_ei11 ?my_aC12 ?my_kC12 ?my_ei12 ?my_aC13 ?my_kC13 ?my_nC13_number ?my_a13 ?my_i13 ?my_l13 ?my_cc13 ?my_k13 ?my_ei13 ?my_aC14 ?my_kC14 ?my_nC14_place ?my_a14 ?my_i14 ?my_l14 ?my_cc14 ?my_k14 ?my_ei14 ?my_aC15 ?my_kC15 ?my_nC15_piece ?my_a15 ?my_i15 ?my_l15 ?my_cc15 ?my_k15 ?my_ei15 ?my_aC16 ?my_kC16 ?my_nC16_place ?my_a16 ?my_i16 ?my_l16 ?my_cc16 ?my_k16 ?my_ei16 ?my_aC17 ?my_kC17 ?my_nC17_place ?my_a17 ?my_i17 ?my_l17 ?my_cc17 ?my_k17 ?my_ei17 ?my_aC18 ?my_kC18 ?my_nC18_place ?my_a18 ?my_i18 ?my_l18 ?my_cc18 ?my_k18 ?my_ei18 ?my_aC19 ?my_kC19 ?my_nC19_size ?my_a19 ?my_i19 ?my_l19 ?my_cc19 ?my_k19 ?my_ei19 ?my_aC20 ?my_kC20 ?my_nC20_want ?my_a20 ?my_i20 ?my_l20 ?my_cc20 ?my_k20 ?my_ei20 ?my_aC21 ?my_kC21 ?my_nC21_width ?my_nC21_height ?my_a21 ?my_i21 ?my_l21 ?my_cc21 ?my_k21 ?my_ei21 ?my_aC22 ?my_kC22 ?my_nC22_line ?my_a22 ?my_i22 ?my_l22 ?my_cc22 ?my_k22 ?my_ei22 ?my_aC23 ?my_kC23 ?my_nC23_name ?my_a23 ?my_i23 ?my_l23 ?my_cc23 ?my_k23 ?my_ei23 ?my_a100 ?my_l100 ?my_cc100 ?my_k100 ?my_a101 ?my_l101 ?my_cc101 ?my_k101 ?my_a102 ?my_l102 ?my_cc102 ?my_k102 ?my_a103 ?my_l103 ?my_cc103 ?my_k103 ?my_a104 ?my_l104 ?my_cc104 ?my_k104 ?my_a105 ?my_l105 ?my_cc105 ?my_k105 ?my_a106 ?my_l106 ?my_cc106 ?my_k106 ?my_z0 ?my_z1 ?my_z2 ?my_z3 ?my_z4 ?my_all
      (case my_aG => k_is); (case my_aC0 => k_is); (case my_kC0 => k_is); (case my_nC0_side => k_is); (case my_a0 => k_is); (case my_i0 => k_is); (case my_l0 => k_is); (case my_cc0 => k_is)
      (case my_k0 => k_is); (case my_aC1 => k_is); (case my_kC1 => k_is); (case my_nC1_many => k_is); (case my_a1 => k_is); (case my_i1 => k_is); (case my_l1 => k_is); (case my_cc1 => k_is)
      (case my_k1 => k_is); (case my_aC2 => k_is); (case my_kC2 => k_is); (case my_nC2_place => k_is); (case my_a2 => k_is); (case my_i2 => k_is); (case my_l2 => k_is); (case my_cc2 => k_is)
      (case my_k2 => k_is); (case my_aC3 => k_is); (case my_kC3 => k_is); (case my_nC3_place => k_is); (case my_a3 => k_is); (case my_i3 => k_is); (case my_l3 => k_is); (case my_cc3 => k_is)
      (case my_k3 => k_is); (case my_aC4 => k_is); (case my_kC4 => k_is); (case my_nC4_square => k_is); (case my_a4 => k_is); (case my_i4 => k_is); (case my_l4 => k_is); (case my_cc4 => k_is)
      (case my_k4 => k_is); (case my_aC5 => k_is); (case my_kC5 => k_is); (case my_nC5_drawing => k_is); (case my_a5 => k_is); (case my_i5 => k_is); (case my_l5 => k_is); (case my_cc5 => k_is)
      (case my_k5 => k_is); (case my_aC6 => k_is); (case my_kC6 => k_is); (case my_nC6_letter => k_is); (case my_a6 => k_is); (case my_i6 => k_is); (case my_l6 => k_is); (case my_cc6 => k_is)
      (case my_k6 => k_is); (case my_aC7 => k_is); (case my_kC7 => k_is); (case my_nC7_at => k_is); (case my_a7 => k_is); (case my_i7 => k_is); (case my_l7 => k_is); (case my_cc7 => k_is)
      (case my_k7 => k_is); (case my_aC8 => k_is); (case my_kC8 => k_is); (case my_nC8_place => k_is); (case my_a8 => k_is); (case my_i8 => k_is); (case my_l8 => k_is); (case my_cc8 => k_is)
      (case my_k8 => k_is); (case my_aC9 => k_is); (case my_kC9 => k_is); (case my_nC9_block => k_is); (case my_a9 => k_is); (case my_i9 => k_is); (case my_l9 => k_is); (case my_cc9 => k_is)
      (case my_k9 => k_is); (case my_aC10 => k_is); (case my_kC10 => k_is); (case my_nC10_room => k_is); (case my_nC10_breaks => k_is); (case my_nC10_leads => k_is); (case my_a10 => k_is); (case my_i10 => k_is)
      (case my_l10 => k_is); (case my_cc10 => k_is); (case my_k10 => k_is); (case my_aC11 => k_is); (case my_kC11 => k_is); (case my_nC11_steps => k_is); (case my_a11 => k_is); (case my_i11 => k_is)
      (case my_l11 => k_is); (case my_cc11 => k_is); (case my_k11 => k_is); (case my_aC12 => k_is); (case my_kC12 => k_is); (case my_aC13 => k_is); (case my_kC13 => k_is); (case my_nC13_number => k_is)
      (case my_a13 => k_is); (case my_i13 => k_is); (case my_l13 => k_is); (case my_cc13 => k_is); (case my_k13 => k_is); (case my_aC14 => k_is); (case my_kC14 => k_is); (case my_nC14_place => k_is)
      (case my_a14 => k_is); (case my_i14 => k_is); (case my_l14 => k_is); (case my_cc14 => k_is); (case my_k14 => k_is); (case my_aC15 => k_is); (case my_kC15 => k_is); (case my_nC15_piece => k_is)
      (case my_a15 => k_is); (case my_i15 => k_is); (case my_l15 => k_is); (case my_cc15 => k_is); (case my_k15 => k_is); (case my_aC16 => k_is); (case my_kC16 => k_is); (case my_nC16_place => k_is)
      (case my_a16 => k_is); (case my_i16 => k_is); (case my_l16 => k_is); (case my_cc16 => k_is); (case my_k16 => k_is); (case my_aC17 => k_is); (case my_kC17 => k_is); (case my_nC17_place => k_is)
      (case my_a17 => k_is); (case my_i17 => k_is); (case my_l17 => k_is); (case my_cc17 => k_is); (case my_k17 => k_is); (case my_aC18 => k_is); (case my_kC18 => k_is); (case my_nC18_place => k_is)
      (case my_a18 => k_is); (case my_i18 => k_is); (case my_l18 => k_is); (case my_cc18 => k_is); (case my_k18 => k_is); (case my_aC19 => k_is); (case my_kC19 => k_is); (case my_nC19_size => k_is)
      (case my_a19 => k_is); (case my_i19 => k_is); (case my_l19 => k_is); (case my_cc19 => k_is); (case my_k19 => k_is); (case my_aC20 => k_is); (case my_kC20 => k_is); (case my_nC20_want => k_is)
      (case my_a20 => k_is); (case my_i20 => k_is); (case my_l20 => k_is); (case my_cc20 => k_is); (case my_k20 => k_is); (case my_aC21 => k_is); (case my_kC21 => k_is); (case my_nC21_width => k_is)
      (case my_nC21_height => k_is); (case my_a21 => k_is); (case my_i21 => k_is); (case my_l21 => k_is); (case my_cc21 => k_is); (case my_k21 => k_is); (case my_aC22 => k_is); (case my_kC22 => k_is)
      (case my_nC22_line => k_is); (case my_a22 => k_is); (case my_i22 => k_is); (case my_l22 => k_is); (case my_cc22 => k_is); (case my_k22 => k_is); (case my_aC23 => k_is); (case my_kC23 => k_is)
      (case my_nC23_name => k_is); (case my_a23 => k_is); (case my_i23 => k_is); (case my_l23 => k_is); (case my_cc23 => k_is); (case my_k23 => k_is); (case my_a100 => k_is); (case my_l100 => k_is)
      (case my_cc100 => k_is); (case my_k100 => k_is); (case my_a101 => k_is); (case my_l101 => k_is); (case my_cc101 => k_is); (case my_k101 => k_is); (case my_a102 => k_is); (case my_l102 => k_is)
      (case my_cc102 => k_is); (case my_k102 => k_is); (case my_a103 => k_is); (case my_l103 => k_is); (case my_cc103 => k_is); (case my_k103 => k_is); (case my_a104 => k_is); (case my_l104 => k_is)
      (case my_cc104 => k_is); (case my_k104 => k_is); (case my_a105 => k_is); (case my_l105 => k_is); (case my_cc105 => k_is); (case my_k105 => k_is); (case my_a106 => k_is); (case my_l106 => k_is)
      (case my_cc106 => k_is); (case my_k106 => k_is); (case my_z0 => k_is); (case my_z1 => k_is); (case my_z2 => k_is); (case my_z3 => k_is); (case my_z4 => k_is); (case my_ei0 => kernel_rfl)
      (case my_ei1 => kernel_rfl); (case my_ei2 => kernel_rfl); (case my_ei3 => kernel_rfl); (case my_ei4 => kernel_rfl); (case my_ei5 => kernel_rfl); (case my_ei6 => kernel_rfl); (case my_ei7 => kernel_rfl); (case my_ei8 => kernel_rfl)
      (case my_ei9 => kernel_rfl); (case my_ei10 => kernel_rfl); (case my_ei11 => kernel_rfl); (case my_ei12 => kernel_rfl); (case my_ei13 => kernel_rfl); (case my_ei14 => kernel_rfl); (case my_ei15 => kernel_rfl); (case my_ei16 => kernel_rfl)
      (case my_ei17 => kernel_rfl); (case my_ei18 => kernel_rfl); (case my_ei19 => kernel_rfl); (case my_ei20 => kernel_rfl); (case my_ei21 => kernel_rfl); (case my_ei22 => kernel_rfl); (case my_ei23 => kernel_rfl); (case my_all => kernel_rfl)
