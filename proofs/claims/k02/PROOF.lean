import PyProof.Rows.All
import Wide.All
import OpenK.AllK
import Wide.FinOn
import Lean
import PyProof.EqAt
import PyProof.EqKinds
import PyProof.TupleCall
import PyProof.NeKinds
import PyProof.ExcAttrAll.ValueError
import PyProof.StationsW
import PyProof.PassesOwn
import PyProof.RulesAs
import PyProof.NsDelKeeps
import PyProof.CompMap
import PySem.Challenge.RW_glazebench_k02_panels_made_or_refused
set_option Elab.async false
set_option linter.all false
set_option maxRecDepth 100000
namespace L2
open PySem PySem.Spec PyProof.Rows

/-- a key: an int or a str -/
abbrev Key := Sum Int Str
def keyIs : Key → Value → Bool
  | .inl k, v => Value.isInt k v
  | .inr x, v => Value.isStrOf x v
def keyH (w : World) : Key → Int
  | .inl k => hashInt k
  | .inr x => hashStr w x
theorem keyIs_shape : ∀ {k : Key} {v : Value}, keyIs k v = true → (∃ i t, k = Sum.inl i ∧ v = Value.int i t) ∨ (∃ x t, k = Sum.inr x ∧ v = Value.str x t)
  | .inl i, v, h => by
    obtain ⟨t, e⟩ := Value.isInt_shape (k := i) (v := v) h
    exact .inl ⟨i, t, rfl, e⟩
  | .inr x, v, h => by
    obtain ⟨t, e⟩ := Value.isStrOf_shape (x := x) (v := v) h
    exact .inr ⟨x, t, rfl, e⟩
theorem keyIs_int (i : Int) (t : Tok) : keyIs (.inl i) (.int i t) = true := by simp [keyIs, Value.isInt]
theorem keyIs_str (x : Str) (t : Tok) : keyIs (.inr x) (.str x t) = true := by simp [keyIs, Value.isStrOf]
theorem key_ll (a b : Int) : decide ((Sum.inl a : Key) = Sum.inl b) = (a == b) := by
  by_cases e : a = b
  · subst e; simp
  · have h : ¬ (Sum.inl a : Key) = Sum.inl b := fun q => e (Sum.inl.inj q)
    rw [decide_eq_false h]
    exact (beq_eq_false_iff_ne.mpr e).symm
theorem key_rr (a b : Str) : decide ((Sum.inr a : Key) = Sum.inr b) = decide (a = b) := by
  by_cases e : a = b
  · subst e; simp
  · have h : ¬ (Sum.inr a : Key) = Sum.inr b := fun q => e (Sum.inr.inj q)
    rw [decide_eq_false h, decide_eq_false e]
theorem key_lr (a : Int) (b : Str) : decide ((Sum.inl a : Key) = Sum.inr b) = false := decide_eq_false (fun q => nomatch q)
theorem key_rl (a : Str) (b : Int) : decide ((Sum.inr a : Key) = Sum.inl b) = false := decide_eq_false (fun q => nomatch q)

def mixKind (prog : Program) (w : World) : PySem.KeyKind prog w Key where
  is := keyIs
  hash := keyH w
  inj := fun v a b ha hb => by
    rcases keyIs_shape ha with ⟨i, t, rfl, rfl⟩ | ⟨x, t, rfl, rfl⟩
    · rcases keyIs_shape hb with ⟨j, u, rfl, e⟩ | ⟨y, u, rfl, e⟩
      · injection e with e1 _; rw [e1]
      · exact nomatch e
    · rcases keyIs_shape hb with ⟨j, u, rfl, e⟩ | ⟨y, u, rfl, e⟩
      · exact nomatch e
      · injection e with e1 _; rw [e1]
  byValue := fun k v h => by
    rcases keyIs_shape h with ⟨i, t, rfl, rfl⟩ | ⟨x, t, rfl, rfl⟩ <;> rfl
  pyHash := fun hv h => by
    rcases keyIs_shape hv with ⟨i, t, rfl, rfl⟩ | ⟨x, t, rfl, rfl⟩
    · exact wpAny_pyHash_int h
    · exact wpAny_pyHash_str h
  eqBool := fun hu hv h => by
    rcases keyIs_shape hu with ⟨i, t, rfl, rfl⟩ | ⟨x, t, rfl, rfl⟩
    · rcases keyIs_shape hv with ⟨j, u, rfl, rfl⟩ | ⟨y, u, rfl, rfl⟩
      · rw [key_ll] at h; exact wpAny_eqBool_int h
      · rw [key_lr] at h; exact SeqAt.EqAt.int_str i t y u _ _ _ _ h
    · rcases keyIs_shape hv with ⟨j, u, rfl, rfl⟩ | ⟨y, u, rfl, rfl⟩
      · rw [key_rl] at h; exact SeqAt.EqAt.str_int x t j u _ _ _ _ h
      · rw [key_rr] at h; exact wpAny_eqBool_str h
  «strs» := fun k x t v h => by
    rcases keyIs_shape h with ⟨i, u, rfl, e⟩ | ⟨y, u, rfl, e⟩
    · exact nomatch e
    · injection e with e1 _
      subst e1
      cases v <;> rfl

theorem mixKind_int (prog : Program) (w : World) (i : Int) (t : Tok) : (mixKind prog w).is (.inl i) (.int i t) = true := keyIs_int i t
theorem mixKind_str (prog : Program) (w : World) (x : Str) (t : Tok) : (mixKind prog w).is (.inr x) (.str x t) = true := keyIs_str x t
end L2

namespace L2
open PySem PySem.Spec PyProof.Rows

/-- a value, without the heap -/
inductive V where
  | non | bl (b : Bool) | int (i : Int) | str (x : Str) | byt (b : Array UInt8) | flt (b : UInt64) | ref (a : Addr) | ty (n : String)
  deriving DecidableEq

def RelV : V → Value → Prop
  | .non, u => u = Value.none
  | .bl b, u => u = Value.bool b
  | .int i, u => ∃ t, u = Value.int i t
  | .str x, u => ∃ t, u = Value.str x t
  | .byt b, u => ∃ t, u = Value.bytes b t
  | .flt b, u => ∃ t, u = Value.float b t
  | .ref a, u => u = Value.ref a
  | .ty n, u => u = Value.type n

abbrev Vals : List V → List Value → Prop := Paired RelV
theorem Vals.length {xs : List V} {us : List Value} (r : Vals xs us) : xs.length = us.length := Paired.length r
theorem Vals.get : ∀ {xs : List V} {us : List Value} {i : Nat} {x : V}, Vals xs us → xs[i]? = some x → ∃ u, us[i]? = some u ∧ RelV x u
  | _, _, _, _, .nil, e => by simp at e
  | _, _, 0, _, .cons r _, e => by simp at e; subst e; exact ⟨_, rfl, r⟩
  | _, _, i + 1, x, .cons _ t, e => by
    obtain ⟨u, h1, h2⟩ := Vals.get (i := i) (x := x) t (by simpa using e)
    exact ⟨u, by simpa using h1, h2⟩
theorem Vals.set {x : V} {u : Value} (r : RelV x u) : ∀ {xs : List V} {us : List Value} (i : Nat), Vals xs us → Vals (xs.set i x) (us.set i u)
  | _, _, _, .nil => .nil
  | _, _, 0, .cons _ t => .cons r t
  | _, _, i + 1, .cons q t => .cons q (Vals.set r i t)
theorem Vals.append : ∀ {xs ys : List V} {us ws : List Value}, Vals xs us → Vals ys ws → Vals (xs ++ ys) (us ++ ws)
  | _, _, _, _, .nil, s => s
  | _, _, _, _, .cons r t, s => .cons r (Vals.append t s)
theorem Vals.take : ∀ {xs : List V} {us : List Value} (n : Nat), Vals xs us → Vals (xs.take n) (us.take n)
  | _, _, 0, _ => .nil
  | _, _, _ + 1, .nil => .nil
  | _, _, n + 1, .cons r t => .cons r (Vals.take n t)
theorem Vals.drop : ∀ {xs : List V} {us : List Value} (n : Nat), Vals xs us → Vals (xs.drop n) (us.drop n)
  | _, _, 0, r => r
  | _, _, _ + 1, .nil => .nil
  | _, _, n + 1, .cons _ t => Vals.drop n t
def RelO : Option V → Option Value → Prop
  | some v, some u => RelV v u
  | none, none => True
  | _, _ => False
def KV {κ : Type} : List (κ × V) → List (κ × Value) → Prop := Paired fun (p : κ × V) (q : κ × Value) => p.1 = q.1 ∧ RelV p.2 q.2

/-- a key of a dict (00_mix): an int or a text -/
def kV : Key → V
  | .inl i => .int i
  | .inr x => .str x

/-- what stands at a tracked address -/
inductive HO where
  /-- a list -/
  | lst (xs : List V)
  /-- a tuple (never changes) -/
  | tup (xs : List V)
  /-- a dict whose keys are ints and texts; one whose keys are tuples of ints and texts (the empty one is both) -/
  | dK (kvs : List (Key × V)) | dT (kvs : List (List Key × V))
  /-- a set of ints: its members, its size -/
  | set (S : Int → Bool) (n : Nat)
  /-- an instance of the class at C, its dict at dx, its attributes -/
  | ins (C dx : Addr) (fs : List (Str × V))
  /-- the dict of the instance at x -/
  | own (x : Addr)
  /-- the dict of an exception -/
  | xd (fs : List (Str × V))
  /-- a bound method, f of x -/
  | met (f x : Addr)
  /-- a range object lo, lo + 1, .. below hi -/
  | rng (lo hi : Int)
  /-- a thing that is known to the object (the script; a dict while a loop walks it): read, never written while it is so -/
  | frz (o : Obj) (u : HO)
  /-- a code object's table -/
  | tbl (ps : Array Value)
  /-- any other thing, by what is true of its one object (a def of one's own: SetO a S n := HO.ext fun h => ..) -/
  | ext (φ : Heap → Prop)

abbrev Hp := Addr → Option HO
def upd (H : Hp) (a : Addr) (o : HO) : Hp := fun b => if b = a then some o else H b
theorem upd_same {H : Hp} {a : Addr} {o : HO} : upd H a o a = some o := by unfold upd; rw [if_pos rfl]
theorem upd_ne {H : Hp} {a b : Addr} {o : HO} (h : b ≠ a) : upd H a o b = H b := by unfold upd; rw [if_neg h]
/-- two objects of different content stand apart -/
theorem ne_of {H : Hp} {a b : Addr} {o u : HO} (h : H a = some o) (h' : H b = some u) (d : o ≠ u) : a ≠ b := by
  intro e; subst e; rw [h] at h'; exact d (Option.some.inj h')
theorem ne_of_none {H : Hp} {a b : Addr} {o : HO} (h : H a = some o) (h' : H b = none) : a ≠ b := by
  intro e; subst e; rw [h] at h'; cases h'

section
variable (P : Program) (w : World)
def ObjOk (H : Hp) (h : Heap) (a : Addr) : HO → Prop
  | .lst xs => xs.length ≤ sizeLine ∧ ∃ (its : List Value) (n : Nat), Vals xs its ∧ h.get? a = some { cls := .type "list", data := .seq its.toArray n }
  | .tup xs => xs.length ≤ sizeLine ∧ ∃ its : List Value, Vals xs its ∧ IsTup h a its.toArray
  | .dK kvs => kvs.length ≤ sizeLine ∧ (a == sysModules) = false ∧ ∃ vs, KV kvs vs ∧ h.DictOf (mixKind P w) a vs
  | .dT kvs => kvs.length ≤ sizeLine ∧ (a == sysModules) = false ∧ ∃ xs : List (List Key × Addr × Value),
      Paired (fun (p : List Key × V) (q : List Key × Addr × Value) => p.1 = q.1 ∧ H q.2.1 = some (.tup (p.1.map kV)) ∧ RelV p.2 q.2.2) kvs xs ∧
      ∃ o es ep, h.get? a = some o ∧ o.ExactDict ∧ o.data = .dict es ep ∧ es.toList = xs.map (entryOfKey (tupleKind (mixKind P w))) ∧ (xs.map (·.1)).Nodup
  | .set S n => h.SetOf (intKind P w) a S n
  | .ins C dx fs => H dx = some (.own a) ∧ fs.length ≤ 1000 ∧ dx ≠ a ∧ h.get? a = some (PySem.W.instObj C dx) ∧
      ∃ mA, h.Ns1 dx mA ∧ (∀ f, RelO (fs.lookup f) (mA f)) ∧ PySem.Within mA (fs.map (·.1))
  | .own _ => ∃ o, h.get? a = some o
  | .xd fs => ∃ mA, h.Ns1 a mA ∧ ∀ f, RelO (fs.lookup f) (mA f)
  | .rng lo hi => ∃ t u v, h.get? a = some { cls := .type "range", data := .fields #[.int lo t, .int hi u, .int 1 v] }
  | .frz o u => h.get? a = some o ∧ ObjOk H h a u
  | .tbl ps => h.get? a = some { cls := .none, data := .fields ps }
  | .met f x => h.get? a = some (PySem.W.methodObj (.ref f) (.ref x))
  | .ext φ => φ h ∧ (∃ o, h.get? a = some o) ∧ ∀ h1 h2 : Heap, φ h1 → (∀ o, h1.get? a = some o → h2.get? a = some o) → φ h2
/-- the abstract heap is held -/
def HOk (H : Hp) (h : Heap) : Prop := ∀ a o, H a = some o → ObjOk P w H h a o
end

section
variable {P : Program} {w : World} {H H' : Hp} {h h' : Heap} {a : Addr} {o : HO}
theorem ObjOk.lt (x : ObjOk P w H h a o) : a < h.objs.size := by
  cases o with
  | lst xs => obtain ⟨_, _, _, _, e⟩ := x; exact Heap.lt_size e
  | tup xs => obtain ⟨_, _, _, p⟩ := x; exact p.lt
  | dK kvs => obtain ⟨_, _, _, _, o, _, _, e, _⟩ := x; exact Heap.lt_size e
  | dT kvs => obtain ⟨_, _, _, _, o, _, _, e, _⟩ := x; exact Heap.lt_size e
  | set S n => obtain ⟨o, _, _, _, e, _⟩ := x; exact Heap.lt_size e
  | ins C dx fs => obtain ⟨_, _, _, e, _⟩ := x; exact Heap.lt_size e
  | own y => obtain ⟨_, e⟩ := x; exact Heap.lt_size e
  | xd fs => obtain ⟨_, ⟨_, _, _, e, _⟩, _⟩ := x; exact Heap.lt_size e
  | rng lo hi => obtain ⟨_, _, _, e⟩ := x; exact Heap.lt_size e
  | frz ob u => obtain ⟨e, _⟩ := x; exact Heap.lt_size e
  | tbl ps => exact Heap.lt_size (show h.get? a = some _ from x)
  | met f y => exact Heap.lt_size (show h.get? a = some _ from x)
  | ext φ => obtain ⟨_, ⟨_, e⟩, _⟩ := x; exact Heap.lt_size e
theorem Paired.mapP {α β : Type} {F G : α → β → Prop} : ∀ {l₁ : List α} {l₂ : List β}, Paired F l₁ l₂ → (∀ a b, F a b → G a b) → Paired G l₁ l₂
  | _, _, .nil, _ => .nil
  | _, _, .cons r t, f => .cons (f _ _ r) (Paired.mapP t f)
/-- what an object's description leans on: its own object, its own dict, the tuples -/
theorem ObjOk.stay (x : ObjOk P w H h a o) (k : ∀ b u, (b = a ∨ H b = some (.own a)) → h.get? b = some u → h'.get? b = some u)
    (ho : ∀ b, H b = some (.own a) → H' b = some (.own a)) (ht : ∀ b xs, H b = some (.tup xs) → H' b = some (.tup xs)) : ObjOk P w H' h' a o := by
  induction o with
  | lst xs => obtain ⟨z, its, n, r, e⟩ := x; exact ⟨z, its, n, r, k _ _ (.inl rfl) e⟩
  | tup xs => obtain ⟨z, its, r, ob, e, c⟩ := x; exact ⟨z, its, r, ob, k _ _ (.inl rfl) e, c⟩
  | dK kvs => obtain ⟨z, y, vs, r, ob, es, ep, e, c⟩ := x; exact ⟨z, y, vs, r, ob, es, ep, k _ _ (.inl rfl) e, c⟩
  | dT kvs =>
    obtain ⟨z, y, xs, r, ob, es, ep, e, c⟩ := x
    exact ⟨z, y, xs, Paired.mapP r fun p q z => ⟨z.1, ht _ _ z.2.1, z.2.2⟩, ob, es, ep, k _ _ (.inl rfl) e, c⟩
  | set S n => obtain ⟨ob, es, ep, t, e, c⟩ := x; exact ⟨ob, es, ep, t, k _ _ (.inl rfl) e, c⟩
  | ins C dx fs =>
    obtain ⟨d, z, ne, e, mA, ⟨od, es, ep, e2, c⟩, r⟩ := x
    exact ⟨ho _ d, z, ne, k _ _ (.inl rfl) e, mA, ⟨od, es, ep, k _ _ (.inr d) e2, c⟩, r⟩
  | own y => obtain ⟨ob, e⟩ := x; exact ⟨ob, k _ _ (.inl rfl) e⟩
  | xd fs => obtain ⟨mA, ⟨od, es, ep, e, c⟩, r⟩ := x; exact ⟨mA, ⟨od, es, ep, k _ _ (.inl rfl) e, c⟩, r⟩
  | rng lo hi => obtain ⟨t, u, v, e⟩ := x; exact ⟨t, u, v, k _ _ (.inl rfl) e⟩
  | frz ob u ih => obtain ⟨e, q⟩ := x; exact ⟨k _ _ (.inl rfl) e, ih q⟩
  | tbl ps =>
    have e : h.get? a = some { cls := .none, data := .fields ps } := x
    show h'.get? a = some { cls := .none, data := .fields ps }
    exact k a _ (.inl rfl) e
  | met f y =>
    have e : h.get? a = some (PySem.W.methodObj (.ref f) (.ref y)) := x
    show h'.get? a = some (PySem.W.methodObj (.ref f) (.ref y))
    exact k a _ (.inl rfl) e
  | ext φ => obtain ⟨p, ⟨o, e⟩, st⟩ := x; exact ⟨st _ _ p fun o q => k _ _ (.inl rfl) q, ⟨o, k _ _ (.inl rfl) e⟩, st⟩
theorem HOk.lt (x : HOk P w H h) (e : H a = some o) : a < h.objs.size := (x a o e).lt
theorem HOk.fresh (x : HOk P w H h) (e : h.objs.size ≤ a) : H a = none := by
  cases q : H a with
  | none => rfl
  | some u => exact absurd (Nat.lt_of_lt_of_le (x.lt q) e) (Nat.lt_irrefl _)
/-- every object of the heap is kept -/
theorem HOk.kept (x : HOk P w H h) (k : ∀ b u, h.get? b = some u → h'.get? b = some u) : HOk P w H h' := fun a o e =>
  (x a o e).stay (fun b u _ q => k b u q) (fun _ q => q) fun _ _ q => q
/-- a new object is laid and tracked -/
theorem HOk.laid (x : HOk P w H h) (k : ∀ b u, h.get? b = some u → h'.get? b = some u) (hp : h.objs.size ≤ a) (new : ObjOk P w (upd H a o) h' a o) : HOk P w (upd H a o) h' := fun b u e => by
  have hn := x.fresh hp
  by_cases hb : b = a
  · subst hb; rw [upd_same] at e; cases e; exact new
  · rw [upd_ne hb] at e
    exact (x b u e).stay (fun c v _ q => k c v q) (fun c q => by rw [upd_ne (ne_of_none q hn)]; exact q) fun c xs q => by rw [upd_ne (ne_of_none q hn)]; exact q
end

/-- what may be read as u: it is u, or a known u -/
def Rd (H : Hp) (a : Addr) (u : HO) : Prop := H a = some u ∨ ∃ o, H a = some (.frz o u)
theorem Rd.ok {P : Program} {w : World} {H : Hp} {h : Heap} {a : Addr} {u : HO} (r : Rd H a u) (x : HOk P w H h) : ObjOk P w H h a u := by
  rcases r with r | ⟨o, r⟩
  · exact x a u r
  · obtain ⟨_, q⟩ := x a _ r
    exact q
/-- what may be written -/
def Mut : Option HO → Prop
  | some (.lst _) => True
  | some (.dK _) => True
  | some (.dT _) => True
  | some (.set _ _) => True
  | some (.ins _ _ _) => True
  | some (.ext _) => True
  | _ => False
section
variable {P : Program} {w : World} {H : Hp} {h h' : Heap} {x e : Addr} {o' : HO}
/-- the object at e is changed: x itself, or the dict of the instance x -/
theorem HOk.write (ok : HOk P w H h) (mu : Mut (H x)) (he : e = x ∨ H e = some (.own x)) (k : ∀ b u, b ≠ e → h.get? b = some u → h'.get? b = some u) (heo : ∃ u, h'.get? e = some u)
    (new : ObjOk P w (upd H x o') h' x o') : HOk P w (upd H x o') h' := fun b u q => by
  have nown : ∀ c y, H c = some (.own y) → c ≠ x := fun c y r z => by subst z; rw [r] at mu; exact mu
  have ntup : ∀ c xs, H c = some (.tup xs) → c ≠ x := fun c xs r z => by subst z; rw [r] at mu; exact mu
  by_cases hb : b = x
  · subst hb; rw [upd_same] at q; cases q; exact new
  · rw [upd_ne hb] at q
    by_cases hbe : b = e
    · have q' : H b = some (.own x) := by
        rcases he with z | z
        · exact absurd (hbe.trans z) hb
        · rw [hbe]; exact z
      rw [q] at q'; cases q'
      obtain ⟨v, hv⟩ := heo
      exact ⟨v, by rw [hbe]; exact hv⟩
    · refine (ok b u q).stay (fun c v hc r => k c v ?_ r) (fun c r => by rw [upd_ne (nown c b r)]; exact r) fun c xs r => by rw [upd_ne (ntup c xs r)]; exact r
      rcases hc with rfl | hc
      · exact hbe
      · rintro rfl
        rcases he with z | z
        · exact nown c b hc z
        · rw [hc] at z; cases z; exact hb rfl
end

structure Un (fs ex : List Addr) (H H' : Hp) (h h' : Heap) : Prop where
  keep : ∀ b o, h.get? b = some o → H b = none → b ∉ fs → b ∉ ex → h'.get? b = some o
  slot : ∀ b o, h.get? b = some o → H b = none → b ∈ fs → b ∉ ex → ∃ sl, h'.get? b = some { o with slots := sl }
  free : ∀ b o, h.get? b = some o → H b = none → b ∉ ex → H' b = none
  there : ∀ b o, h.get? b = some o → b ∉ ex → ∃ o', h'.get? b = some o'
  tups : ∀ b xs, H b = some (.tup xs) → H' b = some (.tup xs)
  frzs : ∀ b o u, H b = some (.frz o u) → H' b = some (.frz o u)
  tbls : ∀ b ps, H b = some (.tbl ps) → ∃ more, H' b = some (.tbl (ps ++ more))
section
variable {fs fs' ex ex' : List Addr} {H H1 H2 : Hp} {h h1 h2 h' : Heap} {a x e : Addr} {o : HO}
theorem Un.any (u : Un fs ex H H1 h h1) {b : Addr} {ob : Obj} (q : h.get? b = some ob) (n : H b = none) (hx : b ∉ ex) : ∃ sl, h1.get? b = some { ob with slots := sl } := by
  by_cases hb : b ∈ fs
  · exact u.slot b ob q n hb hx
  · exact ⟨ob.slots, u.keep b ob q n hb hx⟩
theorem Un.kept (k : ∀ b u, h.get? b = some u → h'.get? b = some u) : Un fs ex H H h h' :=
  ⟨fun b ob q _ _ _ => k b ob q, fun b ob q _ _ _ => ⟨ob.slots, k b ob q⟩, fun _ _ _ n _ => n, fun b ob q _ => ⟨ob, k b ob q⟩, fun _ _ q => q, fun _ _ _ q => q, fun _ ps q => ⟨#[], by rw [q]; simp⟩⟩
theorem Un.refl : Un fs ex H H h h := Un.kept fun _ _ q => q
theorem Un.laid (k : ∀ b u, h.get? b = some u → h'.get? b = some u) (hp : h.objs.size ≤ a) (hn : H a = none) : Un fs ex H (upd H a o) h h' where
  keep := fun b u q _ _ _ => k b u q
  slot := fun b u q _ _ _ => ⟨u.slots, k b u q⟩
  free := fun b u q n _ => by rw [upd_ne (Nat.ne_of_lt (Nat.lt_of_lt_of_le (Heap.lt_size q) hp))]; exact n
  there := fun b u q _ => ⟨u, k b u q⟩
  tups := fun b xs q => by rw [upd_ne (ne_of_none q hn)]; exact q
  frzs := fun b u xs q => by rw [upd_ne (ne_of_none q hn)]; exact q
  tbls := fun b ps q => ⟨#[], by rw [upd_ne (ne_of_none q hn), q]; simp⟩
theorem Un.write (mu : Mut (H x)) (he : e = x ∨ H e = some (.own x)) (k : ∀ b u, b ≠ e → h.get? b = some u → h'.get? b = some u) (heo : ∃ u, h'.get? e = some u) : Un fs ex H (upd H x o) h h' := by
  have hx : ∀ b, H b = none → b ≠ x := fun b n z => by subst z; rw [n] at mu; exact mu
  have hb : ∀ b, H b = none → b ≠ e := fun b n z => by
    subst z
    rcases he with r | r
    · exact hx b n r
    · rw [n] at r; cases r
  have hm : ∀ b u, H b = some u → ¬ Mut (some u) → b ≠ x := fun b u q nm z => by subst z; rw [q] at mu; exact nm mu
  refine ⟨fun b u q n _ _ => k b u (hb b n) q, fun b u q n _ _ => ⟨u.slots, k b u (hb b n) q⟩, fun b u q n _ => by rw [upd_ne (hx b n)]; exact n, fun b u q _ => ?_,
    fun b xs q => by rw [upd_ne (hm b _ q fun z => z)]; exact q, fun b u xs q => by rw [upd_ne (hm b _ q fun z => z)]; exact q, fun b ps q => ⟨#[], by rw [upd_ne (hm b _ q fun z => z), q]; simp⟩⟩
  by_cases hbe : b = e
  · subst hbe; exact heo
  · exact ⟨u, k b u hbe q⟩
end

def trk (h : Heap) (H : Hp) : List Addr := (List.range h.objs.size).filter fun a => (H a).isSome
def hidT (h : Heap) (H : Hp) : Heap := PySem.W.hideAll h (trk h H)
theorem hidT_size (h : Heap) (H : Hp) : (hidT h H).objs.size = h.objs.size := PySem.W.hideAll_size _ _
theorem hidT_get {h : Heap} {H : Hp} {b : Addr} {o : Obj} (e : h.get? b = some o) (n : H b = none) : (hidT h H).get? b = some o :=
  PySem.W.hideAll_get _ e fun hm => by
    have q : (H b).isSome = true := (List.mem_filter.mp hm).2
    rw [n] at q; simp at q
theorem of_hidT {h : Heap} {H : Hp} {b : Addr} {o : Obj} (e : (hidT h H).get? b = some o) : h.get? b = some o ∧ H b = none := by
  have e' : h.get? b = some o := PySem.W.of_hideAll (trk h H) e
  refine ⟨e', ?_⟩
  cases q : H b with
  | none => rfl
  | some x =>
    have hm : b ∈ trk h H := List.mem_filter.mpr ⟨List.mem_range.mpr (Heap.lt_size e'), by simp [q]⟩
    have z : (hidT h H).get? b = none := PySem.W.hideAll_none (trk h H) hm
    rw [z] at e; cases e

def allNews (g h : Heap) (L : Addr) : List (Addr × Obj) := (List.range h.objs.size).filterMap fun a => if a = L ∨ (g.get? a).isSome = true then none else (h.get? a).map fun o => (a, o)
def rest (g h : Heap) (L d : Addr) : List (Addr × Obj) := (allNews g h L).filter fun p => decide (p.1 ≠ d)
end L2

namespace L2
open PySem PySem.Spec PyProof.Rows

/-- the module's facts, over the base: the heap at the law's entry without what is tracked there -/
structure Mod (K : PySem.W.Frag) (mg : Str → Option Value) (base : Heap) : Prop where
  kin : K.In base
  glob : base.Ns mainGlobals mg
  blt : ∃ mb, base.Ns builtinsNs mb ∧ ∀ x : Str, x ≠ "__name__" → mb x = bootBuiltins x
  nolimit : base.NoLimit

/-- the context: a def's body (or a comprehension's block) running. base: fixed through the whole law; s₀, H₀: the entry; outer: the frames whose slots others may change (a def's callers); stack: all frames that run;
   ex: iterators that were made ahead of the entry and are walked here (a comprehension's); fn: the names whose cells were made at the entry (a def: all; a comprehension's block: its own); calm: not within an except suite; pn: pins that every state bears; xe: what is wanted of an exception that leaves the code -/
structure Cx where
  prog : Program
  w : World
  K : PySem.W.Frag
  mg : Str → Option Value
  base : Heap
  A : Around
  N : List Str
  s₀ : Shared
  H₀ : Hp
  env : Env
  outer : List Env
  stack : List Env
  ex : List Addr
  fn : Str → Bool
  calm : Bool
  pn : List (Addr × Obj)
  xe : Value → Shared → Prop
/-- the callers' frames -/
def frs (l : List Env) : List Addr := l.filterMap (·.frame)
abbrev Cx.fs (X : Cx) : List Addr := frs X.outer

def Vis (sc : Scope) (x : Str) : Prop := sc.names.lookup x = some .local ∨ sc.names.lookup x = some .cell ∨ sc.names.lookup x = some .free
def Loc (sc : Scope) (x : Str) : Prop := sc.names.lookup x = some .local ∨ sc.names.lookup x = some .cell
def Look (env : Env) (h : Heap) (m : Str → Option Value) (x : Str) (u : Value) : Prop :=
  (env.kindOf x = some .local ∧ m x = some u) ∨ ((env.kindOf x = some .cell ∨ env.kindOf x = some .free) ∧ ∃ c, env.cells.lookup x = some c ∧ h.IsCell c (some u))

structure Cx.Ok (X : Cx) : Prop where
  mod : Mod X.K X.mg X.base
  kind : X.env.scope.kind = .function
  glob : X.env.globals = mainGlobals
  blt : X.env.builtins = builtinsNs
  above : X.s₀.heap.objs.size ≤ X.env.locals
  inj : ∀ x y c, X.env.cells.lookup x = some c → X.env.cells.lookup y = some c → x = y
  has : ∀ x, (X.env.kindOf x = some .cell ∨ X.env.kindOf x = some .free) → ∃ c, X.env.cells.lookup x = some c
  cab : ∀ x c, X.fn x = true → X.env.cells.lookup x = some c → X.s₀.heap.objs.size ≤ c
  hd : X.calm = true → X.A.handled = none
  frames : X.A.frames = some X.stack
  stk : X.stack = X.outer ∨ (X.stack = X.env :: X.outer ∧ X.env.frame = some X.env.locals)
  exf : ∀ b ∈ X.ex, b ≠ X.env.locals ∧ ∀ x c, X.env.cells.lookup x = some c → c ≠ b
  bs : ∀ b o, X.base.get? b = some o → X.s₀.heap.get? b = some o ∧ X.H₀ b = none
  bsz : X.base.objs.size ≤ X.s₀.heap.objs.size
  noex : ∀ b o, X.base.get? b = some o → b ∉ X.ex
  exfs : ∀ b ∈ X.ex, b ∉ X.fs
  funs : X.s₀.heap.FunFrames X.base X.outer
  frf : ∀ b ∈ X.fs, X.H₀ b = none

structure Inv (X : Cx) (pins : List (Addr × Obj)) (σ : List (Option V)) (H : Hp) (s : Shared) : Prop where
  ok : X.Ok
  os : s.os = X.s₀.os
  bare : AllBare s.gens
  base : Un X.fs X.ex X.H₀ H X.s₀.heap s.heap
  loc : ∃ m, s.heap.Ns X.env.locals m ∧ ∀ (i : Nat) (x : Str) (v : V), X.N[i]? = some x → σ[i]? = some (some v) → Vis X.env.scope x → ∃ u, RelV v u ∧ Look X.env s.heap m x u
  cell : ∀ x c, X.env.cells.lookup x = some c → ∃ v, s.heap.IsCell c v
  free : H X.env.locals = none
  freeC : ∀ x c, X.env.cells.lookup x = some c → H c = none
  pin : ∀ p ∈ X.pn ++ pins, s.heap.get? p.1 = some p.2 ∧ H p.1 = none ∧ p.1 ≠ X.env.locals ∧ p.1 ∉ X.fs ∧ ∀ v, p.2.data ≠ .cell v
  hok : HOk X.prog X.w H s.heap
  len : σ.length = X.N.length

section
variable {X : Cx} {pins : List (Addr × Obj)} {σ : List (Option V)} {H H' : Hp} {s : Shared} {h' : Heap}

theorem Cx.Ok.nofr (ok : X.Ok) {b : Addr} {o : Obj} (e : X.base.get? b = some o) : b ∉ X.fs := fun hb => by
  have := (ok.funs.mem hb).1
  rw [e] at this; cases this
theorem Inv.bs (I : Inv X pins σ H s) : ∀ b o, X.base.get? b = some o → s.heap.get? b = some o ∧ H b = none := fun b o e =>
  ⟨I.base.keep b o (I.ok.bs b o e).1 (I.ok.bs b o e).2 (I.ok.nofr e) (I.ok.noex b o e), I.base.free b o (I.ok.bs b o e).1 (I.ok.bs b o e).2 (I.ok.noex b o e)⟩
theorem Inv.bk (I : Inv X pins σ H s) : ∀ b o, X.base.get? b = some o → s.heap.get? b = some o := fun b o e => (I.bs b o e).1
theorem Inv.mod (I : Inv X pins σ H s) : Mod X.K X.mg X.base := I.ok.mod
theorem Inv.kIn (I : Inv X pins σ H s) : X.K.In s.heap := I.ok.mod.kin.keeps I.bk
theorem Inv.lt (I : Inv X pins σ H s) : X.env.locals < s.heap.objs.size := let ⟨_, hn, _⟩ := I.loc; hn.lt
theorem Inv.sz (I : Inv X pins σ H s) : X.s₀.heap.objs.size ≤ s.heap.objs.size := Nat.le_trans I.ok.above (Nat.le_of_lt I.lt)
theorem Inv.nofs (I : Inv X pins σ H s) {a : Addr} (h : s.heap.objs.size ≤ a) : a ∉ X.fs := fun hb => by
  obtain ⟨_, o, ho, _⟩ := I.ok.funs.mem hb
  exact absurd (Nat.lt_of_lt_of_le (Heap.lt_size ho) (Nat.le_trans I.sz h)) (Nat.lt_irrefl _)
theorem Inv.cne (I : Inv X pins σ H s) : ∀ x c, X.env.cells.lookup x = some c → c ≠ X.env.locals := fun x c e z => by
  obtain ⟨v, o, ho, hd⟩ := I.cell x c e
  obtain ⟨m, ⟨o', es, ep, ho', hd', _⟩, _⟩ := I.loc
  rw [z, ho'] at ho; cases ho; rw [hd'] at hd; cases hd
theorem Inv.funs (I : Inv X pins σ H s) : s.heap.FunFrames X.base X.outer := by
  have all : ∀ (l : List Env), (∀ b ∈ frs l, b ∈ X.fs) → X.s₀.heap.FunFrames X.base l → s.heap.FunFrames X.base l := by
    intro l
    induction l with
    | nil => intro _ _; trivial
    | cons env r ih =>
      intro hs hl
      obtain ⟨hk, ⟨L, o, hf, hn, ho, hd⟩, hr⟩ := hl
      have hL : L ∈ X.fs := hs L (by unfold frs; rw [List.filterMap_cons, hf]; exact List.mem_cons_self)
      obtain ⟨sl, e⟩ := I.base.slot L o ho (I.ok.frf L hL) hL fun z => I.ok.exfs L z hL
      exact ⟨hk, ⟨L, _, hf, hn, e, hd⟩, ih (fun b hb => hs b (by unfold frs; rw [List.filterMap_cons, hf]; exact List.mem_cons_of_mem _ hb)) hr⟩
  exact all X.outer (fun _ hb => hb) I.ok.funs

/-- the frames that run, for a call -/
theorem Inv.stack (I : Inv X pins σ H s) : s.heap.FunFrames X.base X.stack := by
  rcases I.ok.stk with e | ⟨e, hf⟩
  · rw [e]; exact I.funs
  · rw [e]
    obtain ⟨m, hn, _⟩ := I.loc
    refine .cons (by rw [I.ok.kind]; decide) hf hn ?_ I.funs
    exact Heap.get?_none_of_le (Nat.le_trans I.ok.bsz I.ok.above)
theorem Inv.stkSub (I : Inv X pins σ H s) : ∀ b ∈ frs X.stack, b ∈ X.env.locals :: X.fs := fun b hb => by
  rcases I.ok.stk with e | ⟨e, hf⟩
  · rw [e] at hb; exact List.mem_cons_of_mem _ hb
  · rw [e] at hb
    unfold frs at hb
    rw [List.filterMap_cons, hf] at hb
    exact hb
theorem Inv.stkFree (I : Inv X pins σ H s) : ∀ b ∈ frs X.stack, H b = none := fun b hb => by
  rcases List.mem_cons.mp (I.stkSub b hb) with e | hb
  · rw [e]; exact I.free
  · obtain ⟨_, o, ho, _⟩ := I.ok.funs.mem hb
    exact I.base.free b o ho (I.ok.frf b hb) fun z => I.ok.exfs b z hb

/-- THE STEP: the untracked objects but the frame and the records at ch are kept (the callers' frames up to slots), the frame's map is kept, the new abstract heap is held -/
theorem Inv.step {g' : Array GenState} {t' : Nat} {d' : Drawn} {ch : List Addr} (I : Inv X pins σ H s)
    (hch : ∀ b ∈ ch, (b ∈ X.ex ∨ X.s₀.heap.objs.size ≤ b) ∧ b ≠ X.env.locals ∧ (∀ x c, X.env.cells.lookup x = some c → c ≠ b) ∧ ∀ p ∈ X.pn ++ pins, p.1 ≠ b)
    (keep : ∀ b o, b ≠ X.env.locals → b ∉ X.fs → b ∉ ch → s.heap.get? b = some o → H b = none → h'.get? b = some o)
    (slot : ∀ b o, b ≠ X.env.locals → b ∈ X.fs → b ∉ ch → s.heap.get? b = some o → H b = none → ∃ sl, h'.get? b = some { o with slots := sl }) (free : ∀ b o, b ∉ ch → s.heap.get? b = some o → H b = none → H' b = none)
    (there : ∀ b o, b ∉ ch → s.heap.get? b = some o → ∃ o', h'.get? b = some o')
    (tups : ∀ b xs, H b = some (.tup xs) → H' b = some (.tup xs)) (frzs : ∀ b o u, H b = some (.frz o u) → H' b = some (.frz o u)) (tbls : ∀ b ps, H b = some (.tbl ps) → ∃ more, H' b = some (.tbl (ps ++ more)))
    (ns : ∀ m, s.heap.Ns X.env.locals m → h'.Ns X.env.locals m) (hok : HOk X.prog X.w H' h') (hg : AllBare g') :
    Inv X pins σ H' { s with heap := h', gens := g', drawn := d', toks := t' } := by
  have neL : ∀ b o, X.s₀.heap.get? b = some o → b ≠ X.env.locals := fun b o e => Nat.ne_of_lt (Nat.lt_of_lt_of_le (Heap.lt_size e) I.ok.above)
  have neC : ∀ b o, X.s₀.heap.get? b = some o → b ∉ X.ex → b ∉ ch := fun b o e hx hb => by
    rcases (hch b hb).1 with z | z
    · exact hx z
    · exact absurd (Nat.lt_of_lt_of_le (Heap.lt_size e) z) (Nat.lt_irrefl _)
  have cellK : ∀ x c, X.env.cells.lookup x = some c → ∀ v, s.heap.IsCell c v → h'.IsCell c v := fun x c e v ⟨o, ho, hd⟩ => by
    have nch : c ∉ ch := fun z => (hch c z).2.2.1 x c e rfl
    by_cases hc : c ∈ X.fs
    · obtain ⟨sl, q⟩ := slot c o (I.cne x c e) hc nch ho (I.freeC x c e)
      exact ⟨_, q, hd⟩
    · exact ⟨o, keep c o (I.cne x c e) hc nch ho (I.freeC x c e), hd⟩
  refine ⟨I.ok, I.os, hg, ⟨fun b o e n hb hx => ?_, fun b o e n hb hx => ?_, fun b o e n hx => ?_, fun b o e hx => ?_, fun b xs e => tups b xs (I.base.tups b xs e), fun b o xs e => frzs b o xs (I.base.frzs b o xs e), fun b ps e => ?_⟩, ?_, fun x c e => ?_, ?_, fun x c e => ?_, fun p hp => ?_, hok, I.len⟩
  · exact keep b o (neL b o e) hb (neC b o e hx) (I.base.keep b o e n hb hx) (I.base.free b o e n hx)
  · obtain ⟨sl, e1⟩ := I.base.slot b o e n hb hx
    obtain ⟨sl', e2⟩ := slot b _ (neL b o e) hb (neC b o e hx) e1 (I.base.free b o e n hx)
    exact ⟨sl', e2⟩
  · obtain ⟨o', e1⟩ := I.base.there b o e hx
    exact free b o' (neC b o e hx) e1 (I.base.free b o e n hx)
  · obtain ⟨o', e1⟩ := I.base.there b o e hx
    exact there b o' (neC b o e hx) e1
  · obtain ⟨m1, e1⟩ := I.base.tbls b ps e
    obtain ⟨m2, e2⟩ := tbls b _ e1
    exact ⟨m1 ++ m2, by rw [e2, Array.append_assoc]⟩
  · obtain ⟨m, hn, hl⟩ := I.loc
    refine ⟨m, ns m hn, fun i x v e1 e2 e3 => ?_⟩
    obtain ⟨u, r, l⟩ := hl i x v e1 e2 e3
    refine ⟨u, r, ?_⟩
    rcases l with l | ⟨k, c, e, z⟩
    · exact .inl l
    · exact .inr ⟨k, c, e, cellK x c e _ z⟩
  · obtain ⟨v, z⟩ := I.cell x c e
    exact ⟨v, cellK x c e v z⟩
  · obtain ⟨m, ⟨o, _, _, ho, _⟩, _⟩ := I.loc
    exact free _ o (fun z => (hch _ z).2.1 rfl) ho I.free
  · obtain ⟨v, o, ho, hd⟩ := I.cell x c e
    exact free c o (fun z => (hch c z).2.2.1 x c e rfl) ho (I.freeC x c e)
  · obtain ⟨e, n, ne, nf, d⟩ := I.pin p hp
    have nch : p.1 ∉ ch := fun z => (hch p.1 z).2.2.2 p hp rfl
    exact ⟨keep p.1 p.2 ne nf nch e n, free p.1 p.2 nch e n, ne, nf, d⟩
/-- .. where the frame's own object is kept too -/
theorem Inv.un {t' : Nat} (I : Inv X pins σ H s) (u : Un X.fs [] H H' s.heap h') (hok : HOk X.prog X.w H' h') : Inv X pins σ H' { s with heap := h', toks := t' } := by
  obtain ⟨m, ⟨o, es, ep, ho, r⟩, _⟩ := id I.loc
  obtain ⟨sl, hL⟩ := u.any ho I.free (by simp)
  exact I.step (g' := s.gens) (d' := s.drawn) (ch := []) (fun _ z => nomatch z) (fun b o _ hb _ e n => u.keep b o e n hb (by simp)) (fun b o _ hb _ e n => u.slot b o e n hb (by simp)) (fun b o _ e n => u.free b o e n (by simp)) (fun b o _ e => u.there b o e (by simp)) u.tups u.frzs u.tbls (fun m' hm => by
    obtain ⟨o', es', ep', ho', r'⟩ := hm
    rw [ho] at ho'; cases ho'
    exact ⟨_, es', ep', hL, r'⟩) hok I.bare
/-- behind a call (or a comprehension's block): the slots of this frame may have changed too, the records at ch may have turned -/
theorem Inv.call {g' : Array GenState} {t' : Nat} {d' : Drawn} {ch : List Addr} (I : Inv X pins σ H s) (u : Un (frs X.stack) ch H H' s.heap h') (hok : HOk X.prog X.w H' h') (hg : AllBare g')
    (hch : ∀ b ∈ ch, (b ∈ X.ex ∨ X.s₀.heap.objs.size ≤ b) ∧ b ≠ X.env.locals ∧ (∀ x c, X.env.cells.lookup x = some c → c ≠ b) ∧ ∀ p ∈ X.pn ++ pins, p.1 ≠ b) :
    Inv X pins σ H' { s with heap := h', gens := g', drawn := d', toks := t' } := by
  obtain ⟨m, ⟨o, es, ep, ho, r⟩, _⟩ := id I.loc
  obtain ⟨sl, hL⟩ := u.any ho I.free fun z => (hch _ z).2.1 rfl
  exact I.step (ch := ch) hch (fun b o hL hb hc e n => u.keep b o e n (fun z => (List.mem_cons.mp (I.stkSub b z)).elim hL hb) hc) (fun b o _ _ hc e n => u.any e n hc) (fun b o hc e n => u.free b o e n hc) (fun b o hc e => u.there b o e hc) u.tups u.frzs u.tbls (fun m' hm => by
    obtain ⟨o', es', ep', ho', r'⟩ := hm
    rw [ho] at ho'; cases ho'
    exact ⟨_, es', ep', hL, r'⟩) hok hg
/-- an untracked record of ours (an iterator) has turned -/
theorem Inv.turned {t' : Nat} {it : Addr} (I : Inv X pins σ H s) (k : ∀ b o, b ≠ it → s.heap.get? b = some o → h'.get? b = some o) (hn : H it = none) (hL : it ≠ X.env.locals)
    (h1 : it ∈ X.ex ∨ X.s₀.heap.objs.size ≤ it) (h2 : ∀ x c, X.env.cells.lookup x = some c → c ≠ it) (h3 : ∀ p ∈ X.pn ++ pins, p.1 ≠ it) : Inv X pins σ H { s with heap := h', toks := t' } := by
  have nit : ∀ b u, H b = some u → b ≠ it := fun b u e z => by rw [z, hn] at e; cases e
  refine I.step (g' := s.gens) (d' := s.drawn) (ch := [it]) (fun b hb => ?_) (fun b o _ _ hc e _ => k b o (fun z => hc (by simp [z])) e) (fun b o _ _ hc e _ => ⟨o.slots, k b o (fun z => hc (by simp [z])) e⟩) (fun _ _ _ _ n => n)
    (fun b o hc e => ⟨o, k b o (fun z => hc (by simp [z])) e⟩) (fun _ _ e => e) (fun _ _ _ e => e) (fun b ps e => ⟨#[], by rw [e]; simp⟩) (fun m hm => ?_) (fun b u e => ?_) I.bare
  · have e : b = it := by simpa using hb
    subst e
    exact ⟨h1, hL, h2, h3⟩
  · obtain ⟨o, es, ep, ho, r⟩ := hm
    exact ⟨o, es, ep, k _ o (Ne.symm hL) ho, r⟩
  · refine (I.hok b u e).stay (fun c v hc q => k c v ?_ q) (fun _ q => q) fun _ _ q => q
    rcases hc with z | z
    · rw [z]; exact nit b u e
    · exact nit c _ z
theorem Inv.tok (I : Inv X pins σ H s) (t : Nat) : Inv X pins σ H { s with toks := t } := I.un (h' := s.heap) (t' := t) Un.refl I.hok
/-- all objects kept -/
theorem Inv.kept {t' : Nat} (I : Inv X pins σ H s) (k : ∀ b u, s.heap.get? b = some u → h'.get? b = some u) : Inv X pins σ H { s with heap := h', toks := t' } := I.un (Un.kept k) (I.hok.kept k)
/-- a new object laid and tracked -/
theorem Inv.laid {a : Addr} {o : HO} {t' : Nat} (I : Inv X pins σ H s) (k : ∀ b u, s.heap.get? b = some u → h'.get? b = some u) (hp : s.heap.objs.size ≤ a) (new : ObjOk X.prog X.w (upd H a o) h' a o) :
    Inv X pins σ (upd H a o) { s with heap := h', toks := t' } := I.un (Un.laid k hp (I.hok.fresh hp)) (I.hok.laid k hp new)
/-- an object written -/
theorem Inv.write {x e : Addr} {o : HO} {t' : Nat} (I : Inv X pins σ H s) (mu : Mut (H x)) (he : e = x ∨ H e = some (.own x)) (k : ∀ b u, b ≠ e → s.heap.get? b = some u → h'.get? b = some u) (heo : ∃ u, h'.get? e = some u)
    (new : ObjOk X.prog X.w (upd H x o) h' x o) : Inv X pins σ (upd H x o) { s with heap := h', toks := t' } := I.un (Un.write mu he k heo) (I.hok.write mu he k heo new)
theorem Inv.pins_of {pins' : List (Addr × Obj)} (I : Inv X pins σ H s) (h : ∀ p ∈ pins', s.heap.get? p.1 = some p.2 ∧ H p.1 = none ∧ p.1 ≠ X.env.locals ∧ p.1 ∉ X.fs ∧ ∀ v, p.2.data ≠ .cell v) : Inv X pins' σ H s :=
  ⟨I.ok, I.os, I.bare, I.base, I.loc, I.cell, I.free, I.freeC, fun p hp => (List.mem_append.mp hp).elim (fun z => I.pin p (List.mem_append_left _ z)) (h p), I.hok, I.len⟩

theorem nodup_ix {N : List Str} (hN : N.Nodup) {i j : Nat} {x : Str} (a : N[i]? = some x) (b : N[j]? = some x) : i = j := by
  obtain ⟨h1, e1⟩ := List.getElem?_eq_some_iff.mp a
  obtain ⟨h2, e2⟩ := List.getElem?_eq_some_iff.mp b
  exact (List.getElem_inj hN).mp (e1.trans e2.symm)

/-- a name is stored; what changed -/
theorem store_ok2 {M : Model} {A : Around} {E : Value → Shared → Prop} {i : Nat} {x : Str} {v : V} {u : Value} {Q : Unit → Shared → Prop} (I : Inv X pins σ H s) (hN : X.N.Nodup) (hi : X.N[i]? = some x) (hx : Loc X.env.scope x) (r : RelV v u)
    (h : ∀ s', Inv X pins (σ.set i (some v)) H s' → (∃ a, Heap.SameBut a s.heap s'.heap ∧ (a = X.env.locals ∨ X.env.cells.lookup x = some a)) → Q () s') (hf : X.fn x = true ∨ X.env.scope.names.lookup x = some .local := by first | exact .inl rfl | exact .inr rfl | assumption) : wpAny M A (storeName X.env x u) Q E s := by
  obtain ⟨m, hn, hl⟩ := id I.loc
  have hcls : (X.env.scope.kind == .class || (X.env.scope.kind == .module && X.env.locals != X.env.globals)) = false := by rw [I.ok.kind]; rfl
  have hiσ : i < σ.length := by rw [I.len]; exact (List.getElem?_eq_some_iff.mp hi).1
  have cne := I.cne
  have tracked : ∀ {a : Addr} {h' : Heap}, (∃ o, s.heap.get? a = some o ∧ H a = none) → Heap.SameBut a s.heap h' → HOk X.prog X.w H h' := fun {a h'} ha hs b ob e => by
    obtain ⟨_, _, hfree⟩ := ha
    refine (I.hok b ob e).stay (fun c w' hc q => (hs.2 c ?_).trans q) (fun _ q => q) fun _ _ q => q
    rintro rfl
    rcases hc with rfl | hc
    · rw [hfree] at e; cases e
    · rw [hfree] at hc; cases hc
  rcases hx with hk | hk
  · refine wpAny_storeName_local hk hn (fun h' hn' hs => ?_) hcls
    obtain ⟨oL, _, _, hoL, _⟩ := id hn
    refine h _ ⟨I.ok, I.os, I.bare, ⟨fun b o e n hb hx => ?_, fun b o e n hb hx => ?_, I.base.free, fun b o e hx => ?_, I.base.tups, I.base.frzs, I.base.tbls⟩, ⟨_, hn', fun j y v' e1 e2 e3 => ?_⟩, fun y c e => ?_, I.free, I.freeC, fun p hp => ?_, tracked ⟨oL, hoL, I.free⟩ hs, by simpa using I.len⟩ ⟨_, hs, .inl rfl⟩
    · exact (hs.2 b (Nat.ne_of_lt (Nat.lt_of_lt_of_le (Heap.lt_size e) I.ok.above))).trans (I.base.keep b o e n hb hx)
    · obtain ⟨sl, e1⟩ := I.base.slot b o e n hb hx
      exact ⟨sl, (hs.2 b (Nat.ne_of_lt (Nat.lt_of_lt_of_le (Heap.lt_size e) I.ok.above))).trans e1⟩
    · obtain ⟨o', e1⟩ := I.base.there b o e hx
      exact ⟨o', (hs.2 b (Nat.ne_of_lt (Nat.lt_of_lt_of_le (Heap.lt_size e) I.ok.above))).trans e1⟩
    · by_cases hj : j = i
      · subst hj
        rw [hi] at e1; cases e1
        rw [List.getElem?_set_self hiσ] at e2
        cases e2
        exact ⟨u, r, .inl ⟨hk, by simp⟩⟩
      · rw [List.getElem?_set_ne (Ne.symm hj)] at e2
        obtain ⟨u', r', q⟩ := hl j y v' e1 e2 e3
        refine ⟨u', r', ?_⟩
        rcases q with ⟨k, e⟩ | ⟨k, c, e, z⟩
        · refine .inl ⟨k, ?_⟩
          have : y ≠ x := fun e => hj (nodup_ix hN e1 (e ▸ hi))
          simp [this, e]
        · exact .inr ⟨k, c, e, z.sameBut hs (cne y c e)⟩
    · obtain ⟨w', z⟩ := I.cell y c e
      exact ⟨w', z.sameBut hs (cne y c e)⟩
    · obtain ⟨e, n, ne, nf, d⟩ := I.pin p hp
      exact ⟨(hs.2 p.1 ne).trans e, n, ne, nf, d⟩
  · have hfn : X.fn x = true := by
      rcases hf with z | z
      · exact z
      · rw [z] at hk; cases hk
    obtain ⟨c, hc⟩ := I.ok.has x (.inl hk)
    obtain ⟨w', z⟩ := I.cell x c hc
    refine wpAny_storeName_cell I.ok.kind hk hc z (fun h' hc' hs => ?_)
    obtain ⟨oc, hoc, hocd⟩ := id z
    refine h { s with heap := h' } ⟨I.ok, I.os, I.bare, ⟨fun b o e n hb hx => ?_, fun b o e n hb hx => ?_, I.base.free, fun b o e hx => ?_, I.base.tups, I.base.frzs, I.base.tbls⟩, ⟨m, hn.sameBut hs (Ne.symm (cne x c hc)), fun j y v' e1 e2 e3 => ?_⟩, fun y c' e => ?_, I.free, I.freeC, fun p hp => ?_, tracked ⟨oc, hoc, I.freeC x c hc⟩ hs, by simpa using I.len⟩ ⟨c, hs, .inr hc⟩
    · exact (hs.2 b (Nat.ne_of_lt (Nat.lt_of_lt_of_le (Heap.lt_size e) (I.ok.cab x c hfn hc)))).trans (I.base.keep b o e n hb hx)
    · obtain ⟨sl, e1⟩ := I.base.slot b o e n hb hx
      exact ⟨sl, (hs.2 b (Nat.ne_of_lt (Nat.lt_of_lt_of_le (Heap.lt_size e) (I.ok.cab x c hfn hc)))).trans e1⟩
    · obtain ⟨o', e1⟩ := I.base.there b o e hx
      exact ⟨o', (hs.2 b (Nat.ne_of_lt (Nat.lt_of_lt_of_le (Heap.lt_size e) (I.ok.cab x c hfn hc)))).trans e1⟩
    · by_cases hj : j = i
      · subst hj
        rw [hi] at e1; cases e1
        rw [List.getElem?_set_self hiσ] at e2
        cases e2
        exact ⟨u, r, .inr ⟨.inl hk, c, hc, hc'⟩⟩
      · rw [List.getElem?_set_ne (Ne.symm hj)] at e2
        obtain ⟨u', r', q⟩ := hl j y v' e1 e2 e3
        refine ⟨u', r', ?_⟩
        rcases q with q | ⟨k, c', e, z'⟩
        · exact .inl q
        · refine .inr ⟨k, c', e, z'.sameBut hs ?_⟩
          rintro rfl
          exact hj (nodup_ix hN e1 (I.ok.inj _ _ _ e hc ▸ hi))
    · by_cases hcc : c' = c
      · subst hcc; exact ⟨_, hc'⟩
      · obtain ⟨w2, z2⟩ := I.cell y c' e
        exact ⟨w2, z2.sameBut hs hcc⟩
    · obtain ⟨e, n, ne, nf, d⟩ := I.pin p hp
      refine ⟨(hs.2 p.1 ?_).trans e, n, ne, nf, d⟩
      intro q
      rw [q, hoc] at e
      have q' : oc = p.2 := Option.some.inj e
      exact d w' (by rw [← q']; exact hocd)
theorem store_ok {M : Model} {A : Around} {E : Value → Shared → Prop} {i : Nat} {x : Str} {v : V} {u : Value} {Q : Unit → Shared → Prop} (I : Inv X pins σ H s) (hN : X.N.Nodup) (hi : X.N[i]? = some x) (hx : Loc X.env.scope x) (r : RelV v u)
    (h : ∀ s', Inv X pins (σ.set i (some v)) H s' → Q () s') (hf : X.fn x = true ∨ X.env.scope.names.lookup x = some .local := by first | exact .inl rfl | exact .inr rfl | assumption) : wpAny M A (storeName X.env x u) Q E s :=
  store_ok2 I hN hi hx r (fun s' I' _ => h s' I') hf
/-- behind a call or a block, the state as it is -/
theorem Inv.call' {s' : Shared} {ch : List Addr} (I : Inv X pins σ H s) (ho : s'.os = s.os) (u : Un (frs X.stack) ch H H' s.heap s'.heap) (hok : HOk X.prog X.w H' s'.heap) (hg : AllBare s'.gens)
    (hch : ∀ b ∈ ch, (b ∈ X.ex ∨ X.s₀.heap.objs.size ≤ b) ∧ b ≠ X.env.locals ∧ (∀ x c, X.env.cells.lookup x = some c → c ≠ b) ∧ ∀ p ∈ X.pn ++ pins, p.1 ≠ b) : Inv X pins σ H' s' := by
  obtain ⟨h', g', d', t', o'⟩ := s'
  have e : o' = s.os := ho
  subst e
  exact I.call (g' := g') (t' := t') (d' := d') u hok hg hch
end

/-- an exception: its class, its own dict's address (where it has one), the abstract heap behind it -/
abbrev XK := Value → Option Addr → Hp → Prop
abbrev St := List (Option V)
abbrev VK := V → Hp → Prop
/-- an expression's reading; a test's; an argument list's -/
abbrev TE := St → Hp → VK → Prop
abbrev TT := St → Hp → (Bool → Hp → Prop) → Prop
abbrev TA := St → Hp → (List V → Hp → Prop) → Prop
/-- what is wanted behind a statement -/
structure Ends where
  nx : St → Hp → Prop
  rt : VK
  bk : St → Hp → Prop := fun _ _ => False
  ct : St → Hp → Prop := fun _ _ => False
abbrev TS := Ends → St → Hp → Prop

def EP (X : Cx) (pins : List (Addr × Obj)) (σ : St) (Q : VK) (u : Value) (s' : Shared) : Prop := ∃ v H', Inv X pins σ H' s' ∧ RelV v u ∧ Q v H'
def TP (X : Cx) (pins : List (Addr × Obj)) (σ : St) (Q : Bool → Hp → Prop) (b : Bool) (s' : Shared) : Prop := ∃ H', Inv X pins σ H' s' ∧ Q b H'
def AP (X : Cx) (pins : List (Addr × Obj)) (σ : St) (Q : List V → Hp → Prop) (us : List Value) (s' : Shared) : Prop := ∃ vs H', Inv X pins σ H' s' ∧ Vals vs us ∧ Q vs H'
def SP (X : Cx) (pins : List (Addr × Obj)) (D : Ends) (f : Flow) (s' : Shared) : Prop :=
  match f with
  | .next => ∃ σ' H', Inv X pins σ' H' s' ∧ D.nx σ' H'
  | .brk => ∃ σ' H', Inv X pins σ' H' s' ∧ D.bk σ' H'
  | .cont => ∃ σ' H', Inv X pins σ' H' s' ∧ D.ct σ' H'
  | .ret u => ∃ v σ' H', Inv X pins σ' H' s' ∧ RelV v u ∧ D.rt v H'

def PE (X : Cx) (e : Expr) (t : TE) : Prop :=
  ∀ (pins : List (Addr × Obj)) (s : Shared) (σ : St) (H : Hp) (Q : VK), Inv X pins σ H s → t σ H Q → wpAny (model X.prog X.w) X.A (eval e X.env) (EP X pins σ Q) X.xe s
def PT (X : Cx) (e : Expr) (t : TT) : Prop :=
  ∀ (pins : List (Addr × Obj)) (s : Shared) (σ : St) (H : Hp) (Q : Bool → Hp → Prop), Inv X pins σ H s → t σ H Q → wpAny (model X.prog X.w) X.A (isTrue e X.env (eval e X.env)) (TP X pins σ Q) X.xe s
/-- a test whatever its 'whole' is (and, or) -/
def PW (X : Cx) (e : Expr) (t : TT) : Prop :=
  ∀ (whole : Sem Value) (pins : List (Addr × Obj)) (s : Shared) (σ : St) (H : Hp) (Q : Bool → Hp → Prop), Inv X pins σ H s → t σ H Q → wpAny (model X.prog X.w) X.A (isTrue e X.env whole) (TP X pins σ Q) X.xe s
theorem PW.pt {X : Cx} {e : Expr} {t : TT} (h : PW X e t) : PT X e t := h _
/-- an argument list (no star), from the left -/
def PA (X : Cx) (es : List Expr) (t : TA) : Prop :=
  ∀ (pos : Pos) (pins : List (Addr × Obj)) (s : Shared) (σ : St) (H : Hp) (Q : List V → Hp → Prop), Inv X pins σ H s → t σ H Q → wpAny (model X.prog X.w) X.A (spliced (backTo pos (starEach es X.env))) (AP X pins σ Q) X.xe s
def PS (X : Cx) (st : Stmt) (t : TS) : Prop :=
  ∀ (pins : List (Addr × Obj)) (s : Shared) (σ : St) (H : Hp) (D : Ends), Inv X pins σ H s → t D σ H → wpAny (model X.prog X.w) X.A (exec st X.env) (SP X pins D) X.xe s
def PSs (X : Cx) (st : List Stmt) (t : TS) : Prop :=
  ∀ (pins : List (Addr × Obj)) (s : Shared) (σ : St) (H : Hp) (D : Ends), Inv X pins σ H s → t D σ H → wpAny (model X.prog X.w) X.A (execs st X.env) (SP X pins D) X.xe s
/-- weaken the end -/
theorem thn {α : Type} {t : Sem α} {Q Q' : α → Shared → Prop} {M : Model} {A : Around} {E : Value → Shared → Prop} {s : Shared} (h : wpAny M A t Q E s) (hQ : ∀ a s, Q a s → Q' a s) : wpAny M A t Q' E s := wpAny_mono h hQ fun _ _ x => x
end L2

namespace L2
open PySem PySem.Spec PyProof.Rows
section
variable {X : Cx}

inductive IVar (i : Nat) (σ : St) (H : Hp) (Q : VK) : Prop
  | mk (v : V) (e : σ[i]? = some (some v)) (q : Q v H) : IVar i σ H Q
def tVar (i : Nat) : TE := fun σ H Q => IVar i σ H Q
inductive IBl (x : V) (Q : Bool → Prop) : Prop
  | mk (c : Bool) (e : x = .bl c) (q : Q c) : IBl x Q
def tC (v : V) : TE := fun _ H Q => Q v H
theorem pe_var {i : Nat} {x : Str} {pos : Pos} (hN : X.N[i]? = some x) (hv : Vis X.env.scope x) (hd : (x == ("__debug__" : Str)) = false := by decide) (hcd : (x == ("__classdict__" : Str)) = false := by decide) : PE X (.Name x pos) (tVar i) := by
  intro pins s σ H Q I h
  obtain ⟨v, e, h⟩ := h
  obtain ⟨m, hn, hl⟩ := I.loc
  obtain ⟨u, r, l⟩ := hl i x v hN e hv
  have fin : EP X pins σ Q u s := ⟨v, H, I, r, h⟩
  rcases l with ⟨hk, hm⟩ | ⟨hk, c, hc, hcell⟩
  · exact wpAny_Name (wpAny_loadName_local I.ok.kind hk hn hm fin) hd
  · rcases hk with hk | hk
    · exact wpAny_Name (wpAny_loadName_cell I.ok.kind hk hc hcell fin) hd
    · exact wpAny_Name (wpAny_loadName_free I.ok.kind hk hc hcell fin hcd) hd
theorem pe_int {i j pos} : PE X (.Constant (.int i) j pos) (tC (.int i)) := fun _ _ _ H _ I h => wpAny_Constant_int ⟨.int i, H, I.tok _, ⟨_, rfl⟩, h⟩
theorem pe_bl {b j pos} : PE X (.Constant (.bool b) j pos) (tC (.bl b)) := fun _ _ _ H _ I h => Constant_bool ⟨.bl b, H, I, rfl, h⟩
theorem pe_non {j pos} : PE X (.Constant .none j pos) (tC .non) := fun _ _ _ H _ I h => Constant_none ⟨.non, H, I, rfl, h⟩
theorem pe_str {x j pos} : PE X (.Constant (.str x) j pos) (tC (.str x)) := fun _ _ _ H _ I h => Calls.Constant_str ⟨.str x, H, I.tok _, ⟨_, rfl⟩, h⟩

/-- a global name of the def -/
def Gl (X : Cx) (x : Str) : Prop := X.env.kindOf x = some .globalImplicit
theorem ld_glob {E : Value → Shared → Prop} {pins : List (Addr × Obj)} {s : Shared} {σ : St} {H : Hp} {x : Str} {u : Value} {pos : Pos} {Q : Value → Shared → Prop} (I : Inv X pins σ H s) (hg : Gl X x) (hm : X.mg x = some u) (h : Q u s)
    (hd : (x == ("__debug__" : Str)) = false := by decide) : wpAny (model X.prog X.w) X.A (eval (.Name x pos) X.env) Q E s :=
  Calls.Name_function_global I.ok.kind hg (Calls.loadGlobal_global (by rw [I.ok.glob]; exact I.mod.glob.keeps I.bk) hm h) hd
theorem ld_blt {E : Value → Shared → Prop} {pins : List (Addr × Obj)} {s : Shared} {σ : St} {H : Hp} {x : Str} {u : Value} {pos : Pos} {Q : Value → Shared → Prop} (I : Inv X pins σ H s) (hg : Gl X x) (hm : X.mg x = none) (hv : bootBuiltins x = some u) (h : Q u s)
    (hn : x ≠ "__name__" := by decide) (hd : (x == ("__debug__" : Str)) = false := by decide) : wpAny (model X.prog X.w) X.A (eval (.Name x pos) X.env) Q E s := by
  obtain ⟨mb, h1, h2⟩ := I.mod.blt
  exact Calls.Name_function_global I.ok.kind hg (Calls.loadGlobal_builtin (by rw [I.ok.glob]; exact I.mod.glob.keeps I.bk) hm (by rw [I.ok.blt]; exact h1.keeps I.bk) ((h2 x hn).trans hv) h) hd
/-- a module's constant, a class, a function, as a value -/
theorem pe_glob {x : Str} {v : V} {u : Value} {pos : Pos} (hg : Gl X x) (hm : X.mg x = some u) (r : RelV v u) (hd : (x == ("__debug__" : Str)) = false := by decide) : PE X (.Name x pos) (tC v) :=
  fun _ _ _ H _ I h => ld_glob I hg hm ⟨v, H, I, r, h⟩ hd
theorem pe_bltn {x : Str} {v : V} {u : Value} {pos : Pos} (hg : Gl X x) (hm : X.mg x = none) (hv : bootBuiltins x = some u) (r : RelV v u) (hn : x ≠ "__name__" := by decide) (hd : (x == ("__debug__" : Str)) = false := by decide) : PE X (.Name x pos) (tC v) :=
  fun _ _ _ H _ I h => ld_blt I hg hm hv ⟨v, H, I, r, h⟩ hn hd

variable {a b : Expr} {ta tb : TE} {pos : Pos}
def PC (X : Cx) (op : CmpOp) (a b : Expr) (t : TE) : Prop :=
  ∀ (pins : List (Addr × Obj)) (s : Shared) (σ : St) (H : Hp) (Q : VK), Inv X pins σ H s → t σ H Q →
    wpAny (model X.prog X.w) X.A (eval a X.env) (fun v s₁ => wpAny (model X.prog X.w) X.A (eval b X.env) (fun u s₂ => wpAny (model X.prog X.w) X.A (compareOp op v u) (EP X pins σ Q) X.xe s₂) X.xe s₁) X.xe s
theorem nobehind (b : Expr) {op : CmpOp} (h : op ≠ .In) (h2 : op ≠ .NotIn) : behindInMarks op b = false := by
  have e1 : (op == CmpOp.In) = false := by cases op <;> first | rfl | exact absurd rfl h
  have e2 : (op == CmpOp.NotIn) = false := by cases op <;> first | rfl | exact absurd rfl h2
  cases b <;> simp [behindInMarks, e1, e2]
/-- a comparison as a value, as a test -/
def tB (t : TE) : TT := fun σ H Q => t σ H fun x H1 => IBl x fun c => Q c H1
theorem pt_cmp {op : CmpOp} {t : TE} (h : PC X op a b t) (h1 : behindInMarks op b = false := by first | exact nobehind _ (by decide) (by decide) | rfl) : PT X (.Compare a [op] [b] pos) (tB t) := by
  intro pins s σ H Q I hw
  refine wpAny_isTrue_Compare1 (thn (h pins s σ H _ I hw) fun v s1 h1 => thn h1 fun u s2 h2 => thn h2 fun c s3 ⟨x, H1, I1, r1, q1⟩ => ?_) h1
  obtain ⟨d, rfl, q⟩ := q1
  cases r1
  exact wpAny_truthy_bool ⟨H1, I1, q⟩
/-- an expression whose value is a bool, as a test -/
theorem pt_val {e : Expr} {t : TE} (h : PE X e t) (he : ∀ whole, isTrue e X.env whole = (do let v ← whole; standAt e.pos; holding [v] (truthy v)) := by intro _; rfl) : PT X e (tB t) := by
  intro pins s σ H Q I hw
  refine isTrue_plain (thn (h pins s σ H _ I hw) fun v s1 ⟨x, H1, I1, r1, q1⟩ => ?_) (he _)
  obtain ⟨d, rfl, q⟩ := q1
  cases r1
  exact wpAny_truthy_bool ⟨H1, I1, q⟩

variable {tA tB' : TT} {rest : List Expr}
def tAnd (t u : TT) : TT := fun σ H Q => t σ H fun c H1 => if c = true then u σ H1 Q else Q false H1
def tOr (t u : TT) : TT := fun σ H Q => t σ H fun c H1 => if c = true then Q true H1 else u σ H1 Q
def tNot (t : TT) : TT := fun σ H Q => t σ H fun c H1 => Q (!c) H1
theorem pw_and1 (ha : PT X a tA) : PW X (.BoolOp .And [a] pos) tA := by
  intro wh pins s σ H Q I h
  refine isTrue_and (thn (ha pins s σ H Q I h) fun c s1 e => ?_)
  cases c with
  | true => exact isTrue_and_nil e
  | false => exact e
theorem pw_or1 (ha : PT X a tA) : PW X (.BoolOp .Or [a] pos) tA := by
  intro wh pins s σ H Q I h
  refine isTrue_or (thn (ha pins s σ H Q I h) fun c s1 e => ?_)
  cases c with
  | false => exact isTrue_or_nil e
  | true => exact e
theorem pw_and (ha : PT X a tA) (hb : PW X (.BoolOp .And (b :: rest) pos) tB') : PW X (.BoolOp .And (a :: b :: rest) pos) (tAnd tA tB') := by
  intro wh pins s σ H Q I h
  refine isTrue_and (thn (ha pins s σ H _ I h) fun c s1 hz_ => ?_)
  obtain ⟨H1, I1, q1⟩ := hz_
  cases c with
  | true => exact hb wh pins s1 σ H1 Q I1 q1
  | false => exact ⟨H1, I1, q1⟩
theorem pw_or (ha : PT X a tA) (hb : PW X (.BoolOp .Or (b :: rest) pos) tB') : PW X (.BoolOp .Or (a :: b :: rest) pos) (tOr tA tB') := by
  intro wh pins s σ H Q I h
  refine isTrue_or (thn (ha pins s σ H _ I h) fun c s1 hz_ => ?_)
  obtain ⟨H1, I1, q1⟩ := hz_
  cases c with
  | true => exact ⟨H1, I1, q1⟩
  | false => exact hb wh pins s1 σ H1 Q I1 q1
theorem pt_not (ha : PT X a tA) : PT X (.UnaryOp .Not a pos) (tNot tA) := by
  intro pins s σ H Q I h
  exact isTrue_not (ha pins s σ H (fun c H1 => Q (!c) H1) I h)
/-- .. as values (bools) -/
def tAndV (ta tb : TE) : TE := fun σ H Q => ta σ H fun x H1 => IBl x fun c => if c = true then tb σ H1 Q else Q (.bl false) H1
def tOrV (ta tb : TE) : TE := fun σ H Q => ta σ H fun x H1 => IBl x fun c => if c = true then Q (.bl true) H1 else tb σ H1 Q
def tNotV (ta : TE) : TE := fun σ H Q => ta σ H fun x H1 => IBl x fun c => Q (.bl (!c)) H1
theorem pe_one {op} {t : TE} (h : PE X a t) : PE X (.BoolOp op [a] pos) t := fun pins s σ H Q I hw => BoolOp_one (h pins s σ H Q I hw)
theorem pe_and (ha : PE X a ta) (hb : PE X (.BoolOp .And (b :: rest) pos) tb) : PE X (.BoolOp .And (a :: b :: rest) pos) (tAndV ta tb) := by
  intro pins s σ H Q I h
  refine BoolOp_and (thn (ha pins s σ H _ I h) fun v s1 hz_ => ?_)
  obtain ⟨x, H1, I1, r1, q1⟩ := hz_
  obtain ⟨c, rfl, q1⟩ := q1
  cases r1
  refine wpAny_truthy_bool ?_
  cases c with
  | true => exact hb pins s1 σ H1 Q I1 q1
  | false => exact ⟨.bl false, H1, I1, rfl, q1⟩
theorem pe_or (ha : PE X a ta) (hb : PE X (.BoolOp .Or (b :: rest) pos) tb) : PE X (.BoolOp .Or (a :: b :: rest) pos) (tOrV ta tb) := by
  intro pins s σ H Q I h
  refine BoolOp_or (thn (ha pins s σ H _ I h) fun v s1 hz_ => ?_)
  obtain ⟨x, H1, I1, r1, q1⟩ := hz_
  obtain ⟨c, rfl, q1⟩ := q1
  cases r1
  refine wpAny_truthy_bool ?_
  cases c with
  | false => exact hb pins s1 σ H1 Q I1 q1
  | true => exact ⟨.bl true, H1, I1, rfl, q1⟩
theorem pe_not (ha : PE X a ta) : PE X (.UnaryOp .Not a pos) (tNotV ta) := by
  intro pins s σ H Q I h
  refine UnaryOp_ (thn (ha pins s σ H _ I h) fun v s1 hz_ => ?_)
  obtain ⟨x, H1, I1, r1, q1⟩ := hz_
  obtain ⟨c, rfl, q1⟩ := q1
  cases r1
  exact not_of (wpAny_truthy_bool ⟨.bl (!c), H1, I1, rfl, q1⟩)
end
end L2

namespace L2
open PySem PySem.Spec PyProof.Rows

def SqL (K : PySem.W.Frag) (H : Hp) (a : Addr) (xs : List V) : Prop :=
  Rd H a (.lst xs) ∨
    ∃ (o : Obj) (its : Array Value) (n : Nat), K.lookup a = some o ∧ o.cls = .type "list" ∧ o.dict = none ∧ o.data = .seq its n ∧ its.size ≤ sizeLine ∧ Vals xs its.toList
def SqT (K : PySem.W.Frag) (H : Hp) (a : Addr) (xs : List V) : Prop :=
  Rd H a (.tup xs) ∨
    ∃ (o : Obj) (its : Array Value) (n : Nat), K.lookup a = some o ∧ o.cls = .type "tuple" ∧ o.data = .seq its n ∧ its.size ≤ sizeLine ∧ Vals xs its.toList
def absV : Value → Option V
  | .none => some .non
  | .bool b => some (.bl b)
  | .int i _ => some (.int i)
  | .str x _ => some (.str x)
  | .bytes b _ => some (.byt b)
  | .float b _ => some (.flt b)
  | .ref a => some (.ref a)
  | .type n => some (.ty n)
  | _ => none
theorem RelV.abs {x : V} {u : Value} (r : RelV x u) : absV u = some x := by
  cases x with
  | non => cases r; rfl
  | bl _ => cases r; rfl
  | int _ => obtain ⟨t, rfl⟩ := r; rfl
  | str _ => obtain ⟨t, rfl⟩ := r; rfl
  | byt _ => obtain ⟨t, rfl⟩ := r; rfl
  | flt _ => obtain ⟨t, rfl⟩ := r; rfl
  | ref _ => cases r; rfl
  | ty _ => cases r; rfl
theorem RelV.inj {x y : V} {u : Value} (r : RelV x u) (q : RelV y u) : x = y := Option.some.inj (r.abs.symm.trans q.abs)
theorem Vals.inj : ∀ {xs ys : List V} {us : List Value}, Vals xs us → Vals ys us → xs = ys
  | _, _, _, .nil, .nil => rfl
  | _, _, _, .cons r t, .cons r' t' => by rw [r.inj r', Vals.inj t t']
section
variable {X : Cx} {pins : List (Addr × Obj)} {σ : St} {H : Hp} {s : Shared} {a : Addr} {xs ys : List V}
theorem SqL.of {K : PySem.W.Frag} (h : H a = some (.lst xs)) : SqL K H a xs := .inl (.inl h)
theorem SqT.of {K : PySem.W.Frag} (h : H a = some (.tup xs)) : SqT K H a xs := .inl (.inl h)
theorem Inv.list (I : Inv X pins σ H s) (h : SqL X.K H a xs) : ∃ its : List Value, Vals xs its ∧ PlainL s.heap a its.toArray ∧ xs.length ≤ sizeLine := by
  rcases h with h | ⟨o, its, n, hk, hc, hd, hs, hz, r⟩
  · obtain ⟨z, its, n, r, e⟩ := h.ok I.hok
    exact ⟨its, r, ⟨_, n, e, rfl, rfl, rfl⟩, z⟩
  · refine ⟨its.toList, r, ⟨o, n, I.kIn a o hk, hc, hd, by simpa using hs⟩, ?_⟩
    have e := r.length
    simp only [Array.length_toList] at e
    first | lia | omega
theorem Inv.tuple (I : Inv X pins σ H s) (h : SqT X.K H a xs) : ∃ its : List Value, Vals xs its ∧ IsTup s.heap a its.toArray ∧ xs.length ≤ sizeLine := by
  rcases h with h | ⟨o, its, n, hk, hc, hs, hz, r⟩
  · obtain ⟨z, its, r, p⟩ := h.ok I.hok
    exact ⟨its, r, p, z⟩
  · refine ⟨its.toList, r, ⟨o, I.kIn a o hk, hc, n, by simpa using hs⟩, ?_⟩
    have e := r.length
    simp only [Array.length_toList] at e
    first | lia | omega
theorem Inv.list_inj (I : Inv X pins σ H s) (h : SqL X.K H a xs) (h' : SqL X.K H a ys) : xs = ys := by
  obtain ⟨its, r, ⟨o, n, e, _, _, d⟩, _⟩ := I.list h
  obtain ⟨its', r', ⟨o', n', e', _, _, d'⟩, _⟩ := I.list h'
  rw [e] at e'; cases e'
  rw [d] at d'
  injection d' with d1 _
  have : its = its' := by simpa using congrArg Array.toList d1
  subst this
  exact r.inj r'
theorem Inv.tuple_inj (I : Inv X pins σ H s) (h : SqT X.K H a xs) (h' : SqT X.K H a ys) : xs = ys := by
  obtain ⟨its, r, ⟨o, e, _, n, d⟩, _⟩ := I.tuple h
  obtain ⟨its', r', ⟨o', e', _, n', d'⟩, _⟩ := I.tuple h'
  rw [e] at e'; cases e'
  rw [d] at d'
  injection d' with d1 _
  have : its = its' := by simpa using congrArg Array.toList d1
  subst this
  exact r.inj r'
end

abbrev Cx.wish (X : Cx) (E : Value → Shared → Prop) : Cx := { X with xe := E }
/-- no exception leaves -/
abbrev Cx.nox (X : Cx) : Cx := X.wish fun _ _ => False
theorem Cx.Ok.wish {X : Cx} (ok : X.Ok) (E : Value → Shared → Prop) : (X.wish E).Ok :=
  ⟨ok.mod, ok.kind, ok.glob, ok.blt, ok.above, ok.inj, ok.has, ok.cab, ok.hd, ok.frames, ok.stk, ok.exf, ok.bs, ok.bsz, ok.noex, ok.exfs, ok.funs, ok.frf⟩
theorem Cx.Ok.unwish {X : Cx} {E : Value → Shared → Prop} (ok : (X.wish E).Ok) : X.Ok :=
  ⟨ok.mod, ok.kind, ok.glob, ok.blt, ok.above, ok.inj, ok.has, ok.cab, ok.hd, ok.frames, ok.stk, ok.exf, ok.bs, ok.bsz, ok.noex, ok.exfs, ok.funs, ok.frf⟩
section
variable {X : Cx} {pins : List (Addr × Obj)} {σ : St} {H : Hp} {s : Shared} {E : Value → Shared → Prop}
theorem Inv.wish (I : Inv X pins σ H s) (E : Value → Shared → Prop) : Inv (X.wish E) pins σ H s := ⟨I.ok.wish E, I.os, I.bare, I.base, I.loc, I.cell, I.free, I.freeC, I.pin, I.hok, I.len⟩
theorem Inv.unwish (I : Inv (X.wish E) pins σ H s) : Inv X pins σ H s := ⟨I.ok.unwish, I.os, I.bare, I.base, I.loc, I.cell, I.free, I.freeC, I.pin, I.hok, I.len⟩
theorem SP.unwish {D : Ends} {f : Flow} {s' : Shared} (h : SP (X.wish E) pins D f s') : SP X pins D f s' := by
  cases f with
  | next => obtain ⟨σ', H', I, q⟩ := h; exact ⟨σ', H', I.unwish, q⟩
  | brk => obtain ⟨σ', H', I, q⟩ := h; exact ⟨σ', H', I.unwish, q⟩
  | cont => obtain ⟨σ', H', I, q⟩ := h; exact ⟨σ', H', I.unwish, q⟩
  | ret u => obtain ⟨v, σ', H', I, r, q⟩ := h; exact ⟨v, σ', H', I.unwish, r, q⟩
theorem PSs.nox {st : List Stmt} {t : TS} (h : PSs X.nox st t) : PSs X st t := fun pins s σ H D I hw =>
  wpAny_mono (h pins s σ H D (I.wish _) hw) (fun _ _ q => q.unwish) fun _ _ z => False.elim z
end

section
variable {X : Cx} {st : Stmt} {rest : List Stmt} {t u : TS} {e : Expr} {te : TE} {pos : Pos}
def tNext : TS := fun D σ H => D.nx σ H
def tSeq (t u : TS) : TS := fun D σ H => t { D with nx := u D } σ H
theorem pss_nil : PSs X [] tNext := fun _ _ σ H _ I h => wpAny_execs_nil ⟨σ, H, I, h⟩
theorem pss_cons (h1 : PS X st t) (h2 : PSs X rest u) : PSs X (st :: rest) (tSeq t u) := by
  intro pins s σ H D I h
  refine wpAny_execs_cons (thn (h1 pins s σ H { D with nx := u D } I h) fun f s1 q => ?_)
  cases f with
  | next =>
    obtain ⟨σ', H', I', q⟩ := q
    exact h2 pins s1 σ' H' D I' q
  | ret v => exact q
  | brk => exact q
  | cont => exact q
theorem pss_one (h1 : PS X st t) : PSs X [st] t := by
  intro pins s σ H D I h
  refine wpAny_execs_cons (thn (h1 pins s σ H D I h) fun f s1 q => ?_)
  cases f with
  | next => exact wpAny_execs_nil q
  | ret v => exact q
  | brk => exact q
  | cont => exact q
def tCont : TS := fun D σ H => D.ct σ H
theorem ps_continue : PS X (.Continue pos) tCont := fun _ _ σ H _ I h => wpAny_Continue ⟨σ, H, I, h⟩
/-- in a def's body nothing is shown -/
theorem Inv.quiet {pins : List (Addr × Obj)} {σ : St} {H : Hp} {s : Shared} (I : Inv X pins σ H s) : interactive X.env = false := by simp [interactive, I.ok.kind]
/-- an expression whose value is dropped -/
def tDrop (te : TE) : TS := fun D σ H => te σ H fun _ H1 => D.nx σ H1
theorem ps_expr (he : PE X e te) (hs : swapsWith e none pos.line X.env = pure false := by rfl) : PS X (.Expr e pos) (tDrop te) := by
  intro pins s σ H D I h
  exact wpAny_Expr_any (thn (he pins s σ H _ I h) fun v s1 ⟨x, H1, I1, r1, q1⟩ => ⟨σ, H1, I1, q1⟩) I.quiet hs
def tRet (te : TE) : TS := fun D σ H => te σ H D.rt
theorem ps_ret (he : PE X e te) : PS X (.Return (some e) pos) (tRet te) := by
  intro pins s σ H D I h
  exact wpAny_Return_some (thn (he pins s σ H _ I h) fun v s1 ⟨x, H1, I1, r1, q1⟩ => ⟨x, σ, H1, I1, r1, q1⟩)
def tIfS (c : TT) (t u : TS) : TS := fun D σ H => c σ H fun b H1 => if b = true then t D σ H1 else u D σ H1
theorem ps_if {c : Expr} {a b : List Stmt} {tc : TT} (hc : PT X c tc) (ha : PSs X a t) (hb : PSs X b u) : PS X (.If c a b pos) (tIfS tc t u) := by
  intro pins s σ H D I h
  refine wpAny_If (thn (hc pins s σ H _ I h) fun d s1 hz_ => ?_)
  obtain ⟨H1, I1, q1⟩ := hz_
  cases d with
  | true => exact ha pins s1 σ H1 D I1 q1
  | false => exact hb pins s1 σ H1 D I1 q1
end

abbrev TG := V → St → Hp → (St → Hp → Prop) → Prop
abbrev TGs := List V → St → Hp → (St → Hp → Prop) → Prop
def PG (X : Cx) (target : Expr) (t : TG) : Prop :=
  ∀ (pins : List (Addr × Obj)) (s : Shared) (σ : St) (H : Hp) (v : V) (u : Value) (Q : St → Hp → Prop), Inv X pins σ H s → RelV v u → t v σ H Q →
    wpAny (model X.prog X.w) X.A (assign target X.env u) (fun _ s' => ∃ σ' H', Inv X pins σ' H' s' ∧ Q σ' H') X.xe s
/-- several targets, one after another -/
def PGs (X : Cx) (ts : List Expr) (t : TGs) : Prop :=
  ∀ (pins : List (Addr × Obj)) (s : Shared) (σ : St) (H : Hp) (vs : List V) (us : List Value) (Q : St → Hp → Prop), Inv X pins σ H s → Vals vs us → t vs σ H Q →
    wpAny (model X.prog X.w) X.A (assignInOrder ((assignEach ts X.env).map (·.2)) us) (fun _ s' => ∃ σ' H', Inv X pins σ' H' s' ∧ Q σ' H') X.xe s
/-- o[i] = v, by values -/
abbrev TSet := V → V → V → Hp → (Hp → Prop) → Prop
def PSet (X : Cx) (t : TSet) : Prop :=
  ∀ (pins : List (Addr × Obj)) (s : Shared) (σ : St) (H : Hp) (o i v : V) (ov iv u : Value) (Q : Hp → Prop), Inv X pins σ H s → RelV o ov → RelV i iv → RelV v u → t o i v H Q →
    wpAny (model X.prog X.w) X.A (setItem ov iv u) (fun _ s' => ∃ H', Inv X pins σ H' s' ∧ Q H') X.xe s
section
variable {X : Cx} {pos : Pos}
def gName (i : Nat) : TG := fun v σ H Q => Q (σ.set i (some v)) H
theorem pg_name {i : Nat} {x : Str} (hN : X.N.Nodup) (hi : X.N[i]? = some x) (hx : Loc X.env.scope x) (hf : X.fn x = true ∨ X.env.scope.names.lookup x = some .local := by first | exact .inl rfl | exact .inr rfl | assumption) : PG X (.Name x pos) (gName i) := by
  intro pins s σ H v u Q I r h
  exact wpAny_assign_Name (store_ok I hN hi hx r (fun s' I' => ⟨_, H, I', h⟩) hf)
def gNil : TGs := fun vs σ H Q => vs = [] ∧ Q σ H
def gCons (t : TG) (u : TGs) : TGs := fun vs σ H Q => ∃ v r, vs = v :: r ∧ t v σ H fun σ' H' => u r σ' H' Q
theorem pgs_nil : PGs X [] gNil := by
  intro pins s σ H vs us Q I r h
  obtain ⟨e, h⟩ := h
  subst e
  cases r
  exact assignInOrder_nil ⟨σ, H, I, h⟩
theorem pgs_cons {e : Expr} {es : List Expr} {t : TG} {u : TGs} (h1 : PG X e t) (h2 : PGs X es u)
    (hs : (assignEach (e :: es) X.env).map (·.2) = assign e X.env :: (assignEach es X.env).map (·.2) := by rfl) : PGs X (e :: es) (gCons t u) := by
  intro pins s σ H vs us Q I r h
  obtain ⟨v, vr, e1, h⟩ := h
  subst e1
  cases r with
  | cons r rr =>
    rw [hs]
    refine assignInOrder_cons (thn (h1 pins s σ H _ _ _ I r h) fun _ s1 hz_ => ?_)
    obtain ⟨σ1, H1, I1, q1⟩ := hz_
    exact h2 pins s1 σ1 H1 _ _ Q I1 rr q1
/-- (a, b, ..) = a tuple of that length -/
inductive IgTup (K : PySem.W.Frag) (n : Nat) (t : TGs) (v : V) (σ : St) (H : Hp) (Q : St → Hp → Prop) : Prop
  | mk (a : Addr) (xs : List V) (e : v = .ref a) (s : SqT K H a xs) (l : xs.length = n) (q : t xs σ H Q) : IgTup K n t v σ H Q
def gTup (K : PySem.W.Frag) (n : Nat) (t : TGs) : TG := fun v σ H Q => IgTup K n t v σ H Q
theorem pg_tup {es : List Expr} {k : Nat} {t : TGs} {n : Nat} (hc : X.calm = true) (h : PGs X es t)
    (hn : (assignEach es X.env).length = n := by rfl) (hst : (assignEach es X.env).findIdx? (·.1) = none := by rfl) : PG X (.Tuple es k pos) (gTup X.K n t) := by
  intro pins s σ H v u Q I r hw
  obtain ⟨a, xs, e1, hq, hl, hw⟩ := hw
  subst e1
  cases r
  obtain ⟨its, rv, ht, hz⟩ := I.tuple hq
  refine assign_Tuple_tuple (I.ok.hd hc) ht (by simp [hn, ← hl, rv.length]) hst fun h' hx => ?_
  have I1 : Inv X pins σ H { s with heap := h' } := I.kept (t' := s.toks) fun b o e => hx b o (Nat.ne_of_lt (Heap.lt_size e)) e
  exact h pins _ σ H xs _ Q I1 (by simpa using rv) hw
/-- o[i] = .. -/
def gSub (to ti : TE) (t : TSet) : TG := fun v σ H Q => to σ H fun o H1 => ti σ H1 fun i H2 => t o i v H2 fun H3 => Q σ H3
theorem pg_sub {o i : Expr} {to ti : TE} {t : TSet} (ho : PE X o to) (hi : PE X i ti) (hs : PSet X t)
    (ha : ∀ v, assign (.Subscript o i pos) X.env v = (do
      let ov ← holding [v] (eval o X.env)
      let iv ← holding [v, ov] (eval i X.env)
      standAt pos
      holding [v, ov, iv] (setItem ov iv v)
      release [v, ov, iv] []) := by intro _; rfl) : PG X (.Subscript o i pos) (gSub to ti t) := by
  intro pins s σ H v u Q I r h
  rw [ha]
  refine wpAny_bind (wpAny_holding (thn (ho pins s σ H _ I h) fun ov s1 hz_ => ?_))
  obtain ⟨x, H1, I1, r1, q1⟩ := hz_
  refine wpAny_bind (wpAny_holding (thn (hi pins s1 σ H1 _ I1 q1) fun iv s2 hz_ => ?_))
  obtain ⟨y, H2, I2, r2, q2⟩ := hz_
  refine wpAny_bind (wpAny_standAt (wpAny_bind (wpAny_holding (thn (hs pins s2 σ H2 x y v ov iv u _ I2 r1 r2 r q2) fun _ s3 hz_ => ?_))))
  obtain ⟨H3, I3, q3⟩ := hz_
  exact wpAny_release ⟨σ, H3, I3, q3⟩
/-- target = value -/
def tAsg (te : TE) (g : TG) : TS := fun D σ H => te σ H fun x H1 => g x σ H1 D.nx
theorem ps_asg {tg e : Expr} {te : TE} {g : TG} (he : PE X e te) (hg : PG X tg g) (hs : swapsWithSole [tg] e pos.line X.env = pure false := by rfl) (hw : swappedStores [tg] e X.env = pure none := by rfl)
    (h1 : (assignEach [tg] X.env).map (·.2) = [assign tg X.env] := by rfl) : PS X (.Assign [tg] e pos) (tAsg te g) := by
  intro pins s σ H D I h
  refine wpAny_Assign_stores (thn (he pins s σ H _ I h) fun v s1 ⟨x, H1, I1, r1, q1⟩ => ?_) hs hw
  rw [h1]
  exact thn (hg pins s1 σ H1 x v _ I1 r1 q1) fun _ s2 q => q
/-- name = value -/
theorem ps_set {i : Nat} {x : Str} {e : Expr} {te : TE} {pos' : Pos} (hN : X.N.Nodup) (hi : X.N[i]? = some x) (hx : Loc X.env.scope x) (he : PE X e te) (hs : swapsWith e (some (.Name x pos')) pos.line X.env = pure false := by rfl) (hf : X.fn x = true ∨ X.env.scope.names.lookup x = some .local := by first | exact .inl rfl | exact .inr rfl | assumption) :
    PS X (.Assign [.Name x pos'] e pos) (tAsg te (gName i)) := by
  intro pins s σ H D I h
  refine wpAny_Assign_Name (thn (he pins s σ H _ I h) fun v s1 ⟨y, H1, I1, r1, q1⟩ => ?_) hs
  exact store_ok I1 hN hi hx r1 (fun s2 I2 => ⟨_, H1, I2, q1⟩) hf
end

section
variable {X : Cx} {pos : Pos}
/-- the invariant W with its measure -/
def tWhile (c : TT) (tb : TS) : TS := fun D σ H => ∃ W : Nat → St → Hp → Prop, (∃ m, W m σ H) ∧ ∀ m σ H, W m σ H →
  c σ H fun b H1 => if b = true then ∃ N : St → Hp → Prop, (∀ σ' H', N σ' H' → ∃ m', m' < m ∧ W m' σ' H') ∧ tb { D with nx := N, ct := N, bk := D.nx } σ H1 else D.nx σ H1
theorem ps_while {c : Expr} {body : List Stmt} {tc : TT} {tb : TS} (hp : PassesOwn (model X.prog X.w) X.A X.env X.xe) (hc : PT X c tc) (hb : PSs X body tb) : PS X (.While c body [] pos) (tWhile tc tb) := by
  intro pins s σ H D I h
  obtain ⟨W, ⟨m0, w0⟩, turn⟩ := h
  refine wpAny_While (codeAny_whileLoop (fun n s' => ∃ σ' H', Inv X pins σ' H' s' ∧ W n σ' H') ?_ m0 ⟨σ, H, I, w0⟩)
  rintro n s1 ⟨σ1, H1, I1, w1⟩
  refine wpAny_passesOwn hp (thn (hc pins s1 σ1 H1 _ I1 (turn n σ1 H1 w1)) fun b s2 hz_ => ?_)
  obtain ⟨H2, I2, q2⟩ := hz_
  cases b with
  | true =>
    obtain ⟨N, hN, q2⟩ := q2
    rw [if_pos rfl]
    refine wpAny_passesOwn hp (thn (hb pins s2 σ1 H2 _ I2 q2) fun f s3 q3 => ?_)
    cases f with
    | next =>
      obtain ⟨σ3, H3, I3, n3⟩ := q3
      obtain ⟨m', hm, w3⟩ := hN σ3 H3 n3
      exact ⟨m', hm, σ3, H3, I3, w3⟩
    | cont =>
      obtain ⟨σ3, H3, I3, n3⟩ := q3
      obtain ⟨m', hm, w3⟩ := hN σ3 H3 n3
      exact ⟨m', hm, σ3, H3, I3, w3⟩
    | brk => exact q3
    | ret v => exact q3
  | false =>
    rw [if_neg Bool.false_ne_true]
    exact wpAny_execs_nil ⟨σ1, H2, I2, q2⟩
end

/-- at turn i: it yields x (the heap may grow), or it stops -/
structure It where
  go : Nat → Hp → Prop
  yld : Nat → Hp → V → Hp → Prop
  stop : Nat → Hp → Prop
/-- the iterator's own objects may turn: they are not the frame's, not pinned, younger than the entry (or a comprehension's own) -/
def FpOk (X : Cx) (pins : List (Addr × Obj)) (H : Hp) (b : Addr) : Prop :=
  H b = none ∧ b ≠ X.env.locals ∧ b ∉ X.fs ∧ (b ∈ X.ex ∨ X.s₀.heap.objs.size ≤ b) ∧ (∀ x c, X.env.cells.lookup x = some c → c ≠ b) ∧ ∀ p ∈ X.pn ++ pins, p.1 ≠ b
theorem Inv.fpOk {X : Cx} {pins : List (Addr × Obj)} {σ : St} {H H' : Hp} {s : Shared} {b : Addr} (I : Inv X pins σ H s) (hb : s.heap.objs.size ≤ b) (hn : H' b = none) : FpOk X pins H' b := by
  refine ⟨hn, Nat.ne_of_gt (Nat.lt_of_lt_of_le I.lt hb), I.nofs hb, .inr (Nat.le_trans I.sz hb), fun x c e z => ?_, fun p hp z => ?_⟩
  · obtain ⟨v, q⟩ := I.cell x c e
    exact absurd (Nat.lt_of_lt_of_le q.lt (by rw [z]; exact hb)) (Nat.lt_irrefl _)
  · exact absurd (Nat.lt_of_lt_of_le (Heap.lt_size (I.pin p hp).1) (by rw [z]; exact hb)) (Nat.lt_irrefl _)
structure Turn (P : Program) (w : World) (K : PySem.W.Frag) (tg : Expr) (J : It) (fp : List Addr) (it : Addr) (tn : Nat → Heap → Prop) : Prop where
  mem : it ∈ fp
  obj : ∀ i h, tn i h → ∀ b ∈ fp, ∃ o, h.get? b = some o ∧ ∀ v, o.data ≠ .cell v
  keep : ∀ i h h', tn i h → (∀ b ∈ fp, ∀ o, h.get? b = some o → h'.get? b = some o) → tn i h'
  item : ∀ (X : Cx), X.prog = P → X.w = w → X.K = K → X.calm = true → ∀ (i : Nat) (pins : List (Addr × Obj)) (s : Shared) (σ : St) (H : Hp) (E : Value → Shared → Prop), Inv X pins σ H s → (∀ b ∈ fp, FpOk X pins H b) → tn i s.heap → J.go i H →
    wpAny (model P w) X.A (pyNext (.ref it)) (fun r s1 => ∃ u, r = some u ∧
      wpAny (model P w) X.A (letOwnedTupleGo tg (.ref it) u) (fun _ s2 => ∃ x H', Inv X pins σ H' s2 ∧ RelV x u ∧ J.yld i H x H' ∧ tn (i + 1) s2.heap ∧ ∀ b ∈ fp, H' b = none) E s1) E s
  done : ∀ (X : Cx), X.prog = P → X.w = w → X.K = K → X.calm = true → ∀ (i : Nat) (pins : List (Addr × Obj)) (s : Shared) (σ : St) (H : Hp) (E : Value → Shared → Prop), Inv X pins σ H s → (∀ b ∈ fp, FpOk X pins H b) → tn i s.heap → J.stop i H →
    wpAny (model P w) X.A (pyNext (.ref it)) (fun r s1 => r = none ∧ Inv X pins σ H s1) E s
  self : ∀ (A : Around) (i : Nat) (s : Shared) (Q : Value → Shared → Prop) (E : Value → Shared → Prop), tn i s.heap → Q (.ref it) s → wpAny (model P w) A (pyIter (.ref it)) Q E s
abbrev TI := St → Hp → (It → Hp → Prop) → Prop
/-- an iterator has come -/
def PIE (X : Cx) (pins : List (Addr × Obj)) (σ : St) (tg : Expr) (R : It → Hp → Prop) (itv : Value) (s2 : Shared) : Prop :=
  ∃ (it : Addr) (fp : List Addr) (tn : Nat → Heap → Prop) (J : It) (H' : Hp), itv = .ref it ∧ Inv X pins σ H' s2 ∧ Turn X.prog X.w X.K tg J fp it tn ∧ tn 0 s2.heap ∧ (∀ b ∈ fp, FpOk X pins H' b) ∧ R J H'
def PI (X : Cx) (tg iter : Expr) (wi : TI) : Prop :=
  ∀ (pins : List (Addr × Obj)) (s : Shared) (σ : St) (H : Hp) (R : It → Hp → Prop), Inv X pins σ H s → wi σ H R →
    wpAny (model X.prog X.w) X.A (eval iter X.env) (fun v s1 => wpAny (model X.prog X.w) X.A (pyIter v) (PIE X pins σ tg R) X.xe s1) X.xe s

/-- the step ahead of the store is nothing for an iterator that keeps no tuple -/
theorem go_of {M : Model} {A : Around} {E : Value → Shared → Prop} {s : Shared} {tg : Expr} {it : Addr} {u : Value} {o : Obj} {n : String} {vs : Array Value} {Q : Unit → Shared → Prop} (ho : s.heap.get? it = some o) (hc : o.cls = .type n) (hd : o.data = .fields vs)
    (hn : ["enumerate", "zip", "dict_itemiterator", "dict_reverseitemiterator", "odict_iterator", "itertools.zip_longest", "itertools.pairwise"].contains n = false) (hQ : Q () s) : wpAny M A (letOwnedTupleGo tg (.ref it) u) Q E s := by
  unfold letOwnedTupleGo
  cases tg <;> first
    | exact wpAny_pure hQ
    | (cases u <;> first
        | exact wpAny_pure hQ
        | (refine wpAny_bind (wpAny_load ho ?_)
           rw [hc, hd]
           show wpAny M A (if (["enumerate", "zip", "dict_itemiterator", "dict_reverseitemiterator", "odict_iterator", "itertools.zip_longest", "itertools.pairwise"].contains n && vs[0]? == some (rawInt _)) = true then _ else _) Q E s
           rw [if_neg (by intro h; rw [hn, Bool.false_and] at h; cases h)]
           exact wpAny_pure hQ))

/-- the list at a, as it stands at each turn (a loop may append to it) -/
def Itl (K : PySem.W.Frag) (a : Addr) : It :=
  ⟨fun i H => ∃ xs x, SqL K H a xs ∧ xs[i]? = some x, fun i H x H' => H' = H ∧ ∀ xs, SqL K H a xs → xs[i]? = some x, fun i H => ∃ xs, SqL K H a xs ∧ xs.length ≤ i⟩
def Itt (K : PySem.W.Frag) (a : Addr) : It :=
  ⟨fun i H => ∃ xs x, SqT K H a xs ∧ xs[i]? = some x, fun i H x H' => H' = H ∧ ∀ xs, SqT K H a xs → xs[i]? = some x, fun i H => ∃ xs, SqT K H a xs ∧ xs.length ≤ i⟩
/-- lo, lo + 1, .. (n of them) -/
def Itr (lo : Int) (n : Nat) : It := ⟨fun i _ => i < n, fun i H x H' => H' = H ∧ x = .int (lo + i), fun i _ => n ≤ i⟩
theorem turn_list {P : Program} {w : World} {K : PySem.W.Frag} {tg : Expr} (a it : Addr) : Turn P w K tg (Itl K a) [it] it (fun i h => h.IsListIter it a i) where
  mem := by simp
  obj := fun i h st b hb => by
    have e : b = it := by simpa using hb
    subst e
    obtain ⟨o, e, c, d⟩ := st
    exact ⟨o, e, fun v z => by rw [d] at z; cases z⟩
  keep := fun i h h' st k => st.at fun o e => k it (by simp) o e
  item := by
    intro X hP hw hK hc i pins s σ H E I hf st hg
    subst hP hw hK
    obtain ⟨xs, x, hq, hx⟩ := hg
    obtain ⟨its, rv, p, hz⟩ := I.list hq
    obtain ⟨u, hu, ru⟩ := rv.get hx
    obtain ⟨f0, f1, f2, f3, f4, f5⟩ := hf it (by simp)
    refine wpAny_pyNext_list_item st p.isList (x := u) (by simpa using hu) fun h' st' sb => ?_
    have I1 : Inv X pins σ H { s with heap := h' } := I.turned (t' := s.toks) (fun b o hb e => (sb.2 b hb).trans e) f0 f1 f3 f4 f5
    obtain ⟨o, e, c, d⟩ := id st'
    exact ⟨u, rfl, go_of (s := { s with heap := h' }) e c d (by decide) ⟨x, H, I1, ru, ⟨rfl, fun ys hy => by rw [I.list_inj hy hq]; exact hx⟩, st', fun b hb => (hf b hb).1⟩⟩
  done := by
    intro X hP hw hK hc i pins s σ H E I hf st hg
    subst hP hw hK
    obtain ⟨xs, hq, hx⟩ := hg
    obtain ⟨its, rv, p, hz⟩ := I.list hq
    obtain ⟨f0, f1, f2, f3, f4, f5⟩ := hf it (by simp)
    have hl := rv.length
    exact wpAny_pyNext_list_end (I.ok.hd hc) st p.isList (by simp; first | lia | omega) fun h' eb => ⟨rfl, I.turned (t' := s.toks) (fun b o hb e => eb b o hb e) f0 f1 f3 f4 f5⟩
  self := fun _ _ _ _ _ st h => wpAny_pyIter_listiter st h
theorem turn_tuple {P : Program} {w : World} {K : PySem.W.Frag} {tg : Expr} (a it : Addr) : Turn P w K tg (Itt K a) [it] it (fun i h => h.IsTupleIter it a i) where
  mem := by simp
  obj := fun i h st b hb => by
    have e : b = it := by simpa using hb
    subst e
    obtain ⟨o, e, c, d⟩ := st
    exact ⟨o, e, fun v z => by rw [d] at z; cases z⟩
  keep := fun i h h' st k => st.at fun o e => k it (by simp) o e
  item := by
    intro X hP hw hK hc i pins s σ H E I hf st hg
    subst hP hw hK
    obtain ⟨xs, x, hq, hx⟩ := hg
    obtain ⟨its, rv, p, hz⟩ := I.tuple hq
    obtain ⟨u, hu, ru⟩ := rv.get hx
    obtain ⟨f0, f1, f2, f3, f4, f5⟩ := hf it (by simp)
    refine wpAny_pyNext_tuple_item st (show s.heap.IsTuple a its.toArray from p) (x := u) (by simpa using hu) fun h' st' sb => ?_
    have I1 : Inv X pins σ H { s with heap := h' } := I.turned (t' := s.toks) (fun b o hb e => (sb.2 b hb).trans e) f0 f1 f3 f4 f5
    obtain ⟨o, e, c, d⟩ := id st'
    exact ⟨u, rfl, go_of (s := { s with heap := h' }) e c d (by decide) ⟨x, H, I1, ru, ⟨rfl, fun ys hy => by rw [I.tuple_inj hy hq]; exact hx⟩, st', fun b hb => (hf b hb).1⟩⟩
  done := by
    intro X hP hw hK hc i pins s σ H E I hf st hg
    subst hP hw hK
    obtain ⟨xs, hq, hx⟩ := hg
    obtain ⟨its, rv, p, hz⟩ := I.tuple hq
    obtain ⟨f0, f1, f2, f3, f4, f5⟩ := hf it (by simp)
    have hl := rv.length
    exact wpAny_pyNext_tuple_end (I.ok.hd hc) st (show s.heap.IsTuple a its.toArray from p) (by simp; first | lia | omega) fun h' eb => ⟨rfl, I.turned (t' := s.toks) (fun b o hb e => eb b o hb e) f0 f1 f3 f4 f5⟩
  self := fun _ _ _ _ _ st h => wpAny_pyIter_tupleiter st h
theorem turn_range {P : Program} {w : World} {K : PySem.W.Frag} {tg : Expr} (it : Addr) (lo : Int) (n : Nat) : Turn P w K tg (Itr lo n) [it] it (fun i h => IsRangeIter h it (lo + (i : Nat) * 1) ((n : Int) - (i : Nat)) 1) where
  mem := by simp
  obj := fun i h st b hb => by
    have e : b = it := by simpa using hb
    subst e
    exact ⟨_, st, fun v z => by
      have z' : Data.fields _ = Data.cell v := z
      cases z'⟩
  keep := fun i h h' st k => k it (by simp) _ st
  item := by
    intro X hP hw hK hc i pins s σ H E I hf st hg
    subst hP hw hK
    obtain ⟨f0, f1, f2, f3, f4, f5⟩ := hf it (by simp)
    have W := Walks.range (prog := X.prog) (w := X.w) (I.ok.hd hc) it lo 1 n
    refine W.item i s _ _ hg st fun v h' tk hv st' kk => ?_
    obtain ⟨t, rfl⟩ := hv
    have I1 : Inv X pins σ H { s with heap := h', toks := tk } := I.turned (fun b o hb e => kk b o (by simpa using hb) e) f0 f1 f3 f4 f5
    refine ⟨_, rfl, go_of (s := { s with heap := h', toks := tk }) (n := "range_iterator") st' rfl rfl (by decide) ⟨.int (lo + i), H, I1, ⟨t, ?_⟩, ⟨rfl, rfl⟩, st', fun b hb => (hf b hb).1⟩⟩
    rw [Int.mul_one]
  done := by
    intro X hP hw hK hc i pins s σ H E I hf st hg
    subst hP hw hK
    obtain ⟨f0, f1, f2, f3, f4, f5⟩ := hf it (by simp)
    exact wpAny_pyNext_range_end (I.ok.hd hc) st (by have : n ≤ i := hg; first | lia | omega) fun h' eb => ⟨rfl, I.turned (t' := s.toks) (fun b o hb e => eb b o hb e) f0 f1 f3 f4 f5⟩
  self := fun _ _ _ _ _ st h => wpAny_pyIter_rangeiter st h
end L2

namespace L2
open PySem PySem.Spec PyProof.Rows
section
variable {X : Cx} {tg : Expr}
inductive IRef (x : V) (S Q : Addr → Prop) : Prop
  | mk (a : Addr) (e : x = .ref a) (s : S a) (q : Q a) : IRef x S Q
def iList (K : PySem.W.Frag) (tl : TE) : TI := fun σ H R => tl σ H fun x H1 => IRef x (fun a => ∃ xs, SqL K H1 a xs) fun a => R (Itl K a) H1
def iTup (K : PySem.W.Frag) (tl : TE) : TI := fun σ H R => tl σ H fun x H1 => IRef x (fun a => ∃ xs, SqT K H1 a xs) fun a => R (Itt K a) H1
theorem pi_list {l : Expr} {tl : TE} (hl : PE X l tl) : PI X tg l (iList X.K tl) := by
  intro pins s σ H R I h
  refine thn (hl pins s σ H _ I h) fun v s1 hz_ => ?_
  obtain ⟨x, H1, I1, r1, q1⟩ := hz_
  obtain ⟨a, e, ⟨xs, hq⟩, q⟩ := q1
  subst e
  cases r1
  obtain ⟨its, rv, p, hz⟩ := I1.list hq
  refine wpAny_pyIter_list p.isList ?_
  refine ⟨s1.heap.objs.size, [s1.heap.objs.size], _, _, H1, rfl, I1.kept (t' := s1.toks) fun b o e => Heap.get?_push_of_some _ e, turn_list a _, ⟨_, Heap.get?_push_size _ rfl, rfl, rfl⟩, fun b hb => ?_, q⟩
  have e : b = s1.heap.objs.size := by simpa using hb
  subst e
  exact I1.fpOk (Nat.le_refl _) (I1.hok.fresh (Nat.le_refl _))
theorem pi_tup {l : Expr} {tl : TE} (hl : PE X l tl) : PI X tg l (iTup X.K tl) := by
  intro pins s σ H R I h
  refine thn (hl pins s σ H _ I h) fun v s1 hz_ => ?_
  obtain ⟨x, H1, I1, r1, q1⟩ := hz_
  obtain ⟨a, e, ⟨xs, hq⟩, q⟩ := q1
  subst e
  cases r1
  obtain ⟨its, rv, p, hz⟩ := I1.tuple hq
  refine wpAny_pyIter_tuple (show s1.heap.IsTuple a its.toArray from p) ?_
  refine ⟨s1.heap.objs.size, [s1.heap.objs.size], _, _, H1, rfl, I1.kept (t' := s1.toks) fun b o e => Heap.get?_push_of_some _ e, turn_tuple a _, ⟨_, Heap.get?_push_size _ rfl, rfl, rfl⟩, fun b hb => ?_, q⟩
  have e : b = s1.heap.objs.size := by simpa using hb
  subst e
  exact I1.fpOk (Nat.le_refl _) (I1.hok.fresh (Nat.le_refl _))
/-- a range object just made, walked -/
theorem range_it {pins : List (Addr × Obj)} {σ : St} {H : Hp} {s : Shared} {R : It → Hp → Prop} {E : Value → Shared → Prop} {lo hi : Int} {t u v : Tok} {tk : Nat} (I : Inv X pins σ H s) (h1 : -(2 ^ 62) ≤ lo) (h2 : lo < 2 ^ 62) (h3 : -(2 ^ 62) ≤ hi) (h4 : hi < 2 ^ 62)
    (q : R (Itr lo (hi - lo).toNat) H) : wpAny (model X.prog X.w) X.A (pyIter (.ref s.heap.objs.size)) (PIE X pins σ tg R) E { s with heap := s.heap.push { cls := .type "range", data := .fields #[.int lo t, .int hi u, .int 1 v] }, toks := tk } := by
  refine wpAny_pyIter_range (IsRange.new ..) (small_one h1 h2 h3 h4) ?_
  have I1 : Inv X pins σ H { s with heap := s.heap.push { cls := .type "range", data := .fields #[.int lo t, .int hi u, .int 1 v] }, toks := tk } := I.kept fun b o e => Heap.get?_push_of_some _ e
  refine ⟨(s.heap.push { cls := .type "range", data := .fields #[.int lo t, .int hi u, .int 1 v] }).objs.size, [(s.heap.push { cls := .type "range", data := .fields #[.int lo t, .int hi u, .int 1 v] }).objs.size], _, _, H, rfl,
    I1.kept (t' := tk) fun b o e => Heap.get?_push_of_some _ e, turn_range _ lo (hi - lo).toNat, ?_, fun b hb => ?_, q⟩
  · have e1 : lo + ((0 : Nat) : Int) * 1 = lo := by simp
    have e2 : (((hi - lo).toNat : Nat) : Int) - ((0 : Nat) : Int) = Builtin.Range.rangeSize lo hi 1 := by rw [rangeSize_one]; split <;> first | lia | omega
    show IsRangeIter _ _ (lo + ((0 : Nat) : Int) * 1) ((((hi - lo).toNat : Nat) : Int) - ((0 : Nat) : Int)) 1
    rw [e1, e2]
    exact Heap.get?_push_size _ rfl
  · have e : b = (s.heap.push { cls := .type "range", data := .fields #[.int lo t, .int hi u, .int 1 v] }).objs.size := by simpa using hb
    subst e
    exact I1.fpOk (Nat.le_refl _) (I1.hok.fresh (Nat.le_refl _))
inductive IRng1 (vs : List V) (R : Int → Prop) : Prop
  | mk (j : Int) (e : vs = [.int j]) (l : -(2 ^ 62) ≤ j) (h : j < 2 ^ 62) (q : R j) : IRng1 vs R
def iRng1 (ta : TA) : TI := fun σ H R => ta σ H fun vs H1 => IRng1 vs fun j => R (Itr 0 j.toNat) H1
inductive IRng2 (vs : List V) (R : Int → Int → Prop) : Prop
  | mk (i j : Int) (e : vs = [.int i, .int j]) (l : -(2 ^ 62) ≤ i ∧ i < 2 ^ 62 ∧ -(2 ^ 62) ≤ j ∧ j < 2 ^ 62) (q : R i j) : IRng2 vs R
def iRng2 (ta : TA) : TI := fun σ H R => ta σ H fun vs H1 => IRng2 vs fun i j => R (Itr i (j - i).toNat) H1
theorem pi_range1 {a : Expr} {ta : TA} {p pos : Pos} (hg : Gl X "range") (hm : X.mg "range" = none) (ha : PA X [a] ta) (hs : starEach [a] X.env = [(false, eval a X.env)] := by rfl) : PI X tg (.Call (.Name "range" p) [a] [] pos) (iRng1 ta) := by
  intro pins s σ H R I h
  refine Call_ (ld_blt I hg hm boot_range (PyProof.Rows.callWith_type1 (thn (ha pos pins s σ H _ I h) fun us s1 ⟨vs, H1, I1, r1, q1⟩ => ?_) hs rfl))
  obtain ⟨j, e, q1, q2, q⟩ := q1
  subst e
  cases r1 with
  | cons r rr =>
    cases rr
    obtain ⟨t, rfl⟩ := r
    exact call_range_1 (range_it I1 (by first | lia | omega) (by first | lia | omega) q1 q2 (by simpa using q))
theorem pi_range2 {a b : Expr} {ta : TA} {p pos : Pos} (hg : Gl X "range") (hm : X.mg "range" = none) (ha : PA X [a, b] ta) (hs : starEach [a, b] X.env = [(false, eval a X.env), (false, eval b X.env)] := by rfl) (hs2 : starEach [b] X.env = [(false, eval b X.env)] := by rfl) :
    PI X tg (.Call (.Name "range" p) [a, b] [] pos) (iRng2 ta) := by
  intro pins s σ H R I h
  refine Call_ (ld_blt I hg hm boot_range (PyProof.Rows.callWith_type1 (thn (ha pos pins s σ H _ I h) fun us s1 ⟨vs, H1, I1, r1, q1⟩ => ?_) (by rw [hs, hs2]) (by rw [hs2]; rfl)))
  obtain ⟨i, j, e, ⟨q1, q2, q3, q4⟩, q⟩ := q1
  subst e
  cases r1 with
  | cons r rr =>
    cases rr with
    | cons r' rr =>
      cases rr
      obtain ⟨t, rfl⟩ := r
      obtain ⟨t', rfl⟩ := r'
      exact call_range_2 (range_it I1 q1 q2 q3 q4 q)

/-- W: the invariant by the turn and a measure; N: what the body is to reach -/
def tFor (wi : TI) (g : TG) (tb : TS) : TS := fun D σ H => wi σ H fun J H1 => ∃ W : Nat → Nat → St → Hp → Prop, (∃ m, W 0 m σ H1) ∧ ∀ i m σ H, W i m σ H →
  (J.stop i H ∧ D.nx σ H) ∨ (J.go i H ∧ ∃ N : St → Hp → Prop, (∀ σ' H', N σ' H' → ∃ m', m' < m ∧ W (i + 1) m' σ' H') ∧ ∀ x H', J.yld i H x H' → g x σ H' fun σ2 H2 => tb { D with nx := N, ct := N, bk := D.nx } σ2 H2)
/-- the records at fp as they stand -/
def pinsAt (fp : List Addr) (h : Heap) : List (Addr × Obj) := fp.filterMap fun b => (h.get? b).map fun o => (b, o)
theorem mem_pinsAt {fp : List Addr} {h : Heap} {b : Addr} {o : Obj} (hb : b ∈ fp) (e : h.get? b = some o) : (b, o) ∈ pinsAt fp h := List.mem_filterMap.mpr ⟨b, hb, by rw [e]; rfl⟩
theorem of_pinsAt {fp : List Addr} {h : Heap} {p : Addr × Obj} (hp : p ∈ pinsAt fp h) : p.1 ∈ fp ∧ h.get? p.1 = some p.2 := by
  obtain ⟨b, hb, e⟩ := List.mem_filterMap.mp hp
  cases q : h.get? b with
  | none => rw [q] at e; cases e
  | some o =>
    rw [q] at e
    have e' : (b, o) = p := Option.some.inj e
    subst e'
    exact ⟨hb, q⟩
theorem Inv.pinned {pins : List (Addr × Obj)} {σ : St} {H : Hp} {s : Shared} {fp : List Addr} (I : Inv X pins σ H s) (hf : ∀ b ∈ fp, FpOk X pins H b) (ho : ∀ b ∈ fp, ∃ o, s.heap.get? b = some o ∧ ∀ v, o.data ≠ .cell v) : Inv X (pins ++ pinsAt fp s.heap) σ H s :=
  I.pins_of fun p hp => (List.mem_append.mp hp).elim (fun z => I.pin p (List.mem_append_right _ z)) fun z => by
    obtain ⟨hb, e⟩ := of_pinsAt z
    obtain ⟨f0, f1, f2, _⟩ := hf p.1 hb
    obtain ⟨o, e', d⟩ := ho p.1 hb
    rw [e] at e'; cases e'
    exact ⟨e, f0, f1, f2, d⟩
theorem Inv.unpinned {pins pl : List (Addr × Obj)} {σ : St} {H : Hp} {s : Shared} (I : Inv X (pins ++ pl) σ H s) : Inv X pins σ H s := I.pins_of fun p hp => I.pin p (List.mem_append_right _ (List.mem_append_left _ hp))
theorem ps_for {iter : Expr} {body : List Stmt} {wi : TI} {g : TG} {tb : TS} {pos : Pos} (hp : PassesOwn (model X.prog X.w) X.A X.env X.xe) (hc : X.calm = true) (hi : PI X tg iter wi) (hg : PG X tg g) (hb : PSs X body tb)
    (hs : ∀ x, foldedSetIterable iter X.env x = pure x := by intro _; rfl) : PS X (.For tg iter body [] pos) (tFor wi g tb) := by
  intro pins s σ H D I h
  refine wpAny_For (thn (hi pins s σ H _ I h) fun v s1 h1 => thn h1 fun itv s2 h2 => ?_) hs
  obtain ⟨it, fp, tn, J, H2, e, I2, T, st2, f2, W, ⟨m0, w0⟩, turn⟩ := h2
  subst e
  -- what stays true of the iterator's objects through the loop
  have stat : ∀ {H' : Hp}, (∀ b ∈ fp, H' b = none) → ∀ b ∈ fp, FpOk X pins H' b := fun hn b hb => ⟨hn b hb, (f2 b hb).2⟩
  refine codeAny_forLoop_any (fun n s' => ∃ i σ' H', Inv X pins σ' H' s' ∧ tn i s'.heap ∧ (∀ b ∈ fp, H' b = none) ∧ W i n σ' H') ?_ m0 ⟨0, σ, H2, I2, st2, fun b hb => (f2 b hb).1, w0⟩
  rintro n s3 ⟨i, σ3, H3, I3, st3, fr3, w3⟩
  rcases turn i n σ3 H3 w3 with ⟨stop, qn⟩ | ⟨go, N, hN, step⟩
  · refine wpAny_passesOwn hp (thn (T.done X rfl rfl rfl hc i pins s3 σ3 H3 X.xe I3 (stat fr3) st3 stop) fun r s4 hz_ => ?_)
    obtain ⟨hr, I4⟩ := hz_
    subst hr
    exact wpAny_execs_nil ⟨σ3, H3, I4, qn⟩
  · refine wpAny_passesOwn hp (thn (T.item X rfl rfl rfl hc i pins s3 σ3 H3 X.xe I3 (stat fr3) st3 go) fun r s4 hz_ => ?_)
    obtain ⟨u, hr, h4⟩ := hz_
    subst hr
    refine wpAny_passesOwn hp (thn h4 fun _ s5 hz_ => ?_)
    obtain ⟨x, H5, I5, r5, y5, st5, fr5⟩ := hz_
    have I5' := I5.pinned (stat fr5) (T.obj _ _ st5)
    refine wpAny_passesOwn hp (thn (hg _ s5 σ3 H5 x u _ I5' r5 (step x H5 y5)) fun _ s6 hz_ => ?_)
    obtain ⟨σ6, H6, I6, q6⟩ := hz_
    refine wpAny_passesOwn hp (thn (hb _ s6 σ6 H6 _ I6 q6) fun f s7 q7 => ?_)
    have again : ∀ {σ7 : St} {H7 : Hp}, Inv X (pins ++ pinsAt fp s5.heap) σ7 H7 s7 → N σ7 H7 → ∃ m, m < n ∧ ∃ i σ' H', Inv X pins σ' H' s7 ∧ tn i s7.heap ∧ (∀ b ∈ fp, H' b = none) ∧ W i m σ' H' := fun {σ7 H7} I7 n7 => by
      obtain ⟨m', hm, w7⟩ := hN σ7 H7 n7
      refine ⟨m', hm, i + 1, σ7, H7, I7.unpinned, T.keep _ _ _ st5 fun b hb o e => (I7.pin (b, o) (List.mem_append_right _ (List.mem_append_right _ (mem_pinsAt hb e)))).1, fun b hb => ?_, w7⟩
      obtain ⟨o, e, d⟩ := T.obj _ _ st5 b hb
      exact (I7.pin (b, o) (List.mem_append_right _ (List.mem_append_right _ (mem_pinsAt hb e)))).2.1
    cases f with
    | next => obtain ⟨σ7, H7, I7, n7⟩ := q7; exact again I7 n7
    | cont => obtain ⟨σ7, H7, I7, n7⟩ := q7; exact again I7 n7
    | brk => obtain ⟨σ7, H7, I7, q7⟩ := q7; exact ⟨σ7, H7, I7.unpinned, q7⟩
    | ret v => obtain ⟨x7, σ7, H7, I7, r7, q7⟩ := q7; exact ⟨x7, σ7, H7, I7.unpinned, r7, q7⟩
end

/-- over a list that the body leaves as it is -/
theorem for_list {K : PySem.W.Frag} {a : Addr} {xs : List V} {g : TG} {tb : TS} {D : Ends} {σ : St} {H : Hp} (Pv : Nat → St → Hp → Prop) (h0 : Pv 0 σ H) (hl : ∀ i σ H, i ≤ xs.length → Pv i σ H → SqL K H a xs)
    (hs : ∀ i x σ H, xs[i]? = some x → Pv i σ H → g x σ H fun σ2 H2 => tb { D with nx := Pv (i + 1), ct := Pv (i + 1), bk := D.nx } σ2 H2) (hd : ∀ σ H, Pv xs.length σ H → D.nx σ H) :
    ∃ W : Nat → Nat → St → Hp → Prop, (∃ m, W 0 m σ H) ∧ ∀ i m σ H, W i m σ H →
      ((Itl K a).stop i H ∧ D.nx σ H) ∨ ((Itl K a).go i H ∧ ∃ N : St → Hp → Prop, (∀ σ' H', N σ' H' → ∃ m', m' < m ∧ W (i + 1) m' σ' H') ∧ ∀ x H', (Itl K a).yld i H x H' → g x σ H' fun σ2 H2 => tb { D with nx := N, ct := N, bk := D.nx } σ2 H2) := by
  refine ⟨fun i m σ H => m = xs.length - i ∧ i ≤ xs.length ∧ Pv i σ H, ⟨xs.length, by simp, Nat.zero_le _, h0⟩, ?_⟩
  rintro i m σ H ⟨rfl, hi, p⟩
  have q := hl i σ H hi p
  by_cases hlt : i < xs.length
  · refine .inr ⟨⟨xs, xs[i], q, by simp [hlt]⟩, Pv (i + 1), fun σ' H' p' => ⟨xs.length - (i + 1), by first | lia | omega, rfl, hlt, p'⟩, fun x H' y => ?_⟩
    obtain ⟨e, y⟩ := y
    subst e
    exact hs i x σ _ (y xs q) p
  · have e : i = xs.length := by first | lia | omega
    subst e
    exact .inl ⟨⟨xs, q, Nat.le_refl _⟩, hd σ H p⟩
theorem for_tup {K : PySem.W.Frag} {a : Addr} {xs : List V} {g : TG} {tb : TS} {D : Ends} {σ : St} {H : Hp} (Pv : Nat → St → Hp → Prop) (h0 : Pv 0 σ H) (hl : ∀ i σ H, i ≤ xs.length → Pv i σ H → SqT K H a xs)
    (hs : ∀ i x σ H, xs[i]? = some x → Pv i σ H → g x σ H fun σ2 H2 => tb { D with nx := Pv (i + 1), ct := Pv (i + 1), bk := D.nx } σ2 H2) (hd : ∀ σ H, Pv xs.length σ H → D.nx σ H) :
    ∃ W : Nat → Nat → St → Hp → Prop, (∃ m, W 0 m σ H) ∧ ∀ i m σ H, W i m σ H →
      ((Itt K a).stop i H ∧ D.nx σ H) ∨ ((Itt K a).go i H ∧ ∃ N : St → Hp → Prop, (∀ σ' H', N σ' H' → ∃ m', m' < m ∧ W (i + 1) m' σ' H') ∧ ∀ x H', (Itt K a).yld i H x H' → g x σ H' fun σ2 H2 => tb { D with nx := N, ct := N, bk := D.nx } σ2 H2) := by
  refine ⟨fun i m σ H => m = xs.length - i ∧ i ≤ xs.length ∧ Pv i σ H, ⟨xs.length, by simp, Nat.zero_le _, h0⟩, ?_⟩
  rintro i m σ H ⟨rfl, hi, p⟩
  have q := hl i σ H hi p
  by_cases hlt : i < xs.length
  · refine .inr ⟨⟨xs, xs[i], q, by simp [hlt]⟩, Pv (i + 1), fun σ' H' p' => ⟨xs.length - (i + 1), by first | lia | omega, rfl, hlt, p'⟩, fun x H' y => ?_⟩
    obtain ⟨e, y⟩ := y
    subst e
    exact hs i x σ _ (y xs q) p
  · have e : i = xs.length := by first | lia | omega
    subst e
    exact .inl ⟨⟨xs, q, Nat.le_refl _⟩, hd σ H p⟩
theorem for_range {lo : Int} {n : Nat} {g : TG} {tb : TS} {D : Ends} {σ : St} {H : Hp} (Pv : Nat → St → Hp → Prop) (h0 : Pv 0 σ H)
    (hs : ∀ i σ H, i < n → Pv i σ H → g (.int (lo + i)) σ H fun σ2 H2 => tb { D with nx := Pv (i + 1), ct := Pv (i + 1), bk := D.nx } σ2 H2) (hd : ∀ σ H, Pv n σ H → D.nx σ H) :
    ∃ W : Nat → Nat → St → Hp → Prop, (∃ m, W 0 m σ H) ∧ ∀ i m σ H, W i m σ H →
      ((Itr lo n).stop i H ∧ D.nx σ H) ∨ ((Itr lo n).go i H ∧ ∃ N : St → Hp → Prop, (∀ σ' H', N σ' H' → ∃ m', m' < m ∧ W (i + 1) m' σ' H') ∧ ∀ x H', (Itr lo n).yld i H x H' → g x σ H' fun σ2 H2 => tb { D with nx := N, ct := N, bk := D.nx } σ2 H2) := by
  refine ⟨fun i m σ H => m = n - i ∧ i ≤ n ∧ Pv i σ H, ⟨n, by simp, Nat.zero_le _, h0⟩, ?_⟩
  rintro i m σ H ⟨rfl, hi, p⟩
  by_cases hlt : i < n
  · refine .inr ⟨hlt, Pv (i + 1), fun σ' H' p' => ⟨n - (i + 1), by first | lia | omega, rfl, hlt, p'⟩, fun x H' y => ?_⟩
    obtain ⟨e, y⟩ := y
    subst e y
    exact hs i σ _ hlt p
  · have e : i = n := by first | lia | omega
    subst e
    exact .inl ⟨Nat.le_refl _, hd σ H p⟩
/-- while, by a word and a measure of the state -/
theorem while_by {c : TT} {tb : TS} {D : Ends} {σ : St} {H : Hp} (Pv : St → Hp → Prop) (μ : St → Hp → Nat) (h0 : Pv σ H)
    (hs : ∀ σ H, Pv σ H → c σ H fun b H1 => if b = true then tb { D with nx := fun σ' H' => Pv σ' H' ∧ μ σ' H' < μ σ H, ct := fun σ' H' => Pv σ' H' ∧ μ σ' H' < μ σ H, bk := D.nx } σ H1 else D.nx σ H1)
    (mono : ∀ σ H Q Q', (∀ b H1, Q b H1 → Q' b H1) → c σ H Q → c σ H Q') : tWhile c tb D σ H := by
  refine ⟨fun m σ H => m = μ σ H ∧ Pv σ H, ⟨_, rfl, h0⟩, ?_⟩
  rintro m σ H ⟨rfl, p⟩
  refine mono σ H _ _ (fun b H1 q => ?_) (hs σ H p)
  cases b with
  | true => exact ⟨_, fun σ' H' ⟨p', l⟩ => ⟨_, l, rfl, p'⟩, q⟩
  | false => exact q
end L2

namespace L2
open PySem PySem.Spec PyProof.Rows

abbrev R2 := V → V → Hp → VK → Prop
/-- a two-place operation on values: f is binaryOp op, inplaceOp op or compareOp op -/
def OpR (X : Cx) (f : Value → Value → Sem Value) (r : R2) : Prop :=
  ∀ (pins : List (Addr × Obj)) (s : Shared) (σ : St) (H : Hp) (x y : V) (v u : Value) (Q : VK), Inv X pins σ H s → RelV x v → RelV y u → r x y H Q →
    wpAny (model X.prog X.w) X.A (f v u) (EP X pins σ Q) X.xe s
/-- a one-place operation -/
def UnR (X : Cx) (f : Value → Sem Value) (r : V → Hp → VK → Prop) : Prop :=
  ∀ (pins : List (Addr × Obj)) (s : Shared) (σ : St) (H : Hp) (x : V) (v : Value) (Q : VK), Inv X pins σ H s → RelV x v → r x H Q →
    wpAny (model X.prog X.w) X.A (f v) (EP X pins σ Q) X.xe s
/-- a call of a value that is known (a builtin, a type) with values -/
def CallR (X : Cx) (f : Value) (r : List V → Hp → VK → Prop) : Prop :=
  ∀ (pins : List (Addr × Obj)) (s : Shared) (σ : St) (H : Hp) (xs : List V) (us : List Value) (Q : VK), Inv X pins σ H s → Vals xs us → r xs H Q →
    wpAny (model X.prog X.w) X.A (call f us) (EP X pins σ Q) X.xe s
def tOp (r : R2) (ta tb : TE) : TE := fun σ H Q => ta σ H fun x H1 => tb σ H1 fun y H2 => r x y H2 Q
def tUn (r : V → Hp → VK → Prop) (ta : TE) : TE := fun σ H Q => ta σ H fun x H1 => r x H1 Q
/-- ints in, under C, and a value out -/
inductive II1 (C : Int → Int → Prop) (g : Int → Int → V) (x y : V) (H : Hp) (Q : VK) : Prop
  | mk (i j : Int) (e1 : x = .int i) (e2 : y = .int j) (c : C i j) (q : Q (g i j) H) : II1 C g x y H Q
inductive II0 (g : Int → Int → V) (x y : V) (H : Hp) (Q : VK) : Prop
  | mk (i j : Int) (e1 : x = .int i) (e2 : y = .int j) (q : Q (g i j) H) : II0 g x y H Q
inductive IU (g : Int → V) (x : V) (H : Hp) (Q : VK) : Prop
  | mk (i : Int) (e : x = .int i) (q : Q (g i) H) : IU g x H Q
def rI (C : Int → Int → Prop) (g : Int → Int → V) : R2 := fun x y H Q => II1 C g x y H Q
def rI0 (g : Int → Int → V) : R2 := fun x y H Q => II0 g x y H Q
def rU (g : Int → V) : V → Hp → VK → Prop := fun x H Q => IU g x H Q

section
variable {X : Cx} {a b c : Expr} {ta tb tc : TE} {pos : Pos}

theorem binT (ha : PE X a ta) (hb : PE X b tb) {pins : List (Addr × Obj)} {s : Shared} {σ : St} {H : Hp} {R : V → V → Hp → Prop} (I : Inv X pins σ H s)
    (h : ta σ H fun x H1 => tb σ H1 fun y H2 => R x y H2) {Q : Value → Shared → Prop} {f : Value → Value → Sem Value}
    (hf : ∀ v u s2 x y H2, Inv X pins σ H2 s2 → RelV x v → RelV y u → R x y H2 → wpAny (model X.prog X.w) X.A (f v u) Q X.xe s2) :
    wpAny (model X.prog X.w) X.A (eval a X.env) (fun v s₁ => wpAny (model X.prog X.w) X.A (eval b X.env) (fun u s₂ => wpAny (model X.prog X.w) X.A (f v u) Q X.xe s₂) X.xe s₁) X.xe s := by
  refine thn (ha pins s σ H _ I h) fun v s1 hz_ => ?_
  obtain ⟨x, H1, I1, r1, q1⟩ := hz_
  refine thn (hb pins s1 σ H1 _ I1 q1) fun u s2 hz_ => ?_
  obtain ⟨y, H2, I2, r2, q2⟩ := hz_
  exact hf v u s2 x y H2 I2 r1 r2 q2

theorem pe_op {op : Operator} {r : R2} (ho : OpR X (binaryOp op) r) (ha : PE X a ta) (hb : PE X b tb) : PE X (.BinOp a op b pos) (tOp r ta tb) := by
  intro pins s σ H Q I h
  exact wpAny_BinOp (binT ha hb I h fun v u s2 x y H2 I2 rx ry q => ho pins s2 σ H2 x y v u Q I2 rx ry q)
theorem pe_un {op : UnaryOp} {r : V → Hp → VK → Prop} (ho : UnR X (unaryOp op) r) (ha : PE X a ta) : PE X (.UnaryOp op a pos) (tUn r ta) := by
  intro pins s σ H Q I h
  exact UnaryOp_ (thn (ha pins s σ H _ I h) fun v s1 ⟨x, H1, I1, r1, q1⟩ => ho pins s1 σ H1 x v Q I1 r1 q1)
theorem opI {f : Value → Value → Sem Value} {C : Int → Int → Prop} {g : Int → Int → Int}
    (rule : ∀ (i j : Int) (t u : Tok) (s : Shared) (Q : Value → Shared → Prop) (E : Value → Shared → Prop), C i j → Q (.int (g i j) s.toks) { s with toks := s.toks + 1 } → wpAny (model X.prog X.w) X.A (f (.int i t) (.int j u)) Q E s) :
    OpR X f (rI C fun i j => .int (g i j)) := by
  intro pins s σ H x y v u Q I rx ry h
  obtain ⟨i, j, rfl, rfl, hc, q⟩ := h
  obtain ⟨t, rfl⟩ := rx
  obtain ⟨t', rfl⟩ := ry
  exact rule i j t t' s _ _ hc ⟨.int (g i j), H, I.tok _, ⟨_, rfl⟩, q⟩
theorem opI0 {f : Value → Value → Sem Value} {g : Int → Int → Int}
    (rule : ∀ (i j : Int) (t u : Tok) (s : Shared) (Q : Value → Shared → Prop) (E : Value → Shared → Prop), Q (.int (g i j) s.toks) { s with toks := s.toks + 1 } → wpAny (model X.prog X.w) X.A (f (.int i t) (.int j u)) Q E s) :
    OpR X f (rI0 fun i j => .int (g i j)) := by
  intro pins s σ H x y v u Q I rx ry h
  obtain ⟨i, j, rfl, rfl, q⟩ := h
  obtain ⟨t, rfl⟩ := rx
  obtain ⟨t', rfl⟩ := ry
  exact rule i j t t' s _ _ ⟨.int (g i j), H, I.tok _, ⟨_, rfl⟩, q⟩
theorem opB0 {f : Value → Value → Sem Value} {g : Int → Int → Bool}
    (rule : ∀ (i j : Int) (t u : Tok) (s : Shared) (Q : Value → Shared → Prop) (E : Value → Shared → Prop), Q (.bool (g i j)) s → wpAny (model X.prog X.w) X.A (f (.int i t) (.int j u)) Q E s) :
    OpR X f (rI0 fun i j => .bl (g i j)) := by
  intro pins s σ H x y v u Q I rx ry h
  obtain ⟨i, j, rfl, rfl, q⟩ := h
  obtain ⟨t, rfl⟩ := rx
  obtain ⟨t', rfl⟩ := ry
  exact rule i j t t' s _ _ ⟨.bl (g i j), H, I, rfl, q⟩

def CPow (i j : Int) : Prop := 0 ≤ j ∧ j ≤ 1000000 ∧ i.natAbs < 2 ^ 64
theorem op_add : OpR X (binaryOp .Add) (rI0 fun i j => .int (i + j)) := opI0 fun _ _ _ _ _ _ _ q => add_int q
theorem op_sub : OpR X (binaryOp .Sub) (rI0 fun i j => .int (i - j)) := opI0 fun _ _ _ _ _ _ _ q => sub_int q
/-- % by a positive divisor of any size -/
theorem op_mod : OpR X (binaryOp .Mod) (rI (fun _ j => 0 < j) fun i j => .int (i % j)) := opI fun i j _ _ _ _ _ hc q => by
  have h1 : (0 : Int) < j := hc
  exact mod_int' (by first | lia | omega) (by rw [Int.fmod_eq_emod_of_nonneg i (by first | lia | omega)]; exact q)
theorem op_pow : OpR X (binaryOp .Pow) (rI CPow fun i j => .int (i ^ j.toNat)) := opI fun _ _ _ _ _ _ _ hc q => pow_int_small hc.1 hc.2.1 hc.2.2 q
theorem unI {f : Value → Sem Value} {g : Int → Int}
    (rule : ∀ (i : Int) (t : Tok) (s : Shared) (Q : Value → Shared → Prop) (E : Value → Shared → Prop), Q (.int (g i) s.toks) { s with toks := s.toks + 1 } → wpAny (model X.prog X.w) X.A (f (.int i t)) Q E s) :
    UnR X f (rU fun i => .int (g i)) := by
  intro pins s σ H x v Q I rx h
  obtain ⟨i, rfl, q⟩ := h
  obtain ⟨t, rfl⟩ := rx
  exact rule i t s _ _ ⟨.int (g i), H, I.tok _, ⟨_, rfl⟩, q⟩
theorem un_neg : UnR X (unaryOp .USub) (rU fun i => .int (-i)) := unI fun _ _ _ _ _ q => neg_int q
end

/-- the scalars that == tells apart as data does -/
def scal : V → V → Bool
  | .non, .non => true | .non, .int _ => true | .int _, .non => true | .non, .bl _ => true | .bl _, .non => true | .non, .str _ => true | .str _, .non => true
  | .int _, .int _ => true | .bl _, .bl _ => true | .str _, .str _ => true | .byt _, .byt _ => true
  | .int _, .str _ => true | .str _, .int _ => true | .bl _, .str _ => true | .str _, .bl _ => true
  | _, _ => false
def rEq : R2 := fun x y H Q => scal x y = true ∧ Q (.bl (decide (x = y))) H
def rNe : R2 := fun x y H Q => scal x y = true ∧ Q (.bl (!decide (x = y))) H

theorem dec_int {i j : Int} : decide (V.int i = V.int j) = (i == j) := by
  rw [Bool.eq_iff_iff]
  simp
theorem dec_bl {i j : Bool} : decide (V.bl i = V.bl j) = (i == j) := by
  rw [Bool.eq_iff_iff]
  simp
theorem dec_str {i j : Str} : decide (V.str i = V.str j) = (i == j) := by
  rw [Bool.eq_iff_iff]
  simp
theorem dec_byt {i j : Array UInt8} : decide (V.byt i = V.byt j) = (i.toList == j.toList) := by
  rw [Bool.eq_iff_iff]
  cases i
  cases j
  simp

section
variable {X : Cx} {a b c : Expr} {ta tb tc : TE} {pos : Pos}
theorem fin_bl {pins : List (Addr × Obj)} {σ : St} {H : Hp} {s : Shared} {Q : VK} {k k' : Bool} (I : Inv X pins σ H s) (q : Q (.bl k) H) (e : k = k') : EP X pins σ Q (.bool k') s := by
  subst e
  exact ⟨.bl k, H, I, rfl, q⟩
theorem op_eq : OpR X (compareOp .Eq) rEq := by
  intro pins s σ H x y v u Q I rx ry h
  obtain ⟨hs, q⟩ := h
  cases x with
  | non =>
    cases rx
    cases y with
    | non => cases ry; exact PySem.EqNone.eq_none_none (fin_bl I q (by simp))
    | bl j => cases ry; exact PySem.EqNone.eq_none_bool (fin_bl I q (by simp))
    | int j => obtain ⟨t', rfl⟩ := ry; exact PySem.EqNone.eq_none_int (fin_bl I q (by simp))
    | str j => obtain ⟨t', rfl⟩ := ry; exact PySem.EqNone.eq_none_str (fin_bl I q (by simp))
    | _ => exact absurd (show false = true from hs) Bool.false_ne_true
  | bl i =>
    cases rx
    cases y with
    | non => cases ry; exact PySem.EqNone.eq_bool_none (fin_bl I q (by simp))
    | bl j => cases ry; exact eq_bool (fin_bl I q dec_bl)
    | str j => obtain ⟨t', rfl⟩ := ry; exact PySem.EqMixed.eq_bool_str (fin_bl I q (by simp))
    | _ => exact absurd (show false = true from hs) Bool.false_ne_true
  | int i =>
    obtain ⟨t, rfl⟩ := rx
    cases y with
    | non => cases ry; exact PySem.EqNone.eq_int_none (fin_bl I q (by simp))
    | int j => obtain ⟨t', rfl⟩ := ry; exact eq_int (fin_bl I q dec_int)
    | str j => obtain ⟨t', rfl⟩ := ry; exact PySem.EqMixed.eq_int_str (fin_bl I q (by simp))
    | _ => exact absurd (show false = true from hs) Bool.false_ne_true
  | str i =>
    obtain ⟨t, rfl⟩ := rx
    cases y with
    | non => cases ry; exact PySem.EqNone.eq_str_none (fin_bl I q (by simp))
    | bl j => cases ry; exact PySem.EqMixed.eq_str_bool (fin_bl I q (by simp))
    | int j => obtain ⟨t', rfl⟩ := ry; exact PySem.EqMixed.eq_str_int (fin_bl I q (by simp))
    | str j => obtain ⟨t', rfl⟩ := ry; exact eq_str (fin_bl I q dec_str)
    | _ => exact absurd (show false = true from hs) Bool.false_ne_true
  | byt i =>
    obtain ⟨t, rfl⟩ := rx
    cases y with
    | byt j => obtain ⟨t', rfl⟩ := ry; exact PySem.W.eq_bytes (fin_bl I q dec_byt)
    | _ => exact absurd (show false = true from hs) Bool.false_ne_true
  | _ => cases y <;> exact absurd (show false = true from hs) Bool.false_ne_true
theorem op_ne : OpR X (compareOp .NotEq) rNe := by
  intro pins s σ H x y v u Q I rx ry h
  obtain ⟨hs, q⟩ := h
  cases x with
  | non =>
    cases rx
    cases y with
    | non => cases ry; exact PySem.EqNone.ne_none_none (fin_bl I q (by simp))
    | bl j => cases ry; exact PySem.EqNone.ne_none_bool (fin_bl I q (by simp))
    | int j => obtain ⟨t', rfl⟩ := ry; exact PySem.EqNone.ne_none_int (fin_bl I q (by simp))
    | str j => obtain ⟨t', rfl⟩ := ry; exact PySem.EqNone.ne_none_str (fin_bl I q (by simp))
    | _ => exact absurd (show false = true from hs) Bool.false_ne_true
  | bl i =>
    cases rx
    cases y with
    | non => cases ry; exact PySem.EqNone.ne_bool_none (fin_bl I q (by simp))
    | bl j => cases ry; exact ne_bool (fin_bl I q (congrArg not dec_bl))
    | str j => obtain ⟨t', rfl⟩ := ry; exact PySem.EqMixed.ne_bool_str (fin_bl I q (by simp))
    | _ => exact absurd (show false = true from hs) Bool.false_ne_true
  | int i =>
    obtain ⟨t, rfl⟩ := rx
    cases y with
    | non => cases ry; exact PySem.EqNone.ne_int_none (fin_bl I q (by simp))
    | int j => obtain ⟨t', rfl⟩ := ry; exact ne_int (fin_bl I q (congrArg not dec_int))
    | str j => obtain ⟨t', rfl⟩ := ry; exact PySem.EqMixed.ne_int_str (fin_bl I q (by simp))
    | _ => exact absurd (show false = true from hs) Bool.false_ne_true
  | str i =>
    obtain ⟨t, rfl⟩ := rx
    cases y with
    | non => cases ry; exact PySem.EqNone.ne_str_none (fin_bl I q (by simp))
    | bl j => cases ry; exact PySem.EqMixed.ne_str_bool (fin_bl I q (by simp))
    | int j => obtain ⟨t', rfl⟩ := ry; exact PySem.EqMixed.ne_str_int (fin_bl I q (by simp))
    | str j => obtain ⟨t', rfl⟩ := ry; exact ne_str (fin_bl I q (congrArg not dec_str))
    | _ => exact absurd (show false = true from hs) Bool.false_ne_true
  | byt i =>
    obtain ⟨t, rfl⟩ := rx
    cases y with
    | byt j => obtain ⟨t', rfl⟩ := ry; exact PySem.W.ne_bytes (fin_bl I q (congrArg not dec_byt))
    | _ => exact absurd (show false = true from hs) Bool.false_ne_true
  | _ => cases y <;> exact absurd (show false = true from hs) Bool.false_ne_true

theorem op_lt : OpR X (compareOp .Lt) (rI0 fun i j => .bl (decide (i < j))) := opB0 fun _ _ _ _ _ _ _ q => lt_int q
theorem op_le : OpR X (compareOp .LtE) (rI0 fun i j => .bl (decide (i ≤ j))) := opB0 fun _ _ _ _ _ _ _ q => le_int q
theorem op_gt : OpR X (compareOp .Gt) (rI0 fun i j => .bl (decide (j < i))) := opB0 fun _ _ _ _ _ _ _ q => gt_int q
theorem op_notN : OpR X (compareOp .IsNot) (fun x y H Q => y = .non ∧ Q (.bl (!decide (x = .non))) H) := by
  intro pins s σ H x y v u Q I rx ry h
  obtain ⟨rfl, q⟩ := h
  cases ry
  refine isnot_none_gen (fin_bl I q ?_)
  cases x <;> first
    | (cases rx; rfl)
    | (obtain ⟨t, rfl⟩ := rx; rfl)

theorem nomark (b : Expr) {op : CmpOp} (h : op ≠ .In := by decide) (h2 : op ≠ .NotIn := by decide) : behindInMarks op b = false := by
  have e1 : (op == CmpOp.In) = false := by cases op <;> first | rfl | exact absurd rfl h
  have e2 : (op == CmpOp.NotIn) = false := by cases op <;> first | rfl | exact absurd rfl h2
  cases b <;> simp [behindInMarks, e1, e2]
/-- a comparison as a value; hm: nomark b, or (for in, not in) by with_unfolding_all rfl -/
theorem pe_cmpR {op : CmpOp} {r : R2} (ho : OpR X (compareOp op) r) (ha : PE X a ta) (hb : PE X b tb) (hm : behindInMarks op b = false) : PE X (.Compare a [op] [b] pos) (tOp r ta tb) := by
  intro pins s σ H Q I h
  exact wpAny_Compare1 (binT ha hb I h fun v u s2 x y H2 I2 rx ry q => ho pins s2 σ H2 x y v u Q I2 rx ry q) hm
/-- a reading of a value as a test -/
def tTest (t : TE) : TT := fun σ H Q => t σ H fun x H' => IBl x fun k => Q k H'
theorem pt_cmpR {op : CmpOp} {r : R2} (ho : OpR X (compareOp op) r) (ha : PE X a ta) (hb : PE X b tb) (hm : behindInMarks op b = false) : PT X (.Compare a [op] [b] pos) (tTest (tOp r ta tb)) := by
  intro pins s σ H Q I h
  refine wpAny_isTrue_Compare1 (thn (ha pins s σ H _ I h) fun v s1 ⟨x, H1, I1, r1, q1⟩ => thn (hb pins s1 σ H1 _ I1 q1) fun u s2 ⟨y, H2, I2, r2, q2⟩ =>
    thn (ho pins s2 σ H2 x y v u _ I2 r1 r2 q2) fun c s3 ⟨z, H3, I3, r3, k, e, q3⟩ => ?_) hm
  subst e
  cases r3
  exact wpAny_truthy_bool ⟨H3, I3, q3⟩
/-- a op1 b op2 c -/
def tChain (r r' : R2) (ta tb tc : TE) : TE := fun σ H Q => ta σ H fun x H1 => tb σ H1 fun y H2 => r x y H2 fun z H3 => IBl z fun k =>
  (if k = true then tc σ H3 fun w' H4 => r' y w' H4 Q else Q (.bl false) H3)
theorem pe_chain {op op' : CmpOp} {r r' : R2} (ho : OpR X (compareOp op) r) (ho' : OpR X (compareOp op') r') (ha : PE X a ta) (hb : PE X b tb) (hc : PE X c tc)
    (hm : lastMarks [op, op'] [b, c] = false := by with_unfolding_all rfl) : PE X (.Compare a [op, op'] [b, c] pos) (tChain r r' ta tb tc) := by
  intro pins s σ H Q I h
  refine Compare_chain (thn (ha pins s σ H _ I h) fun v s1 ⟨x, H1, I1, r1, q1⟩ => chain_link (thn (hb pins s1 σ H1 _ I1 q1) fun u s2 ⟨y, H2, I2, r2, q2⟩ =>
    thn (ho pins s2 σ H2 x y v u _ I2 r1 r2 q2) fun d s3 ⟨z, H3, I3, r3, k, e, q3⟩ => ?_)) hm
  subst e
  cases r3
  refine wpAny_truthy_bool ?_
  cases k with
  | false => exact ite_ff ⟨.bl false, H3, I3, rfl, q3⟩
  | true => exact ite_tt (chain_last (thn (hc pins s3 σ H3 _ I3 q3) fun w' s4 ⟨z', H4, I4, r4, q4⟩ => ho' pins s4 σ H4 y z' u w' Q I4 r2 r4 q4))
theorem line63 : (sizeLine : Nat) < 2 ^ 63 := by rw [sizeLine_eq]; decide
theorem vals1 {x : V} {us : List Value} (r : Vals [x] us) : ∃ u, us = [u] ∧ RelV x u := by
  cases r with
  | cons r1 r2 => cases r2; exact ⟨_, rfl, r1⟩
theorem vals2 {x y : V} {us : List Value} (r : Vals [x, y] us) : ∃ u w', us = [u, w'] ∧ RelV x u ∧ RelV y w' := by
  cases r with
  | cons r1 r2 =>
    cases r2 with
    | cons r3 r4 => cases r4; exact ⟨_, _, rfl, r1, r3⟩
theorem call_min2 (hc : X.calm = true) : CallR X (.builtin "min") (fun xs H Q => ∃ i j, xs = [.int i, .int j] ∧ Q (.int (if j < i then j else i)) H) := by
  intro pins s σ H xs us Q I r h
  obtain ⟨i, j, rfl, q⟩ := h
  obtain ⟨u, w', rfl, ⟨t, rfl⟩, ⟨t', rfl⟩⟩ := vals2 r
  refine min_two_ints (I.ok.hd hc) fun h' tk k => ⟨_, H, I.kept k, ?_, q⟩
  by_cases hj : j < i
  · rw [if_pos hj, if_pos hj]; exact ⟨_, rfl⟩
  · rw [if_neg hj, if_neg hj]; exact ⟨_, rfl⟩
end
end L2

namespace L2
open PySem PySem.Spec PyProof.Rows

structure ObjM (h : Heap) (x dx C : Addr) (mA : Str → Option Value) : Prop where
  obj : h.get? x = some (PySem.W.instObj C dx)
  ns : h.Ns1 dx mA
  ne : dx ≠ x

theorem lookIn_ns {h : Heap} {dx : Addr} {mA : Str → Option Value} (n : h.Ns1 dx mA) : ∃ od, h.get? dx = some od ∧ ∀ name, PySem.W.lookIn name od = some (mA name) := by
  obtain ⟨o, es, ep, ho, hd, hk, _, hm⟩ := n
  refine ⟨o, ho, fun name => ?_⟩
  have e := hm name
  unfold nsFind findBy at e
  rw [← Array.find?_toList] at e
  unfold PySem.W.lookIn
  rw [hd]
  dsimp only
  split
  · rename_i y q
    rw [q] at e
    exact congrArg some e
  · rename_i q
    rw [q] at e
    have a : es.toList.any (·.refKey) = false := by
      rw [List.any_eq_false]
      intro y hy
      obtain ⟨z, t, hkey⟩ := hk y (Array.mem_toList_iff.mp hy)
      simp [DictEntry.refKey, hkey]
    have a' : ¬ es.toList.any (·.refKey) = true := by rw [a]; exact Bool.false_ne_true
    rw [if_neg a']
    exact congrArg some e

theorem ObjM.look {h : Heap} {x dx C : Addr} {mA : Str → Option Value} (I : ObjM h x dx C mA) : ∃ od, PySem.W.InstAt h x (PySem.W.instObj C dx) C (some od) ∧ ∀ name, PySem.W.lookIn name od = some (mA name) :=
  let ⟨od, ho, hl⟩ := lookIn_ns I.ns
  ⟨od, ⟨I.obj, rfl, rfl, ho⟩, hl⟩

section
variable {prog : Program} {w : World} {A : Around} {E : Value → Shared → Prop} {s : Shared} {K : PySem.W.Frag} {x dx C f : Addr} {mA : Str → Option Value} {name : Str} {v : Value}

theorem get_map {expr : Bool} {Q : Value → Shared → Prop} (X : K.In s.heap) (I : ObjM s.heap x dx C mA) (hg : PySem.W.plainGet K C name = true) (hh : PySem.W.hasDictIn K C = true)
    (ha : PySem.W.findIn K (.ref C) name = some none) (hv : mA name = some v) (hv' : PySem.W.handedIn v = true) (h : Q v { s with toks := s.toks + 1 }) :
    wpAny (model prog w) A (getAttr (.ref x) name expr) Q E s := by
  obtain ⟨od, J, hl⟩ := I.look
  exact PySem.W.get_value X J (PySem.W.plainGet_of hg).1 (PySem.W.findObj_own hh ha rfl (by rw [hl, hv])) hv' h

theorem get_meth {pl : Sem Bool} {Q : Value × List Value → Shared → Prop} (X : K.In s.heap) (I : ObjM s.heap x dx C mA) (hg : PySem.W.plainGet K C name = true)
    (hf : PySem.W.findIn K (.ref C) name = some (some (.ref f))) (ht : PySem.W.isFn K (.ref f) = true) (hv : mA name = none) (h : Q (.ref f, [.ref x]) s) :
    wpAny (model prog w) A (getMethod (.ref x) name pl) Q E s := by
  obtain ⟨od, J, hl⟩ := I.look
  exact PySem.W.method_fn X J (PySem.W.plainGet_of hg).1 (PySem.W.plainGet_of hg).2 hf (beq_iff_eq.mp ht) (by show (PySem.W.lookIn name od).map (·.isSome) = some false; rw [hl, hv]; rfl) h

theorem set_map {ns : List Str} {Q : Unit → Shared → Prop} (X : K.In s.heap) (I : ObjM s.heap x dx C mA)
    (hs : PySem.W.findIn K (.ref C) "__setattr__" = some (some (.builtin "object.__setattr__"))) (hp : PySem.W.plainOver K C = true) (ht : PySem.W.takerIn K C name = some none) (hh : PySem.W.hasDictIn K C = true)
    (hw : PySem.Within mA ns) (hsz : ns.length ≤ sizeLine)
    (h : ∀ h', ObjM h' x dx C (fun y => if y = name then some v else mA y) → Heap.SameBut dx s.heap h' → Q () { s with heap := h', toks := s.toks + 2 }) :
    wpAny (model prog w) A (setAttr (.ref x) name v) Q E s := by
  obtain ⟨od, J, hl⟩ := I.look
  refine PySem.W.set_plain X J hs (PySem.W.osa_open (s := { s with toks := s.toks + 1 }) (r := none) X J hp ht fun b => ?_)
  obtain ⟨cd, hc, hd'⟩ := PySem.W.any_some hh
  have hx : s.heap.get? x = some ⟨.ref C, some dx, .plain, #[]⟩ := I.obj
  refine wpAny_bind (wpAny_pure (wpAny_bind (wpAny_bind (wpAny_loadPart hx (wpAny_bind (PySem.W.Looks.here (s := { s with toks := s.toks + 1 }) (PySem.W.looks_clsIn X hc) ?_))))))
  rw [hd']
  refine wpAny_pure (a := some dx) (wpAny_bind (wpAny_pure (wpAny_bind ?_)))
  refine wpAny_nsSet1 (s := { s with toks := s.toks + 1 }) I.ns fun h' hn2 hs2 => ?_
  obtain ⟨oD, esD, epD, hoD, hdD, hcD⟩ := hn2.count (PySem.Within.cons name v hw)
  refine wpAny_bind (wpAny_lookBehind hoD (by rw [hdD]; exact pastItsLine_dict (Nat.le_trans hcD (by rw [List.length_cons]; first | lia | omega))) ?_)
  exact wpAny_pure (h _ ⟨(hs2.2 _ (Ne.symm I.ne)).trans I.obj, hn2, I.ne⟩ hs2)

/-- C(..): the dict at the heap's end, the instance behind it; then its __init__ -/
theorem make_map {R : Result → Shared → Prop} {vs : List Value} {kw : List (Str × Value)} (X : K.In s.heap) (hm : PySem.W.makesIn K C = true)
    (hi : PySem.W.findIn K (.ref C) "__init__" = some (some (.ref f))) (hf : PySem.W.typeIn K (.ref f) = some (.type "function"))
    (h : codeAny (model prog w) (A.under (.builtin "type.__call__" ⟨.ref C :: vs, kw⟩)) (.call (.ref f) ⟨.ref (s.heap.objs.size + 1) :: vs, kw⟩) (PySem.W.InitBack (s.heap.objs.size + 1) R)
      { s with heap := (s.heap.push PySem.W.emptyDict).push (PySem.W.instObj C s.heap.objs.size) }) :
    codeAny (model prog w) A (.call (.ref C) ⟨vs, kw⟩) R s := by
  obtain ⟨hh, g, d, t, os⟩ := s
  exact PySem.W.make_core (PySem.W.makes_of X hm) (PySem.W.looks_findIn X hi) (fun self => PySem.W.bind_fn X self hf) (.inl rfl) h
end

def putF (f : Str) (v : V) : List (Str × V) → List (Str × V)
  | [] => [(f, v)]
  | (g, x) :: r => if g = f then (g, v) :: r else (g, x) :: putF f v r
theorem lookup_putF (f g : Str) (v : V) : ∀ fs : List (Str × V), (putF f v fs).lookup g = if g = f then some v else fs.lookup g
  | [] => by
    show List.lookup g [(f, v)] = _
    by_cases h : g = f
    · have hb : (g == f) = true := beq_iff_eq.mpr h
      simp only [List.lookup, hb, if_pos h]
    · have hb : (g == f) = false := beq_eq_false_iff_ne.mpr h
      simp only [List.lookup, hb, if_neg h]
  | (k, x) :: r => by
    have ih := lookup_putF f g v r
    rw [show putF f v ((k, x) :: r) = (if k = f then (k, v) :: r else (k, x) :: putF f v r) from rfl]
    by_cases hk : k = f
    · rw [if_pos hk]
      by_cases h : g = k
      · have hb : (g == k) = true := beq_iff_eq.mpr h
        simp only [List.lookup, hb, if_pos (h.trans hk)]
      · have hb : (g == k) = false := beq_eq_false_iff_ne.mpr h
        simp only [List.lookup, hb, if_neg (fun e : g = f => h (e.trans hk.symm))]
    · rw [if_neg hk]
      by_cases h : g = k
      · have hb : (g == k) = true := beq_iff_eq.mpr h
        simp only [List.lookup, hb, if_neg (fun e : g = f => hk (h.symm.trans e))]
      · have hb : (g == k) = false := beq_eq_false_iff_ne.mpr h
        simp only [List.lookup, hb]
        exact ih
theorem keys_putF (f : Str) (v : V) : ∀ fs : List (Str × V), f ∈ (putF f v fs).map (·.1) ∧ ∀ g, g ∈ fs.map (·.1) → g ∈ (putF f v fs).map (·.1)
  | [] => ⟨by simp [putF], fun g h => by simp at h⟩
  | (k, x) :: r => by
    obtain ⟨i1, i2⟩ := keys_putF f v r
    rw [show putF f v ((k, x) :: r) = (if k = f then (k, v) :: r else (k, x) :: putF f v r) from rfl]
    by_cases hk : k = f
    · rw [if_pos hk]
      subst hk
      exact ⟨by simp, fun g h => by simpa using h⟩
    · rw [if_neg hk]
      refine ⟨?_, fun g h => ?_⟩
      · rw [List.map_cons]
        exact List.mem_cons_of_mem _ i1
      · rw [List.map_cons] at h ⊢
        rcases List.mem_cons.mp h with e | e
        · exact List.mem_cons.mpr (.inl e)
        · exact List.mem_cons_of_mem _ (i2 g e)
theorem length_putF (f : Str) (v : V) : ∀ fs : List (Str × V), (putF f v fs).length ≤ fs.length + 1
  | [] => by simp [putF]
  | (k, x) :: r => by
    have ih := length_putF f v r
    rw [show putF f v ((k, x) :: r) = (if k = f then (k, v) :: r else (k, x) :: putF f v r) from rfl]
    by_cases hk : k = f
    · rw [if_pos hk, List.length_cons, List.length_cons]; first | lia | omega
    · rw [if_neg hk, List.length_cons, List.length_cons]; first | lia | omega

theorem RelO.some_of {v : V} {o : Option Value} (r : RelO (some v) o) : ∃ u, o = some u ∧ RelV v u := by
  cases o with
  | none => exact (show False from r).elim
  | some u => exact ⟨u, rfl, r⟩
theorem RelO.none_of {o : Option Value} (r : RelO none o) : o = none := by
  cases o with
  | none => rfl
  | some u => exact (show False from r).elim
theorem handed_of {v : V} {u : Value} (r : RelV v u) : PySem.W.handedIn u = true := by
  cases v with
  | non => cases (show u = Value.none from r); rfl
  | bl b => cases (show u = Value.bool b from r); rfl
  | int i => obtain ⟨t, e⟩ := (show ∃ t, u = Value.int i t from r); cases e; rfl
  | str x => obtain ⟨t, e⟩ := (show ∃ t, u = Value.str x t from r); cases e; rfl
  | byt b => obtain ⟨t, e⟩ := (show ∃ t, u = Value.bytes b t from r); cases e; rfl
  | flt b => obtain ⟨t, e⟩ := (show ∃ t, u = Value.float b t from r); cases e; rfl
  | ref a => cases (show u = Value.ref a from r); rfl
  | ty n => cases (show u = Value.type n from r); rfl

section
variable {P : Program} {w : World} {H H' : Hp} {h h' : Heap} {a C dx : Addr} {fs fs' : List (Str × V)}
theorem ins_get (hok : HOk P w H h) (e : H a = some (.ins C dx fs)) : ∃ mA, ObjM h a dx C mA ∧ (∀ f, RelO (fs.lookup f) (mA f)) ∧ PySem.Within mA (fs.map (·.1)) ∧ fs.length ≤ 1000 ∧ H dx = some (.own a) := by
  obtain ⟨d, z, ne, ob, mA, n, r, q⟩ := (show ObjOk P w H h a (.ins C dx fs) from hok a _ e)
  exact ⟨mA, ⟨ob, n, ne⟩, r, q, z, d⟩
end

structure Cls (K : PySem.W.Frag) (C : Addr) : Prop where
  pg : PySem.W.plainGet K C Str.empty = true
  hd : PySem.W.hasDictIn K C = true
  po : PySem.W.plainOver K C = true
  sa : PySem.W.findIn K (.ref C) "__setattr__" = some (some (.builtin "object.__setattr__"))
theorem Cls.get {K : PySem.W.Frag} {C : Addr} (c : Cls K C) (f : Str) : PySem.W.plainGet K C f = true := c.pg
/-- no class of it has the name -/
def NoAttr (K : PySem.W.Frag) (C : Addr) (f : Str) : Prop := PySem.W.findIn K (.ref C) f = some none
theorem NoAttr.taker {K : PySem.W.Frag} {C : Addr} {f : Str} (n : NoAttr K C f) : PySem.W.takerIn K C f = some none := by
  unfold PySem.W.takerIn
  rw [show PySem.W.findIn K (.ref C) f = some none from n]
  rfl
/-- a method: a plain def of the class or of one above it -/
structure Meth (K : PySem.W.Frag) (C : Addr) (m : Str) (f : Addr) : Prop where
  at_ : PySem.W.findIn K (.ref C) m = some (some (.ref f))
  fn : PySem.W.isFn K (.ref f) = true
  kp : PySem.W.keepIn K (.ref f) = true

section
variable {X : Cx} {pins : List (Addr × Obj)} {σ : St} {H : Hp} {s : Shared} {a C dx : Addr} {fs : List (Str × V)} {f : Str} {v : V} {A : Around} {E : Value → Shared → Prop}

theorem getattr_ok {b : Bool} {Q : Value → Shared → Prop} (I : Inv X pins σ H s) (e : H a = some (.ins C dx fs)) (c : Cls X.K C) (n : NoAttr X.K C f) (l : fs.lookup f = some v)
    (h : ∀ u s', Inv X pins σ H s' → RelV v u → Q u s') : wpAny (model X.prog X.w) A (getAttr (.ref a) f b) Q E s := by
  obtain ⟨mA, O, r, _, _, _⟩ := ins_get I.hok e
  obtain ⟨u, hu, ru⟩ := RelO.some_of (v := v) (o := mA f) (by rw [← l]; exact r f)
  exact get_map I.kIn O (c.get f) c.hd n hu (handed_of ru) (h u _ (I.tok _) ru)

theorem getmeth_ok {m : Str} {g : Addr} {pl : Sem Bool} {Q : Value × List Value → Shared → Prop} (I : Inv X pins σ H s) (e : H a = some (.ins C dx fs)) (c : Cls X.K C) (k : Meth X.K C m g) (l : fs.lookup m = none)
    (h : Q (.ref g, [.ref a]) s) : wpAny (model X.prog X.w) A (getMethod (.ref a) m pl) Q E s := by
  obtain ⟨mA, O, r, _, _, _⟩ := ins_get I.hok e
  have hn : mA m = none := RelO.none_of (by rw [← l]; exact r m)
  exact get_meth I.kIn O (c.get m) k.at_ k.fn hn h

theorem setattr_ok {y : V} {u : Value} {Q : Unit → Shared → Prop} (I : Inv X pins σ H s) (e : H a = some (.ins C dx fs)) (c : Cls X.K C) (n : NoAttr X.K C f) (hl : fs.length < 1000) (ry : RelV y u)
    (h : ∀ s', Inv X pins σ (upd H a (.ins C dx (putF f y fs))) s' → Q () s') : wpAny (model X.prog X.w) A (setAttr (.ref a) f u) Q E s := by
  obtain ⟨mA, O, r, wi, _, ho⟩ := ins_get I.hok e
  have hz : (fs.map (·.1)).length ≤ sizeLine := by rw [List.length_map, sizeLine_eq]; first | lia | omega
  refine set_map I.kIn O c.sa c.po n.taker c.hd wi hz fun h' O' sb => h _ ?_
  have hd : ∃ o, h'.get? dx = some o := let ⟨o, _, _, e', _⟩ := O'.ns; ⟨o, e'⟩
  refine I.write (x := a) (e := dx) (by rw [e]; exact True.intro) (.inr ho) (fun b q hb z => (sb.2 b hb).trans z) hd ?_
  refine ⟨by rw [upd_ne O.ne]; exact ho, ?_, O.ne, O'.obj, _, O'.ns, fun g => ?_, fun g hg => ?_⟩
  · have := length_putF f y fs; first | lia | omega
  · show RelO ((putF f y fs).lookup g) (if g = f then some u else mA g)
    rw [lookup_putF]
    by_cases q : g = f
    · rw [if_pos q, if_pos q]; exact ry
    · rw [if_neg q, if_neg q]; exact r g
  · by_cases q : g = f
    · rw [q]; exact (keys_putF f y fs).1
    · refine (keys_putF f y fs).2 g (wi g fun z => hg ?_)
      show (if g = f then some u else mA g) = none
      rw [if_neg q]; exact z

/-- a new instance, tracked, without attributes -/
theorem Inv.made (I : Inv X pins σ H s) : Inv X pins σ (upd (upd H s.heap.objs.size (.own (s.heap.objs.size + 1))) (s.heap.objs.size + 1) (.ins C s.heap.objs.size []))
    { s with heap := (s.heap.push PySem.W.emptyDict).push (PySem.W.instObj C s.heap.objs.size) } := by
  have e1 : (s.heap.push PySem.W.emptyDict).get? s.heap.objs.size = some PySem.W.emptyDict := Heap.get?_push_size s.heap rfl
  have e2 : ((s.heap.push PySem.W.emptyDict).push (PySem.W.instObj C s.heap.objs.size)).get? (s.heap.objs.size + 1) = some (PySem.W.instObj C s.heap.objs.size) := by
    have := Heap.get?_push_size (s.heap.push PySem.W.emptyDict) (o := PySem.W.instObj C s.heap.objs.size) rfl
    rwa [Heap.size_push] at this
  have e3 : (s.heap.push PySem.W.emptyDict).Ns s.heap.objs.size (fun _ => none) := ⟨PySem.W.emptyDict, #[], _, e1, rfl, (fun e he => absurd he (by simp)), fun _ => rfl⟩
  have I1 := I.laid (a := s.heap.objs.size) (o := .own (s.heap.objs.size + 1)) (h' := s.heap.push PySem.W.emptyDict) (t' := s.toks) (fun b u q => Heap.get?_push_of_some _ q) (Nat.le_refl _) ⟨_, e1⟩
  refine I1.laid (a := s.heap.objs.size + 1) (o := .ins C s.heap.objs.size []) (t' := s.toks) (fun b u q => Heap.get?_push_of_some _ q) (Nat.le_of_eq (Heap.size_push _ _)) ?_
  have ne : s.heap.objs.size ≠ s.heap.objs.size + 1 := Nat.ne_of_lt (Nat.lt_succ_self _)
  refine ⟨by rw [upd_ne ne, upd_same], Nat.zero_le _, ne, e2, fun _ => none, (Heap.Ns1.of_empty e3).at fun o q => Heap.get?_push_of_some _ q, fun _ => True.intro, fun y hy => absurd rfl hy⟩

/-- e.f where nothing but the object is asked: through attributeBase (super) and the last hold -/
theorem attr_of {prog : Program} {w : World} {env : Env} {e : Expr} {f : Str} {pos : Pos} {s : Shared} {Q : Value → Shared → Prop} (hb : attributeBase e f env (eval e env) = eval e env)
    (h : wpAny (model prog w) A (eval e env) (fun o s₁ => wpAny (model prog w) A (getAttr o f true) Q E s₁) E s) : wpAny (model prog w) A (eval (.Attribute e f pos) env) Q E s :=
  Attribute_any_ h (by rw [arm_eval_Attribute, hb])
end

/-- e.f, an attribute of the instance -/
inductive IFld (K : PySem.W.Frag) (f : Str) (x : V) (H : Hp) (Q : VK) : Prop
  | mk (a C dx : Addr) (fs : List (Str × V)) (v : V) (e : x = .ref a) (h : H a = some (.ins C dx fs)) (c : Cls K C) (n : NoAttr K C f) (l : fs.lookup f = some v) (q : Q v H) : IFld K f x H Q
def tFld (K : PySem.W.Frag) (ta : TE) (f : Str) : TE := fun σ H Q => ta σ H fun x H1 => IFld K f x H1 Q
/-- e.f = value -/
def sFld (K : PySem.W.Frag) (ta tv : TE) (f : Str) : TS := fun D σ H => tv σ H fun y H1 => ta σ H1 fun x H2 => ∃ a C dx fs, x = .ref a ∧ H2 a = some (.ins C dx fs) ∧ Cls K C ∧ NoAttr K C f ∧ fs.length < 1000 ∧
  D.nx σ (upd H2 a (.ins C dx (putF f y fs)))
section
variable {X : Cx} {o e value : Expr} {f : Str} {pos pos' tpos : Pos} {ta tv : TE}
theorem pe_fld (he : PE X e ta) (hb : attributeBase e f X.env (eval e X.env) = eval e X.env) : PE X (.Attribute e f pos) (tFld X.K ta f) := by
  intro pins s σ H Q I h
  refine attr_of hb (thn (he pins s σ H _ I h) fun u s1 hz_ => ?_)
  obtain ⟨x, H1, I1, rx, a, C, dx, fs, v, ex, ea, c, n, l, q⟩ := hz_
  subst ex
  obtain rfl : u = Value.ref a := rx
  exact getattr_ok I1 ea c n l fun u' s2 I2 ru => ⟨v, H1, I2, ru, q⟩
theorem ps_fld (ha : PE X o ta) (hv : PE X value tv) (hs : swapsWith value (some (.Attribute o f pos')) pos.line X.env = pure false) : PS X (.Assign [.Attribute o f pos'] value pos) (sFld X.K ta tv f) := by
  intro pins s σ H D I h
  refine plainObj_wpAny_Assign_Attribute (thn (hv pins s σ H _ I h) fun u s1 ⟨y, H1, I1, ry, q⟩ => thn (ha pins s1 σ H1 _ I1 q) fun ov s2 ⟨x, H2, I2, rx, a, C, dx, fs, ex, ea, c, n, l, q2⟩ => ?_) hs
  subst ex
  obtain rfl : ov = Value.ref a := rx
  exact setattr_ok I2 ea c n l ry fun s3 I3 => ⟨σ, _, I3, q2⟩
end

section
variable {X : Cx} {pins : List (Addr × Obj)} {σ : St} {H : Hp} {s : Shared} {A : Around} {E : Value → Shared → Prop} {Q : Value → Shared → Prop} {c : Value} {b : Bool}
/-- the type of a value, as the fragment's deciders take it; for an instance its class -/
inductive TyOf (K : PySem.W.Frag) (H : Hp) : V → Value → Prop where
  | non : TyOf K H .non (.type "NoneType")
  | bl (x : Bool) : TyOf K H (.bl x) (.type "bool")
  | int (i : Int) : TyOf K H (.int i) (.type "int")
  | str (x : Str) : TyOf K H (.str x) (.type "str")
  | flt (x : UInt64) : TyOf K H (.flt x) (.type "float")
  | lst {a : Addr} {xs : List V} (e : H a = some (.lst xs)) : TyOf K H (.ref a) (.type "list")
  | frz {a : Addr} {o : Obj} {xs : List V} (e : H a = some (.frz o (.lst xs))) : TyOf K H (.ref a) (.type "list")
  | tup {a : Addr} {xs : List V} (e : H a = some (.tup xs)) : TyOf K H (.ref a) (.type "tuple")
  | dK {a : Addr} {kvs : List (Key × V)} (e : H a = some (.dK kvs)) : TyOf K H (.ref a) (.type "dict")
  | dT {a : Addr} {kvs : List (List Key × V)} (e : H a = some (.dT kvs)) : TyOf K H (.ref a) (.type "dict")
  | ins {a C dx : Addr} {fs : List (Str × V)} (e : H a = some (.ins C dx fs)) (cl : Cls K C) (ha : PySem.W.findIn K (.ref C) "__class__" = some (some (.builtin "object.__class__")))
      (hn : PySem.W.specialIn K (.builtin "object.__class__") "__get__" = some (some (.builtin "getset_descriptor.__get__"))) (htk : PySem.W.takesIn K (.builtin "object.__class__") = some true)
      (hm : PySem.W.mroIn K C (.type "object") = some true) : TyOf K H (.ref a) (.ref C)
/-- isinstance(x, c) for one class c, a built-in or an own one: kitOne's answer -/
theorem isinst_ok {x : V} {u t : Value} (I : Inv X pins σ H s) (rx : RelV x u) (ty : TyOf X.K H x t) (e : PySem.W.kitOne X.K t c = some b) (h : ∀ tk, Q (.bool b) { s with toks := tk }) :
    wpAny (model X.prog X.w) A (call (.builtin "isinstance") [u, c]) Q E s := by
  cases ty with
  | non => cases (show u = Value.none from rx); exact PySem.W.kia_one PySem.W.kitx_none I.kIn True.intro e (fun z => nomatch z) h
  | bl y => cases (show u = Value.bool y from rx); exact PySem.W.kia_one PySem.W.kitx_bool I.kIn True.intro e (fun z => nomatch z) h
  | int i => obtain ⟨t, q⟩ := (show ∃ t, u = Value.int i t from rx); cases q; exact PySem.W.kia_one PySem.W.kitx_int I.kIn True.intro e (fun z => nomatch z) h
  | str y => obtain ⟨t, q⟩ := (show ∃ t, u = Value.str y t from rx); cases q; exact PySem.W.kia_one PySem.W.kitx_str I.kIn True.intro e (fun z => nomatch z) h
  | flt y => obtain ⟨t, q⟩ := (show ∃ t, u = Value.float y t from rx); cases q; exact PySem.W.kia_one PySem.W.kitx_float I.kIn True.intro e (fun z => nomatch z) h
  | @lst a xs ea =>
    cases (show u = Value.ref a from rx)
    obtain ⟨_, _, n, _, h1⟩ := (show ObjOk X.prog X.w H s.heap a (.lst xs) from I.hok a _ ea)
    exact PySem.W.kia_one PySem.W.kitx_list I.kIn ⟨_, h1, rfl⟩ e (fun z => nomatch z) h
  | @frz a ob xs ea =>
    cases (show u = Value.ref a from rx)
    obtain ⟨_, _, _, n, _, h1⟩ := (show ObjOk X.prog X.w H s.heap a (.frz ob (.lst xs)) from I.hok a _ ea)
    exact PySem.W.kia_one PySem.W.kitx_list I.kIn ⟨_, h1, rfl⟩ e (fun z => nomatch z) h
  | @tup a xs ea =>
    cases (show u = Value.ref a from rx)
    obtain ⟨_, _, _, p⟩ := (show ObjOk X.prog X.w H s.heap a (.tup xs) from I.hok a _ ea)
    obtain ⟨o, h1, h2, _⟩ := p
    exact PySem.W.kia_one PySem.W.kitx_tuple I.kIn ⟨o, h1, h2⟩ e (fun z => nomatch z) h
  | @dK a kvs ea =>
    cases (show u = Value.ref a from rx)
    obtain ⟨_, _, vs, _, p⟩ := (show ObjOk X.prog X.w H s.heap a (.dK kvs) from I.hok a _ ea)
    obtain ⟨o, es, ep, h1, h2, _⟩ := p
    exact PySem.W.kia_one PySem.W.kitx_dict I.kIn ⟨o, h1, h2.1⟩ e (fun z => nomatch z) h
  | @dT a kvs ea =>
    cases (show u = Value.ref a from rx)
    obtain ⟨_, _, xs, _, o, es, ep, h1, h2, _⟩ := (show ObjOk X.prog X.w H s.heap a (.dT kvs) from I.hok a _ ea)
    exact PySem.W.kia_one PySem.W.kitx_dict I.kIn ⟨o, h1, h2.1⟩ e (fun z => nomatch z) h
  | @ins a C dx fs ea cl ha hn htk hm =>
    cases (show u = Value.ref a from rx)
    obtain ⟨mA, O, _⟩ := ins_get I.hok ea
    obtain ⟨od, J, _⟩ := O.look
    exact PySem.W.kia_one (PySem.W.kitx_own (cl.get _) cl.hd ha hn htk hm) I.kIn J e (fun z => nomatch z) h
end
end L2

namespace L2
open PySem PySem.Spec PyProof.Rows

structure Room (k : Nat) (A : Around) : Prop where
  hd : A.handled = none
  dp : A.depth + 3 * k + 5 < recursionLimit
  un : A.units + 16 * k + 200 < cLine
theorem Room.mono {j k : Nat} {A : Around} (r : Room k A) (h : j ≤ k) : Room j A := ⟨r.hd, by have := r.dp; first | lia | omega, by have := r.un; first | lia | omega⟩
theorem Room.deeper {k : Nat} {A : Around} (r : Room (k + 1) A) (env : Env) : Room k (A.deeper env) :=
  ⟨r.hd, by have := r.dp; show A.depth + 1 + 3 * k + 5 < _; first | lia | omega, by have := r.un; show A.units + 3 + 16 * k + 200 < _; first | lia | omega⟩
theorem make_depth {A : Around} {C : Addr} {us : List Value} {kw : List (Str × Value)} : (A.under (.builtin "type.__call__" ⟨.ref C :: us, kw⟩)).depth = A.depth + 1 := by
  first | rfl | simp [Around.under, Code.weight, Code.isCreation, Code.isGuard, Code.isCaller, Code.frames, Code.isFrame, guardIds]
theorem make_units {A : Around} {C : Addr} {us : List Value} {kw : List (Str × Value)} : (A.under (.builtin "type.__call__" ⟨.ref C :: us, kw⟩)).units = A.units + 1 := by
  first | rfl | simp [Around.under, Code.cUnits, Code.frames, Code.isFrame]
theorem Room.make {k : Nat} {A : Around} (r : Room (k + 1) A) (C : Addr) (us : List Value) (kw : List (Str × Value)) : Room k (A.under (.builtin "type.__call__" ⟨.ref C :: us, kw⟩)) :=
  ⟨r.hd, by have := r.dp; rw [make_depth]; first | lia | omega, by have := r.un; rw [make_units]; first | lia | omega⟩
theorem Room.depth {k : Nat} {A : Around} (r : Room k A) : A.depth < recursionLimit := by have := r.dp; first | lia | omega
theorem Room.units {k : Nat} {A : Around} (r : Room k A) : A.units + 64 < cLine := by have := r.un; first | lia | omega
def tNil : TA := fun _ H Q => Q [] H
def tCons (ta : TE) (tr : TA) : TA := fun σ H Q => ta σ H fun x H1 => tr σ H1 fun xs H2 => Q (x :: xs) H2
section
variable {X : Cx} {e : Expr} {es : List Expr} {te : TE} {t : TA} {pos : Pos}
theorem pa_nil : PA X [] tNil := fun _ _ _ _ H Q I h => Calls.spliced_nil ⟨[], H, I, .nil, h⟩
theorem pa_cons (ha : PE X e te) (hr : PA X es t) (hs : starEach (e :: es) X.env = (false, eval e X.env) :: starEach es X.env := by rfl) : PA X (e :: es) (tCons te t) := by
  intro pos pins s σ H Q I h
  rw [hs]
  show wpAny _ _ (spliced ((false, eval e X.env) :: backTo pos (starEach es X.env))) _ _ s
  refine Calls.spliced_cons (thn (ha pins s σ H _ I h) fun u s1 hz_ => ?_)
  obtain ⟨x, H1, I1, r1, q1⟩ := hz_
  exact thn (hr pos pins s1 σ H1 _ I1 q1) fun us s2 ⟨xs, H2, I2, r2, q2⟩ => ⟨x :: xs, H2, I2, .cons r1 r2, q2⟩

/-- a tuple, a list of written items -/
def tTup (t : TA) : TE := fun σ H Q => t σ H fun xs H1 => xs.length ≤ sizeLine ∧ ∀ p, H1 p = none → Q (.ref p) (upd H1 p (.tup xs))
def tLst (t : TA) : TE := fun σ H Q => t σ H fun xs H1 => xs.length ≤ sizeLine ∧ ∀ p, H1 p = none → Q (.ref p) (upd H1 p (.lst xs))
theorem pe_tup {x1} (h : PA X es t) : PE X (.Tuple es x1 pos) (tTup t) := by
  intro pins s σ H Q I hq
  refine wpAny_Tuple_spliced (thn (h pos pins s σ H _ I hq) fun us s1 ⟨xs, H1, I1, r, z, q⟩ => ⟨by rw [← r.length]; exact z, ?_⟩)
  have hf : H1 s1.heap.objs.size = none := I1.hok.fresh (Nat.le_refl _)
  refine ⟨.ref s1.heap.objs.size, upd H1 s1.heap.objs.size (.tup xs), I1.laid (t' := s1.toks) (fun b u e => Heap.get?_push_of_some _ e) (Nat.le_refl _) ?_, rfl, q _ hf⟩
  exact ⟨z, us, r, ⟨_, Heap.get?_push_size _ rfl, rfl, _, rfl⟩⟩
theorem pe_lst (h : PA X es t) : PE X (.List es pos) (tLst t) := by
  intro pins s σ H Q I hq
  refine wpAny_List_spliced (thn (h pos pins s σ H _ I hq) fun us s1 ⟨xs, H1, I1, r, z, q⟩ => ⟨by rw [← r.length]; exact z, ?_⟩)
  have hf : H1 s1.heap.objs.size = none := I1.hok.fresh (Nat.le_refl _)
  refine ⟨.ref s1.heap.objs.size, upd H1 s1.heap.objs.size (.lst xs), I1.laid (t' := s1.toks) (fun b u e => Heap.get?_push_of_some _ e) (Nat.le_refl _) ?_, rfl, q _ hf⟩
  exact ⟨z, us, 0, r, Heap.get?_push_size _ rfl⟩
end

/-- a def's promise: the bound arguments in the parameters' order, the heap, the wanted end, the wanted exception -/
abbrev Sp := List V → Hp → VK → XK → Prop
/-- how an exception lies behind a call (file 08 gives it): the callers' frames, abstract heap and state ahead of the call, the wish, the exception, the state -/
abbrev CXT := List Env → Hp → Shared → XK → Value → Shared → Prop

/-- the state at a call -/
structure Env0 (P : Program) (w : World) (K : PySem.W.Frag) (mg : Str → Option Value) (base : Heap) (A : Around) (outer : List Env) (s : Shared) (H : Hp) : Prop where
  frames : A.frames = some outer
  mod : Mod K mg base
  bs : ∀ b o, base.get? b = some o → s.heap.get? b = some o ∧ H b = none
  bsz : base.objs.size ≤ s.heap.objs.size
  funs : s.heap.FunFrames base outer
  frf : ∀ b ∈ frs outer, H b = none
  hok : HOk P w H s.heap
  bare : AllBare s.gens
/-- a call's end -/
def CE (outer : List Env) (P : Program) (w : World) (H : Hp) (s : Shared) (Q : VK) (u : Value) (s' : Shared) : Prop :=
  ∃ v H', s'.os = s.os ∧ AllBare s'.gens ∧ Un (frs outer) [] H H' s.heap s'.heap ∧ HOk P w H' s'.heap ∧ RelV v u ∧ Q v H'
def CR (CX : CXT) (outer : List Env) (P : Program) (w : World) (H : Hp) (s : Shared) (Q : VK) (E : XK) (r : Result) (s' : Shared) : Prop :=
  match r with
  | .ok (.ret u) => CE outer P w H s Q u s'
  | .ok _ => False
  | .error e => CX outer H s E e s'
structure FnOk (P : Program) (w : World) (K : PySem.W.Frag) (mg : Str → Option Value) (base : Heap) (CX : CXT) (k : Nat) (f : Addr) (fd : FuncData) (ps : List Str) (sp : Sp) : Prop where
  len : ∀ vs H Q E, sp vs H Q E → vs.length = ps.length
  run : ∀ (A : Around) (outer : List Env) (s : Shared) (H : Hp) (args : Args) (us : List Value) (vs : List V) (Q : VK) (E : XK), Room k A → Env0 P w K mg base A outer s H → BindsTo s fd args (ps.zip us) → Vals vs us → sp vs H Q E →
    codeAny (model P w) A (.call (.ref f) args) (CR CX outer P w H s Q E) s
theorem Env0.make {P : Program} {w : World} {K : PySem.W.Frag} {mg : Str → Option Value} {base : Heap} {A : Around} {outer : List Env} {s : Shared} {H : Hp} (e : Env0 P w K mg base A outer s H) (C : Addr) (us : List Value) (kw : List (Str × Value)) :
    Env0 P w K mg base (A.under (.builtin "type.__call__" ⟨.ref C :: us, kw⟩)) outer s H := ⟨by first | exact e.frames | (simpa [Around.under, Code.envs, Code.isFrame, pushEnvs] using e.frames), e.mod, e.bs, e.bsz, e.funs, e.frf, e.hok, e.bare⟩
section
variable {X : Cx} {pins : List (Addr × Obj)} {σ : St} {H : Hp} {s s' : Shared}
/-- from a body: what a callee wants -/
theorem Inv.env0 (I : Inv X pins σ H s) : Env0 X.prog X.w X.K X.mg X.base X.A X.stack s H :=
  ⟨I.ok.frames, I.ok.mod, I.bs, Nat.le_trans I.ok.bsz I.sz, I.stack, I.stkFree, I.hok, I.bare⟩
/-- behind a call -/
theorem Inv.after {Q : VK} {u : Value} (I : Inv X pins σ H s) (h : CE X.stack X.prog X.w H s Q u s') : EP X pins σ Q u s' := by
  obtain ⟨v, H', os, bare, un, hok, r, q⟩ := h
  obtain ⟨hh, g, d, t, os'⟩ := s'
  obtain rfl : os' = s.os := os
  exact ⟨v, H', I.call (h' := hh) (g' := g) (d' := d) (t' := t) (ch := []) un hok bare (fun b z => absurd z (by simp)), r, q⟩
end

/-- f(..): the written arguments, then the defaults dvs; E: what is wanted of an exception -/
def tCall (sp : Sp) (dvs : List V) (E : XK) (t : TA) : TE := fun σ H Q => t σ H fun vs H1 => sp (vs ++ dvs) H1 Q E
/-- o.m(..) of an instance of the class at C -/
def tMeth (C : Addr) (m : Str) (sp : Sp) (dvs : List V) (E : XK) (ta : TE) (t : TA) : TE := fun σ H Q => ta σ H fun x H1 => ∃ a dx fs, x = .ref a ∧ H1 a = some (.ins C dx fs) ∧ fs.lookup m = none ∧
  t σ H1 fun vs H2 => sp (x :: (vs ++ dvs)) H2 Q E
/-- C(..): a new instance and its dict, then __init__ -/
def tMake (C : Addr) (sp : Sp) (dvs : List V) (E : XK) (t : TA) : TE := fun σ H Q => t σ H fun vs H1 => ∀ x dx, H1 x = none → H1 dx = none → dx ≠ x →
  sp (.ref x :: (vs ++ dvs)) (upd (upd H1 dx (.own x)) x (.ins C dx [])) (fun v H2 => v = .non ∧ Q (.ref x) H2) E

/-- how the parameters are bound: us the positional arguments, kw the keywords' values by name, ds the defaults that fill up -/
def Binds (K : PySem.W.Frag) (fd : FuncData) (ps : List Str) (ds : List Value) : Prop :=
  ∀ (s : Shared) (us : List Value), K.In s.heap → (us ++ ds).length = ps.length → BindsTo s fd ⟨us, []⟩ (ps.zip (us ++ ds))
/-- every parameter is given -/
theorem Binds.all {K : PySem.W.Frag} {fd : FuncData} {ps : List Str} (h : ∀ us : List Value, us.length = ps.length → bindArgs fd ⟨us, []⟩ = pure (ps.zip us)) : Binds K fd ps [] := fun s us _ hl => by
  rw [List.append_nil] at hl ⊢
  exact .of_eq (h us hl)

/-- an exception of a callee reaches what this body wants of exceptions -/
def Passes (CX : CXT) (X : Cx) (E : XK) : Prop := ∀ (pins : List (Addr × Obj)) (σ : St) (H : Hp) (s : Shared) (e : Value) (s' : Shared), Inv X pins σ H s → CX X.stack H s E e s' → X.xe e s'

section
variable {X : Cx} {CX : CXT} {k : Nat} {f C : Addr} {fd : FuncData} {ps : List Str} {sp : Sp} {dvs : List V} {ds : List Value} {E : XK} {x m : Str} {p pos apos : Pos} {e o : Expr} {es : List Expr} {ta : TE} {t : TA}

/-- the callee runs -/
theorem run_fn {pins : List (Addr × Obj)} {σ : St} {H : Hp} {s : Shared} {Q : VK} {us : List Value} {vs : List V} (F : FnOk X.prog X.w X.K X.mg X.base CX k f fd ps sp) (hr : Room k X.A) (hb : Binds X.K fd ps ds) (hd : Vals dvs ds) (hx : Passes CX X E)
    (I : Inv X pins σ H s) (r : Vals vs us) (h : sp (vs ++ dvs) H Q E) : wpAny (model X.prog X.w) X.A (call (.ref f) us) (EP X pins σ Q) X.xe s := by
  have r2 : Vals (vs ++ dvs) (us ++ ds) := r.append hd
  have hl : (us ++ ds).length = ps.length := by rw [← r2.length]; exact F.len _ _ _ _ h
  refine wpAny_call (codeAny_mono (F.run X.A X.stack s H ⟨us, []⟩ (us ++ ds) (vs ++ dvs) Q E hr I.env0 (hb s us I.kIn hl) r2 h) fun r s' hq => ?_)
  cases r with
  | error e => exact hx pins σ H s e s' I hq
  | ok fl =>
    cases fl with
    | ret u => exact I.after hq
    | next => exact False.elim hq
    | brk => exact False.elim hq
    | cont => exact False.elim hq

theorem pe_call (F : FnOk X.prog X.w X.K X.mg X.base CX k f fd ps sp) (hr : Room k X.A) (hg : Gl X x) (hm : X.mg x = some (.ref f)) (hk : PySem.W.keepIn X.K (.ref f) = true) (hb : Binds X.K fd ps ds) (hd : Vals dvs ds) (hx : Passes CX X E)
    (ha : PA X (e :: es) t) (hdb : (x == ("__debug__" : Str)) = false := by decide) (he : starEach (e :: es) X.env = (false, eval e X.env) :: starEach es X.env := by rfl) (hpl : (backTo pos (starEach es X.env)).any (·.1) = false := by rfl) :
    PE X (.Call (.Name x p) (e :: es) [] pos) (tCall sp dvs E t) := by
  intro pins s σ H Q I h
  refine wpAny_Call_Name_kw (ld_glob I hg hm ?_ hdb)
  refine PySem.W.callWith_K (h₀ := X.base) I.ok.mod.kin hk (thn (ha pos pins s σ H _ I h) fun us s1 ⟨vs, H1, I1, r, q⟩ => ⟨I1.kIn, ?_⟩) he hpl
  exact run_fn F hr hb hd hx I1 r q
/-- o.m() -/
theorem pe_meth0 {pl : Sem Bool} (he : PE X o ta) (c : Cls X.K C) (hm : Meth X.K C m f) (F : FnOk X.prog X.w X.K X.mg X.base CX k f fd ps sp) (hr : Room k X.A) (hb : Binds X.K fd ps ds) (hd : Vals dvs ds) (hx : Passes CX X E)
    (ht : eval (.Call (.Attribute o m apos) [] [] pos) X.env = (do
      let ov ← eval o X.env
      standAt apos.atName
      let (f, first) ← holding [ov] (getMethod ov m pl)
      callWith pos f first (backTo pos (starEach [] X.env)) (backToKw pos (keywordEach [] X.env))) := by rfl) :
    PE X (.Call (.Attribute o m apos) [] [] pos) (tMeth C m sp dvs E ta tNil) := by
  intro pins s σ H Q I h
  refine PySem.W.methodCall_KW (pl := pl) (thn (he pins s σ H _ I h) fun u s1 ⟨x, H1, I1, rx, a, dx, fs, ex, ea, l, q⟩ => ?_) ht
  subst ex
  obtain rfl : u = Value.ref a := rx
  refine getmeth_ok I1 ea c hm l ?_
  exact PySem.W.callWith_K0 (first := [.ref a]) I1.kIn hm.kp (run_fn (us := [.ref a]) (vs := [.ref a]) F hr hb hd hx I1 (.cons rfl .nil) q)

/-- what a class must have to be made -/
structure Mk (K : PySem.W.Frag) (C f : Addr) : Prop where
  makes : PySem.W.makesIn K C = true
  init : PySem.W.findIn K (.ref C) "__init__" = some (some (.ref f))
  fn : PySem.W.isFn K (.ref f) = true
  kp : PySem.W.keepIn K (.ref C) = true

end

section
variable {X : Cx} {CX : CXT} {k : Nat} {f C : Addr} {fd : FuncData} {ps ks : List Str} {sp : Sp} {E : XK} {x m : Str} {p pos apos kpos : Pos} {e o : Expr} {es : List Expr} {kws : List Keyword} {te ta : TE} {t tk : TA} {nm : Option Str}
variable {g : List Value → List Value → List Value} {gV : List V → List V → List V}
end

/-- names: the parameters first -/
structure FnScope (N P : List Str) (sc : Scope) : Prop where
  kind : sc.kind = .function
  co : sc.isCoroutine = false
  gen : sc.isGenerator = false
  nd : N.Nodup
  pre : N.take P.length = P
  par : ∀ x ∈ P, sc.names.lookup x = some .local ∨ sc.names.lookup x = some .cell
  nofree : ∀ y ∈ sc.names, y.2 ≠ .free

theorem bindL_out {kindOf : Str → Option NameKind} {x : Str} : ∀ {binds : List (Str × Value)} {m : Str → Option Value}, (∀ v, (x, v) ∉ binds) → bindL kindOf binds m x = m x
  | [], _, _ => rfl
  | (n, v) :: r, m, h => by
    unfold bindL
    rw [bindL_out fun w hw => h w (List.mem_cons_of_mem _ hw)]
    split
    · have : x ≠ n := by rintro rfl; exact h v List.mem_cons_self
      simp [this]
    · rfl
theorem bindC_out {kindOf : Str → Option NameKind} {x : Str} : ∀ {binds : List (Str × Value)} {m : Str → Option Value}, (∀ v, (x, v) ∉ binds) → bindC kindOf binds m x = m x
  | [], _, _ => rfl
  | (n, v) :: r, m, h => by
    unfold bindC
    rw [bindC_out fun w hw => h w (List.mem_cons_of_mem _ hw)]
    split
    · rfl
    · have : x ≠ n := by rintro rfl; exact h v List.mem_cons_self
      simp [this]
theorem bindL_get {kindOf : Str → Option NameKind} {x : Str} {v : Value} : ∀ {P : List Str} {vs : List Value} {i : Nat} {m : Str → Option Value}, P.Nodup → P[i]? = some x → vs[i]? = some v → kindOf x = some .local →
    bindL kindOf (P.zip vs) m x = some v
  | [], _, _, _, _, h, _, _ => by simp at h
  | _ :: _, [], _, _, _, _, h, _ => by simp at h
  | p :: P, w :: vs, 0, m, nd, h1, h2, hk => by
    simp at h1 h2; subst h1; subst h2
    show bindL kindOf ((p, w) :: P.zip vs) m p = _
    unfold bindL
    rw [bindL_out fun v hv => (List.nodup_cons.mp nd).1 (List.of_mem_zip hv).1, if_pos hk]
    simp
  | p :: P, w :: vs, i + 1, m, nd, h1, h2, hk => by
    show bindL kindOf ((p, w) :: P.zip vs) m x = _
    unfold bindL
    exact bindL_get (i := i) (List.nodup_cons.mp nd).2 (by simpa using h1) (by simpa using h2) hk
theorem bindC_get {kindOf : Str → Option NameKind} {x : Str} {v : Value} : ∀ {P : List Str} {vs : List Value} {i : Nat} {m : Str → Option Value}, P.Nodup → P[i]? = some x → vs[i]? = some v → kindOf x ≠ some .local →
    bindC kindOf (P.zip vs) m x = some v
  | [], _, _, _, _, h, _, _ => by simp at h
  | _ :: _, [], _, _, _, _, h, _ => by simp at h
  | p :: P, w :: vs, 0, m, nd, h1, h2, hk => by
    simp at h1 h2; subst h1; subst h2
    show bindC kindOf ((p, w) :: P.zip vs) m p = _
    unfold bindC
    rw [bindC_out fun v hv => (List.nodup_cons.mp nd).1 (List.of_mem_zip hv).1, if_neg hk]
    simp
  | p :: P, w :: vs, i + 1, m, nd, h1, h2, hk => by
    show bindC kindOf ((p, w) :: P.zip vs) m x = _
    unfold bindC
    exact bindC_get (i := i) (List.nodup_cons.mp nd).2 (by simpa using h1) (by simpa using h2) hk

/-- the names' values at the entry -/
def start (N : List Str) (vs : List V) : St := vs.map some ++ List.replicate (N.length - vs.length) none

/-- the context of a def's body, at its entry; an exception leaves the frame, then lies as CX says -/
def cxOf (CX : CXT) (P : Program) (w : World) (K : PySem.W.Frag) (mg : Str → Option Value) (base : Heap) (N : List Str) (qual : Str) (scope : Scope) (f : Addr) (cd : Value) (A : Around) (outer : List Env) (s : Shared) (H : Hp) (E : XK) : Cx where
  prog := P
  w := w
  K := K
  mg := mg
  base := base
  A := A.deeper (envOfC qual scope s.heap.objs.size f cd)
  N := N
  s₀ := s
  H₀ := H
  env := envOfC qual scope s.heap.objs.size f cd
  outer := outer
  stack := envOfC qual scope s.heap.objs.size f cd :: outer
  ex := []
  calm := true
  fn := fun _ => true
  pn := []
  xe := fun e s' => wpAny (model P w) (A.deeper (envOfC qual scope s.heap.objs.size f cd)) (leaving (envOfC qual scope s.heap.objs.size f cd) e) (fun _ s'' => CX outer H s E e s'') (fun e' s'' => CX outer H s E e' s'') s'

theorem cell_has {sc : Scope} {n : Nat} {x : Str} (h : sc.names.lookup x = some .cell) : ∃ c, (cellsFrom n sc.names []).lookup x = some c := by
  have q := PySem.W.cellsFrom_some sc.names n [] (.inl h)
  exact Option.isSome_iff_exists.mp q

theorem inv_start {CX : CXT} {P : Program} {w : World} {K : PySem.W.Frag} {mg : Str → Option Value} {base : Heap} {N ps : List Str} {qual : Str} {scope : Scope} {f : Addr} {cd : Value} {A : Around} {outer : List Env} {s s1 : Shared} {H : Hp} {E : XK} {us : List Value} {vs : List V}
    (S : FnScope N ps scope) (hd : A.handled = none) (e0 : Env0 P w K mg base A outer s H) (hl : vs.length = ps.length) (r : Vals vs us)
    (x : InCallC s s.heap.objs.size (bindL (envOfC qual scope s.heap.objs.size f cd).kindOf (ps.zip us) fun _ => none) (cellsFrom (s.heap.objs.size + 1) scope.names []) (bindC (envOfC qual scope s.heap.objs.size f cd).kindOf (ps.zip us) fun _ => none) s1) :
    Inv (cxOf CX P w K mg base N qual scope f cd A outer s H E) [] (start N vs) H s1 := by
  have hpl : ps.length ≤ N.length := by have := congrArg List.length S.pre; rw [List.length_take] at this; first | lia | omega
  obtain ⟨h1, tk, rfl, hk⟩ := x.done
  have noA : ∀ b : Addr, b ∉ (cxOf CX P w K mg base N qual scope f cd A outer s H E).ex := fun b z => absurd (show b ∈ ([] : List Addr) from z) (by simp)
  refine ⟨⟨e0.mod, S.kind, rfl, rfl, Nat.le_refl _, fun y z c h1 h2 => ?_, fun y hy => ?_, fun y c _ h => ?_, fun _ => hd, Around.frames_deeper e0.frames, .inr ⟨rfl, rfl⟩, fun b z => absurd z (noA b), e0.bs, e0.bsz, fun b _ _ => noA b, fun b z => absurd z (noA b), e0.funs, e0.frf⟩,
    rfl, e0.bare, Un.kept hk, ⟨_, x.toInCall.ns, fun i y v h1 h2 h3 => ?_⟩, fun y c h => ⟨_, x.cell y c h⟩, e0.hok.fresh (Nat.le_refl _), fun y c h => ?_, fun p hp => absurd (show p ∈ ([] : List (Addr × Obj)) from hp) (by simp), e0.hok.kept hk, ?_⟩
  · exact name_of_addr x.apart (PySem.mem_of_lookup h1) (PySem.mem_of_lookup h2)
  · have hy : scope.names.lookup y = some .cell ∨ scope.names.lookup y = some .free := hy
    rcases hy with hy | hy
    · exact cell_has hy
    · exact absurd rfl (S.nofree _ (PySem.mem_of_lookup hy))
  · exact Nat.le_of_lt (x.above y c (PySem.mem_of_lookup h))
  · have hi : i < vs.length := by
      unfold start at h2
      by_cases hi : i < vs.length
      · exact hi
      · rw [List.getElem?_append_right (by simpa using hi)] at h2
        rw [List.getElem?_replicate] at h2
        split at h2 <;> cases h2
    have ha : vs[i]? = some v := by
      unfold start at h2
      rw [List.getElem?_append_left (by simpa using hi), List.getElem?_map] at h2
      cases e : vs[i]? with
      | none => rw [e] at h2; cases h2
      | some a => rw [e] at h2; cases h2; rfl
    obtain ⟨u, hu, rv⟩ := r.get ha
    have hp : ps[i]? = some y := by
      rw [← S.pre, List.getElem?_take_of_lt (by first | lia | omega)]; exact h1
    have ndP : ps.Nodup := by rw [← S.pre]; exact S.nd.sublist (List.take_sublist _ _)
    refine ⟨u, rv, ?_⟩
    rcases S.par y (List.mem_of_getElem? hp) with k | k
    · exact .inl ⟨k, bindL_get ndP hp hu k⟩
    · obtain ⟨c, e⟩ := cell_has (n := s.heap.objs.size + 1) k
      refine .inr ⟨.inl k, c, e, ?_⟩
      have q := x.cell y c e
      rw [bindC_get ndP hp hu (by show scope.names.lookup y ≠ _; rw [k]; decide)] at q
      exact q
  · exact e0.hok.fresh (Nat.le_of_lt (x.above y c (PySem.mem_of_lookup h)))
  · unfold start
    show _ = N.length
    rw [List.length_append, List.length_map, List.length_replicate]
    first | lia | omega

/-- THE RULE: a def (or a method) of the text, by its body. The body's reading t is chosen for each entry; it is run at the parameters' values -/
theorem fn_of {CX : CXT} {P : Program} {w : World} {K : PySem.W.Frag} {mg : Str → Option Value} {base : Heap} {k : Nat} {f : Addr} {name qual : Str} {params : Arguments} {body : List Stmt} {scope : Scope} {dV kV doc pm cdv ct oc : Value} {an od : Option Addr}
    {osl : Array (Option Value)} {N ps : List Str} {sp : Sp} (lk : K.lookup f = some ⟨oc, od, .func (PySem.W.fnOf name qual params body scope dV kV doc pm an cdv ct), osl⟩) (hcd : PySem.W.codeIn K cdv qual = true) (S : FnScope N ps scope)
    (len : ∀ vs H Q E, sp vs H Q E → vs.length = ps.length)
    (hbody : ∀ (A : Around) (outer : List Env) (s : Shared) (H : Hp) (vs : List V) (Q : VK) (E : XK), Room k (A.deeper (envOfC qual scope s.heap.objs.size f cdv)) → sp vs H Q E →
      ∃ t, PSs (cxOf CX P w K mg base N qual scope f cdv A outer s H E) body t ∧ t { nx := fun _ H' => Q .non H', rt := Q } (start N vs) H) :
    FnOk P w K mg base CX (k + 1) f (PySem.W.fnOf name qual params body scope dV kV doc pm an cdv ct) ps sp := by
  refine ⟨len, fun A outer s H args us vs Q E hr e0 hb r hsp => ?_⟩
  have hl := len _ _ _ _ hsp
  have KX : K.In s.heap := e0.mod.kin.keeps fun b o e => (e0.bs b o e).1
  have lim : s.heap.NoLimit := e0.mod.nolimit.keeps fun b o e => (e0.bs b o e).1
  have hkind : ∀ y ∈ ps.zip us, scope.names.lookup y.1 = some .local ∨ (scope.names.lookup y.1 = some .cell ∧ ((cellsFrom (s.heap.objs.size + 1) scope.names []).lookup y.1).isSome = true) := fun ⟨n, v⟩ hy => by
    rcases S.par n (List.of_mem_zip hy).1 with q | q
    · exact .inl q
    · exact .inr ⟨q, PySem.W.cellsFrom_some _ _ _ (.inl q)⟩
  refine codeAny_call_function hr.depth (KX _ _ lk) rfl S.co S.gen rfl (PySem.W.codeRec_of KX hcd) (hb _ _ _ _ ?_)
  refine wpAny_newFunctionEnv_cells S.kind hkind fun env he s1 x => ?_
  subst he
  refine ⟨lim.keeps x.toInCall.keep, codeAny_func ?_⟩
  obtain ⟨t, ht, hq⟩ := hbody A outer s H vs Q E (hr.deeper _) hsp
  have I : Inv (cxOf CX P w K mg base N qual scope f cdv A outer s H E) [] (start N vs) H s1 := inv_start S hr.hd e0 hl r x
  refine wpAny_mono (ht [] s1 (start N vs) H _ I hq) (fun fl s' hs => ?_) fun e s' hs => hs
  have fin : ∀ {σ' : St} {H' : Hp} {v : V} {u : Value}, Inv (cxOf CX P w K mg base N qual scope f cdv A outer s H E) [] σ' H' s' → RelV v u → Q v H' → CE outer P w H s Q u s' :=
    fun {σ' H' v u} J rv q => ⟨v, H', J.os, J.bare, J.base, J.hok, rv, q⟩
  cases fl with
  | ret u =>
    obtain ⟨v, σ', H', J, rv, q⟩ := hs
    exact fin J rv q
  | next =>
    obtain ⟨σ', H', J, q⟩ := hs
    exact fin (v := V.non) (u := Value.none) J rfl q
  | brk =>
    obtain ⟨_, _, _, q⟩ := hs
    exact False.elim q
  | cont =>
    obtain ⟨_, _, _, q⟩ := hs
    exact False.elim q
end L2

namespace L2
open PySem PySem.Spec PyProof.Rows
section
variable {X : Cx} {x : Str} {p pos : Pos} {e : Expr} {es : List Expr} {t : TA} {id T : String} {r : List V → Hp → VK → Prop}

def tCB (r : List V → Hp → VK → Prop) (t : TA) : TE := fun σ H Q => t σ H fun vs H1 => r vs H1 Q
/-- f(e, ..), f a built-in function -/
theorem pe_callB (hc : CallR X (.builtin id) r) (hg : Gl X x) (hm : X.mg x = none) (hv : bootBuiltins x = some (.builtin id)) (ha : PA X (e :: es) t) (hn : x ≠ "__name__" := by decide) (hdb : (x == ("__debug__" : Str)) = false := by decide)
    (he : starEach (e :: es) X.env = (false, eval e X.env) :: starEach es X.env := by rfl) (hpl : (backTo pos (starEach es X.env)).any (·.1) = false := by rfl) : PE X (.Call (.Name x p) (e :: es) [] pos) (tCB r t) := by
  intro pins s σ H Q I h
  refine wpAny_Call_Name_kw (ld_blt I hg hm hv ?_ hn hdb)
  exact PyProof.Rows.callWith_builtin1 (thn (ha pos pins s σ H _ I h) fun us s1 ⟨vs, H1, I1, r1, q1⟩ => hc pins s1 σ H1 vs us Q I1 r1 q1) he hpl
/-- T(e, ..), T a built-in type -/
theorem pe_callTy (hc : CallR X (.type T) r) (hg : Gl X x) (hm : X.mg x = none) (hv : bootBuiltins x = some (.type T)) (ha : PA X (e :: es) t) (hn : x ≠ "__name__" := by decide) (hdb : (x == ("__debug__" : Str)) = false := by decide)
    (he : starEach (e :: es) X.env = (false, eval e X.env) :: starEach es X.env := by rfl) (hpl : (backTo pos (starEach es X.env)).any (·.1) = false := by rfl) : PE X (.Call (.Name x p) (e :: es) [] pos) (tCB r t) := by
  intro pins s σ H Q I h
  refine wpAny_Call_Name_kw (ld_blt I hg hm hv ?_ hn hdb)
  exact PyProof.Rows.callWith_type1 (thn (ha pos pins s σ H _ I h) fun us s1 ⟨vs, H1, I1, r1, q1⟩ => hc pins s1 σ H1 vs us Q I1 r1 q1) he hpl
end
end L2

namespace HT
open PySem PyProof.Rows

/-- t < u of tuples of ints -/
def lexLt : List Int → List Int → Bool
  | [], [] => false
  | [], _ :: _ => true
  | _ :: _, [] => false
  | x :: xs, y :: ys => if x = y then lexLt xs ys else decide (x < y)
theorem lexLt_cons (x y : Int) (xs ys : List Int) : lexLt (x :: xs) (y :: ys) = if x = y then lexLt xs ys else decide (x < y) := rfl
theorem lexLt_nil_nil : lexLt [] [] = false := rfl
section
open PySem.SeqAt
open PySem.AutoSeq1 (wpAny_loadPart')
open PySem.MeetsSeq PySem.MeetsSeq2 PySem.MeetsSeq3

end

section
variable {prog : Program} {w : World} {A : Around} {E : Value → Shared → Prop} {s : Shared}

/-- t + u, t not empty -/
theorem cat_tup {t b : Addr} {vs ws : List Value} {Q : Value → Shared → Prop} (ht : IsTup s.heap t vs.toArray) (hb : IsTup s.heap b ws.toArray) (hv : vs ≠ [])
    (h1 : ws = [] → Q (.ref t) s) (h2 : ws ≠ [] → Q (.ref s.heap.objs.size) { s with heap := s.heap.push { cls := .type "tuple", data := .seq (vs ++ ws).toArray } })
    (hsz : vs.length + ws.length ≤ sizeLine) : wpAny (model prog w) A (binaryOp .Add (.ref t) (.ref b)) Q E s := by
  obtain ⟨⟨cls, dd, data, sl⟩, ho, hc, n, hd⟩ := id ht
  obtain ⟨⟨cls2, dd2, data2, sl2⟩, ho2, hc2, n2, hd2⟩ := id hb
  simp only at hc hd hc2 hd2
  subst hc hd hc2 hd2
  have e : vs.toArray ++ ws.toArray = (vs ++ ws).toArray := by simp
  by_cases hw : ws = []
  · exact concat_meets ⟨_, ho, rfl⟩ ⟨_, ho2, rfl⟩ noFill_tuple_add seq_tuple_add PySem.F.slot_tuple_add PySem.F.entry_tuple_add (PySem.F.args_tuple_add_2 _ _)
      (tuple_addW1 t b vs.toArray ws.toArray n n2 dd dd2 sl sl2 (by simpa using hv) (by simp [hw])) ⟨ho, ho2, h1 hw⟩
  · refine concat_meets ⟨_, ho, rfl⟩ ⟨_, ho2, rfl⟩ noFill_tuple_add seq_tuple_add PySem.F.slot_tuple_add PySem.F.entry_tuple_add (PySem.F.args_tuple_add_2 _ _)
      (tuple_addW2 t b vs.toArray ws.toArray n n2 dd dd2 sl sl2 (by simpa using hv) (by simpa using hw) (by rw [List.size_toArray, List.size_toArray]; exact hsz)) ⟨ho, ho2, ?_⟩
    rw [e]
    exact h2 hw

/-- a slice's bound as a place among n (d where it is left out) -/
def sIx (n d : Nat) : Option Int → Nat
  | none => d
  | some v => if v < 0 then (v + (n : Int)).toNat else min v.toNat n
theorem sIx_le (n d : Nat) (hd : d ≤ n) (o : Option Int) : sIx n d o ≤ n := by
  cases o with
  | none => exact hd
  | some v =>
    show (if v < 0 then (v + (n : Int)).toNat else min v.toNat n) ≤ n
    by_cases hv : v < 0
    · rw [if_pos hv]; first | lia | omega
    · rw [if_neg hv]; exact Nat.min_le_right _ _
theorem clip_eq (v : Int) (n d : Nat) : (if v < 0 then max (v + (n : Int)) 0 else min v (n : Int)) = ((sIx n d (some v) : Nat) : Int) := by
  show (if v < 0 then max (v + (n : Int)) 0 else min v (n : Int)) = (((if v < 0 then (v + (n : Int)).toNat else min v.toNat n) : Nat) : Int)
  by_cases hv : v < 0
  · simp only [if_pos hv]; first | lia | omega
  · simp only [if_neg hv]; first | lia | omega
theorem adjust_gen (lo hi : Option Int) (n : Nat) : Builtin.Slice.sliceAdjust lo hi 1 (n : Int) = (((sIx n 0 lo : Nat) : Int), ((sIx n n hi : Nat) : Int)) := by
  have h1 : ¬ ((1 : Int) < 0) := by first | lia | omega
  unfold Builtin.Slice.sliceAdjust
  simp only [h1, if_false]
  refine Prod.ext ?_ ?_
  · cases lo with
    | none => rfl
    | some v => exact clip_eq v n 0
  · cases hi with
    | none => rfl
    | some v => exact clip_eq v n n
theorem places_gen (i j : Nat) : Builtin.Slice.slicePlaces (i : Int) (j : Int) 1 = j - i := by
  unfold Builtin.Slice.slicePlaces
  have h1 : (1 : Int) > 0 := by first | lia | omega
  simp only [h1, if_true, Int.ediv_one]
  split <;> first | lia | omega
theorem slicePart_ {v : Value} {o : Option Int} {Q : Option Int → Shared → Prop} (p : IsPart v o) (h : Q o s) : wpAny (model prog w) A (Builtin.Slice.slicePartIndex v) Q E s := by
  cases p with
  | none => exact slicePart_none h
  | int i t => exact slicePart_int h
theorem sliceApplied_gen {sl : Addr} {vl vu : Value} {lo hi : Option Int} {n : Nat} {Q : Int × Int × Nat → Shared → Prop} (hs : s.heap.IsSliceOf sl vl vu .none) (pl : IsPart vl lo) (pu : IsPart vu hi)
    (h : Q (((sIx n 0 lo : Nat) : Int), 1, sIx n n hi - sIx n 0 lo) s) : wpAny (model prog w) A (Builtin.Slice.sliceApplied (.ref sl) (pure (n : Int))) Q E s := by
  obtain ⟨os, hos, hcs, hds⟩ := id hs
  unfold Builtin.Slice.sliceApplied Builtin.Slice.sliceFields
  refine wpAny_bind (wpAny_bind (wpAny_field hos hds (x := vl) rfl (wpAny_bind (wpAny_field hos hds (x := vu) rfl (wpAny_bind (wpAny_field hos hds (x := .none) rfl (wpAny_pure ?_)))))))
  refine wpAny_bind (slicePart_none ?_)
  show wpAny _ _ (if ((1 : Int) == 0) = true then _ else _) _ _ s
  rw [if_neg (by decide)]
  refine wpAny_bind (slicePart_ pl (wpAny_bind (slicePart_ pu (wpAny_bind (wpAny_pure ?_)))))
  show wpAny _ _ (match Builtin.Slice.sliceAdjust lo hi 1 (n : Int) with | (lo, hi) => pure (lo, (1 : Int), Builtin.Slice.slicePlaces lo hi 1)) _ _ s
  rw [adjust_gen lo hi n]
  show wpAny _ _ (pure (((sIx n 0 lo : Nat) : Int), (1 : Int), Builtin.Slice.slicePlaces ((sIx n 0 lo : Nat) : Int) ((sIx n n hi : Nat) : Int) 1)) _ _ s
  rw [places_gen]
  exact wpAny_pure h
theorem pick_gen (xs : Array Value) (i k : Nat) : ((List.range k).filterMap fun (m : Nat) => xs[((i : Int) + (m : Int) * 1).toNat]?).toArray = ((xs.toList.drop i).take k).toArray := by
  have e : (fun (m : Nat) => xs[((i : Int) + (m : Int) * 1).toNat]?) = fun m => xs[i + m]? := by
    funext m
    have : ((i : Int) + (m : Int) * 1).toNat = i + m := by first | lia | omega
    rw [this]
  rw [e]
  have := pick_run xs i k
  rw [List.filterMap_map] at this
  have e2 : ((fun x => xs[x]?) ∘ fun x => i + x) = fun m => xs[i + m]? := rfl
  rw [e2] at this
  rw [this]

theorem getItem_tuple_cut {t sl : Addr} {items : Array Value} {vl vu : Value} {lo hi : Option Int} {Q : Value → Shared → Prop} (ht : IsTup s.heap t items) (hs : s.heap.IsSliceOf sl vl vu .none) (pl : IsPart vl lo) (pu : IsPart vu hi)
    (hw : ¬ (sIx items.size 0 lo = 0 ∧ sIx items.size items.size hi = items.size))
    (h : Q (.ref s.heap.objs.size) { s with heap := s.heap.push { cls := .type "tuple", data := .seq ((items.toList.drop (sIx items.size 0 lo)).take (sIx items.size items.size hi - sIx items.size 0 lo)).toArray } })
    (hsz : items.size ≤ sizeLine) : wpAny (model prog w) A (getItem (.ref t) (.ref sl)) Q E s := by
  have htake : sizeOk (.seq ((items.toList.drop (sIx items.size 0 lo)).take (sIx items.size items.size hi - sIx items.size 0 lo)).toArray) := by
    show ((items.toList.drop (sIx items.size 0 lo)).take (sIx items.size items.size hi - sIx items.size 0 lo)).toArray.size ≤ sizeLine
    rw [List.size_toArray, List.length_take, List.length_drop, Array.length_toList]
    first | lia | omega
  have hj : sIx items.size items.size hi ≤ items.size := sIx_le _ _ (Nat.le_refl _) hi
  obtain ⟨os, hos, hcs, hds⟩ := id hs
  have hTs : s.TypeIs (.ref sl) "slice" := ⟨os, hos, hcs⟩
  unfold getItem
  try with_reducible refine wpAny_holding ?_
  first | refine wpAny_bind (wpAny_pure ?_) | skip
  refine wpAny_bind (wpAny_sequenceKey ht.typeIs (by decide) ?_)
  refine wpAny_bind (wpAny_callSpecial?_slot (name := Str.ofString "__getitem__") ht.typeIs PyProof.Rows.slot_tuple_getitem
    (wpAny_call_entry PyProof.Rows.slot_tuple_getitem ht.typeIs entry_tuple_getitem ?_ (args_tuple_getitem _ _)))
  show wpAny _ _ (Builtin.Tuple.tupleItemsOf (.ref t) >>= _) _ _ s
  refine wpAny_bind (tupleItemsOf_ ht ?_)
  refine wpAny_bind (wpAny_typeOf hTs ?_)
  rw [if_pos (by decide)]
  refine wpAny_bind (sliceApplied_gen hs pl pu ?_)
  have hno : ¬ ((((sIx items.size 0 lo : Nat) : Int) == 0 && (1 : Int) == 1 && (sIx items.size items.size hi - sIx items.size 0 lo) == items.size) = true) := by
    intro q
    rw [Bool.and_eq_true, Bool.and_eq_true] at q
    have q1 : ((sIx items.size 0 lo : Nat) : Int) = 0 := eq_of_beq q.1.1
    have q2 : sIx items.size items.size hi - sIx items.size 0 lo = items.size := eq_of_beq q.2
    exact hw ⟨by first | lia | omega, by first | lia | omega⟩
  show wpAny _ _ (if (((sIx items.size 0 lo : Nat) : Int) == 0 && (1 : Int) == 1 && (sIx items.size items.size hi - sIx items.size 0 lo) == items.size) = true then _ else _) _ _ s
  rw [if_neg hno, pick_gen]
  first
    | exact wpAny_bind (m := Builtin.Tuple.tupleExact _) (wpAny_newObj_type (wpAny_pure ⟨_, rfl, wpAny_pure h⟩) htake)
    | exact wpAny_bind (m := Builtin.Tuple.tupleExact _) (wpAny_newObj_type (wpAny_bind (wpAny_pure (wpAny_pure ⟨_, rfl, wpAny_pure h⟩))) htake)
    | exact wpAny_bind (wpAny_bind (m := Builtin.Tuple.tupleExact _) (wpAny_newObj_type (wpAny_pure (wpAny_pure ⟨_, rfl, wpAny_pure h⟩)) htake))
    | exact wpAny_bind (wpAny_bind (m := Builtin.Tuple.tupleExact _) (wpAny_newObj_type (wpAny_pure ⟨_, rfl, wpAny_pure h⟩) htake))
end
end HT

namespace L2
open PySem PySem.Spec PyProof.Rows

abbrev TO := St → Hp → (Option Int → Hp → Prop) → Prop
/-- a slice's part (left out, or an int) -/
def PO (X : Cx) (e : Option Expr) (t : TO) : Prop :=
  ∀ (pins : List (Addr × Obj)) (s : Shared) (σ : St) (H : Hp) (Q : Option Int → Hp → Prop), Inv X pins σ H s → t σ H Q →
    wpAny (model X.prog X.w) X.A (evalPart e X.env) (fun u s' => ∃ o H', Inv X pins σ H' s' ∧ IsPart u o ∧ Q o H') X.xe s
def tNoPart : TO := fun _ H Q => Q none H
def tPart (t : TE) : TO := fun σ H Q => t σ H fun x H1 => ∃ i, x = .int i ∧ Q (some i) H1

theorem intsAre_of {ns : List Int} : ∀ {us : List Value}, Vals (ns.map V.int) us → IntsAre us ns := by
  induction ns with
  | nil => intro us r; rw [List.map_nil] at r; cases r; exact .nil
  | cons n ns ih =>
    intro us r
    rw [List.map_cons] at r
    cases r with
    | cons r1 r2 =>
      obtain ⟨t, e⟩ := r1
      subst e
      exact .cons n t (ih r2)

section
variable {X : Cx} {e : Expr} {te : TE} {lo hi : Option Expr} {tl th : TO} {pos p2 : Pos}

theorem po_none : PO X none tNoPart := by
  intro pins s σ H Q I h
  rw [evalPart_none]
  exact wpAny_pure ⟨none, H, I, .none, h⟩
theorem po_some (h : PE X e te) : PO X (some e) (tPart te) := by
  intro pins s σ H Q I hw
  rw [evalPart_some]
  refine thn (h pins s σ H _ I hw) fun u s1 hz_ => ?_
  obtain ⟨x, H1, I1, r1, q1⟩ := hz_
  obtain ⟨i, rfl, q⟩ := q1
  obtain ⟨t, rfl⟩ := r1
  exact ⟨some i, H1, I1, .int i t, q⟩

/-- what a slice of a value is, by values: the slice object stands at sl -/
def SlR (X : Cx) (r : V → Option Int → Option Int → Hp → VK → Prop) : Prop :=
  ∀ (pins : List (Addr × Obj)) (s : Shared) (σ : St) (H : Hp) (x : V) (v vl vu : Value) (lo hi : Option Int) (sl : Addr) (Q : VK), Inv X pins σ H s → RelV x v → s.heap.IsSliceOf sl vl vu .none → IsPart vl lo → IsPart vu hi → r x lo hi H Q →
    ∃ T id, typeLookup (.type T) "__getitem__" = pure (some (.builtin id)) ∧ s.TypeIs v T ∧ wpAny (model X.prog X.w) X.A (getItem v (.ref sl)) (EP X pins σ Q) X.xe s
def tSl (r : V → Option Int → Option Int → Hp → VK → Prop) (te : TE) (tl th : TO) : TE := fun σ H Q => te σ H fun x H1 => tl σ H1 fun l H2 => th σ H2 fun u H3 => r x l u H3 Q
/-- a[lo:hi], any a -/
theorem pe_slice {r : V → Option Int → Option Int → Hp → VK → Prop} (hr : SlR X r) (he : PE X e te) (hl : PO X lo tl) (hu : PO X hi th) : PE X (.Subscript e (.Slice lo hi none p2) pos) (tSl r te tl th) := by
  intro pins s σ H Q I h
  refine Subscript_ (thn (he pins s σ H _ I h) fun v s1 hz_ => ?_)
  obtain ⟨x, H1, I1, r1, q1⟩ := hz_
  refine wpAny_Slice (thn (hl pins s1 σ H1 _ I1 q1) fun vl s2 ⟨l, H2, I2, pl, q2⟩ => thn (hu pins s2 σ H2 _ I2 q2) fun vu s3 hz_ => ?_)
  obtain ⟨u, H3, I3, pu, q3⟩ := hz_
  rw [evalPart_none]
  refine wpAny_pure ?_
  have I4 : Inv X pins σ H3 { s3 with heap := s3.heap.push { cls := .type "slice", data := .fields #[vl, vu, .none] } } := I3.kept (t' := s3.toks) fun b ob q => Heap.get?_push_of_some _ q
  obtain ⟨T, id, hT, ht, hg⟩ := hr pins { s3 with heap := s3.heap.push { cls := .type "slice", data := .fields #[vl, vu, .none] } } σ H3 x v vl vu l u s3.heap.objs.size Q I4 r1 (Heap.IsSliceOf.new ..) pl pu q3
  show wpAny (model X.prog X.w) X.A (subscriptTail e (.Slice lo hi none p2) v (.ref s3.heap.objs.size)) (EP X pins σ Q) X.xe { s3 with heap := s3.heap.push { cls := .type "slice", data := .fields #[vl, vu, .none] } }
  exact tail_any (ops := [.ref s3.heap.objs.size, v]) ht hT hg (by with_unfolding_all rfl)

/-- the items of xs[lo:hi] -/
def cutV (xs : List V) (lo hi : Option Int) : List V := (xs.drop (HT.sIx xs.length 0 lo)).take (HT.sIx xs.length xs.length hi - HT.sIx xs.length 0 lo)
theorem cutV_length (xs : List V) (lo hi : Option Int) : (cutV xs lo hi).length ≤ xs.length := by
  unfold cutV
  rw [List.length_take, List.length_drop]
  first | lia | omega
/-- t[lo:hi], not the whole of it (the whole would be t itself) -/
def rSlT (K : PySem.W.Frag) : V → Option Int → Option Int → Hp → VK → Prop := fun x lo hi H Q => ∃ a xs, x = .ref a ∧ SqT K H a xs ∧
  ¬ (HT.sIx xs.length 0 lo = 0 ∧ HT.sIx xs.length xs.length hi = xs.length) ∧ ∀ p, H p = none → Q (.ref p) (upd H p (.tup (cutV xs lo hi)))
theorem sl_tup : SlR X (rSlT X.K) := by
  intro pins s σ H x v vl vu lo hi sl Q I rx hs pl pu h
  obtain ⟨a, xs, rfl, hx, hw, q⟩ := h
  cases rx
  obtain ⟨its, r, ht, hz⟩ := I.tuple hx
  have hlen : its.toArray.size = xs.length := by rw [List.size_toArray]; exact r.length.symm
  refine ⟨"tuple", _, PyProof.Rows.slot_tuple_getitem.lookup, ht.typeIs, ?_⟩
  refine HT.getItem_tuple_cut ht hs pl pu (by rw [hlen]; exact hw) ?_ (by rw [hlen]; exact hz)
  rw [hlen]
  refine ⟨.ref s.heap.objs.size, _, I.laid (t' := s.toks) (o := .tup (cutV xs lo hi)) (fun b ob q => Heap.get?_push_of_some _ q) (Nat.le_refl _) ?_, rfl, q _ (I.hok.fresh (Nat.le_refl _))⟩
  exact ⟨Nat.le_trans (cutV_length xs lo hi) hz, _, (r.drop (HT.sIx xs.length 0 lo)).take (HT.sIx xs.length xs.length hi - HT.sIx xs.length 0 lo), IsTup.new _ _⟩

/-- t + u, t not empty: u empty gives t itself -/
def rCatT (K : PySem.W.Frag) : R2 := fun x y H Q => ∃ a b xs ys, x = .ref a ∧ y = .ref b ∧ SqT K H a xs ∧ SqT K H b ys ∧ xs ≠ [] ∧ xs.length + ys.length ≤ sizeLine ∧
  (ys = [] → Q (.ref a) H) ∧ (ys ≠ [] → ∀ p, H p = none → Q (.ref p) (upd H p (.tup (xs ++ ys))))
theorem Vals.nil_iff {xs : List V} {us : List Value} (r : Vals xs us) : us = [] ↔ xs = [] := by
  cases r with
  | nil => simp
  | cons _ _ => simp
theorem op_catT : OpR X (binaryOp .Add) (rCatT X.K) := by
  intro pins s σ H x y v u Q I rx ry h
  obtain ⟨a, b, xs, ys, rfl, rfl, ha, hb, hx, hz, q1, q2⟩ := h
  cases rx
  cases ry
  obtain ⟨its, r1, p1, _⟩ := I.tuple ha
  obtain ⟨its2, r2, p2, _⟩ := I.tuple hb
  refine HT.cat_tup p1 p2 (fun z => hx (r1.nil_iff.mp z)) (fun z => ⟨.ref a, H, I, rfl, q1 (r2.nil_iff.mp z)⟩) (fun z => ?_) (by rw [← r1.length, ← r2.length]; exact hz)
  refine ⟨.ref s.heap.objs.size, _, I.laid (t' := s.toks) (o := .tup (xs ++ ys)) (fun b ob q => Heap.get?_push_of_some _ q) (Nat.le_refl _) ?_, rfl, q2 (fun w => z (r2.nil_iff.mpr w)) _ (I.hok.fresh (Nat.le_refl _))⟩
  exact ⟨by rw [List.length_append]; exact hz, _, r1.append r2, IsTup.new _ _⟩
end
end L2

namespace L2
open PySem PySem.Spec PyProof.Rows

/-- the place that an index of any sign means -/
def ixN (n : Nat) (i : Int) : Option Nat := if 0 ≤ i then (if i < n then some i.toNat else none) else if -(n : Int) ≤ i then some (i + n).toNat else none
def atI {α : Type} (xs : List α) (i : Int) : Option α := (ixN xs.length i).bind fun j => xs[j]?
theorem ixN_seq {n : Nat} {i : Int} {j : Nat} (h : ixN n i = some j) : seqIndex? i n = some j ∧ j < n ∧ -(n : Int) ≤ i ∧ i < n := by
  unfold ixN at h
  by_cases h0 : 0 ≤ i
  · rw [if_pos h0] at h
    by_cases h1 : i < n
    · rw [if_pos h1] at h
      have e : i.toNat = j := Option.some.inj h
      exact ⟨by rw [seqIndex_of h0 h1, e], by first | lia | omega, by first | lia | omega, h1⟩
    · rw [if_neg h1] at h; cases h
  · rw [if_neg h0] at h
    by_cases h1 : -(n : Int) ≤ i
    · rw [if_pos h1] at h
      have e : (i + n).toNat = j := Option.some.inj h
      exact ⟨by rw [seqIndex_neg (by first | lia | omega) h1, e], by first | lia | omega, h1, by first | lia | omega⟩
    · rw [if_neg h1] at h; cases h
theorem atI_get {α : Type} {xs : List α} {i : Int} {v : α} (h : atI xs i = some v) : ∃ j, seqIndex? i xs.length = some j ∧ xs[j]? = some v ∧ j < xs.length ∧ -(xs.length : Int) ≤ i ∧ i < xs.length := by
  unfold atI at h
  cases e : ixN xs.length i with
  | none => rw [e] at h; cases h
  | some j =>
    rw [e] at h
    obtain ⟨h1, h2, h3, h4⟩ := ixN_seq e
    exact ⟨j, h1, h, h2, h3, h4⟩
theorem atI_nat {α : Type} {xs : List α} {j : Nat} {v : α} (h : xs[j]? = some v) : atI xs (j : Int) = some v := by
  have hj : j < xs.length := (List.getElem?_eq_some_iff.mp h).1
  have e : ixN xs.length (j : Int) = some j := by
    unfold ixN
    rw [if_pos (by first | lia | omega), if_pos (by first | lia | omega)]; simp
  unfold atI; rw [e]; exact h
/-- what stands as an index of a plain subscript -/
def PlainIx (b : Expr) : Prop := ∀ o i, subscripted b false o i = operate [o, i] (getItem o i)
/-- a subscript by values -/
def IxR (X : Cx) (r : R2) : Prop :=
  ∀ (value slice : Expr) (pins : List (Addr × Obj)) (s : Shared) (σ : St) (H : Hp) (x y : V) (v u : Value) (Q : VK), Inv X pins σ H s → RelV x v → RelV y u → r x y H Q →
    subscripted slice false v u = operate [v, u] (getItem v u) → wpAny (model X.prog X.w) X.A (subscriptTail value slice v u) (EP X pins σ Q) X.xe s
/-- a call of a builtin's method by values: the receiver, the arguments -/
def MtR (X : Cx) (id : String) (r : V → List V → Hp → VK → Prop) : Prop :=
  ∀ (pins : List (Addr × Obj)) (s : Shared) (σ : St) (H : Hp) (x : V) (xs : List V) (v : Value) (us : List Value) (Q : VK), Inv X pins σ H s → RelV x v → Vals xs us → r x xs H Q →
    wpAny (model X.prog X.w) X.A (call (.builtin id) (v :: us)) (EP X pins σ Q) X.xe s
section
variable {X : Cx} {a b : Expr} {ta tb : TE} {pos : Pos}
/-- a[b] -/
theorem pe_ix {r : R2} (hr : IxR X r) (ha : PE X a ta) (hb : PE X b tb) (hs : PlainIx b) : PE X (.Subscript a b pos) (tOp r ta tb) := by
  intro pins s σ H Q I h
  exact Subscript_ (binT ha hb I h fun v u s2 x y H2 I2 rx ry q => hr a b pins s2 σ H2 x y v u Q I2 rx ry q (hs _ _))

inductive IIxL (K : PySem.W.Frag) (x y : V) (H : Hp) (Q : VK) : Prop
  | mk (p : Addr) (xs : List V) (i : Int) (v : V) (e1 : x = .ref p) (e2 : y = .int i) (s : SqL K H p xs) (a : atI xs i = some v) (q : Q v H) : IIxL K x y H Q
inductive IIxT (K : PySem.W.Frag) (x y : V) (H : Hp) (Q : VK) : Prop
  | mk (p : Addr) (xs : List V) (i : Int) (v : V) (e1 : x = .ref p) (e2 : y = .int i) (s : SqT K H p xs) (a : atI xs i = some v) (q : Q v H) : IIxT K x y H Q
def rIxL (K : PySem.W.Frag) : R2 := fun x y H Q => IIxL K x y H Q
def rIxT (K : PySem.W.Frag) : R2 := fun x y H Q => IIxT K x y H Q
theorem ix_list : IxR X (rIxL X.K) := by
  intro value slice pins s σ H x y v u Q I rx ry h hs
  obtain ⟨p, xs, i, z, rfl, rfl, hq, he, q⟩ := h
  cases rx
  obtain ⟨t, rfl⟩ := ry
  obtain ⟨its, r, pl, hz⟩ := I.list hq
  obtain ⟨j, h1, h2, h3, h4, h5⟩ := atI_get he
  obtain ⟨w, ew, rw'⟩ := r.get h2
  have hl := r.length
  have hn := line63
  have fin : EP X pins σ Q w s := ⟨z, H, I, rw', q⟩
  by_cases h0 : 0 ≤ i
  · have hj : i.toNat = j := by
      rw [seqIndex_of h0 h5] at h1
      exact Option.some.inj h1
    exact item_listR pl.isList h0 (by first | lia | omega) (by rw [hj]; simpa using ew) fin hs
  · have hj : (i + (its.toArray.size : Int)).toNat = j := by
      rw [seqIndex_neg (by first | lia | omega) h4] at h1
      rw [List.size_toArray, ← hl]
      exact Option.some.inj h1
    exact subscriptTail_builtinR (x := w) pl.isList.typeIs slot_list_getitem.lookup
      (wpAny_getItem_list_neg (Q := fun r s' => r = w ∧ EP X pins σ Q r s') pl.isList (by first | lia | omega) (by rw [List.size_toArray] <;> first | lia | omega) (by first | lia | omega) (by rw [hj]; simpa using ew) ⟨rfl, fin⟩) hs
theorem ix_tup : IxR X (rIxT X.K) := by
  intro value slice pins s σ H x y v u Q I rx ry h hs
  obtain ⟨p, xs, i, z, rfl, rfl, hq, he, q⟩ := h
  cases rx
  obtain ⟨t, rfl⟩ := ry
  obtain ⟨its, r, pl, hz⟩ := I.tuple hq
  obtain ⟨j, h1, h2, h3, h4, h5⟩ := atI_get he
  obtain ⟨w, ew, rw'⟩ := r.get h2
  have hl := r.length
  have hn := line63
  have fin : EP X pins σ Q w s := ⟨z, H, I, rw', q⟩
  exact subscriptTail_builtinR (x := w) pl.typeIs slot_tuple_getitem.lookup
    (getItem_tuple (j := j) (Q := fun r s' => r = w ∧ EP X pins σ Q r s') pl (by first | lia | omega) (by first | lia | omega) (by rw [List.size_toArray, ← hl]; exact h1) (by simpa using ew) ⟨rfl, fin⟩) hs
/-- the list's object behind a store -/
theorem mapSeq_set (its : List Value) (n j : Nat) (u : Value) : Obj.mapSeq (·.setIfInBounds j u) { cls := .type "list", data := .seq its.toArray n } = { cls := .type "list", data := .seq (its.set j u).toArray n } := by
  simp [Obj.mapSeq]
theorem Inv.lst {pins : List (Addr × Obj)} {σ : St} {H : Hp} {s : Shared} {p : Addr} {xs : List V} (I : Inv X pins σ H s) (h : H p = some (.lst xs)) :
    ∃ (its : List Value) (n : Nat), Vals xs its ∧ s.heap.get? p = some { cls := .type "list", data := .seq its.toArray n } ∧ xs.length ≤ sizeLine := by
  obtain ⟨z, its, n, r, e⟩ := I.hok p _ h
  exact ⟨its, n, r, e, z⟩
/-- the list at p is written by an update of its object -/
theorem Inv.lstUpd {pins : List (Addr × Obj)} {σ : St} {H : Hp} {s : Shared} {p : Addr} {xs ys : List V} {its its' : List Value} {n n' : Nat} {f : Obj → Obj} (I : Inv X pins σ H s) (h : H p = some (.lst xs))
    (ho : s.heap.get? p = some { cls := .type "list", data := .seq its.toArray n }) (hf : f { cls := .type "list", data := .seq its.toArray n } = { cls := .type "list", data := .seq its'.toArray n' }) (r : Vals ys its') (hz : ys.length ≤ sizeLine) (t : Nat) :
    Inv X pins σ (upd H p (.lst ys)) { s with heap := s.heap.update p f, toks := t } := by
  have e : (s.heap.update p f).get? p = some { cls := .type "list", data := .seq its'.toArray n' } := by
    rw [Heap.get?_update_self f ho (by rw [hf] <;> rfl), hf]
  refine I.write (x := p) (e := p) (by rw [h]; trivial) (.inl rfl) (fun b u hb q => (Heap.get?_update_other _ _ (Ne.symm hb)).trans q) ⟨_, e⟩ ?_
  exact ⟨hz, its', n', r, e⟩
def rSetL : V → V → V → Hp → (Hp → Prop) → Prop := fun o i v H Q => ∃ p xs k j, o = .ref p ∧ i = .int k ∧ H p = some (.lst xs) ∧ ixN xs.length k = some j ∧ Q (upd H p (.lst (xs.set j v)))
theorem set_list : PSet X rSetL := by
  intro pins s σ H o i v ov iv u Q I ro ri rv h
  obtain ⟨p, xs, k, j, rfl, rfl, hp, hj, q⟩ := h
  cases ro
  obtain ⟨t, rfl⟩ := ri
  obtain ⟨its, n, r, ho, hz⟩ := I.lst hp
  obtain ⟨h1, h2, h3, h4⟩ := ixN_seq hj
  have hl := r.length
  have hn := line63
  have I' : Inv X pins σ (upd H p (.lst (xs.set j v))) { s with heap := s.heap.update p (Obj.mapSeq (·.setIfInBounds j u)) } :=
    I.lstUpd hp ho (mapSeq_set its n j u) (r.set rv j) (by rw [List.length_set]; exact hz) s.toks
  by_cases h0 : 0 ≤ k
  · have hk : k.toNat = j := by
      rw [seqIndex_of h0 h4] at h1
      exact Option.some.inj h1
    exact PySem.W.ki_setAt ho h0 (by first | lia | omega) (by rw [List.size_toArray, ← hl]; exact h4) (by rw [hk]; exact ⟨_, I', q⟩)
  · have hk : (k + (its.toArray.size : Int)).toNat = j := by
      rw [seqIndex_neg (by first | lia | omega) h3] at h1
      rw [List.size_toArray, ← hl]
      exact Option.some.inj h1
    exact PySem.W.ki_setBack ho (by first | lia | omega) (by rw [List.size_toArray, ← hl]; exact h3) (by first | lia | omega) (by rw [hk]; exact ⟨_, I', q⟩)

theorem slice_bounds (lo hi : Option Int) (n : Nat) : (sliceBounds lo hi none n).1 = ((HT.sIx n 0 lo : Nat) : Int) ∧ (sliceBounds lo hi none n).2.1 = ((HT.sIx n n hi : Nat) : Int) ∧ (sliceBounds lo hi none n).2.2 = 1 := by
  refine ⟨?_, ?_, rfl⟩
  · cases lo with
    | none => simp [sliceBounds, HT.sIx]
    | some i =>
      simp only [sliceBounds, HT.sIx, Option.getD_none, show (1 : Int) > 0 by decide, if_true]
      by_cases h : i < 0
      · simp only [h, if_true] <;> first | lia | omega
      · simp only [h, if_false] <;> first | lia | omega
  · cases hi with
    | none => simp [sliceBounds, HT.sIx]
    | some i =>
      simp only [sliceBounds, HT.sIx, Option.getD_none, show (1 : Int) > 0 by decide, if_true]
      by_cases h : i < 0
      · simp only [h, if_true] <;> first | lia | omega
      · simp only [h, if_false] <;> first | lia | omega
theorem slicePick_cut (its : List Value) (lo hi : Option Int) : slicePick its.toArray lo hi none = ((its.drop (HT.sIx its.length 0 lo)).take (HT.sIx its.length its.length hi - HT.sIx its.length 0 lo)).toArray := by
  obtain ⟨h1, h2, h3⟩ := slice_bounds lo hi its.toArray.size
  unfold slicePick
  rw [h1, h2, h3]
  simp only [sliceRange_one, pick_run, List.size_toArray] <;> rfl
/-- xs[lo:hi] of a list: a new list -/
def rSlL (K : PySem.W.Frag) : V → Option Int → Option Int → Hp → VK → Prop := fun x lo hi H Q => ∃ a xs, x = .ref a ∧ SqL K H a xs ∧ ∀ p, H p = none → Q (.ref p) (upd H p (.lst (cutV xs lo hi)))
theorem sl_list : SlR X (rSlL X.K) := by
  intro pins s σ H x v vl vu lo hi sl Q I rx hs pl pu h
  obtain ⟨a, xs, rfl, hx, q⟩ := h
  cases rx
  obtain ⟨its, r, ht, hz⟩ := I.list hx
  have hlen := r.length
  refine ⟨"list", _, slot_list_getitem.lookup, ht.isList.typeIs, ?_⟩
  refine wpAny_getItem_list_slice ht.isList hs pl pu .none (by simp) ?_ (by rw [List.size_toArray] <;> first | lia | omega)
  rw [slicePick_cut, ← hlen]
  refine ⟨.ref s.heap.objs.size, _, I.laid (t' := s.toks) (o := .lst (cutV xs lo hi)) (fun b ob q => Heap.get?_push_of_some _ q) (Nat.le_refl _) ?_, rfl, q _ (I.hok.fresh (Nat.le_refl _))⟩
  exact ⟨Nat.le_trans (cutV_length xs lo hi) hz, _, 0, (r.drop (HT.sIx xs.length 0 lo)).take (HT.sIx xs.length xs.length hi - HT.sIx xs.length 0 lo), Heap.get?_push_size _ rfl⟩

def flatV : V → Bool
  | .non => true
  | .bl _ => true
  | .int _ => true
  | .str _ => true
  | _ => false
/-- == of flat values -/
def eqV : V → V → Bool
  | .non, .non => true
  | .bl a, .bl b => a == b
  | .bl a, .int b => (if a then 1 else 0) == b
  | .int a, .bl b => a == (if b then 1 else 0)
  | .int a, .int b => a == b
  | .str a, .str b => a == b
  | _, _ => false
theorem eqAt_V {A : Around} {s : Shared} {y x : V} {u v : Value} (ry : RelV y u) (rx : RelV x v) (fy : flatV y = true) (fx : flatV x = true) : SeqAt.EqAt A s u v (eqV y x) := by
  cases y with
  | non =>
    cases ry
    cases x with
    | non => cases rx; exact SeqAt.EqAt.same _
    | bl b => cases rx; exact SeqAt.EqAt.none_bool b
    | int b => obtain ⟨t, rfl⟩ := rx; exact SeqAt.EqAt.none_int b t
    | str b => obtain ⟨t, rfl⟩ := rx; exact SeqAt.EqAt.none_str b t
    | _ => exact absurd (show false = true from fx) Bool.false_ne_true
  | bl a =>
    cases ry
    cases x with
    | non => cases rx; exact SeqAt.EqAt.bool_none a
    | bl b => cases rx; exact SeqAt.EqAt.bool_bool a b
    | int b => obtain ⟨t, rfl⟩ := rx; exact SeqAt.EqAt.bool_int a b t
    | str b => obtain ⟨t, rfl⟩ := rx; exact SeqAt.EqAt.bool_str a b t
    | _ => exact absurd (show false = true from fx) Bool.false_ne_true
  | int a =>
    obtain ⟨t', rfl⟩ := ry
    cases x with
    | non => cases rx; exact SeqAt.EqAt.int_none a t'
    | bl b => cases rx; exact SeqAt.EqAt.int_bool a t' b
    | int b => obtain ⟨t, rfl⟩ := rx; exact SeqAt.EqAt.int_int a t' b t
    | str b => obtain ⟨t, rfl⟩ := rx; exact SeqAt.EqAt.int_str a t' b t
    | _ => exact absurd (show false = true from fx) Bool.false_ne_true
  | str a =>
    obtain ⟨t', rfl⟩ := ry
    cases x with
    | non => cases rx; exact SeqAt.EqAt.str_none a t'
    | bl b => cases rx; exact SeqAt.EqAt.str_bool a t' b
    | int b => obtain ⟨t, rfl⟩ := rx; exact SeqAt.EqAt.str_int a t' b t
    | str b => obtain ⟨t, rfl⟩ := rx; exact SeqAt.EqAt.str_str a t' b t
    | _ => exact absurd (show false = true from fx) Bool.false_ne_true
  | _ => exact absurd (show false = true from fy) Bool.false_ne_true
theorem call_len_seq : CallR X (.builtin "len") (fun xs H Q => ∃ p ys, xs = [.ref p] ∧ (SqL X.K H p ys ∨ SqT X.K H p ys) ∧ Q (.int ys.length) H) := by
  intro pins s σ H xs us Q I r h
  obtain ⟨p, ys, rfl, hq, q⟩ := h
  obtain ⟨u, rfl, rx⟩ := vals1 r
  cases rx
  have hn := line63
  rcases hq with hq | hq
  · obtain ⟨its, r', pl, hz⟩ := I.list hq
    have hlen := r'.length
    exact Calls.call_len_list pl.isList (by simp only [List.size_toArray] <;> first | lia | omega) ⟨.int ys.length, H, I.tok _, ⟨s.toks + 1, by rw [List.size_toArray, hlen]⟩, q⟩
  · obtain ⟨its, r', pl, hz⟩ := I.tuple hq
    have hlen := r'.length
    exact len_tuple pl (by simp only [List.size_toArray] <;> first | lia | omega) ⟨.int ys.length, H, I.tok _, ⟨s.toks + 1, by rw [List.size_toArray, hlen]⟩, q⟩
theorem call_list_of : CallR X (.type "list") (fun xs H Q => ∃ p ys, xs = [.ref p] ∧ (SqL X.K H p ys ∨ SqT X.K H p ys) ∧ ∀ l, H l = none → Q (.ref l) (upd H l (.lst ys))) := by
  intro pins s σ H xs us Q I r h
  obtain ⟨p, ys, rfl, hq, q⟩ := h
  obtain ⟨u, rfl, rx⟩ := vals1 r
  cases rx
  have fin : ∀ (its : List Value), Vals ys its → ys.length ≤ sizeLine → ∀ (h' : Heap) (c' : Nat), (∀ b o', s.heap.get? b = some o' → h'.get? b = some o') →
      h'.get? s.heap.objs.size = some { cls := .type "list", dict := none, data := .seq its.toArray c', slots := #[] } → EP X pins σ Q (.ref s.heap.objs.size) { s with heap := h' } := fun its r' hz h' c' kp e =>
    ⟨.ref s.heap.objs.size, _, I.laid (t' := s.toks) kp (Nat.le_refl _) (show ObjOk X.prog X.w _ h' _ (.lst ys) from ⟨hz, its, c', r', e⟩), rfl, q _ (I.hok.fresh (Nat.le_refl _))⟩
  rcases hq with hq | hq
  · obtain ⟨its, r', pl, hz⟩ := I.list hq
    have hlen := r'.length
    obtain ⟨o, ho, hc, n, hd⟩ := pl.isList
    exact call_list_seq p (.inl rfl) ho hc hd (fun h' c' kp e => fin its r' hz h' c' kp e) (by simp only [List.size_toArray] <;> first | lia | omega)
  · obtain ⟨its, r', pl, hz⟩ := I.tuple hq
    have hlen := r'.length
    obtain ⟨o, ho, hc, n, hd⟩ := pl
    exact call_list_seq p (.inr rfl) ho hc hd (fun h' c' kp e => fin its r' hz h' c' kp e) (by simp only [List.size_toArray] <;> first | lia | omega)
theorem call_tuple_of : CallR X (.type "tuple") (fun xs H Q => ∃ p ys, xs = [.ref p] ∧ ((SqL X.K H p ys ∧ ∀ l, H l = none → Q (.ref l) (upd H l (.tup ys))) ∨ (SqT X.K H p ys ∧ Q (.ref p) H))) := by
  intro pins s σ H xs us Q I r h
  obtain ⟨p, ys, rfl, h⟩ := h
  obtain ⟨u, rfl, rx⟩ := vals1 r
  cases rx
  rcases h with ⟨hq, q⟩ | ⟨hq, q⟩
  · obtain ⟨its, r', pl, hz⟩ := I.list hq
    have hlen := r'.length
    refine call_tuple_list pl.isList (fun h' kp => ?_) (by simp only [List.size_toArray] <;> first | lia | omega)
    have I1 : Inv X pins σ H { s with heap := h' } := I.kept (t' := s.toks) kp
    have I2 : Inv X pins σ (upd H h'.objs.size (.tup ys)) { s with heap := h'.push { cls := .type "tuple", data := .seq its.toArray } } :=
      I1.laid (t' := s.toks) (fun b o e => Heap.get?_push_of_some _ e) (Nat.le_refl _) (show ObjOk X.prog X.w _ _ _ (.tup ys) from ⟨hz, its, r', IsTup.new _ _⟩)
    exact ⟨.ref h'.objs.size, _, I2, rfl, q _ (I1.hok.fresh (Nat.le_refl _))⟩
  · obtain ⟨its, r', pl, hz⟩ := I.tuple hq
    exact call_tuple_same pl ⟨.ref p, H, I, rfl, q⟩

/-- the value is of that builtin type -/
def tyV (K : PySem.W.Frag) (T : String) (x : V) (H : Hp) : Prop := match x with
  | .str _ => T = "str"
  | .int _ => T = "int"
  | .ref p => (T = "list" ∧ ∃ xs, SqL K H p xs) ∨ (T = "tuple" ∧ ∃ o, K.lookup p = some o ∧ o.cls = .type "tuple" ∧ o.dict = none) ∨
      (T = "dict" ∧ ((∃ kvs, H p = some (.dK kvs)) ∨ ∃ kvs, H p = some (.dT kvs))) ∨ (T = "set" ∧ ∃ S n, H p = some (.set S n))
  | _ => False
theorem tyV_is {pins : List (Addr × Obj)} {σ : St} {H : Hp} {s : Shared} {T : String} {x : V} {v : Value} (I : Inv X pins σ H s) (r : RelV x v) (ty : tyV X.K T x H) :
    s.TypeIs v T ∧ ∀ a, v = .ref a → ∃ ob, s.heap.get? a = some ob ∧ ob.dict = none := by
  cases x with
  | str z =>
    obtain ⟨t, rfl⟩ := r
    cases (show T = "str" from ty)
    exact ⟨typeIs_str s z t, fun _ e => nomatch e⟩
  | int i =>
    obtain ⟨t, rfl⟩ := r
    cases (show T = "int" from ty)
    exact ⟨typeIs_int s i t, fun _ e => nomatch e⟩
  | ref p =>
    cases r
    rcases ty with ⟨rfl, xs, hq⟩ | ⟨rfl, o, hk, hc, hd⟩ | ⟨rfl, hk⟩ | ⟨rfl, S, n, hk⟩
    · obtain ⟨its, _, pl, _⟩ := I.list hq
      refine ⟨pl.isList.typeIs, fun a e => ?_⟩
      cases e
      obtain ⟨o, n, e, c, hd, _⟩ := pl
      exact ⟨o, e, hd⟩
    · refine ⟨⟨o, I.kIn p o hk, hc⟩, fun a e => ?_⟩
      cases e
      exact ⟨o, I.kIn _ o hk, hd⟩
    · have z : ∃ o, s.heap.get? p = some o ∧ o.ExactDict := by
        rcases hk with ⟨kvs, hk⟩ | ⟨kvs, hk⟩
        · obtain ⟨_, _, _, _, o, _, _, e, ex, _⟩ := I.hok p _ hk
          exact ⟨o, e, ex⟩
        · obtain ⟨_, _, _, _, o, _, _, e, ex, _⟩ := I.hok p _ hk
          exact ⟨o, e, ex⟩
      obtain ⟨o, e, ex⟩ := z
      refine ⟨⟨o, e, ex.1⟩, fun a e2 => ?_⟩
      cases e2
      exact ⟨o, e, ex.2.1⟩
    · obtain ⟨o, _, _, _, e, ex, _⟩ := I.hok p _ hk
      refine ⟨⟨o, e, ex.1⟩, fun a e2 => ?_⟩
      cases e2
      exact ⟨o, e, ex.2.1⟩
  | _ => exact False.elim ty
def tBM0 (K : PySem.W.Frag) (T : String) (r : V → List V → Hp → VK → Prop) (to : TE) : TE := fun σ H Q => to σ H fun x H1 => tyV K T x H1 ∧ r x [] H1 Q
def tBM (K : PySem.W.Frag) (T : String) (r : V → List V → Hp → VK → Prop) (to : TE) (t : TA) : TE := fun σ H Q => to σ H fun x H1 => tyV K T x H1 ∧ t σ H1 fun xs H2 => r x xs H2 Q
variable {o e : Expr} {es : List Expr} {to : TE} {t : TA} {name : Str} {apos cpos : Pos} {T id : String} {r : V → List V → Hp → VK → Prop}
theorem pe_bm0 (pa : PlainAttrs T) (slot : Slot T name id) (hty : typeOf (.builtin id) = pure (.type "method_descriptor")) (hm : MtR X id r) (ho : PE X o to)
    (hbase : attributeBase o name X.env (eval o X.env) = eval o X.env := by rfl) (hline : (apos.endLine == cpos.line) = true := by rfl) : PE X (.Call (.Attribute o name apos) [] [] cpos) (tBM0 X.K T r to) := by
  intro pins s σ H Q I h
  refine wpAny_Call_method0_late hbase hline (thn (ho pins s σ H _ I h) fun v s1 hz_ => ?_)
  obtain ⟨x, H1, I1, r1, ty, q1⟩ := hz_
  obtain ⟨h1, h2⟩ := tyV_is I1 r1 ty
  exact ⟨T, id, pa, slot, hty, h1, h2, Calls.callWith_builtin rfl (PySem.evalArgs_none (hm pins s1 σ H1 x [] v [] Q I1 r1 .nil q1))⟩
theorem pe_bm (pa : PlainAttrs T) (slot : Slot T name id) (hty : typeOf (.builtin id) = pure (.type "method_descriptor")) (hm : MtR X id r) (ho : PE X o to) (ha : PA X (e :: es) t)
    (hbase : attributeBase o name X.env (eval o X.env) = eval o X.env := by rfl)
    (hfew : ((backTo cpos (starEach (e :: es) X.env)).all (fun x => !x.1) && (backToKw cpos (keywordEach [] X.env)).all (fun x => x.1.isSome)
      && decide ((e :: es).length + ([] : List Keyword).length + (if ([] : List Keyword).isEmpty then 0 else 1) < 30)) = true := by rfl)
    (hline : (apos.endLine == cpos.line) = true := by rfl) (hs : starEach (e :: es) X.env = (false, eval e X.env) :: starEach es X.env := by rfl) (hplain : (backTo cpos (starEach es X.env)).any (·.1) = false := by rfl) :
    PE X (.Call (.Attribute o name apos) (e :: es) [] cpos) (tBM X.K T r to t) := by
  intro pins s σ H Q I h
  refine wpAny_Call_method_late hbase hfew hline rfl (thn (ho pins s σ H _ I h) fun v s1 hz_ => ?_)
  obtain ⟨x, H1, I1, r1, ty, q1⟩ := hz_
  obtain ⟨h1, h2⟩ := tyV_is I1 r1 ty
  refine ⟨T, id, pa, slot, hty, h1, h2, ?_⟩
  have hA := ha cpos pins s1 σ H1 _ I1 q1
  rw [hs] at hA ⊢
  refine Calls.callWith_builtin (by show (false || (backTo cpos (starEach es X.env)).any (·.1)) = false; rw [hplain] <;> rfl) (Calls.evalArgs_plain ?_)
  exact thn hA fun us s2 ⟨vs, H2, I2, r2, q2⟩ => hm pins s2 σ H2 x vs v us Q I2 r1 r2 q2
/- xs.append(e), list.index on a module's tuple .. are MtR facts of 06m -/
end
end L2

namespace L2
open PySem PySem.Spec PyProof.Rows

def MtM (X : Cx) (id : String) (r : V → List V → Hp → VK → Prop) : Prop :=
  ∀ (pins : List (Addr × Obj)) (s : Shared) (σ : St) (H : Hp) (x : V) (xs : List V) (v : Value) (us : List Value) (Q : VK), Inv X pins σ H s → RelV x v → Vals xs us → r x xs H Q →
    wpAny (model X.prog X.w) X.A (call (.builtin id) (v :: us)) (EP X pins σ Q) X.xe s

theorem Vals.one : ∀ {x : V} {us : List Value}, Vals [x] us → ∃ u, us = [u] ∧ RelV x u
  | _, _, h => by
    cases h with
    | cons r t => cases t; exact ⟨_, rfl, r⟩
theorem Vals.two : ∀ {x y : V} {us : List Value}, Vals [x, y] us → ∃ u v, us = [u, v] ∧ RelV x u ∧ RelV y v
  | _, _, _, h => by
    cases h with
    | cons r t =>
      obtain ⟨v, rfl, q⟩ := Vals.one t
      exact ⟨_, v, rfl, r, q⟩
theorem Vals.zero : ∀ {us : List Value}, Vals [] us → us = []
  | _, .nil => rfl
theorem Vals.dropLast {xs : List V} {us : List Value} (h : Vals xs us) : Vals xs.dropLast us.dropLast := by
  induction h with
  | nil => exact .nil
  | cons r t ih =>
    cases t with
    | nil => exact .nil
    | cons q t' => exact .cons r ih
theorem Vals.eraseIdx : ∀ {xs : List V} {us : List Value} (i : Nat), Vals xs us → Vals (xs.eraseIdx i) (us.eraseIdx i)
  | _, _, _, .nil => .nil
  | _, _, 0, .cons _ t => t
  | _, _, i + 1, .cons r t => .cons r (Vals.eraseIdx i t)
theorem Vals.rep {xs : List V} {us : List Value} (h : Vals xs us) : ∀ k : Nat, Vals (List.replicate k xs).flatten (List.replicate k us).flatten
  | 0 => .nil
  | k + 1 => by
    rw [List.replicate_succ, List.replicate_succ, List.flatten_cons, List.flatten_cons]
    exact Vals.append h (Vals.rep h k)
theorem erase_last {α : Type} (l : List α) : l.eraseIdx (l.length - 1) = l.dropLast := by
  induction l with
  | nil => rfl
  | cons a r ih =>
    cases r with
    | nil => rfl
    | cons b r =>
      have e : (a :: b :: r).length - 1 = ((b :: r).length - 1) + 1 := by
        have h1 : (a :: b :: r).length = r.length + 2 := rfl
        have h2 : (b :: r).length = r.length + 1 := rfl
        first | lia | omega
      rw [e, List.eraseIdx_cons_succ, ih]
      all_goals rfl
theorem len_erase {α : Type} : ∀ (l : List α) (i : Nat), (l.eraseIdx i).length ≤ l.length
  | [], _ => Nat.le_refl _
  | _ :: _, 0 => Nat.le_succ _
  | _ :: r, i + 1 => Nat.succ_le_succ (len_erase r i)
theorem foldl_rep (its : List Value) : ∀ (k : Nat) (acc : List Value),
    List.foldl (fun x1 x2 => x1 ++ x2) acc.toArray (List.replicate k its.toArray) = (acc ++ (List.replicate k its).flatten).toArray
  | 0, acc => by simp
  | k + 1, acc => by
    have e : acc.toArray ++ its.toArray = (acc ++ its).toArray := by simp
    have e2 : (acc ++ its) ++ (List.replicate k its).flatten = acc ++ (List.replicate (k + 1) its).flatten := by
      rw [List.replicate_succ, List.flatten_cons, List.append_assoc]
    rw [← e2, ← foldl_rep its k (acc ++ its), ← e, List.replicate_succ, List.foldl_cons]

section
variable {X : Cx} {pins : List (Addr × Obj)} {σ : St} {H : Hp} {s : Shared} {l b : Addr} {xs ys zs : List V}

theorem Inv.lset {its its' : List Value} {n : Nat} {f : Array Value → Array Value} {t' : Nat} (I : Inv X pins σ H s) (hH : H l = some (.lst xs))
    (e : s.heap.get? l = some { cls := .type "list", data := .seq its.toArray n }) (hf : f its.toArray = its'.toArray) (hv : Vals ys its') (hz : ys.length ≤ sizeLine) :
    Inv X pins σ (upd H l (.lst ys)) { s with heap := s.heap.update l (Obj.mapSeq f), toks := t' } := by
  have q := PySem.IsL.update e f
  rw [hf] at q
  refine I.write (x := l) (e := l) (by rw [hH]; exact trivial) (.inl rfl) (fun b' u hb hu => (Heap.get?_update_other s.heap (Obj.mapSeq f) (Ne.symm hb)).trans hu) ⟨_, q⟩ ?_
  exact ⟨hz, its', _, hv, q⟩
theorem Inv.lnew {its : List Value} {t' : Nat} (I : Inv X pins σ H s) (hv : Vals ys its) (hz : ys.length ≤ sizeLine) :
    Inv X pins σ (upd H s.heap.objs.size (.lst ys)) { s with heap := s.heap.push { cls := .type "list", data := .seq its.toArray }, toks := t' } :=
  I.laid (fun _ _ q => Heap.get?_push_of_some _ q) (Nat.le_refl _) ⟨hz, its, 0, hv, Heap.get?_push_size _ rfl⟩
theorem Inv.fresh (I : Inv X pins σ H s) : H s.heap.objs.size = none := I.hok.fresh (Nat.le_refl _)
theorem Inv.lstM (I : Inv X pins σ H s) (hH : H l = some (.lst xs)) : xs.length ≤ sizeLine ∧ ∃ (its : List Value) (n : Nat), Vals xs its ∧ xs.length = its.length ∧ s.heap.get? l = some { cls := .type "list", data := .seq its.toArray n } := by
  obtain ⟨z, its, n, r, e⟩ := I.hok l _ hH
  exact ⟨z, its, n, r, r.length, e⟩

theorem notLongL {n : Nat} (h : n ≤ sizeLine) : Builtin.List.listTooLong n = false := by
  unfold Builtin.List.listTooLong
  exact decide_eq_false (by first | lia | omega)
end

section
variable {X : Cx}

def rAppend : V → List V → Hp → VK → Prop := fun x vs H Q => ∃ l xs y, x = .ref l ∧ vs = [y] ∧ H l = some (.lst xs) ∧ xs.length < sizeLine ∧ Q .non (upd H l (.lst (xs ++ [y])))
theorem mt_append : MtM X "list.append" rAppend := by
  intro pins s σ H x vs v us Q I rx rv h
  obtain ⟨l, xs, y, rfl, rfl, hH, hz, q⟩ := h
  cases rx
  obtain ⟨u, rfl, ru⟩ := rv.one
  obtain ⟨z, its, n, r, hl, e⟩ := I.lstM hH
  refine call_meets F.slot_list_append ⟨_, e, rfl⟩ F.entry_list_append (F.args_list_append_2 _ _) (PySem.list_append l its.toArray n u (by rw [List.size_toArray]; first | lia | omega)) ⟨e, ?_⟩
  refine ⟨.non, _, I.lset (its' := its ++ [u]) hH e (by simp) (r.append (.cons ru .nil)) ?_, rfl, q⟩
  rw [List.length_append, List.length_singleton]
  first | lia | omega

def rPop : V → List V → Hp → VK → Prop := fun x vs H Q => ∃ l xs y, x = .ref l ∧ vs = [] ∧ H l = some (.lst xs) ∧ xs[xs.length - 1]? = some y ∧ Q y (upd H l (.lst xs.dropLast))
theorem mt_pop : MtM X "list.pop" rPop := by
  intro pins s σ H x vs v us Q I rx rv h
  obtain ⟨l, xs, y, rfl, rfl, hH, hy, q⟩ := h
  cases rx
  have hus := rv.zero
  subst hus
  obtain ⟨z, its, n, r, hl, e⟩ := I.lstM hH
  obtain ⟨u, hu, ru⟩ := r.get hy
  have hy' : its.toArray[its.toArray.size - 1]? = some u := by
    show its.toArray[its.length - 1]? = some u
    rw [← Array.getElem?_toList, ← hl]
    exact hu
  refine call_meets F.slot_list_pop ⟨_, e, rfl⟩ F.entry_list_pop (F.args_list_pop_1 _) (MeetsSeq.list_pop_last l its.toArray n u hy' (by rw [List.size_toArray]; first | lia | omega)) ⟨e, ?_⟩
  refine ⟨y, _, I.lset (its' := its.dropLast) hH e ?_ r.dropLast ?_, ru, q⟩
  · show its.toArray.eraseIdxIfInBounds (its.toArray.size - 1) = its.dropLast.toArray
    rw [List.size_toArray, List.eraseIdxIfInBounds_toArray, erase_last]
  · rw [List.length_dropLast]
    first | lia | omega

def rPopAt : V → List V → Hp → VK → Prop := fun x vs H Q => ∃ l xs i k y, x = .ref l ∧ vs = [.int i] ∧ H l = some (.lst xs) ∧ -(2 ^ 63) ≤ i ∧ i < 2 ^ 63 ∧ seqIndex? i xs.length = some k ∧ xs[k]? = some y ∧ Q y (upd H l (.lst (xs.eraseIdx k)))
theorem mt_popAt : MtM X "list.pop" rPopAt := by
  intro pins s σ H x vs v us Q I rx rv h
  obtain ⟨l, xs, i, k, y, rfl, rfl, hH, h1, h2, hk, hy, q⟩ := h
  cases rx
  obtain ⟨u, rfl, ru⟩ := rv.one
  obtain ⟨t, rfl⟩ := ru
  obtain ⟨z, its, n, r, hl, e⟩ := I.lstM hH
  obtain ⟨w, hw, rw'⟩ := r.get hy
  refine call_meets F.slot_list_pop ⟨_, e, rfl⟩ F.entry_list_pop (F.args_list_pop_2 _ _)
    (MeetsSeq.list_pop_at l its.toArray n i t k w (fitsIndex_both h1 h2) (by rw [List.size_toArray, ← hl]; exact hk) (by rw [← Array.getElem?_toList]; exact hw) (by rw [List.size_toArray]; first | lia | omega)) ⟨e, ?_⟩
  refine ⟨y, _, I.lset (its' := its.eraseIdx k) hH e ?_ (r.eraseIdx k) ?_, rw', q⟩
  · show its.toArray.eraseIdxIfInBounds k = (its.eraseIdx k).toArray
    rw [List.eraseIdxIfInBounds_toArray]
  · have := len_erase xs k
    first | lia | omega

inductive ICat (x y : V) (H : Hp) (Q : VK) : Prop
  | mk (l b : Addr) (xs zs : List V) (e1 : x = .ref l) (e2 : y = .ref b) (h1 : H l = some (.lst xs)) (h2 : H b = some (.lst zs)) (n : xs.length + zs.length ≤ sizeLine) (q : ∀ p, H p = none → Q (.ref p) (upd H p (.lst (xs ++ zs)))) : ICat x y H Q
def rCat : R2 := fun x y H Q => ICat x y H Q
theorem op_cat : OpR X (binaryOp .Add) rCat := by
  intro pins s σ H x y v u Q I rx ry h
  obtain ⟨l, b, xs, zs, rfl, rfl, hH, hB, hz, q⟩ := h
  cases rx
  cases ry
  obtain ⟨z, its, n, r, hl, e⟩ := I.lstM hH
  obtain ⟨z2, its2, n2, r2, hl2, e2⟩ := I.lstM hB
  refine PySem.P.add_list e e2 ?_ (by rw [List.size_toArray, List.size_toArray]; first | lia | omega)
  have ea : its.toArray ++ its2.toArray = (its ++ its2).toArray := by simp
  rw [ea]
  exact ⟨.ref _, _, I.lnew (t' := s.toks) (r.append r2) (by rw [List.length_append]; first | lia | omega), rfl, q _ I.fresh⟩
/-- a list times an int (a negative one is nothing) -/
def rRep : R2 := fun x y H Q => ∃ l k xs, x = .ref l ∧ y = .int k ∧ H l = some (.lst xs) ∧ -(2 ^ 63) ≤ k ∧ k < 2 ^ 63 ∧ xs.length * k.toNat ≤ sizeLine ∧
  ∀ p, H p = none → Q (.ref p) (upd H p (.lst (List.replicate k.toNat xs).flatten))
theorem len_rep {α : Type} (xs : List α) (k : Nat) : (List.replicate k xs).flatten.length = k * xs.length := by
  induction k with
  | zero => simp
  | succ k ih => rw [List.replicate_succ, List.flatten_cons, List.length_append, ih, Nat.succ_mul, Nat.add_comm]
theorem op_rep : OpR X (binaryOp .Mult) rRep := by
  intro pins s σ H x y v u Q I rx ry h
  obtain ⟨l, k, xs, rfl, rfl, hH, h1, h2, hz, q⟩ := h
  cases rx
  obtain ⟨t, rfl⟩ := ry
  obtain ⟨z, its, n, r, hl, e⟩ := I.lstM hH
  have hlen : its.toArray.size * k.toNat ≤ sizeLine := by rw [List.size_toArray, ← hl]; exact hz
  have hcap : ¬ its.toArray.size * k.toNat > (2 ^ 63 - 1) / 8 := by
    have : (sizeLine : Nat) ≤ (2 ^ 63 - 1) / 8 := by decide
    first | lia | omega
  have hfit : ¬ (!Builtin.List.listFitsIndex k) = true := by
    rw [fitsIndex_both h1 h2]
    exact Bool.false_ne_true
  have hlong : ¬ Builtin.List.listTooLong (its.toArray.size * k.toNat) = true := by
    rw [notLongL hlen]
    exact Bool.false_ne_true
  have hnew : List.foldl (fun x1 x2 => x1 ++ x2) #[] (List.replicate (if its.toArray.isEmpty = true then 0 else k.toNat) its.toArray) = (List.replicate k.toNat its).flatten.toArray := by
    have f0 : ∀ m : Nat, List.foldl (fun x1 x2 => x1 ++ x2) #[] (List.replicate m its.toArray) = (List.replicate m its).flatten.toArray := fun m => by
      have := foldl_rep its m []
      rw [List.nil_append] at this
      exact this
    rw [f0]
    cases its with
    | nil => simp
    | cons a r' => rw [if_neg (by simp)]
  refine wpAny_binaryOp_repeat_ref (T := "list") (U := "int") (by decide) ⟨_, e, rfl⟩ (fun s' => typeIs_int s' k t) noFill_list_mul F.fills_int_mul F.slot_int_rmul repeat_list F.slot_int_index.lookup
    (call_meets F.slot_int_rmul (typeIs_int s k t) F.entry_int_rmul (F.args_int_rmul_2 _ _) (int___rmul___int_list k t l its.toArray n)
      ⟨e, rfl, ⟨_, e, rfl⟩, call_meets F.slot_list_mul ⟨_, e, rfl⟩ F.entry_list_mul (F.args_list_mul_2 _ _) (AutoListH.list___mul___list_int_3 l its.toArray n k t hfit hcap hlong) ⟨e, ?_⟩⟩)
  rw [hnew]
  exact ⟨.ref _, _, I.lnew (t' := s.toks) (r.rep k.toNat) (by rw [len_rep, Nat.mul_comm]; exact hz), rfl, q _ I.fresh⟩

end

section
variable {prog : Program} {w : World} {A : Around} {E : Value → Shared → Prop} {s : Shared}
end

section
variable {X : Cx}
end
end L2

namespace Att
open PySem PySem.W PySem.Calls PyProof.Rows

theorem ints_of_wellAll {P : Params} {h : Heap} : ∀ (ns : List Int) (vs : List Value), WellAll P h vs (ns.map WData.int) → IntsAre vs ns := by
  intro ns
  induction ns with
  | nil =>
    intro vs w
    rw [List.map_nil] at w
    cases w
    exact .nil
  | cons n ns ih =>
    intro vs w
    rw [List.map_cons] at w
    cases w with
    | cons a b =>
      cases a
      exact .cons _ _ (ih _ b)

theorem script_of {l : OpenLaw} {n : Nat} (hn : l.most = some n) {P : Params} {h : Heap} {args : List WData} {vals : List Value}
    (hpre : l.row.toRowW.claim.pre args = true) (hwl : WellAll P h vals args) :
    ∃ a vs ns, vals = [Value.ref a] ∧ args = [WData.list (ns.map WData.int)] ∧ h.get? a = some { cls := .type "list", data := .seq vs.toArray } ∧ IntsAre vs ns ∧ ns.length ≤ n := by
  have hsh : WShape.hasAll [] args [.list .int] = true := (pre_splitW hpre).1
  have hc : l.pre.holds [] { args := args } = true := (pre_splitW hpre).2
  obtain ⟨d, r, rfl, h1, h2⟩ := hasAllW_cons hsh
  obtain rfl := hasAllW_nil h2
  obtain ⟨xs, rfl, h3⟩ := hasW_list h1
  obtain ⟨ns, rfl⟩ := items_int h3
  have hlen : ns.length ≤ n := by
    unfold OpenLaw.pre at hc
    have h4 : (WTm.not (.lt (.lit (.int (n : Int))) (.len (.arg 0)))).holds [] { args := [.list (ns.map .int)] } = true := by
      have h4 := (holds_andW hc).1
      rw [hn] at h4
      exact h4
    have h5 := condW_of h4 (w_not (w_lt w_lit (w_len_list (w_arg rfl))))
    rw [List.length_map] at h5
    refine Nat.le_of_not_lt fun q => ?_
    have q' : (n : Int) < ((ns.length : Nat) : Int) := by first | lia | omega
    first
      | (rw [decide_eq_true q'] at h5; exact absurd h5 (by decide))
      | (simp at h5; first | lia | omega)
  cases hwl with
  | cons w1 w2 =>
    cases w2
    cases w1 with
    | list ho hall => exact ⟨_, _, ns, rfl, rfl, ho, ints_of_wellAll ns _ hall, hlen⟩

theorem post_true (l : OpenLaw) (args : List WData) : l.row.toRowW.claim.post args (.bool true) args = true :=
  postW_of (r := l.row.toRowW) (X := (true == true))
    (show WShape.has [] (.bool true) .bool = true by first | rfl | decide | simp [WShape.has, WShape.arms, WShape.armsAll])
    (show (WTm.eq .res (.lit (.bool true))).value [] { args := args, res := some (.bool true), after := args } = some (.bool (true == true)) from w_eq_bool (w_res rfl) w_lit) rfl

/-- the same from a codeAny of the CALL (for a layer whose function contracts speak of calls) -/
theorem attach_call {l : OpenLaw} {n : Nat} {q : Program} {loose : List Str} {XP : (Str → Option Value) → Heap → Prop} {YP : World → Heap → Prop} {d : DefRec}
    (hn : l.most = some n) (hdf : d.params.defaults = [])
    (call : ∀ (w : World) (s₀ s₁ : Shared) (mg mb : Str → Option Value) (fa : Addr) (o : Obj) (pm cd doc : Value) (a : Addr) (vs : List Value) (ns : List Int),
      Ground q loose [] XP w s₀ mg mb s₁.heap → YP w s₁.heap →
      s₁.heap.get? fa = some o → o.data = .func (docDef d.name d.params d.body d.scope pm cd doc) → s₁.heap.CodeRec cd d.name → mg d.name = some (.ref fa) →
      s₁.heap.get? a = some { cls := .type "list", data := .seq vs.toArray } → IntsAre vs ns → ns.length ≤ n → s₁.gens = #[] →
      codeAny (model l.prog w) callerA (.call (.ref fa) ⟨[.ref a], []⟩) (fun r s' => r = .ok (.ret (.bool true)) ∧ OldK s₁.heap s'.heap ∧ s'.os = s₁.os ∧ AllBare s'.gens) s₁) :
    WalkO q loose XP YP l.row.toRowW d [] (fun f vs => PySem.call f vs) := by
  intro w s₀ s₁ mg mb G Y fa o pm cd doc dV kV ho hd hcd hD hmg hg args vals as hpre hlay hrd hwl hlo
  obtain rfl : dV = .none := Dflts.none hD hdf
  obtain rfl : kV = .none := Dflts.noKw hD
  obtain ⟨a, vs, ns, rfl, rfl, hobj, hints, hlen⟩ := script_of hn hpre hwl
  refine enter_call (codeAny_mono (call w s₀ s₁ mg mb fa o pm cd doc a vs ns G Y ho (fd_plain hd) hcd hmg hobj hints hlen hg) fun r s' hq => ?_)
  obtain ⟨rfl, h2, h3, h4⟩ := hq
  exact ⟨.inl ⟨.bool true, .bool true, [], rfl, fun _ => rfl, .bool true, post_true l _, fun _ => ⟨List.Pairwise.nil, fun _ hm => (nomatch hm)⟩⟩, h2, h3, h4⟩

section
variable {prog : Program} {w : World} {A : Around} {E : Value → Shared → Prop} {s : Shared} {K : Frag}

end
end Att

namespace L2
open PySem PySem.Spec PyProof.Rows

theorem vals_ints : ∀ {vs : List Value} {ns : List Int}, IntsAre vs ns → Vals (ns.map V.int) vs
  | _, _, .nil => .nil
  | _, _, .cons n t h => .cons ⟨t, rfl⟩ (vals_ints h)

/-- nothing is tracked but the script, known to the object (or it is an object of the module) -/
def Only (H : Hp) : Prop := ∀ b, H b = none ∨ ∃ o xs, H b = some (.frz o (.lst xs))

/-- THE HEAD: the law's promise, at the heap behind the top. F, the promise of the law's def, may use that base is part of the heap (so K.In base, base.Ns mainGlobals mg stand in Mod) -/
theorem law_call {P : Program} {w : World} {K : PySem.W.Frag} {mg mb : Str → Option Value} {CX : CXT} {k : Nat} {fa a : Addr} {fd : FuncData} {x : Str} {sp : Sp} {s₁ : Shared} {vs : List Value} {ns : List Int}
    (KX : K.In s₁.heap) (hns : s₁.heap.Ns mainGlobals mg) (hb : s₁.heap.Ns builtinsNs mb) (hbb : ∀ x : Str, x ≠ "__name__" → mb x = bootBuiltins x) (hlim : s₁.heap.NoLimit) (hg : s₁.gens = #[])
    (ha : s₁.heap.get? a = some { cls := .type "list", data := .seq vs.toArray }) (hi : IntsAre vs ns) (hl : ns.length ≤ sizeLine) (hr : Room k callerA)
    (F : ∀ base : Heap, K.In base → base.Ns mainGlobals mg → FnOk P w K mg base CX k fa fd [x] sp) (hbind : ∀ (s : Shared) (u : Value), BindsTo s fd ⟨[u], []⟩ [(x, u)])
    (hsp : ∀ H : Hp, Only H → SqL K H a (ns.map V.int) → sp [.ref a] H (fun v _ => v = .bl true) fun _ _ _ => False)
    (hCX : ∀ H e s', CX [] H s₁ (fun _ _ _ => False) e s' → False) :
    codeAny (model P w) callerA (.call (.ref fa) ⟨[.ref a], []⟩) (fun r s' => r = .ok (.ret (.bool true)) ∧ OldK s₁.heap s'.heap ∧ s'.os = s₁.os ∧ AllBare s'.gens) s₁ := by
  have rv := vals_ints hi
  have lenV := hi.length
  -- from an abstract heap in which nothing but the script may be tracked
  have core : ∀ H : Hp, Only H → SqL K H a (ns.map V.int) → HOk P w H s₁.heap → (∀ b, H b ≠ none → b = a) → (H a ≠ none → K.lookup a = none) →
      codeAny (model P w) callerA (.call (.ref fa) ⟨[.ref a], []⟩) (fun r s' => r = .ok (.ret (.bool true)) ∧ OldK s₁.heap s'.heap ∧ s'.os = s₁.os ∧ AllBare s'.gens) s₁ := by
    intro H hO hS hok hA hK
    have base_of : ∀ {b : Addr} {o : Obj}, s₁.heap.get? b = some o → H b = none → (hidT s₁.heap H).get? b = some o := fun e n => hidT_get e n
    have noA : ∀ {b : Addr} {o : Obj} {es : Array DictEntry} {ep : Nat}, s₁.heap.get? b = some o → o.data = .dict es ep → H b = none := fun {b o es ep} e d => by
      cases q : H b with
      | none => rfl
      | some u =>
        have e' : b = a := hA b (by rw [q]; simp)
        subst e'
        rw [ha] at e; cases e
        have d' : Data.seq vs.toArray _ = Data.dict es ep := d
        cases d'
    have nsK : ∀ {b : Addr} {m : Str → Option Value}, s₁.heap.Ns b m → (hidT s₁.heap H).Ns b m := fun {b m} ⟨o, es, ep, e, d, r⟩ => ⟨o, es, ep, base_of e (noA e d), d, r⟩
    have hKb : K.In (hidT s₁.heap H) := fun b o e => base_of (KX b o e) (by
      cases q : H b with
      | none => rfl
      | some u =>
        have e' : b = a := hA b (by rw [q]; simp)
        subst e'
        rw [hK (by rw [q]; simp)] at e; cases e)
    have hM : Mod K mg (hidT s₁.heap H) := ⟨hKb, nsK hns, ⟨mb, nsK hb, hbb⟩, let ⟨mc, h1, h2⟩ := hlim; ⟨mc, nsK h1, h2⟩⟩
    have e0 : Env0 P w K mg (hidT s₁.heap H) callerA [] s₁ H := ⟨rfl, hM, fun b o e => of_hidT e, Nat.le_of_eq (hidT_size _ _), trivial, fun b hb => absurd (show b ∈ ([] : List Addr) from hb) (by simp), hok, .of_eq hg⟩
    refine codeAny_mono ((F _ hKb (nsK hns)).run callerA [] s₁ H ⟨[.ref a], []⟩ [.ref a] [.ref a] _ _ hr e0 (hbind s₁ (.ref a)) (.cons rfl .nil) (hsp H hO hS)) fun r s' h => ?_
    cases r with
    | error e => exact (hCX H e s' h).elim
    | ok fl =>
      cases fl with
      | next => exact False.elim h
      | brk => exact False.elim h
      | cont => exact False.elim h
      | ret u =>
        obtain ⟨v, H', os, bare, un, hok', r', q⟩ := h
        have q' : v = .bl true := q
        subst q'
        obtain rfl : u = Value.bool true := r'
        refine ⟨rfl, OldK.of_keep fun b o e => ?_, os, bare⟩
        cases q : H b with
        | none => exact un.keep b o e q (by intro z; exact absurd (show b ∈ ([] : List Addr) from z) (by simp)) (by simp)
        | some u =>
          rcases hO b with z | ⟨ob, xs, z⟩
          · rw [q] at z; cases z
          · have z2 := un.frzs b ob _ z
            obtain ⟨e1, _⟩ := hok b _ z
            obtain ⟨e2, _⟩ := hok' b _ z2
            rw [e] at e1; cases e1
            exact e2
  cases hk : K.lookup a with
  | some o =>
    -- the script is one of the module's own objects
    have e := KX a o hk
    rw [ha] at e
    cases e
    refine core (fun _ => none) (fun _ => .inl rfl) (.inr ⟨_, vs.toArray, _, hk, rfl, rfl, rfl, by rw [List.size_toArray, lenV]; exact hl, by simpa using rv⟩) (fun b u z => by have z' : (none : Option HO) = some u := z; cases z') (fun b z => absurd rfl z) fun z => absurd rfl z
  | none =>
    refine core (fun b => if b = a then some (.frz { cls := .type "list", data := .seq vs.toArray } (.lst (ns.map V.int))) else none) (fun b => ?_) (.inl (.inr ⟨{ cls := .type "list", data := .seq vs.toArray }, if_pos rfl⟩)) (fun b u z => ?_) (fun b z => ?_) fun _ => hk
    · by_cases hb : b = a
      · exact .inr ⟨_, _, if_pos hb⟩
      · exact .inl (if_neg hb)
    · by_cases hb : b = a
      · have z' := (if_pos hb).symm.trans z
        cases z'
        subst hb
        exact ⟨ha, by rw [List.length_map]; exact hl, vs, _, rv, ha⟩
      · have z' := (if_neg hb).symm.trans z
        cases z'
    · by_cases hb : b = a
      · exact hb
      · exact absurd (if_neg hb) z
end L2

namespace L2
open PySem PySem.Spec PyProof.Rows

abbrev KOf {K : PySem.W.Frag} {h : Heap} (_ : K.In h) : PySem.W.Frag := K

/-- the goal that k_head leaves (case hc), from the law's promise. F gives the function object fd (K's own) once, then the promise over every base -/
theorem walk_of {l : PySem.W.OpenLaw} {n k : Nat} {q : Program} {loose : List Str} {XP : (Str → Option Value) → Heap → Prop} {YP : World → Heap → Prop} {d : DefRec} {K : Params → PySem.W.Frag} {CX : World → CXT} {sp : World → Sp} {x : Str}
    (hn : l.most = some n) (hn2 : n ≤ sizeLine) (hdf : d.params.defaults = []) (hr : Room k callerA)
    (hY : ∀ (w : World) (h : Heap), YP w h → (K w.params).In h)
    (F : ∀ (w : World) (mg : Str → Option Value) (fa : Addr) (h : Heap), (K w.params).In h → h.Ns mainGlobals mg → mg d.name = some (.ref fa) →
      ∃ fd : FuncData, (∀ (s : Shared) (u : Value), BindsTo s fd ⟨[u], []⟩ [(x, u)]) ∧
        ∀ base : Heap, (K w.params).In base → base.Ns mainGlobals mg → FnOk l.prog w (K w.params) mg base (CX w) k fa fd [x] (sp w))
    (hsp : ∀ (w : World) (H : Hp) (a : Addr) (ns : List Int), ns.length ≤ n → Only H → SqL (K w.params) H a (ns.map V.int) → sp w [.ref a] H (fun v _ => v = .bl true) fun _ _ _ => False)
    (hCX : ∀ (w : World) (H : Hp) (s : Shared) (e : Value) (s' : Shared), CX w [] H s (fun _ _ _ => False) e s' → False) :
    PySem.W.WalkO q loose XP YP l.row.toRowW d [] (fun f vs => PySem.call f vs) := by
  refine Att.attach_call hn hdf fun w s₀ s₁ mg mb fa o pm cd doc a vs ns G Y ho hd hcd hmg hobj hints hlen hg => ?_
  have KX := hY w _ Y
  obtain ⟨fd, hb, hF⟩ := F w mg fa _ KX G.T.g hmg
  exact law_call KX G.T.g G.T.b G.T.builtins G.T.nolimit hg hobj hints (Nat.le_trans hlen hn2) hr hF hb (fun H hO hS => hsp w H a ns hlen hO hS) fun H e s' => hCX w H s₁ e s'
end L2

/- THE LAST THEOREM (shape; LID, My.* are yours):
   My.Adr: a structure of the addresses that your layer names (classes, functions); My.Txt K t: a structure (Prop) of the equations over K;
   My.txt_mk : {K} {implicit addresses ..} (e1 : nsIn K mainGlobals "law" = some (some (.ref f))) (e2 : K.lookup f = some ⟨oc, od, .func (fnOf "law" "law" params body scope dV kV doc pm an cdv ct), sl⟩) (e3 : codeIn K cdv "law" = true) .. : ∃ t, My.Txt K t

set_option maxRecDepth 100000 in
set_option maxHeartbeats 0 in
theorem PySem.Challenge.cw_LID_holds : PySem.Challenge.rw_LID.Holds := by
  w_on; o_law; k_head; (case hw => w_witness2)
  k_fill
  refine L2.walk_of (l := PySem.Challenge.rw_LID) (n := 63) (k := 40) (x := "script") (CX := fun w => ..) (sp := fun _ => My.sp_law) rfl (by decide) rfl ⟨rfl, by decide, by decide⟩ (fun w h Y => PySem.W.kIn_of Y) ?F ?S ?C
  case F =>
    intro w mg fa h KX G hmg
    have T : ∃ t, My.Txt (L2.KOf KX) t := by
      dsimp only [L2.KOf]                          -- K must stand as «<heap const> w.params» for k_is
      refine' My.txt_mk ?e1 ?e2 ?e3 ..
      (case e1 => PySem.W.k_is)                    -- in the order: a name -> its address -> its object -> its parts
      (case e2 => PySem.W.k_is)
      ..
    obtain ⟨t, T⟩ := T
    have e0 := hmg.symm.trans (PySem.W.mg_of KX G T.law)
    cases e0                                       -- fa is the law's own address
    exact ⟨_, fun s u => .of_eq rfl, fun base kb nb => My.law_fn T kb nb⟩     -- if «.of_eq rfl» comes too early: refine' ⟨_, ?b, fun base kb nb => My.law_fn T kb nb⟩; exact fun s u => .of_eq rfl
  case S => exact fun w H a ns hl hO hS => ..
  case C => exact ..
(the tactic k_is has no namespace: write k_is) -/

namespace L2
open PySem PySem.Spec PyProof.Rows

/-- the j-th statement of a class's body -/
def inClass (s : Stmt) (j : Nat) : Stmt := match s with
  | .ClassDef _ _ _ body _ _ _ _ _ _ _ => body.getD j (.Pass ⟨0, 0, 0, 0⟩)
  | _ => .Pass ⟨0, 0, 0, 0⟩
def defArgs (s : Stmt) : Arguments := match s with
  | .FunctionDef _ a _ _ _ _ _ _ _ _ => a
  | _ => { posonlyargs := [], args := [], vararg := none, kwonlyargs := [], kw_defaults := [], kwarg := none, defaults := [] }
def defBody (s : Stmt) : List Stmt := match s with
  | .FunctionDef _ _ b _ _ _ _ _ _ _ => b
  | _ => []
def defScope (s : Stmt) : Scope := match s with
  | .FunctionDef _ _ _ _ _ _ sc _ _ _ => sc
  | _ => { kind := .function, names := [], isGenerator := false, isCoroutine := false }

abbrev CX0 : CXT := fun _ _ _ _ _ _ => False
abbrev E0 : XK := fun _ _ _ => False
theorem pass0 {X : Cx} : Passes CX0 X E0 := fun _ _ _ _ _ _ _ h => h.elim

structure Fun (K : PySem.W.Frag) (x qual : Str) (st : Stmt) (f : Addr) (fd : FuncData) : Prop where
  ex : ∃ (oc : Value) (od : Option Addr) (kV doc pm : Value) (an : Option Addr) (cdv ct : Value) (osl : Array (Option Value)),
    fd = PySem.W.fnOf x qual (defArgs st) (defBody st) (defScope st) .none kV doc pm an cdv ct ∧ K.lookup f = some ⟨oc, od, .func fd, osl⟩ ∧ PySem.W.codeIn K cdv qual = true
  kp : PySem.W.keepIn K (.ref f) = true
section
variable {P : Program} {w : World} {K : PySem.W.Frag} {mg : Str → Option Value} {base : Heap}
/-- THE RULE for a def: its body as a term of rules, and the reading of that term -/
theorem Fun.ok {x qual : Str} {st : Stmt} {f : Addr} {fd : FuncData} {N ps : List Str} {k : Nat} {sp : Sp} (F : Fun K x qual st f fd) (S : FnScope N ps (defScope st)) (len : ∀ vs H Q E, sp vs H Q E → vs.length = ps.length)
    (hbody : ∀ (cdv : Value) (A : Around) (outer : List Env) (s : Shared) (H : Hp) (vs : List V) (Q : VK) (E : XK), Room k (A.deeper (envOfC qual (defScope st) s.heap.objs.size f cdv)) → sp vs H Q E →
      ∃ t, PSs (cxOf CX0 P w K mg base N qual (defScope st) f cdv A outer s H E).nox (defBody st) t ∧ t { nx := fun _ H' => Q .non H', rt := Q } (start N vs) H) : FnOk P w K mg base CX0 (k + 1) f fd ps sp := by
  obtain ⟨oc, od, kV, doc, pm, an, cdv, ct, osl, rfl, lk, hcd⟩ := F.ex
  refine fn_of lk hcd S len fun A outer s H vs Q E hr hsp => ?_
  obtain ⟨t, h, q⟩ := hbody cdv A outer s H vs Q E hr hsp
  exact ⟨t, h.nox, q⟩
/-- how its arguments bind (no defaults): h is «fun _ _ _ _ _ _ us hl => match us, hl with | [_, _], _ => rfl», one _ a parameter -/
theorem Fun.binds {x qual : Str} {st : Stmt} {f : Addr} {fd : FuncData} {ps : List Str} (F : Fun K x qual st f fd)
    (h : ∀ (kV doc pm : Value) (an : Option Addr) (cdv ct : Value) (us : List Value), us.length = ps.length → bindArgs (PySem.W.fnOf x qual (defArgs st) (defBody st) (defScope st) .none kV doc pm an cdv ct) ⟨us, []⟩ = pure (ps.zip us)) : Binds K fd ps [] := by
  obtain ⟨oc, od, kV, doc, pm, an, cdv, ct, osl, rfl, lk, hcd⟩ := F.ex
  exact .all (h kV doc pm an cdv ct)
theorem fun_mk {x qual : Str} {st : Stmt} {f : Addr} {oc : Value} {od an : Option Addr} {osl : Array (Option Value)} {kV doc pm cdv ct : Value} (l : K.lookup f = some ⟨oc, od, .func (PySem.W.fnOf x qual (defArgs st) (defBody st) (defScope st) .none kV doc pm an cdv ct), osl⟩)
    (c : PySem.W.codeIn K cdv qual = true) (k : PySem.W.keepIn K (.ref f) = true) : Fun K x qual st f (PySem.W.fnOf x qual (defArgs st) (defBody st) (defScope st) .none kV doc pm an cdv ct) := ⟨⟨oc, od, kV, doc, pm, an, cdv, ct, osl, rfl, l, c⟩, k⟩
end
theorem hu_of {A : Around} {k : Nat} (hr : Room k A) : A.units + 1 < cLine := Nat.lt_of_le_of_lt (Nat.add_le_add_left (by decide : 1 ≤ 64) _) hr.units
theorem small1000 {n : Nat} (h : n ≤ 1000) : n < sizeLine := Nat.lt_of_le_of_lt h (by decide)

section
variable {X : Cx}
theorem pv (i : Nat) {x : Str} {pos : Pos} (hN : X.N[i]? = some x := by rfl) (hv : Vis X.env.scope x := by first | exact Or.inl rfl | exact Or.inr (Or.inl rfl) | exact Or.inr (Or.inr rfl)) (hd : (x == ("__debug__" : Str)) = false := by decide)
    (hcd : (x == ("__classdict__" : Str)) = false := by decide) : PE X (.Name x pos) (tVar i) := pe_var hN hv hd hcd
end

theorem iteF {A B : Prop} (h : B) : if false = true then A else B := by
  rw [if_neg Bool.false_ne_true]
  exact h
theorem iteT {A B : Prop} (h : A) : if true = true then A else B := by
  rw [if_pos rfl]
  exact h
/-- all that was tracked is as it was -/
def Same (H H' : Hp) : Prop := ∀ b o, H b = some o → H' b = some o
theorem Same.refl (H : Hp) : Same H H := fun _ _ h => h
theorem Same.trans {H H1 H2 : Hp} (a : Same H H1) (b : Same H1 H2) : Same H H2 := fun c o h => b c o (a c o h)
theorem Same.free {H H' : Hp} (e : Same H H') {l : Addr} (h : H' l = Option.none) : H l = Option.none := by
  cases q : H l with
  | none => rfl
  | some o =>
    rw [e l o q] at h
    cases h
theorem Same.seq {K : PySem.W.Frag} {H H' : Hp} {a : Addr} {xs : List V} (e : Same H H') (h : SqL K H a xs) : SqL K H' a xs := by
  rcases h with (h | ⟨o, h⟩) | h
  · exact .inl (.inl (e _ _ h))
  · exact .inl (.inr ⟨o, e _ _ h⟩)
  · exact .inr h

end L2

set_option maxHeartbeats 4000000
namespace L2
open PySem PySem.Spec PyProof.Rows

def isCF : Option NameKind → Bool
  | some .cell => true
  | some .free => true
  | _ => false
theorem isCF_of {o : Option NameKind} (h : isCF o = true) : o = some .cell ∨ o = some .free := by
  match o, h with
  | some .cell, _ => exact .inl rfl
  | some .free, _ => exact .inr rfl

theorem closure_go (env : Env) : ∀ (l : List (Str × NameKind)) (acc : List (Str × Addr)), (∀ y ∈ l, y.2 = .free → ∃ c, env.cells.lookup y.1 = some c) →
    (∀ x c, acc.lookup x = some c → env.cells.lookup x = some c) →
    ∃ cl, (forIn l acc (fun (x : Str × NameKind) (r : List (Str × Addr)) => if (x.2 == .free) = true then (cellOf env x.1 >>= fun c => pure (ForInStep.yield ((x.1, c) :: r))) else pure (ForInStep.yield r)) : Sem (List (Str × Addr))) = pure cl ∧
      (∀ x c, cl.lookup x = some c → env.cells.lookup x = some c) ∧ (∀ x, ((∃ c, acc.lookup x = some c) ∨ (x, NameKind.free) ∈ l) → ∃ c, cl.lookup x = some c)
  | [], acc, _, ha => ⟨acc, by rfl, ha, fun x h => h.elim id fun z => nomatch z⟩
  | (n, k) :: l, acc, hl, ha => by
    have hl' : ∀ y ∈ l, y.2 = .free → ∃ c, env.cells.lookup y.1 = some c := fun y hy => hl y (List.mem_cons_of_mem _ hy)
    by_cases hk : k = .free
    · subst hk
      obtain ⟨c, hc⟩ := hl (n, .free) List.mem_cons_self rfl
      have hc' : env.cells.lookup n = some c := hc
      have look : ∀ x, ((n, c) :: acc).lookup x = if x = n then some c else acc.lookup x := fun x => by
        rw [List.lookup_cons]
        by_cases e : x = n
        · subst e; simp
        · rw [if_neg e, show (x == n) = false by simpa using e]
      have ha' : ∀ x d, ((n, c) :: acc).lookup x = some d → env.cells.lookup x = some d := fun x d e => by
        rw [look] at e
        split at e
        · rename_i q; subst q; rw [hc']; exact e
        · exact ha x d e
      obtain ⟨cl, e, h1, h2⟩ := closure_go env l ((n, c) :: acc) hl' ha'
      refine ⟨cl, ?_, h1, fun x h => h2 x ?_⟩
      · rw [← e, List.forIn_cons]
        have ec : cellOf env n = pure c := by unfold cellOf; rw [hc']
        show ((cellOf env n >>= fun c => pure (ForInStep.yield ((n, c) :: acc))) >>= _ : Sem (List (Str × Addr))) = _
        rw [ec]
        rfl
      · rcases h with ⟨d, q⟩ | h
        · left
          rw [look]
          by_cases z : x = n
          · exact ⟨c, by rw [if_pos z]⟩
          · exact ⟨d, by rw [if_neg z]; exact q⟩
        · rcases List.mem_cons.mp h with z | z
          · left
            rw [look]
            exact ⟨c, by rw [if_pos (congrArg Prod.fst z)]⟩
          · exact .inr z
    · obtain ⟨cl, e, h1, h2⟩ := closure_go env l acc hl' ha
      refine ⟨cl, ?_, h1, fun x h => h2 x ?_⟩
      · rw [← e, List.forIn_cons]
        have hb : (k == NameKind.free) = false := by simpa using hk
        show ((if (k == NameKind.free) = true then _ else pure (ForInStep.yield acc)) >>= _ : Sem (List (Str × Addr))) = _
        rw [hb]
        rfl
      · rcases h with h | h
        · exact .inl h
        · rcases List.mem_cons.mp h with z | z
          · exact absurd (congrArg Prod.snd z).symm hk
          · exact .inr z
theorem closure_of {scope : Scope} {env : Env} (h : ∀ y ∈ scope.names, y.2 = .free → ∃ c, env.cells.lookup y.1 = some c) :
    ∃ cl, closureFor scope env = pure cl ∧ (∀ x c, cl.lookup x = some c → env.cells.lookup x = some c) ∧ (∀ x, (x, NameKind.free) ∈ scope.names → ∃ c, cl.lookup x = some c) := by
  obtain ⟨cl, e, h1, h2⟩ := closure_go env scope.names [] h (fun x c e => by simp at e)
  refine ⟨cl, ?_, h1, fun x hx => h2 x (.inr hx)⟩
  have e2 : closureFor scope env = (forIn scope.names [] (fun (x : Str × NameKind) (r : List (Str × Addr)) => if (x.2 == .free) = true then (cellOf env x.1 >>= fun c => pure (ForInStep.yield ((x.1, c) :: r))) else pure (ForInStep.yield r)) >>= fun r => pure r : Sem (List (Str × Addr))) := by
    rfl
  rw [e2, e]
  rfl

/-- a comprehension's block: its context -/
abbrev compCx (X : Cx) (scope : Scope) (cl : List (Str × Addr)) (N : List Str) (C : Addr) (s : Shared) (H : Hp) (ex : List Addr) : Cx :=
  { X with N := N, s₀ := s, H₀ := H, env := compEnvC scope cl C X.env, outer := X.stack, ex := ex, fn := fun _ => false, pn := [], xe := fun _ _ => False }

/-- what is asked of the two scopes: fr tells for each name of the block the slot of the def (none: the block's own) -/
def compChk (osc : Scope) (oN : List Str) (sc : Scope) (N : List Str) (fr : List (Option Nat)) : Bool :=
  decide (sc.kind = .function) && sc.names.all (fun y => decide (y.2 ≠ .cell)) && sc.names.all (fun y => decide (y.2 ≠ .free) || isCF (osc.names.lookup y.1)) &&
  sc.names.all (fun y => decide (y.2 ≠ .local) || decide (sc.names.lookup y.1 = some .local)) &&
  (N.zip fr).all (fun y => match y.2 with
    | none => true
    | some i => decide (oN[i]? = some y.1) && isCF (osc.names.lookup y.1) && decide (sc.names.lookup y.1 = some .free)) && decide (N.length = fr.length)
structure CompChk (osc : Scope) (oN : List Str) (sc : Scope) (N : List Str) (fr : List (Option Nat)) : Prop where
  kind : sc.kind = .function
  nocell : ∀ y ∈ sc.names, y.2 ≠ .cell
  free : ∀ y ∈ sc.names, y.2 = .free → isCF (osc.names.lookup y.1) = true
  loc : ∀ y ∈ sc.names, y.2 = .local → sc.names.lookup y.1 = some .local
  slots : ∀ (j : Nat) (x : Str) (i : Nat), N[j]? = some x → fr[j]? = some (some i) → oN[i]? = some x ∧ isCF (osc.names.lookup x) = true ∧ sc.names.lookup x = some .free
  len : N.length = fr.length
theorem compChk_of {osc : Scope} {oN : List Str} {sc : Scope} {N : List Str} {fr : List (Option Nat)} (h : compChk osc oN sc N fr = true) : CompChk osc oN sc N fr := by
  unfold compChk at h
  simp only [Bool.and_eq_true, List.all_eq_true, decide_eq_true_eq, Bool.or_eq_true] at h
  obtain ⟨⟨⟨⟨⟨h1, h2⟩, h3⟩, h4⟩, h5⟩, h6⟩ := h
  refine ⟨h1, h2, fun y hy e => (h3 y hy).resolve_left fun z => z e, fun y hy e => (h4 y hy).resolve_left fun z => z e, fun j x i e1 e2 => ?_, h6⟩
  have hm : (x, some i) ∈ N.zip fr := by
    have : (N.zip fr)[j]? = some (x, some i) := by rw [List.getElem?_zip_eq_some]; exact ⟨e1, e2⟩
    exact List.mem_of_getElem? this
  have := h5 _ hm
  simp only [Bool.and_eq_true, decide_eq_true_eq] at this
  exact ⟨this.1.1, this.1.2, this.2⟩

/-- the block's slots at its entry -/
def stC (fr : List (Option Nat)) (σ : St) : St := fr.map fun o => o.bind fun i => (σ[i]?).join

/-- [elt for tg in ..] : the invariant W by the turn, a measure, the block's slots and the heap; the new list stands at acc -/
def tComp (wi : TI) (g : TG) (te : TE) (fr : List (Option Nat)) : TE := fun σ H Q => wi σ H fun J H1 => ∀ acc, H1 acc = none → ∃ W : Nat → Nat → St → Hp → Prop, (∃ m, W 0 m (stC fr σ) (upd H1 acc (.lst []))) ∧ ∀ i m σ1 H2, W i m σ1 H2 →
  (J.stop i H2 ∧ Q (.ref acc) H2) ∨ (J.go i H2 ∧ ∀ x H3, J.yld i H2 x H3 → g x σ1 H3 fun σ4 H4 => te σ4 H4 fun v H5 => ∃ xs, H5 acc = some (.lst xs) ∧ xs.length < sizeLine ∧ ∃ m', m' < m ∧ W (i + 1) m' σ4 (upd H5 acc (.lst (xs ++ [v]))))

section
variable {prog : Program} {w : World} {A : Around} {R : Result → Shared → Prop} {s : Shared}
theorem compLoop_any {elt target iter : Expr} {scope : Scope} {pos : Pos} {it acc : Value} {env : Env} (I : Nat → Shared → Prop)
    (turn : ∀ n s, I n s → wpAny (model prog w) A (pyNext it) (fun r s₁ => match r with
      | none => R (.ok .next) s₁
      | some v => wpAny (model prog w) A (letOwnedTupleGo target it v) (fun _ s₁ => wpAny (model prog w) A (assign target env v) (fun _ s₂ => wpAny (model prog w) A (eval elt env) (fun x s₃ =>
          wpAny (model prog w) A (call (.builtin "list.append") [acc, x]) (fun _ s₄ => ∃ m, m < n ∧ I m s₄) (notedBy (model prog w) A env fun e s' => R (.error e) s') s₃)
          (notedBy (model prog w) A env fun e s' => R (.error e) s') s₂) (notedBy (model prog w) A env fun e s' => R (.error e) s') s₁) (notedBy (model prog w) A env fun e s' => R (.error e) s') s₁) (notedBy (model prog w) A env fun e s' => R (.error e) s') s)
    (n : Nat) (h : I n s) :
    codeAny (model prog w) A (.compLoop (.ListComp elt [⟨target, iter, [], 0⟩] scope pos) 0 it acc env) R s := by
  refine codeAny_loop rfl I (fun n s hI => ?_) n h
  show wpAny _ _ ((compTurn (.ListComp elt [⟨target, iter, [], 0⟩] scope pos) 0 it acc env).onRaise (fun x => do noteFrame x env; theTreesLotGoes x)) _ _ s
  refine wpAny_noted ?_
  rw [compTurn_list1]
  refine wpAny_bind (wpAny_standAt (wpAny_bind (wpAny_mono (turn n s hI) (fun r s₁ h₁ => ?_) fun _ _ h' => h')))
  cases r with
  | none => exact wpAny_pure h₁
  | some v =>
    refine wpAny_bind (wpAny_mono h₁ (fun _ s₁ h₁ => ?_) fun _ _ h' => h')
    exact wpAny_bind (wpAny_mono h₁ (fun _ s₂ h₂ => wpAny_bind (wpAny_bind (wpAny_mono h₂ (fun x s₃ h₃ => wpAny_bind (wpAny_mono h₃
      (fun _ s₄ h₄ => wpAny_pure (wpAny_pure ⟨rfl, h₄⟩)) fun _ _ h' => h')) fun _ _ h' => h'))) fun _ _ h' => h')
end

theorem wpFalse {α : Type} {M : Model} {A : Around} {t : Sem α} {Q : α → Shared → Prop} {E : Value → Shared → Prop} {s : Shared} (h : wpAny M A t Q (fun _ _ => False) s) : wpAny M A t Q E s :=
  wpAny_mono h (fun _ _ q => q) fun _ _ z => z.elim

theorem relabel_CF {scope : Scope} {env : Env} (hc : ∀ y ∈ scope.names, y.2 ≠ .cell) {x : Str} (h : (relabel scope env).names.lookup x = some .cell ∨ (relabel scope env).names.lookup x = some .free) : (x, NameKind.free) ∈ scope.names := by
  have key : ∀ (l : List (Str × NameKind)), (∀ y ∈ l, y.2 ≠ .cell) → ((l.map fun (n, k) => if (k == NameKind.free && env.scope.kind == .function && env.kindOf n == some .cell) then (n, NameKind.cell) else (n, k)).lookup x = some .cell ∨
      (l.map fun (n, k) => if (k == NameKind.free && env.scope.kind == .function && env.kindOf n == some .cell) then (n, NameKind.cell) else (n, k)).lookup x = some .free) → (x, NameKind.free) ∈ l := by
    intro l
    induction l with
    | nil => intro _ h; simp at h
    | cons y r ih =>
      obtain ⟨n, k⟩ := y
      intro hc h
      have hr : ∀ y ∈ r, y.2 ≠ .cell := fun y hy => hc y (List.mem_cons_of_mem _ hy)
      have hk : k ≠ .cell := hc (n, k) List.mem_cons_self
      rw [List.map_cons] at h
      by_cases hxn : x = n
      · subst hxn
        have hkf : k = .free := by
          by_cases hb : (k == NameKind.free && env.scope.kind == .function && env.kindOf x == some .cell) = true
          · simp only [Bool.and_eq_true, beq_iff_eq] at hb
            exact hb.1.1
          · simp only [hb, if_neg, Bool.false_eq_true, if_false] at h
            simp only [List.lookup_cons, beq_self_eq_true] at h
            rcases h with h | h
            · exact absurd (Option.some.inj h) hk
            · exact Option.some.inj h
        rw [hkf]
        exact List.mem_cons_self
      · have hb : (x == n) = false := by simpa using hxn
        refine List.mem_cons_of_mem _ (ih hr ?_)
        by_cases hq : (k == NameKind.free && env.scope.kind == .function && env.kindOf n == some .cell) = true
        · simp only [hq, if_true, List.lookup_cons, hb] at h
          exact h
        · simp only [hq, Bool.false_eq_true, if_false, List.lookup_cons, hb] at h
          exact h
  exact key scope.names hc h
theorem relabel_free {env : Env} {x : Str} : ∀ {l : List (Str × NameKind)}, l.lookup x = some .free →
    ((l.map fun (n, k) => if (k == NameKind.free && env.scope.kind == .function && env.kindOf n == some .cell) then (n, NameKind.cell) else (n, k)).lookup x = some .cell ∨
     (l.map fun (n, k) => if (k == NameKind.free && env.scope.kind == .function && env.kindOf n == some .cell) then (n, NameKind.cell) else (n, k)).lookup x = some .free)
  | [], h => by simp at h
  | (n, k) :: r, h => by
    rw [List.map_cons]
    by_cases hxn : x = n
    · subst hxn
      simp only [List.lookup_cons, beq_self_eq_true] at h
      have hk := Option.some.inj h
      subst hk
      by_cases hq : (NameKind.free == NameKind.free && env.scope.kind == .function && env.kindOf x == some .cell) = true
      · left
        show List.lookup x ((if (NameKind.free == NameKind.free && env.scope.kind == .function && env.kindOf x == some .cell) = true then (x, NameKind.cell) else (x, NameKind.free)) :: _) = _
        rw [if_pos hq, List.lookup_cons, beq_self_eq_true]
      · right
        show List.lookup x ((if (NameKind.free == NameKind.free && env.scope.kind == .function && env.kindOf x == some .cell) = true then (x, NameKind.cell) else (x, NameKind.free)) :: _) = _
        rw [if_neg hq, List.lookup_cons, beq_self_eq_true]
    · have hb : (x == n) = false := by simpa using hxn
      simp only [List.lookup_cons, hb] at h
      have ih := relabel_free (env := env) h
      by_cases hq : (k == NameKind.free && env.scope.kind == .function && env.kindOf n == some .cell) = true
      · simp only [hq, if_true, List.lookup_cons, hb]; exact ih
      · simp only [hq, Bool.false_eq_true, if_false, List.lookup_cons, hb]; exact ih

theorem mem_look {x : Str} {k : NameKind} : ∀ {l : List (Str × NameKind)}, l.lookup x = some k → (x, k) ∈ l
  | [], h => by simp at h
  | (n, j) :: r, h => by
    by_cases e : x = n
    · subst e
      simp only [List.lookup_cons, beq_self_eq_true] at h
      rw [← Option.some.inj h]
      exact List.mem_cons_self
    · have hb : (x == n) = false := by simpa using e
      simp only [List.lookup_cons, hb] at h
      exact List.mem_cons_of_mem _ (mem_look h)
section
variable {X : Cx} {elt tg iter : Expr} {scope : Scope} {pos : Pos} {wi : TI} {g : TG} {te : TE} {N : List Str} {fr : List (Option Nat)}
/-- the block: its state at the entry -/
theorem comp_entry {pins : List (Addr × Obj)} {σ : St} {H : Hp} {s s1 : Shared} {cl : List (Str × Addr)} {ex : List Addr} {C : Addr} {m : Str → Option Value} (I : Inv X pins σ H s) (ck : CompChk X.env.scope X.N scope N fr)
    (c1 : ∀ x c, cl.lookup x = some c → X.env.cells.lookup x = some c) (c2 : ∀ x, (x, NameKind.free) ∈ scope.names → ∃ c, cl.lookup x = some c) (hex : ∀ b ∈ ex, FpOk X pins H b ∧ b < s.heap.objs.size) (hC : s.heap.objs.size ≤ C)
    (hn : s1.heap.Ns C m) (k : ∀ b o, s.heap.get? b = some o → s1.heap.get? b = some o) (ho : s1.os = s.os) (hg : s1.gens = s.gens) :
    Inv (compCx X scope cl N C s H ex) [] (stC fr σ) H s1 := by
  have lt_ne : ∀ {b : Addr} {o : Obj}, s.heap.get? b = some o → b ≠ C := fun e => Nat.ne_of_lt (Nat.lt_of_lt_of_le (Heap.lt_size e) hC)
  have ok : (compCx X scope cl N C s H ex).Ok :=
    { mod := I.ok.mod
      kind := ck.kind
      glob := I.ok.glob
      blt := I.ok.blt
      above := hC
      inj := fun x y c e1 e2 => I.ok.inj x y c (c1 x c e1) (c1 y c e2)
      has := fun x h => c2 x (relabel_CF ck.nocell h)
      cab := fun x c z => by cases z
      hd := I.ok.hd
      frames := I.ok.frames
      stk := .inl rfl
      exf := fun b hb => ⟨Nat.ne_of_lt (Nat.lt_of_lt_of_le (hex b hb).2 hC), fun x c e => (hex b hb).1.2.2.2.2.1 x c (c1 x c e)⟩
      bs := I.bs
      bsz := Nat.le_trans I.ok.bsz I.sz
      noex := fun b o e hb => by
        rcases (hex b hb).1.2.2.2.1 with z | z
        · exact I.ok.noex b o e z
        · exact absurd (Nat.lt_of_lt_of_le (Heap.lt_size e) (Nat.le_trans I.ok.bsz z)) (Nat.lt_irrefl _)
      exfs := fun b hb hz => by
        rcases List.mem_cons.mp (I.stkSub b hz) with z | z
        · exact (hex b hb).1.2.1 z
        · exact (hex b hb).1.2.2.1 z
      funs := I.stack
      frf := I.stkFree }
  refine ⟨ok, ho, by rw [hg]; exact I.bare, Un.kept k, ⟨m, hn, fun j x v e1 e2 e3 => ?_⟩, fun x c e => ?_, I.hok.fresh hC, fun x c e => I.freeC x c (c1 x c e), fun p hp => by simp at hp, I.hok.kept k, ?_⟩
  · have e1' : N[j]? = some x := e1
    unfold stC at e2
    rw [List.getElem?_map] at e2
    cases q : fr[j]? with
    | none => rw [q] at e2; cases e2
    | some o =>
      rw [q] at e2
      cases o with
      | none =>
        have : (none : Option V) = some v := Option.some.inj e2
        cases this
      | some i =>
        have e2' : (σ[i]?).join = some v := Option.some.inj e2
        obtain ⟨s1', s2', s3'⟩ := ck.slots j x i e1' q
        have hσ : σ[i]? = some (some v) := by
          cases z : σ[i]? with
          | none => rw [z] at e2'; cases e2'
          | some y => rw [z] at e2'; exact congrArg some e2'
        have hcf := isCF_of s2'
        obtain ⟨m0, hn0, hl⟩ := I.loc
        obtain ⟨u, r, lk⟩ := hl i x v s1' hσ (Or.inr hcf)
        refine ⟨u, r, Or.inr ⟨relabel_free s3', ?_⟩⟩
        obtain ⟨c, hc⟩ := c2 x (mem_look s3')
        refine ⟨c, hc, ?_⟩
        rcases lk with ⟨z, _⟩ | ⟨_, c', hc', hv⟩
        · rcases hcf with y | y
          · have z' : X.env.scope.names.lookup x = some .local := z
            rw [y] at z'; cases z'
          · have z' : X.env.scope.names.lookup x = some .local := z
            rw [y] at z'; cases z'
        · have := c1 x c hc
          rw [hc'] at this
          cases this
          exact hv.keeps k
  · obtain ⟨v, z⟩ := I.cell x c (c1 x c e)
    exact ⟨v, z.keeps k⟩
  · unfold stC
    rw [List.length_map]
    exact ck.len.symm

theorem comp_core {pins : List (Addr × Obj)} {σ : St} {H : Hp} {s : Shared} {Q : VK} {cl : List (Str × Addr)} {R : Value → Addr → Result → Shared → Prop} (hc : X.calm = true) (I : Inv X pins σ H s) (hi : PI X tg iter wi)
    (hg : ∀ cl C s H ex, PG (compCx X scope cl N C s H ex) tg g) (he : ∀ cl C s H ex, PE (compCx X scope cl N C s H ex) elt te) (ck : CompChk X.env.scope X.N scope N fr)
    (c1 : ∀ x c, cl.lookup x = some c → X.env.cells.lookup x = some c) (c2 : ∀ x, (x, NameKind.free) ∈ scope.names → ∃ c, cl.lookup x = some c)
    (h : tComp wi g te fr σ H Q)
    (hR : ∀ acc C s' H' m, s'.heap.Ns C m → FpOk X pins H' C → Inv X pins σ H' s' → Q (.ref acc) H' → R (.ref acc) C (.ok .next) s') :
    wpAny (model X.prog X.w) X.A (eval iter X.env) (fun x s₁ => wpAny (model X.prog X.w) X.A (pyIter x) (fun it s₂ => wpAny (model X.prog X.w) X.A (newList []) (fun acc s₃ =>
      wpAny (model X.prog X.w) X.A (newFunctionEnv scope X.env.globals cl [] X.env.qual none .none (some X.env)) (fun cenv s₄ =>
        codeAny (model X.prog X.w) X.A (.compStart (.ListComp elt [⟨tg, iter, [], 0⟩] scope pos) 0 it acc { cenv with scope := relabel scope X.env }) (R acc cenv.locals) s₄) X.xe s₃) X.xe s₂) X.xe s₁) X.xe s := by
  refine thn (hi pins s σ H _ I h) fun v s1 h1 => thn h1 fun itv s2 h2 => ?_
  obtain ⟨it, fp, tn, J, H2, e, I2, T, st2, f2, q2⟩ := h2
  subst e
  refine wpAny_newObj_type (wpAny_newFunctionEnv ck.nocell (by intro y hy; simp at hy) (fun h₁ hns₁ hsb₁ => ?_) ck.kind)
  dsimp only at hns₁ hsb₁ ⊢
  have I3 : Inv X pins σ (upd H2 s2.heap.objs.size (.lst [])) { s2 with heap := s2.heap.push { cls := .type "list", dict := none, data := .seq ([] : List Value).toArray } } := I2.lnew (t' := s2.toks) (its := []) .nil (Nat.zero_le _)
  have acc0 : H2 s2.heap.objs.size = none := I2.fresh
  obtain ⟨W, ⟨m0, w0⟩, turn⟩ := q2 s2.heap.objs.size acc0
  generalize hH3 : s2.heap.push { cls := .type "list", dict := none, data := .seq ([] : List Value).toArray } = h3 at hns₁ hsb₁ I3 ⊢
  have hz3 : h3.objs.size = s2.heap.objs.size + 1 := by rw [← hH3, Heap.size_push]
  have k23 : ∀ b o, s2.heap.get? b = some o → h3.get? b = some o := fun b o e => by rw [← hH3]; exact Heap.get?_push_of_some _ e
  have k34 : ∀ b o, h3.get? b = some o → h₁.get? b = some o := fun b o e => hsb₁.extBut b o (Nat.ne_of_lt (Heap.lt_size e)) (Heap.get?_push_of_some _ e)
  have fpo : ∀ b ∈ fp, ∃ o, s2.heap.get? b = some o ∧ ∀ v, o.data ≠ .cell v := T.obj 0 _ st2
  have hex : ∀ b ∈ fp, FpOk X pins (upd H2 s2.heap.objs.size (.lst [])) b ∧ b < h3.objs.size := fun b hb => by
    obtain ⟨o, eo, _⟩ := fpo b hb
    have lt := Heap.lt_size eo
    obtain ⟨f0, fr'⟩ := f2 b hb
    exact ⟨⟨by rw [upd_ne (Nat.ne_of_lt lt)]; exact f0, fr'⟩, by rw [hz3]; exact Nat.lt_succ_of_lt lt⟩
  have I4 : Inv (compCx X scope cl N h3.objs.size { s2 with heap := h3 } (upd H2 s2.heap.objs.size (.lst [])) fp) [] (stC fr σ) (upd H2 s2.heap.objs.size (.lst [])) { s2 with heap := h₁, toks := s2.toks + ([] : List (Str × Value)).length } :=
    comp_entry I3 ck c1 c2 hex (Nat.le_refl _) hns₁ k34 rfl rfl
  have stat : ∀ {H' : Hp}, (∀ b ∈ fp, H' b = none) → ∀ b ∈ fp, FpOk (compCx X scope cl N h3.objs.size { s2 with heap := h3 } (upd H2 s2.heap.objs.size (.lst [])) fp) [] H' b := fun hn b hb =>
    ⟨hn b hb, (I4.ok.exf b hb).1, I4.ok.exfs b hb, .inl hb, (I4.ok.exf b hb).2, fun p hp => by simp at hp⟩
  have stn : ∀ i h h', tn i h → (∀ b o, h.get? b = some o → h'.get? b = some o) → tn i h' := fun i h h' st kk => T.keep i h h' st fun b _ o e => kk b o e
  have loop : codeAny (model X.prog X.w) X.A (.compLoop (.ListComp elt [⟨tg, iter, [], 0⟩] scope pos) 0 (.ref it) (.ref s2.heap.objs.size) (compEnvC scope cl h3.objs.size X.env)) (R (.ref s2.heap.objs.size) h3.objs.size)
      { s2 with heap := h₁, toks := s2.toks + ([] : List (Str × Value)).length } := by
    refine compLoop_any (fun n s' => ∃ i σ' H', Inv (compCx X scope cl N h3.objs.size { s2 with heap := h3 } (upd H2 s2.heap.objs.size (.lst [])) fp) [] σ' H' s' ∧ tn i s'.heap ∧ (∀ b ∈ fp, H' b = none) ∧ W i n σ' H') ?_ m0
      ⟨0, _, _, I4, stn _ _ _ st2 fun b o e => k34 b o (k23 b o e), fun b hb => (hex b hb).1.1, w0⟩
    rintro n s3 ⟨i, σ3, H3, J3, st3, fr3, w3⟩
    rcases turn i n σ3 H3 w3 with ⟨stop, qn⟩ | ⟨go, step⟩
    · refine wpFalse (thn (T.done (compCx X scope cl N h3.objs.size { s2 with heap := h3 } (upd H2 s2.heap.objs.size (.lst [])) fp) rfl rfl rfl hc i [] s3 σ3 H3 (fun _ _ => False) J3 (stat fr3) st3 stop) fun r s4 hz_ => ?_)
      obtain ⟨hr, J4⟩ := hz_
      subst hr
      obtain ⟨mc, hmc, _⟩ := J4.loc
      have I5 : Inv X pins σ H3 s4 := I3.call' (ch := fp) J4.os J4.base J4.hok J4.bare fun b hb => ⟨(hex b hb).1.2.2.2.1, (hex b hb).1.2.1, (hex b hb).1.2.2.2.2.1, (hex b hb).1.2.2.2.2.2⟩
      exact hR _ _ s4 H3 mc hmc (I3.fpOk (Nat.le_refl _) J4.free) I5 qn
    · refine wpFalse (thn (T.item (compCx X scope cl N h3.objs.size { s2 with heap := h3 } (upd H2 s2.heap.objs.size (.lst [])) fp) rfl rfl rfl hc i [] s3 σ3 H3 (fun _ _ => False) J3 (stat fr3) st3 go) fun r s4 hz_ => ?_)
      obtain ⟨u, hr, h4⟩ := hz_
      subst hr
      refine wpFalse (thn h4 fun _ s5 hz_ => ?_)
      obtain ⟨x, H5, J5, r5, y5, st5, fr5⟩ := hz_
      have J5' := J5.pinned (stat fr5) (T.obj _ _ st5)
      refine wpFalse (thn (hg _ _ _ _ _ _ s5 σ3 H5 x u _ J5' r5 (step x H5 y5)) fun _ s6 hz_ => ?_)
      obtain ⟨σ6, H6, J6, q6⟩ := hz_
      refine wpFalse (thn (he _ _ _ _ _ _ s6 σ6 H6 _ J6 q6) fun y s7 hz_ => ?_)
      obtain ⟨v7, H7, J7, r7, xs, hx, hz, m', hm', w7⟩ := hz_
      refine wpFalse (thn (mt_append _ s7 σ6 H7 (.ref s2.heap.objs.size) [v7] (.ref s2.heap.objs.size) [y] (fun v H8 => H8 = upd H7 s2.heap.objs.size (.lst (xs ++ [v7]))) J7 rfl (.cons r7 .nil) ⟨_, xs, v7, rfl, rfl, hx, hz, rfl⟩) fun _ s8 hz_ => ?_)
      obtain ⟨_, H8, J8, _, e8⟩ := hz_
      subst e8
      refine ⟨m', hm', i + 1, σ6, _, J8.unpinned, T.keep _ _ _ st5 fun b hb o e => (J8.pin (b, o) (List.mem_append_right _ (List.mem_append_right _ (mem_pinsAt hb e)))).1, fun b hb => ?_, w7⟩
      obtain ⟨o, e, d⟩ := T.obj _ _ st5 b hb
      exact (J8.pin (b, o) (List.mem_append_right _ (List.mem_append_right _ (mem_pinsAt hb e)))).2.1
  exact codeAny_compStart_list loop (T.self _ 0 _ _ _ (stn _ _ _ st2 fun b o e => k34 b o (k23 b o e)) loop)

theorem comp_cl (I : X.Ok) (ck : CompChk X.env.scope X.N scope N fr) : ∃ cl, closureFor scope X.env = pure cl ∧ (∀ x c, cl.lookup x = some c → X.env.cells.lookup x = some c) ∧ (∀ x, (x, NameKind.free) ∈ scope.names → ∃ c, cl.lookup x = some c) :=
  closure_of fun y hy e => I.has y.1 (isCF_of (ck.free y hy e))

theorem pe_comp (hc : X.calm = true) (hi : PI X tg iter wi) (hg : ∀ cl C s H ex, PG (compCx X scope cl N C s H ex) tg g) (he : ∀ cl C s H ex, PE (compCx X scope cl N C s H ex) elt te)
    (hk : compChk X.env.scope X.N scope N fr = true := by rfl) (hs : ∀ x, foldedSetIterable iter X.env x = pure x := by intro _; rfl) : PE X (.ListComp elt [⟨tg, iter, [], 0⟩] scope pos) (tComp wi g te fr) := by
  intro pins s σ H Q I h
  have ck := compChk_of hk
  obtain ⟨cl, e1, c1, c2⟩ := comp_cl I.ok ck
  rw [eval_ListComp]
  refine wpAny_comprehension_free (use := none) (Q := EP X pins σ Q) rfl hs e1 ck.kind ck.loc (comp_core (R := fun acc C => compPost (model X.prog X.w) X.A X.xe none (EP X pins σ Q) acc C) hc I hi hg he ck c1 c2 h fun acc C s' H' m hn f I' q => ?_)
  obtain ⟨f0, f1, f2, f3, f4, f5⟩ := f
  exact ⟨m, hn, fun h' hs' => ⟨.ref acc, H', I'.turned (t' := s'.toks) (fun b o hb e => hs'.extBut b o hb e) f0 f1 f3 f4 f5, rfl, q⟩⟩

/-- name = [..]: the name is stored ahead of the block's end -/
theorem ps_setComp {y : Str} {py spos : Pos} {gy : TG} (hc : X.calm = true) (hy : PG X (.Name y py) gy) (hi : PI X tg iter wi) (hg : ∀ cl C s H ex, PG (compCx X scope cl N C s H ex) tg g) (he : ∀ cl C s H ex, PE (compCx X scope cl N C s H ex) elt te)
    (hk : compChk X.env.scope X.N scope N fr = true := by rfl) (hsw : swapsWith (.ListComp elt [⟨tg, iter, [], 0⟩] scope pos) (some (.Name y py)) spos.line X.env = pure true := by rfl) (hs : ∀ x, foldedSetIterable iter X.env x = pure x := by intro _; rfl) :
    PS X (.Assign [.Name y py] (.ListComp elt [⟨tg, iter, [], 0⟩] scope pos) spos) (tAsg (tComp wi g te fr) gy) := by
  intro pins s σ H D I h
  have ck := compChk_of hk
  obtain ⟨cl, e1, c1, c2⟩ := comp_cl I.ok ck
  rw [exec_Assign_Name_used _ _ _ _ hsw]
  refine wpAny_bind (wpAny_standAt (wpAny_bind ?_))
  show wpAny _ X.A (do let _ ← comprehension (.ListComp elt [⟨tg, iter, [], 0⟩] scope pos) scope X.env _ (newList []) false (eval iter X.env) (some (assign (.Name y py) X.env))) _ _ s
  refine wpAny_bind (wpAny_mono (wpAny_comprehension_free (use := some (assign (.Name y py) X.env)) (Q := fun _ s' => SP X pins D .next s') rfl hs e1 ck.kind ck.loc
    (comp_core (R := fun acc C => compPost (model X.prog X.w) X.A X.xe (some (assign (.Name y py) X.env)) (fun _ s' => SP X pins D .next s') acc C) hc I hi hg he ck c1 c2 h fun acc C s' H' m hn f I' q => ?_)) (fun _ s' hq => wpAny_pure (wpAny_pure hq)) fun _ _ e => e)
  show wpAny _ X.A (assign (.Name y py) X.env (.ref acc)) _ _ _
  obtain ⟨oC, es, ep, hoC, hdC, hrC⟩ := id hn
  have IP := I'.pinned (fp := [C]) (fun b hb => by rw [List.mem_singleton.mp hb]; exact f) (fun b hb => by rw [List.mem_singleton.mp hb]; exact ⟨oC, hoC, fun v z => by rw [hdC] at z; cases z⟩)
  refine thn (hy _ s' σ H' (.ref acc) (.ref acc) _ IP rfl q) fun _ s'' ⟨σ6, H6, I6, q6⟩ => ?_
  have pC := I6.pin (C, oC) (List.mem_append_right _ (List.mem_append_right _ (mem_pinsAt (List.mem_singleton.mpr rfl) hoC)))
  obtain ⟨f0, f1, f2, f3, f4, f5⟩ := f
  exact ⟨m, ⟨oC, es, ep, pC.1, hdC, hrC⟩, fun h' hs' => ⟨σ6, H6, I6.unpinned.turned (t' := s''.toks) (fun b o hb e => hs'.extBut b o hb e) pC.2.1 f1 f3 f4 f5, q6⟩⟩
end
end L2
namespace L2
open PySem PySem.Spec PyProof.Rows
section
variable {X : Cx}
def CDivL (_ j : Int) : Prop := 0 < j ∧ j.natAbs.log2 < 9000
theorem op_fdivL : OpR X (binaryOp .FloorDiv) (rI CDivL fun i j => .int (i / j)) := opI fun i j _ _ _ _ _ hc q => by
  have h1 : (0 : Int) < j := hc.1
  exact floordiv_int (by first | lia | omega) (by rw [Int.fdiv_eq_ediv_of_nonneg i (by first | lia | omega)]; exact q) (.inl (PyProof.noPylong_of_log2 hc.2))
theorem op_mulL : OpR X (binaryOp .Mult) (rI IntMulOk fun i j => .int (i * j)) := opI fun _ _ _ _ _ _ _ hc q => mul_int q hc
theorem log2_lt_of {n k : Nat} (hk : 0 < k) (h : n < 2 ^ k) : n.log2 < k := by
  rcases Nat.eq_zero_or_pos n with h0 | hp
  · rw [h0]; simpa using hk
  · exact (Nat.log2_lt (Nat.ne_of_gt hp)).mpr h
theorem intBits_le {z : Int} {k : Nat} (hk : 0 < k) (h : z.natAbs < 2 ^ k) : Builtin.Int.intBits z ≤ k := by
  unfold Builtin.Int.intBits
  split
  · exact Nat.zero_le _
  · exact log2_lt_of hk h
theorem mulOk_of {a b : Int} (h1 : a.natAbs < 2 ^ 128) (h2 : b.natAbs < 2 ^ 128) : IntMulOk a b := by
  have e1 := intBits_le (by decide) h1
  have e2 := intBits_le (by decide) h2
  unfold IntMulOk Builtin.Int.intTooBig
  intro h
  simp only [Bool.and_eq_true, decide_eq_true_eq] at h
  have h3 := h.2
  have hb : (256 : Int) ≤ (bitsLine : Int) := by decide +kernel
  first | lia | omega

def tyO : Option HO → Option String
  | some (.lst _) => some "list"
  | some (.frz _ (.lst _)) => some "list"
  | some (.tup _) => some "tuple"
  | some (.dK _) => some "dict"
  | some (.dT _) => some "dict"
  | _ => none
def tyS (H : Hp) : V → Option String
  | .non => some "NoneType"
  | .bl _ => some "bool"
  | .int _ => some "int"
  | .str _ => some "str"
  | .ref a => tyO (H a)
  | _ => none
theorem tyS_of {K : PySem.W.Frag} {H : Hp} {x : V} {T : String} (h : tyS H x = some T) : TyOf K H x (.type T) ∧ (T = "NoneType" ∨ T = "bool" ∨ T = "int" ∨ T = "str" ∨ T = "list" ∨ T = "tuple" ∨ T = "dict") := by
  unfold tyS at h
  split at h
  · cases h; exact ⟨.non, by simp⟩
  · cases h; exact ⟨.bl _, by simp⟩
  · cases h; exact ⟨.int _, by simp⟩
  · cases h; exact ⟨.str _, by simp⟩
  · unfold tyO at h
    split at h
    · rename_i e; cases h; exact ⟨.lst e, by simp⟩
    · rename_i e; cases h; exact ⟨.frz e, by simp⟩
    · rename_i e; cases h; exact ⟨.tup e, by simp⟩
    · rename_i e; cases h; exact ⟨.dK e, by simp⟩
    · rename_i e; cases h; exact ⟨.dT e, by simp⟩
    · cases h
  · cases h
def isB (T c : String) : Bool := decide (T = c) || (decide (T = "bool") && decide (c = "int"))
theorem isB_tt : isB "tuple" "tuple" = true := by decide
theorem kit_isB {K : PySem.W.Frag} {T c : String} (h : T = "NoneType" ∨ T = "bool" ∨ T = "int" ∨ T = "str" ∨ T = "list" ∨ T = "tuple" ∨ T = "dict") (hc : c = "int" ∨ c = "bool" ∨ c = "tuple" ∨ c = "list" ∨ c = "str") :
    PySem.W.kitOne K (.type T) (.type c) = some (isB T c) := by
  rcases h with rfl | rfl | rfl | rfl | rfl | rfl | rfl <;> rcases hc with rfl | rfl | rfl | rfl | rfl <;> rfl
inductive IIsin (xs : List V) (H : Hp) (Q : VK) : Prop
  | mk (x : V) (T c : String) (e : xs = [x, .ty c]) (t : tyS H x = some T) (h : c = "int" ∨ c = "bool" ∨ c = "tuple" ∨ c = "list" ∨ c = "str") (q : Q (.bl (isB T c)) H) : IIsin xs H Q
theorem call_isin : CallR X (.builtin "isinstance") (fun xs H Q => IIsin xs H Q) := by
  intro pins s σ H xs us Q I r h
  obtain ⟨x, T, c, rfl, hT, hc, q⟩ := h
  obtain ⟨u, w', rfl, rx, ry⟩ := vals2 r
  cases (show w' = Value.type c from ry)
  obtain ⟨ty, hl⟩ := tyS_of (K := X.K) hT
  exact isinst_ok I rx ty (kit_isB hl hc) fun tk => ⟨.bl (isB T c), H, I.tok tk, rfl, q⟩

theorem bools_get {bs : List Bool} {its : List Value} (r : Vals (bs.map V.bl) its) {i : Nat} {v : Value} (h : its.toArray[i]? = some v) : v = .bool (bs.getD i false) := by
  have hl := r.length
  have hi : i < its.length := by
    have := (Array.getElem?_eq_some_iff.mp h).1
    simpa using this
  have hb : bs[i]? = some (bs.getD i false) := by
    have : i < bs.length := by rw [List.length_map] at hl; first | lia | omega
    rw [List.getD_eq_getElem?_getD, List.getElem?_eq_getElem this]; rfl
  obtain ⟨u, hu, ru⟩ := r.get (i := i) (x := .bl (bs.getD i false)) (by rw [List.getElem?_map, hb]; rfl)
  have h' : its[i]? = some v := by simpa using h
  rw [h'] at hu
  cases hu
  exact ru
theorem range_all {α : Type} (bs : List Bool) : (List.range bs.length).all (fun i => bs.getD i false) = bs.all id := by
  have e : (List.range bs.length).map (fun i => bs.getD i false) = bs := by
    apply List.ext_getElem?
    intro i
    rw [List.getElem?_map]
    by_cases h : i < bs.length
    · rw [List.getElem?_range h, List.getElem?_eq_getElem h, Option.map_some, List.getD_eq_getElem?_getD, List.getElem?_eq_getElem h]; rfl
    · rw [List.getElem?_eq_none (by simpa using h), List.getElem?_eq_none (by first | lia | omega)]; rfl
  conv => rhs; rw [← e]
  rw [List.all_map]; rfl
theorem range_any {α : Type} (bs : List Bool) : (List.range bs.length).any (fun i => bs.getD i false) = bs.any id := by
  have e : (List.range bs.length).map (fun i => bs.getD i false) = bs := by
    apply List.ext_getElem?
    intro i
    rw [List.getElem?_map]
    by_cases h : i < bs.length
    · rw [List.getElem?_range h, List.getElem?_eq_getElem h, Option.map_some, List.getD_eq_getElem?_getD, List.getElem?_eq_getElem h]; rfl
    · rw [List.getElem?_eq_none (by simpa using h), List.getElem?_eq_none (by first | lia | omega)]; rfl
  conv => rhs; rw [← e]
  rw [List.any_map]; rfl
theorem truth_bools {prog : Program} {w : World} {A : Around} {bs : List Bool} {its : List Value} (r : Vals (bs.map V.bl) its) : TruthOf prog w A (fun i v => its.toArray[i]? = some v) (fun i => bs.getD i false) := by
  intro i v s Q E hv hq
  have e := bools_get r hv
  subst e
  exact wpAny_truthy_bool hq
theorem call_all : CallR X (.builtin "all") (fun xs H Q => ∃ (p : Addr) (bs : List Bool), xs = [.ref p] ∧ SqL X.K H p (bs.map V.bl) ∧ X.calm = true ∧ Q (.bl (bs.all id)) H) := by
  intro pins s σ H xs us Q I r h
  obtain ⟨p, bs, rfl, hp, hc, q⟩ := h
  obtain ⟨u, rfl, ru⟩ := vals1 r
  cases ru
  obtain ⟨its, rv, pl, hz⟩ := I.list hp
  have hl := rv.length
  rw [List.length_map] at hl
  refine call_all_walk (wpAny_pyIter_list pl.isList ?_)
  have hlt : p < s.heap.objs.size := by obtain ⟨o, ho, _⟩ := pl.isList; exact Heap.lt_size ho
  refine ⟨s.heap.objs.size, _, _, _, _, _, _, rfl, Walks.list (show X.A.in1.handled = none from I.ok.hd hc) s.heap.objs.size p (Nat.ne_of_lt hlt) its.toArray, ⟨⟨_, Heap.get?_push_size _ rfl, rfl, rfl⟩, let ⟨o, ho, r⟩ := pl.isList; ⟨o, Heap.get?_push_of_some _ ho, r⟩⟩, truth_bools rv, fun h' tk k => ?_⟩
  refine ⟨.bl (bs.all id), H, I.kept (t' := tk) fun b o e => k b o (fun z => ?_) (Heap.get?_push_of_some _ e), ?_, q⟩
  · have : b = s.heap.objs.size := by simpa using z
    exact absurd (this ▸ Heap.lt_size e) (Nat.lt_irrefl _)
  · show Value.bool _ = Value.bool _
    rw [List.size_toArray, ← hl, range_all (α := Nat)]
theorem call_any : CallR X (.builtin "any") (fun xs H Q => ∃ (p : Addr) (bs : List Bool), xs = [.ref p] ∧ SqL X.K H p (bs.map V.bl) ∧ X.calm = true ∧ Q (.bl (bs.any id)) H) := by
  intro pins s σ H xs us Q I r h
  obtain ⟨p, bs, rfl, hp, hc, q⟩ := h
  obtain ⟨u, rfl, ru⟩ := vals1 r
  cases ru
  obtain ⟨its, rv, pl, hz⟩ := I.list hp
  have hl := rv.length
  rw [List.length_map] at hl
  refine call_any_walk (wpAny_pyIter_list pl.isList ?_)
  have hlt : p < s.heap.objs.size := by obtain ⟨o, ho, _⟩ := pl.isList; exact Heap.lt_size ho
  refine ⟨s.heap.objs.size, _, _, _, _, _, _, rfl, Walks.list (show X.A.in1.handled = none from I.ok.hd hc) s.heap.objs.size p (Nat.ne_of_lt hlt) its.toArray, ⟨⟨_, Heap.get?_push_size _ rfl, rfl, rfl⟩, let ⟨o, ho, r⟩ := pl.isList; ⟨o, Heap.get?_push_of_some _ ho, r⟩⟩, truth_bools rv, fun h' tk k => ?_⟩
  refine ⟨.bl (bs.any id), H, I.kept (t' := tk) fun b o e => k b o (fun z => ?_) (Heap.get?_push_of_some _ e), ?_, q⟩
  · have : b = s.heap.objs.size := by simpa using z
    exact absurd (this ▸ Heap.lt_size e) (Nat.lt_irrefl _)
  · show Value.bool _ = Value.bool _
    rw [List.size_toArray, ← hl, range_any (α := Nat)]

def rInsert : V → List V → Hp → VK → Prop := fun x vs H Q => ∃ l xs i y, x = .ref l ∧ vs = [.int i, y] ∧ H l = some (.lst xs) ∧ 0 ≤ i ∧ i < 2 ^ 63 ∧ xs.length < sizeLine ∧ Q .non (upd H l (.lst (xs.take i.toNat ++ y :: xs.drop i.toNat)))
theorem mt_insert : MtM X "list.insert" rInsert := by
  intro pins s σ H x vs v us Q I rx rv h
  obtain ⟨l, xs, i, y, rfl, rfl, hH, h0, h1, hz, q⟩ := h
  cases rx
  obtain ⟨u, w', rfl, ru, rw'⟩ := rv.two
  obtain ⟨t, rfl⟩ := ru
  obtain ⟨z, its, n, r, hl, e⟩ := I.lstM hH
  refine call_meets F.slot_list_insert ⟨_, e, rfl⟩ F.entry_list_insert (F.args_list_insert_3 _ _ _)
    (AutoListH.list_insert_list_int_val_1 l its.toArray n i t w' (by rw [fitsIndex_both (by first | lia | omega) h1]; decide) (by rw [List.size_toArray]; first | lia | omega)) ⟨e, ?_⟩
  refine ⟨.non, _, I.lset (its' := its.take i.toNat ++ w' :: its.drop i.toNat) hH e ?_ ((r.take _).append (.cons rw' (r.drop _))) ?_, rfl, q⟩
  · have hk : (if i < 0 then (i + ((its.toArray.size : Nat) : Int)).toNat else min i.toNat its.toArray.size) = min i.toNat its.length := by
      rw [if_neg (by first | lia | omega), List.size_toArray]
    show ((its.toArray.extract 0 (if i < 0 then (i + ((its.toArray.size : Nat) : Int)).toNat else min i.toNat its.toArray.size)).push w' ++ its.toArray.extract (if i < 0 then (i + ((its.toArray.size : Nat) : Int)).toNat else min i.toNat its.toArray.size)) = _
    rw [hk]
    apply Array.ext'
    simp only [Array.toList_append, Array.toList_push, Array.toList_extract, List.extract_eq_drop_take, List.drop_zero, Nat.sub_zero, List.size_toArray]
    rw [List.append_assoc, List.singleton_append]
    have e1 : its.take (min i.toNat its.length) = its.take i.toNat := by
      rcases Nat.le_total i.toNat its.length with h | h
      · rw [Nat.min_eq_left h]
      · rw [Nat.min_eq_right h, List.take_length, List.take_of_length_le h]
    have e2 : (its.drop (min i.toNat its.length)).take (its.length - min i.toNat its.length) = its.drop i.toNat := by
      rw [List.take_of_length_le (by rw [List.length_drop]; exact Nat.le_refl _)]
      rcases Nat.le_total i.toNat its.length with h | h
      · rw [Nat.min_eq_left h]
      · rw [Nat.min_eq_right h, List.drop_length, List.drop_of_length_le h]
    rw [e1, e2]
  · rw [List.length_append, List.length_cons, List.length_take, List.length_drop]
    first | lia | omega
end

section
variable {X : Cx}
end
end L2
namespace L2
open PySem PySem.Spec PyProof.Rows
structure DefOk (P : Program) (w : World) (K : PySem.W.Frag) (mg : Str → Option Value) (base : Heap) (k : Nat) (x : Str) (ps : List Str) (sp : Sp) : Prop where
  ex : ∃ (f : Addr) (fd : FuncData), FnOk P w K mg base CX0 k f fd ps sp ∧ mg x = some (.ref f) ∧ PySem.W.keepIn K (.ref f) = true ∧ Binds K fd ps []
section
variable {X : Cx} {k j : Nat} {x : Str} {ps : List Str} {sp : Sp} {p pos : Pos} {e : Expr} {es : List Expr} {t : TA}
theorem pe_fn (D : DefOk X.prog X.w X.K X.mg X.base k x ps sp) (hr : Room j X.A) (ha : PA X (e :: es) t) (hj : k ≤ j := by decide) (hg : Gl X x := by rfl) (hdb : (x == ("__debug__" : Str)) = false := by decide)
    (he : starEach (e :: es) X.env = (false, eval e X.env) :: starEach es X.env := by rfl) (hpl : (backTo pos (starEach es X.env)).any (·.1) = false := by rfl) : PE X (.Call (.Name x p) (e :: es) [] pos) (tCall sp [] E0 t) := by
  obtain ⟨f, fd, F, hm, hk, hb⟩ := D.ex
  exact pe_call F (hr.mono hj) hg hm hk hb .nil pass0 ha hdb he hpl
end
theorem lenOk {xs : List V} (n : Nat) (h : xs.length = n := by rfl) (h2 : n ≤ 1000 := by decide) : xs.length ≤ sizeLine := by rw [h]; exact Nat.le_of_lt (small1000 h2)
theorem iteP {c : Bool} {A B : Prop} (h : c = true) (a : A) : if c = true then A else B := by rw [if_pos h]; exact a
theorem iteN {c : Bool} {A B : Prop} (h : c = false) (b : B) : if c = true then A else B := by rw [if_neg (by rw [h]; exact Bool.false_ne_true)]; exact b
theorem ite3 {c : Bool} {A B : Prop} (h1 : c = true → A) (h2 : c = false → B) : if c = true then A else B := by
  cases c with
  | true => exact iteT (h1 rfl)
  | false => exact iteF (h2 rfl)
theorem decI {i j : Int} : decide (V.int i = V.int j) = true ↔ i = j := by
  rw [decide_eq_true_eq]
  exact ⟨fun h => by injection h, fun h => by rw [h]⟩
theorem decIf {i j : Int} : decide (V.int i = V.int j) = false ↔ i ≠ j := by
  rw [decide_eq_false_iff_not]
  exact ⟨fun h z => h (by rw [z]), fun h z => h (by injection z)⟩
/-- all but p is as it was -/
def SameX (p : Addr) (H H' : Hp) : Prop := ∀ b o, b ≠ p → H b = some o → H' b = some o
theorem SameX.refl {p : Addr} {H : Hp} : SameX p H H := fun _ _ _ h => h
theorem SameX.trans {p : Addr} {H H1 H2 : Hp} (a : SameX p H H1) (b : SameX p H1 H2) : SameX p H H2 := fun c o n h => b c o n (a c o n h)
theorem SameX.upd {p : Addr} {H : Hp} {o : HO} : SameX p H (upd H p o) := fun b u n h => by rw [upd_ne n]; exact h
theorem SameX.new {p l : Addr} {H : Hp} {o : HO} (h : H l = none) : SameX p H (L2.upd H l o) := fun b u _ e => by rw [upd_ne (ne_of_none e h)]; exact e
theorem Same.new {l : Addr} {H : Hp} {o : HO} (h : H l = none) : Same H (L2.upd H l o) := fun b u e => by rw [upd_ne (ne_of_none e h)]; exact e
theorem Same.x {p : Addr} {H H' : Hp} (a : Same H H') : SameX p H H' := fun b o _ e => a b o e

/-- the invariant of a comprehension of n turns: at turn i the new list holds xs, i of them -/
def cW (acc : Addr) (n : Nat) (Pv : Nat → List V → St → Hp → Prop) (i m : Nat) (σ : St) (H : Hp) : Prop := i ≤ n ∧ m = n - i ∧ ∃ xs, xs.length = i ∧ H acc = some (.lst xs) ∧ Pv i xs σ H
/-- what is wanted behind the element of turn i -/
def cNx (acc : Addr) (n : Nat) (Pv : Nat → List V → St → Hp → Prop) (i : Nat) (σ : St) (v : V) (H : Hp) : Prop := ∃ xs, H acc = some (.lst xs) ∧ xs.length < sizeLine ∧ ∃ m', m' < n - i ∧ cW acc n Pv (i + 1) m' σ (upd H acc (.lst (xs ++ [v])))
theorem cNx.mk {acc : Addr} {n : Nat} {Pv : Nat → List V → St → Hp → Prop} {i : Nat} {σ : St} {v : V} {H : Hp} {xs : List V} (hn : n ≤ sizeLine) (hi : i < n) (hl : xs.length = i) (ha : H acc = some (.lst xs)) (hp : Pv (i + 1) (xs ++ [v]) σ (upd H acc (.lst (xs ++ [v])))) :
    cNx acc n Pv i σ v H := ⟨xs, ha, by first | lia | omega, n - (i + 1), by first | lia | omega, hi, rfl, xs ++ [v], by rw [List.length_append, hl]; rfl, upd_same, hp⟩
theorem comp_range {lo : Int} {n : Nat} {g : TG} {te : TE} {σ : St} {H1 : Hp} {acc : Addr} {Qr : Hp → Prop} (Pv : Nat → List V → St → Hp → Prop) (h0 : Pv 0 [] σ (upd H1 acc (.lst [])))
    (hs : ∀ i xs σ H, i < n → xs.length = i → H acc = some (.lst xs) → Pv i xs σ H → g (.int (lo + i)) σ H fun σ2 H2 => te σ2 H2 fun v H3 => cNx acc n Pv i σ2 v H3)
    (hd : ∀ xs σ H, xs.length = n → H acc = some (.lst xs) → Pv n xs σ H → Qr H) :
    ∃ W : Nat → Nat → St → Hp → Prop, (∃ m, W 0 m σ (upd H1 acc (.lst []))) ∧ ∀ i m σ1 H2, W i m σ1 H2 →
      ((Itr lo n).stop i H2 ∧ Qr H2) ∨ ((Itr lo n).go i H2 ∧ ∀ x H3, (Itr lo n).yld i H2 x H3 → g x σ1 H3 fun σ4 H4 => te σ4 H4 fun v H5 => ∃ xs, H5 acc = some (.lst xs) ∧ xs.length < sizeLine ∧ ∃ m', m' < m ∧ W (i + 1) m' σ4 (upd H5 acc (.lst (xs ++ [v])))) := by
  refine ⟨cW acc n Pv, ⟨n, Nat.zero_le _, rfl, [], rfl, upd_same, h0⟩, ?_⟩
  rintro i m σ1 H2 ⟨hi, rfl, xs, hl, ha, hp⟩
  rcases Nat.lt_or_ge i n with h | h
  · refine .inr ⟨h, ?_⟩
    rintro x H3 ⟨rfl, rfl⟩
    exact hs i xs σ1 H3 h hl ha hp
  · have e : i = n := Nat.le_antisymm hi h
    subst e
    exact .inl ⟨Nat.le_refl _, hd xs σ1 H2 hl ha hp⟩
theorem comp_list {K : PySem.W.Frag} {a : Addr} {ys : List V} {g : TG} {te : TE} {σ : St} {H1 : Hp} {acc : Addr} {Qr : Hp → Prop} (Pv : Nat → List V → St → Hp → Prop) (h0 : Pv 0 [] σ (upd H1 acc (.lst [])))
    (hq : ∀ i xs σ H, i ≤ ys.length → H acc = some (.lst xs) → Pv i xs σ H → SqL K H a ys)
    (hs : ∀ i x xs σ H, ys[i]? = some x → i < ys.length → xs.length = i → H acc = some (.lst xs) → Pv i xs σ H → g x σ H fun σ2 H2 => te σ2 H2 fun v H3 => cNx acc ys.length Pv i σ2 v H3)
    (hd : ∀ xs σ H, xs.length = ys.length → H acc = some (.lst xs) → Pv ys.length xs σ H → Qr H) :
    ∃ W : Nat → Nat → St → Hp → Prop, (∃ m, W 0 m σ (upd H1 acc (.lst []))) ∧ ∀ i m σ1 H2, W i m σ1 H2 →
      ((Itl K a).stop i H2 ∧ Qr H2) ∨ ((Itl K a).go i H2 ∧ ∀ x H3, (Itl K a).yld i H2 x H3 → g x σ1 H3 fun σ4 H4 => te σ4 H4 fun v H5 => ∃ xs, H5 acc = some (.lst xs) ∧ xs.length < sizeLine ∧ ∃ m', m' < m ∧ W (i + 1) m' σ4 (upd H5 acc (.lst (xs ++ [v])))) := by
  refine ⟨cW acc ys.length Pv, ⟨ys.length, Nat.zero_le _, rfl, [], rfl, upd_same, h0⟩, ?_⟩
  rintro i m σ1 H2 ⟨hi, rfl, xs, hl, ha, hp⟩
  have hsq := hq i xs σ1 H2 hi ha hp
  rcases Nat.lt_or_ge i ys.length with h | h
  · refine .inr ⟨⟨ys, ys[i], hsq, List.getElem?_eq_getElem h⟩, ?_⟩
    rintro x H3 ⟨rfl, hx⟩
    exact hs i x xs σ1 H3 (hx ys hsq) h hl ha hp
  · have e : i = ys.length := Nat.le_antisymm hi h
    subst e
    exact .inl ⟨⟨ys, hsq, Nat.le_refl _⟩, hd xs σ1 H2 hl ha hp⟩
theorem comp_tup {K : PySem.W.Frag} {a : Addr} {ys : List V} {g : TG} {te : TE} {σ : St} {H1 : Hp} {acc : Addr} {Qr : Hp → Prop} (Pv : Nat → List V → St → Hp → Prop) (h0 : Pv 0 [] σ (upd H1 acc (.lst [])))
    (hq : ∀ i xs σ H, i ≤ ys.length → H acc = some (.lst xs) → Pv i xs σ H → SqT K H a ys)
    (hs : ∀ i x xs σ H, ys[i]? = some x → i < ys.length → xs.length = i → H acc = some (.lst xs) → Pv i xs σ H → g x σ H fun σ2 H2 => te σ2 H2 fun v H3 => cNx acc ys.length Pv i σ2 v H3)
    (hd : ∀ xs σ H, xs.length = ys.length → H acc = some (.lst xs) → Pv ys.length xs σ H → Qr H) :
    ∃ W : Nat → Nat → St → Hp → Prop, (∃ m, W 0 m σ (upd H1 acc (.lst []))) ∧ ∀ i m σ1 H2, W i m σ1 H2 →
      ((Itt K a).stop i H2 ∧ Qr H2) ∨ ((Itt K a).go i H2 ∧ ∀ x H3, (Itt K a).yld i H2 x H3 → g x σ1 H3 fun σ4 H4 => te σ4 H4 fun v H5 => ∃ xs, H5 acc = some (.lst xs) ∧ xs.length < sizeLine ∧ ∃ m', m' < m ∧ W (i + 1) m' σ4 (upd H5 acc (.lst (xs ++ [v])))) := by
  refine ⟨cW acc ys.length Pv, ⟨ys.length, Nat.zero_le _, rfl, [], rfl, upd_same, h0⟩, ?_⟩
  rintro i m σ1 H2 ⟨hi, rfl, xs, hl, ha, hp⟩
  have hsq := hq i xs σ1 H2 hi ha hp
  rcases Nat.lt_or_ge i ys.length with h | h
  · refine .inr ⟨⟨ys, ys[i], hsq, List.getElem?_eq_getElem h⟩, ?_⟩
    rintro x H3 ⟨rfl, hx⟩
    exact hs i x xs σ1 H3 (hx ys hsq) h hl ha hp
  · have e : i = ys.length := Nat.le_antisymm hi h
    subst e
    exact .inl ⟨⟨ys, hsq, Nat.le_refl _⟩, hd xs σ1 H2 hl ha hp⟩
end L2
namespace L2
open PySem PySem.Spec PyProof.Rows
section
variable {prog : Program} {w : World} {A : Around} {E : Value → Shared → Prop} {h : Heap} {g : Array GenState} {d : Drawn} {t : Nat} {os : OsState}
  {nm qn : Str} {C N : Addr} {bs bm bmB : List Value} {hdct : Bool} {sn : List Str} {sub : List Value} {ab : Bool} {col : Option Bool} {dd : Option Addr} {k0 k1 k2 k3 k5 : Option Value} {B newId initId : String}
/-- the heap behind the making: the tuple of the arguments, then the exception -/
def rawExc (h : Heap) (C : Addr) (rest : List Value) : Heap := (h.push { cls := .type "tuple", data := .seq rest.toArray }).push { cls := .ref C, data := .fields #[.ref h.objs.size, .none, .none, .none, .bool false, .none] }
theorem rawExc_keep {C : Addr} {rest : List Value} {b : Addr} {o : Obj} (e : h.get? b = some o) : (rawExc h C rest).get? b = some o := Heap.get?_push_of_some _ (Heap.get?_push_of_some _ e)
theorem rawExc_at (C : Addr) (rest : List Value) : (rawExc h C rest).get? (h.objs.size + 1) = some { cls := .ref C, data := .fields #[.ref h.objs.size, .none, .none, .none, .bool false, .none] } := by
  unfold rawExc; heap_get
theorem type_call_excT (F : ExcBaseFacts B newId initId bmB) (T : OwnTail h bmB bm) {mN : Str → Option Value} {rest : List Value} {fI : Addr} {oI : Obj} {Q : Fin → Shared → Prop}
    (hC : h.get? C = some (excClassObj nm qn C N bs bm hdct sn sub ab col dd k0 k1 k2 k3 k5 newId)) (hn : h.Ns N mN) (hi : mN "__init__" = some (.ref fI)) (hfI : h.get? fI = some oI) (hfc : oI.cls = .type "function") (hrest : rest.length ≤ sizeLine)
    (hq : wpAny (model prog w) A (call (.ref fI) (.ref (h.objs.size + 1) :: rest)) (fun r s' => r = .none ∧ Q (.done (.ret (.ref (h.objs.size + 1)))) s') E ⟨rawExc h C rest, g, d, t, os⟩) :
    wpAny (model prog w) A (Builtin.«type.__call__» ⟨.ref C :: rest, []⟩) Q E ⟨h, g, d, t, os⟩ := by
  repeat (first | with_reducible refine wpAny_loadPart_at hC ?_ | with_reducible refine wpAny_madeBy_exc hC ?_ | wp_step)
  refine codeAny_call_builtin_code (Code.quiet_builtin _ F.quiet) (wpAny_check_new_subT F T hC (codeAny_exc_new_subT F T hC ?_ hrest))
  show wpAny _ _ _ _ _ ⟨rawExc h C rest, g, d, t, os⟩
  have c1 : (rawExc h C rest).get? C = _ := rawExc_keep hC
  have n1 : (rawExc h C rest).Ns N mN := let ⟨o, es, ep, e, r⟩ := hn; ⟨o, es, ep, rawExc_keep e, r⟩
  have e1 := rawExc_at (h := h) C rest
  have T1 : OwnTail (rawExc h C rest) bmB bm := T.keeps fun _ _ e => rawExc_keep e
  have cc : (Value.ref C :: bm).contains (.ref C) = true := by simp
  unfold isInstance
  repeat (first | with_reducible refine wpAny_loadPart_at e1 ?_ | (with_reducible refine wpAny_isSubtype_exc c1 ?_; rw [cc]) | wp_step)
  show wpAny _ _ (typeLookup (.ref C) _) _ _ _
  refine wpAny_typeLookup_tail c1 n1 T1 F.mroIs F.init.lookup ?_
  rw [hi]
  refine wpAny_holding (wpAny_bind ?_)
  unfold bindSpecial
  refine wpAny_bind (wpAny_typeOf (T := "function") ⟨_, rawExc_keep hfI, hfc⟩ ?_)
  rw [if_pos (by decide)]
  refine wpAny_pure (wpAny_bind (wpAny_mono hq (fun r s' hr => ?_) fun _ _ x => x))
  obtain ⟨rfl, hQ⟩ := hr
  wp_walk
  exact hQ
theorem call_excT (F : ExcBaseFacts B newId initId bmB) (T : OwnTail h bmB bm) {mN : Str → Option Value} {rest : List Value} {fI : Addr} {oI : Obj} {Q : Value → Shared → Prop}
    (hC : h.get? C = some (excClassObj nm qn C N bs bm hdct sn sub ab col dd k0 k1 k2 k3 k5 newId)) (hn : h.Ns N mN) (hi : mN "__init__" = some (.ref fI)) (hfI : h.get? fI = some oI) (hfc : oI.cls = .type "function") (hrest : rest.length ≤ sizeLine)
    (hq : wpAny (model prog w) (A.under (.builtin "type.__call__" ⟨.ref C :: rest, []⟩)) (call (.ref fI) (.ref (h.objs.size + 1) :: rest)) (fun r s' => r = .none ∧ Q (.ref (h.objs.size + 1)) s') E ⟨rawExc h C rest, g, d, t, os⟩) :
    wpAny (model prog w) A (call (.ref C) rest) Q E ⟨h, g, d, t, os⟩ := by
  have l1 := tc_lookup
  have l2 := tc_bind (.ref C)
  have ty : (⟨h, g, d, t, os⟩ : Shared).TypeIs (.ref C) "type" := ⟨_, hC, rfl⟩
  refine wpAny_call (codeAny_of_tree ?_)
  show wpAny _ _ (callAny (.ref C) _) _ _ _
  repeat (any_goals (first | assumption | with_reducible refine wpAny_loadPart_at hC ?_ | wp_step))
  exact ⟨rfl, codeAny_call_builtin_at (Code.quiet_builtin _ (by decide +kernel)) entry_typeCall (wpAny_check_type_call_sub hC (type_call_excT F T hC hn hi hfI hfc hrest hq))⟩
end
end L2
namespace L2
open PySem PySem.Spec PyProof.Rows PySem.W PySem.Builtin PySem.Builtin.ObjectAttr
def vErr : List Value := [.type "ValueError", .type "Exception", .type "BaseException", .type "object"]
def excMro : List Value → Bool
  | [] => false
  | x :: r => (match x with | .ref _ => excMro r | _ => false) || (x :: r == vErr)
theorem refuse_exc (self : Value) : ∀ {l : List Value}, excMro l = true → refuseLoop self "__setattr__" l = pure ()
  | [], e => by cases e
  | x :: r, e => by
    unfold excMro at e
    rw [Bool.or_eq_true] at e
    rcases e with e | e
    · cases x <;> first | (rw [refuseLoop_ref]; exact refuse_exc self e) | cases e
    · rw [show x :: r = vErr from beq_iff_eq.mp e]
      exact PySem.F.store_ValueError.passes self
theorem exc_has {T : String} (hT : vErr.contains (.type T) = true) : ∀ {l : List Value}, excMro l = true → l.contains (.type T) = true
  | [], e => by cases e
  | x :: r, e => by
    unfold excMro at e
    rw [Bool.or_eq_true] at e
    rcases e with e | e
    · cases x <;> first | (rw [List.contains_cons, exc_has hT e, Bool.or_true]) | cases e
    · rw [show x :: r = vErr from beq_iff_eq.mp e]; exact hT
def excIn (K : Frag) (C : Addr) : Bool := (clsIn K C).any fun cd => excMro cd.mro
section
variable {prog : Program} {w : World} {A : Around} {E : Value → Shared → Prop} {R : Result → Shared → Prop} {s : Shared} {K : Frag} {x C : Addr} {ox : Obj} {od : Option Obj} {name : Str} {tk : Tok} {v : Value}
theorem osa_exc (X : K.In s.heap) (I : InstAt s.heap x ox C od) (hp : excIn K C = true) (ht : findIn K (.ref C) name = some none)
    (h : wpAny (model prog w) A.in1 (storeInOwnDict (.ref x) (.ref C) (.str name tk) name v false)
      (fun fin s' => match fin with | .done f => R (.ok f) s' | .again c' => c'.quiet = true ∧ codeAny (model prog w) A c' R s') (fun e s' => R (.error e) s') s) :
    codeAny (model prog w) A (.call (.builtin "object.__setattr__") ⟨[.ref x, .str name tk, v], []⟩) R s := by
  have SF := PySem.F.store_object
  obtain ⟨cd, hc, ho⟩ := any_some hp
  have ne : cd.mro.isEmpty = false := by cases q : cd.mro with | nil => rw [q] at ho; cases ho | cons _ _ => rfl
  have tO : Looks (model prog w) s.heap (isInstance (.ref x) (.type "object")) true := I.type.andThen (looks_mroIn X (by
    unfold mroIn
    rw [hc, Option.bind_some, ne]
    show some (cd.mro.contains (.type "object")) = some true
    rw [exc_has (by decide +kernel) ho]))
  have tM : Looks (model prog w) s.heap (mroOf (.ref C)) cd.mro := (looks_clsIn X hc).andThen .now
  refine codeAny_call_builtin SF.slot.plain SF.entry (@check_slot (model prog w) _ _ s "object.__setattr__" "object" "__setattr__" (.ref x) [.str name tk, v] [] _ SF.kind SF.split tO (SF.args (.ref x) (.str name tk) v) ?_)
  rw [osa_eq, refuse_eq]
  refine wpAny_bind (wpAny_bind (I.type.here (wpAny_bind (tM.here ?_))))
  rw [refuse_exc _ ho]
  exact wpAny_pure (wpAny_bind (I.type.here (wpAny_bind ((looks_findIn X ht).here (wpAny_bind (wpAny_pure h))))))
/-- the first attribute: the refusal gets its dict -/
theorem set_exc0 {vs : Array Value} {sl : Array (Option Value)} {Q : Unit → Shared → Prop} (X : K.In s.heap) (hx : s.heap.get? x = some ⟨.ref C, none, .fields vs, sl⟩) (hs : findIn K (.ref C) "__setattr__" = some (some (.builtin "object.__setattr__")))
    (hp : excIn K C = true) (hh : hasDictIn K C = true) (ht : findIn K (.ref C) name = some none)
    (h : ∀ h', h'.get? x = some ⟨.ref C, some s.heap.objs.size, .fields vs, sl⟩ → h'.Ns1 s.heap.objs.size (fun y => if y = name then some v else none) → (∀ b o, b ≠ x → s.heap.get? b = some o → h'.get? b = some o) → Q () { s with heap := h', toks := s.toks + 2 }) :
    wpAny (model prog w) A (setAttr (.ref x) name v) Q E s := by
  have I : InstAt s.heap x ⟨.ref C, none, .fields vs, sl⟩ C none := ⟨hx, rfl, rfl, trivial⟩
  obtain ⟨cd, hc, hd'⟩ := any_some hh
  have nx : x ≠ s.heap.objs.size := Nat.ne_of_lt (Heap.lt_size hx)
  refine set_plain X I hs (osa_exc (s := { s with toks := s.toks + 1 }) X I hp ht ?_)
  refine wpAny_bind (wpAny_pure (wpAny_bind (wpAny_bind (wpAny_loadPart hx (wpAny_bind (Looks.here (s := { s with toks := s.toks + 1 }) (looks_clsIn X hc) ?_))))))
  rw [hd']
  refine wpAny_bind (wpAny_alloc (wpAny_bind (wpAny_update (Heap.get?_push_of_some _ hx) (wpAny_pure ?_))))
  generalize hH : (s.heap.push { cls := .type "dict", data := .dict #[] }).update x (fun o => { o with dict := some s.heap.objs.size }) = H1
  have hx1 : H1.get? x = some ⟨.ref C, some s.heap.objs.size, .fields vs, sl⟩ := by
    rw [← hH]; exact Heap.get?_update_self _ (Heap.get?_push_of_some _ hx) rfl
  have hd1 : H1.get? s.heap.objs.size = some { cls := .type "dict", data := .dict #[] } := by
    rw [← hH, Heap.get?_update_ne _ _ _ _ (Ne.symm nx)]; exact Heap.get?_push_size _ rfl
  have hk1 : ∀ b o, b ≠ x → s.heap.get? b = some o → H1.get? b = some o := fun b o hb e => by
    rw [← hH, Heap.get?_update_ne _ _ _ _ hb]; exact Heap.get?_push_of_some _ e
  have hn1 : H1.Ns1 s.heap.objs.size (fun _ => none) := Heap.Ns1.of_empty ⟨_, #[], _, hd1, rfl, fun e he => absurd he (by simp), fun _ => rfl⟩
  refine wpAny_bind (wpAny_pure (wpAny_bind (wpAny_nsSet1 (s := { s with heap := H1, toks := s.toks + 1 }) hn1 fun h' hn2 hs2 => ?_)))
  obtain ⟨oD, esD, epD, hoD, hdD, hcD⟩ := hn2.count (Within.cons name v Within.nil)
  refine wpAny_bind (wpAny_lookBehind hoD (by rw [hdD]; exact pastItsLine_dict (Nat.le_trans hcD (by rw [List.length_cons, List.length_nil, sizeLine_eq]; first | lia | omega))) ?_)
  exact wpAny_pure (h _ ((hs2.2 _ nx).trans hx1) hn2 fun b o hb e => (hs2.2 _ (Nat.ne_of_lt (Heap.lt_size e))).trans (hk1 b o hb e))
/-- a further one -/
theorem set_exc {vs : Array Value} {sl : Array (Option Value)} {dx : Addr} {mA : Str → Option Value} {ns : List Str} {Q : Unit → Shared → Prop} (X : K.In s.heap) (hx : s.heap.get? x = some ⟨.ref C, some dx, .fields vs, sl⟩) (hn : s.heap.Ns1 dx mA) (hne : dx ≠ x)
    (hs : findIn K (.ref C) "__setattr__" = some (some (.builtin "object.__setattr__"))) (hp : excIn K C = true) (hh : hasDictIn K C = true) (ht : findIn K (.ref C) name = some none) (hw : PySem.Within mA ns) (hsz : ns.length ≤ sizeLine)
    (h : ∀ h', h'.get? x = some ⟨.ref C, some dx, .fields vs, sl⟩ → h'.Ns1 dx (fun y => if y = name then some v else mA y) → Heap.SameBut dx s.heap h' → Q () { s with heap := h', toks := s.toks + 2 }) :
    wpAny (model prog w) A (setAttr (.ref x) name v) Q E s := by
  obtain ⟨od, ho⟩ : ∃ o, s.heap.get? dx = some o := let ⟨o, _, _, e, _⟩ := hn; ⟨o, e⟩
  have I : InstAt s.heap x ⟨.ref C, some dx, .fields vs, sl⟩ C (some od) := ⟨hx, rfl, rfl, ho⟩
  obtain ⟨cd, hc, hd'⟩ := any_some hh
  refine set_plain X I hs (osa_exc (s := { s with toks := s.toks + 1 }) X I hp ht ?_)
  refine wpAny_bind (wpAny_pure (wpAny_bind (wpAny_bind (wpAny_loadPart hx (wpAny_bind (Looks.here (s := { s with toks := s.toks + 1 }) (looks_clsIn X hc) ?_))))))
  rw [hd']
  refine wpAny_pure (a := some dx) (wpAny_bind (wpAny_pure (wpAny_bind (wpAny_nsSet1 (s := { s with toks := s.toks + 1 }) hn fun h' hn2 hs2 => ?_))))
  obtain ⟨oD, esD, epD, hoD, hdD, hcD⟩ := hn2.count (Within.cons name v hw)
  refine wpAny_bind (wpAny_lookBehind hoD (by rw [hdD]; exact pastItsLine_dict (Nat.le_trans hcD (by rw [List.length_cons]; first | lia | omega))) ?_)
  exact wpAny_pure (h _ ((hs2.2 _ (Ne.symm hne)).trans hx) hn2 hs2)
end
end L2
namespace L2
open PySem PySem.Spec PyProof.Rows PySem.W
section
variable {cmp : Nat → Nat → (Bool → Shared → Prop) → Shared → Prop} {key : Nat → Int} {N : Nat} {s : Shared}
def KP (key : Nat → Int) (p : Array Nat) (i : Nat) : Int := key (p.getD i 0)
def PermN (N : Nat) (p : Array Nat) : Prop := p.toList.Perm (List.range N)
theorem PermN.size {p : Array Nat} (h : PermN N p) : p.size = N := by
  have := List.Perm.length_eq h
  rw [List.length_range] at this
  simpa using this
theorem PermN.lt {p : Array Nat} (h : PermN N p) {i : Nat} (hi : i < N) : p.getD i 0 < N := by
  have hs := h.size
  have hi' : i < p.size := by first | lia | omega
  have e : p.getD i 0 = p[i] := by simp [Array.getD, hi']
  rw [e]
  have hm : p[i] ∈ p.toList := by simp
  exact List.mem_range.mp ((List.Perm.mem_iff h).mp hm)
theorem PermN.of {p q : Array Nat} (h : PermN N p) (hq : q.Perm p) : PermN N q := (Array.perm_iff_toList_perm.mp hq).trans h
def SrtK (key : Nat → Int) (p : Array Nat) (k : Nat) : Prop := ∀ i j, i ≤ j → j < k → KP key p i ≤ KP key p j
def NinK (key : Nat → Int) (p : Array Nat) (k : Nat) : Prop := ∀ i j, i ≤ j → j < k → KP key p j ≤ KP key p i
theorem KP_congr {p q : Array Nat} {i j : Nat} (h : p[i]? = q[j]?) : KP key p i = KP key q j := by
  unfold KP
  rw [Array.getD_eq_getD_getElem?, Array.getD_eq_getD_getElem?, h]
theorem KP_rev {p : Array Nat} {i j : Nat} (hj : j ≤ p.size) (k : Nat) : KP key (kas_rev p i j) k = if i ≤ k ∧ k < j then KP key p (i + j - 1 - k) else KP key p k := by
  have e := getElem?_mirror_all (i := i) hj k
  by_cases h : i ≤ k ∧ k < j
  · rw [if_pos h] at e ⊢; exact KP_congr e
  · rw [if_neg h] at e ⊢; exact KP_congr e
theorem KP_bubble {p : Array Nat} {src d : Nat} (hs : src < p.size) (hd : d ≤ src) (k : Nat) :
    KP key (bubble p src d) k = if k = src - d then KP key p src else if src - d < k ∧ k ≤ src then KP key p (k - 1) else KP key p k := by
  have e := getElem?_bubble hs d hd k
  by_cases h1 : k = src - d
  · rw [if_pos h1] at e ⊢; exact KP_congr e
  · rw [if_neg h1] at e ⊢
    by_cases h2 : src - d < k ∧ k ≤ src
    · rw [if_pos h2] at e ⊢; exact KP_congr e
    · rw [if_neg h2] at e ⊢; exact KP_congr e
theorem PermN.rev {p : Array Nat} (h : PermN N p) (i j : Nat) : PermN N (kas_rev p i j) := h.of (mirror_perm _ _ _ _)
theorem PermN.bub {p : Array Nat} (h : PermN N p) (i j : Nat) : PermN N (bubble p i j) := h.of (bubble_perm _ _ _)

theorem srt_ext {p : Array Nat} {n : Nat} (h : SrtK key p n) (hn : 1 ≤ n) (hc : KP key p (n - 1) ≤ KP key p n) : SrtK key p (n + 1) := fun i j hij hj => by
  by_cases e : j = n
  · subst e
    by_cases e2 : i = j
    · subst e2; exact Int.le_refl _
    · exact Int.le_trans (h i (j - 1) (by first | lia | omega) (by first | lia | omega)) hc
  · exact h i j hij (by first | lia | omega)
theorem nin_ext {p : Array Nat} {n : Nat} (h : NinK key p n) (hn : 1 ≤ n) (hc : KP key p n ≤ KP key p (n - 1)) : NinK key p (n + 1) := fun i j hij hj => by
  by_cases e : j = n
  · subst e
    by_cases e2 : i = j
    · subst e2; exact Int.le_refl _
    · exact Int.le_trans hc (h i (j - 1) (by first | lia | omega) (by first | lia | omega))
  · exact h i j hij (by first | lia | omega)
variable (hcmp : ∀ i j (C : Bool → Shared → Prop), i < N → j < N → C (decide (key i < key j)) s → cmp i j C s)
include hcmp
theorem asc_ok {p : Array Nat} (hp : PermN N p) {G : Nat → Shared → Prop} : ∀ (f n : Nat), 1 ≤ n → n + f ≤ N → SrtK key p n → (∀ m, n ≤ m → m ≤ n + f → SrtK key p m → (m < n + f → KP key p m < KP key p (m - 1)) → G m s) → (kas_asc p f n).kasWp cmp G s
  | 0, n, h1, hn, hs, hG => hG n (Nat.le_refl _) (by first | lia | omega) hs (fun h => absurd h (by first | lia | omega))
  | f + 1, n, h1, hn, hs, hG => by
    show cmp _ _ _ s
    refine hcmp _ _ _ (hp.lt (by first | lia | omega)) (hp.lt (by first | lia | omega)) ?_
    by_cases h : key (p.getD n 0) < key (p.getD (n - 1) 0)
    · rw [decide_eq_true h]
      simp only [if_true]
      exact hG n (Nat.le_refl _) (by first | lia | omega) hs fun _ => h
    · rw [decide_eq_false h]
      simp only [Bool.false_eq_true, if_false]
      exact asc_ok hp f (n + 1) (by first | lia | omega) (by first | lia | omega) (srt_ext hs h1 (by unfold KP; first | lia | omega)) fun m a b c d => hG m (by first | lia | omega) (by first | lia | omega) c fun z => d (by first | lia | omega)
theorem tail3_ok {p : Array Nat} (hp : PermN N p) {n : Nat} (h1 : 1 ≤ n) (hn : n ≤ N) (hs : NinK key p n) {G : Nat × Array Nat → Shared → Prop} (hG : ∀ m q, 1 ≤ m → m ≤ N → PermN N q → SrtK key q m → G (m, q) s) : (kas_tail3 n N p).kasWp cmp G s := by
  unfold kas_tail3
  rw [KasT.kasWp_bind]
  have hz := hp.size
  refine asc_ok hcmp (hp.rev 0 n) (N - n) n h1 (by first | lia | omega) (fun i j hij hj => ?_) fun m a b c _ => hG m _ (by first | lia | omega) (by first | lia | omega) (hp.rev 0 n) c
  rw [KP_rev (by first | lia | omega), KP_rev (by first | lia | omega), if_pos (by first | lia | omega), if_pos (by first | lia | omega)]
  exact hs _ _ (by first | lia | omega) (by first | lia | omega)
theorem desc_ok {G : Array Nat × Nat × Nat → Shared → Prop} : ∀ (f : Nat) (p : Array Nat) (n q : Nat), PermN N p → 1 ≤ n → n + f ≤ N → q < n → NinK key p n → (∀ i, n - 1 - q ≤ i → i < n → KP key p i = KP key p (n - 1)) →
    (∀ p' m r, PermN N p' → 1 ≤ m → m ≤ N → r < m → NinK key p' m → (∀ i, m - 1 - r ≤ i → i < m → KP key p' i = KP key p' (m - 1)) → G (p', m, r) s) → (kas_desc f p n q).kasWp cmp G s
  | 0, p, n, q, hp, h1, hn, hq, hs, he, hG => hG p n q hp h1 (by first | lia | omega) hq hs he
  | f + 1, p, n, q, hp, h1, hn, hq, hs, he, hG => by
    have hz := hp.size
    show cmp _ _ _ s
    refine hcmp _ _ _ (hp.lt (by first | lia | omega)) (hp.lt (by first | lia | omega)) ?_
    by_cases h : key (p.getD n 0) < key (p.getD (n - 1) 0)
    · rw [decide_eq_true h]
      simp only [if_true]
      have h' : KP key p n < KP key p (n - 1) := h
      have key1 : NinK key p (n + 1) := nin_ext hs h1 (by first | lia | omega)
      by_cases hq0 : q > 0
      · rw [if_pos hq0]
        have same : ∀ k, KP key (kas_rev p (n - (q + 1)) n) k = KP key p k := fun k => by
          rw [KP_rev (by first | lia | omega)]
          split
          · rw [he _ (by first | lia | omega) (by first | lia | omega), he k (by first | lia | omega) (by first | lia | omega)]
          · rfl
        refine desc_ok f _ (n + 1) 0 (hp.rev _ _) (by first | lia | omega) (by first | lia | omega) (by first | lia | omega) (fun i j hij hj => ?_) (fun i a b => ?_) hG
        · rw [same, same]; exact key1 i j hij hj
        · rw [show i = n + 1 - 1 by first | lia | omega]
      · rw [if_neg hq0]
        exact desc_ok f _ (n + 1) 0 hp (by first | lia | omega) (by first | lia | omega) (by first | lia | omega) key1 (fun i a b => by rw [show i = n + 1 - 1 by first | lia | omega]) hG
    · rw [decide_eq_false h]
      simp only [Bool.false_eq_true, if_false]
      show cmp _ _ _ s
      refine hcmp _ _ _ (hp.lt (by first | lia | omega)) (hp.lt (by first | lia | omega)) ?_
      by_cases h2 : key (p.getD (n - 1) 0) < key (p.getD n 0)
      · rw [decide_eq_true h2]
        simp only [if_true]
        exact hG p n q hp h1 (by first | lia | omega) hq hs he
      · rw [decide_eq_false h2]
        simp only [Bool.false_eq_true, if_false]
        have e : KP key p n = KP key p (n - 1) := by unfold KP; first | lia | omega
        refine desc_ok f p (n + 1) (q + 1) hp (by first | lia | omega) (by first | lia | omega) (by first | lia | omega) (nin_ext hs h1 (by first | lia | omega)) (fun i a b => ?_) hG
        by_cases hi : i = n
        · subst hi; rfl
        · rw [he i (by first | lia | omega) (by first | lia | omega), ← e]; rfl
theorem descPart_ok {p : Array Nat} (hp : PermN N p) {n : Nat} (hn : n + 1 ≤ N) (hs : NinK key p (n + 1)) {G : Nat × Array Nat → Shared → Prop} (hG : ∀ m q, 1 ≤ m → m ≤ N → PermN N q → SrtK key q m → G (m, q) s) : (kas_descPart n N p).kasWp cmp G s := by
  unfold kas_descPart
  rw [KasT.kasWp_bind]
  refine desc_ok hcmp (N - (n + 1)) p (n + 1) 0 hp (by first | lia | omega) (by first | lia | omega) (by first | lia | omega) hs (fun i a b => by rw [show i = n + 1 - 1 by first | lia | omega]) fun p' m r hp' h1 hm hr hs' he => ?_
  dsimp only
  have hz := hp'.size
  split
  · have same : ∀ k, KP key (kas_rev p' (m - (r + 1)) m) k = KP key p' k := fun k => by
      rw [KP_rev (by first | lia | omega)]
      split
      · rw [he _ (by first | lia | omega) (by first | lia | omega), he k (by first | lia | omega) (by first | lia | omega)]
      · rfl
    exact tail3_ok hcmp (hp'.rev _ _) h1 hm (fun i j hij hj => by rw [same, same]; exact hs' i j hij hj) hG
  · exact tail3_ok hcmp hp' h1 hm hs' hG
theorem count_ok {p : Array Nat} (hp : PermN N p) (h1 : 1 ≤ N) {G : Nat × Array Nat → Shared → Prop} (hG : ∀ m q, 1 ≤ m → m ≤ N → PermN N q → SrtK key q m → G (m, q) s) : (kas_count N p).kasWp cmp G s := by
  unfold kas_count
  rw [KasT.kasWp_bind]
  have hz := hp.size
  refine asc_ok hcmp hp (N - 1) 1 (Nat.le_refl _) (by first | lia | omega) (fun i j hij hj => by rw [show i = j by first | lia | omega]; exact Int.le_refl _) fun m a b c d => ?_
  split
  · exact hG m p a (by first | lia | omega) hp c
  · rename_i hne
    have hm : m < N := by
      have : m ≠ N := fun e => hne (by rw [e]; exact beq_self_eq_true _)
      first | lia | omega
    have hd := d (by first | lia | omega)
    split
    · show cmp _ _ _ s
      refine hcmp _ _ _ (hp.lt (by first | lia | omega)) (hp.lt (by first | lia | omega)) ?_
      by_cases h : key (p.getD 0 0) < key (p.getD (m - 1) 0)
      · rw [decide_eq_true h]
        simp only [if_true]
        exact hG m p a (by first | lia | omega) hp c
      · rw [decide_eq_false h]
        simp only [Bool.false_eq_true, if_false]
        have h' : KP key p (m - 1) ≤ KP key p 0 := by unfold KP; first | lia | omega
        have eqs : ∀ i, i < m → KP key p i = KP key p 0 := fun i hi => Int.le_antisymm (Int.le_trans (c i (m - 1) (by first | lia | omega) (by first | lia | omega)) h') (c 0 i (by first | lia | omega) hi)
        have same : ∀ k, KP key (kas_rev p 0 m) k = KP key p k := fun k => by
          rw [KP_rev (by first | lia | omega)]
          split
          · rw [eqs _ (by first | lia | omega), eqs k (by first | lia | omega)]
          · rfl
        refine descPart_ok hcmp (hp.rev 0 m) (by first | lia | omega) (nin_ext (fun i j hij hj => ?_) a ?_) hG
        · rw [same, same, eqs i (by first | lia | omega), eqs j (by first | lia | omega)]; exact Int.le_refl _
        · rw [same, same]; first | lia | omega
    · have em : m = 1 := by first | lia | omega
      subst em
      exact descPart_ok hcmp hp (by first | lia | omega) (nin_ext (fun i j hij hj => by rw [show i = j by first | lia | omega]; exact Int.le_refl _) (Nat.le_refl _) (by first | lia | omega)) hG
theorem place_ok {p : Array Nat} (hp : PermN N p) {k : Nat} (hk : k < N) (hs : SrtK key p k) {G : Nat → Shared → Prop} (hG : ∀ l, l ≤ k → (∀ i, i < l → KP key p i ≤ KP key p k) → (∀ i, l ≤ i → i < k → KP key p k < KP key p i) → G l s) :
    ∀ (f l r : Nat), r - l ≤ f → l ≤ r → r ≤ k → (∀ i, i < l → KP key p i ≤ KP key p k) → (∀ i, r ≤ i → i < k → KP key p k < KP key p i) → (kas_place p k f l r).kasWp cmp G s
  | 0, l, r, hf, hlr, hr, ha, hb => hG l (by first | lia | omega) ha fun i h1 h2 => hb i (by first | lia | omega) h2
  | f + 1, l, r, hf, hlr, hr, ha, hb => by
    unfold kas_place
    split
    · exact hG l (by first | lia | omega) ha fun i h1 h2 => hb i (by first | lia | omega) h2
    · show cmp _ _ _ s
      refine hcmp _ _ _ (hp.lt hk) (hp.lt (by first | lia | omega)) ?_
      by_cases h : key (p.getD k 0) < key (p.getD ((l + r) / 2) 0)
      · rw [decide_eq_true h]
        simp only [if_true]
        refine place_ok hp hk hs hG f l ((l + r) / 2) (by first | lia | omega) (by first | lia | omega) (by first | lia | omega) ha fun i h1 h2 => ?_
        exact Int.lt_of_lt_of_le h (hs _ i h1 h2)
      · rw [decide_eq_false h]
        simp only [Bool.false_eq_true, if_false]
        refine place_ok hp hk hs hG f ((l + r) / 2 + 1) r (by first | lia | omega) (by first | lia | omega) hr (fun i h1 => ?_) hb
        have h2 := hs i ((l + r) / 2) (by first | lia | omega) (by first | lia | omega)
        have h3 : KP key p ((l + r) / 2) ≤ KP key p k := by unfold KP; first | lia | omega
        first | lia | omega
theorem bin_ok {G : Array Nat → Shared → Prop} (hG : ∀ q, PermN N q → SrtK key q N → G q s) : ∀ (f : Nat) (p : Array Nat) (k : Nat), PermN N p → k + f = N → SrtK key p k → (kas_bin f p k).kasWp cmp G s
  | 0, p, k, hp, hk, hs => hG p hp (by rw [← hk]; exact hs)
  | f + 1, p, k, hp, hk, hs => by
    unfold kas_bin
    rw [KasT.kasWp_bind]
    have hz := hp.size
    refine place_ok hcmp hp (by first | lia | omega) hs (fun l hl ha hb => ?_) k 0 k (by first | lia | omega) (by first | lia | omega) (Nat.le_refl _) (fun i h => absurd h (by first | lia | omega)) fun i h1 h2 => absurd h1 (by first | lia | omega)
    refine bin_ok hG f _ (k + 1) (hp.bub _ _) (by first | lia | omega) fun i j hij hj => ?_
    rw [KP_bubble (by first | lia | omega) (by first | lia | omega), KP_bubble (by first | lia | omega) (by first | lia | omega), show k - (k - l) = l by first | lia | omega]
    by_cases i1 : i = l
    · rw [if_pos i1]
      by_cases j1 : j = l
      · rw [if_pos j1]; exact Int.le_refl _
      · rw [if_neg j1, if_pos (by first | lia | omega)]
        exact Int.le_of_lt (hb _ (by first | lia | omega) (by first | lia | omega))
    · rw [if_neg i1]
      by_cases i2 : l < i ∧ i ≤ k
      · rw [if_pos i2, if_neg (by first | lia | omega), if_pos (by first | lia | omega)]
        exact hs _ _ (by first | lia | omega) (by first | lia | omega)
      · rw [if_neg i2]
        by_cases j1 : j = l
        · rw [if_pos j1]; exact ha i (by first | lia | omega)
        · rw [if_neg j1]
          by_cases j2 : l < j ∧ j ≤ k
          · rw [if_pos j2]; exact hs _ _ (by first | lia | omega) (by first | lia | omega)
          · rw [if_neg j2]; exact hs _ _ hij (by first | lia | omega)
theorem kas_sort_ok (h1 : 1 ≤ N) {G : Array Nat → Shared → Prop} (hG : ∀ q : Array Nat, PermN N q → (q.toList.map key).Pairwise (· ≤ ·) → G q s) : (kas_sort N).kasWp cmp G s := by
  have p0 : PermN N (List.toArray (List.range N)) := by show List.Perm _ _; simp
  have hG' : ∀ q, PermN N q → SrtK key q N → G q s := fun q hq hs => hG q hq (by
    have hz := hq.size
    rw [List.pairwise_iff_getElem]
    intro i j hi hj hij
    have hi' : i < q.size := by simpa using hi
    have hj' : j < q.size := by simpa using hj
    have := hs i j (by first | lia | omega) (by first | lia | omega)
    unfold KP at this
    rw [show q.getD i 0 = q[i] by simp [Array.getD, hi'], show q.getD j 0 = q[j] by simp [Array.getD, hj']] at this
    simpa using this)
  unfold kas_sort
  rw [KasT.kasWp_bind]
  refine count_ok hcmp p0 h1 fun m q hm1 hm2 hq hs => ?_
  dsimp only
  split
  · exact bin_ok hcmp hG' _ q _ hq (by first | lia | omega) (by rw [show max m 1 = m by first | lia | omega]; exact hs)
  · exact hG' q hq (by rw [show N = m by first | lia | omega]; exact hs)
end
end L2
namespace L2
open PySem PySem.Spec PyProof.Rows PySem.W
section
variable {prog : Program} {w : World} {A : Around} {E : Value → Shared → Prop} {s : Shared}
/-- the heap while the list at a is sorted -/
def midHeap (h : Heap) (a : Addr) (vs : List Value) : Heap := ((h.update a (Obj.mapSeq fun _ => #[])).push (seqObj "tuple" vs.toArray 0)).push (seqObj "list" #[] 0)
theorem midHeap_keep {h : Heap} {a b : Addr} {vs : List Value} {o : Obj} (hb : b ≠ a) (e : h.get? b = some o) : (midHeap h a vs).get? b = some o := by
  unfold midHeap
  exact Heap.get?_push_of_some _ (Heap.get?_push_of_some _ (by rw [Heap.get?_update_ne _ _ _ _ hb]; exact e))
theorem pick_all (vs : List Value) : (List.range vs.length).map (fun i => vs.getD i Value.none) = vs := by
  apply List.ext_getElem?
  intro i
  rw [List.getElem?_map]
  by_cases h : i < vs.length
  · rw [List.getElem?_range h, Option.map_some, List.getD_eq_getElem?_getD, List.getElem?_eq_getElem h]; rfl
  · rw [List.getElem?_eq_none (by simpa using h), List.getElem?_eq_none (by first | lia | omega)]; rfl
theorem list_sort_treeT {a : Addr} {vs : List Value} {n : Nat} {P : PySem.Fin → Shared → Prop} {κ : SortKind} {key : Nat → Int} (ho : s.heap.get? a = some (seqObj "list" vs.toArray n)) (h64 : vs.length < 64)
    (hK : ∀ (Q : SortKind → Shared → Prop) (E : Value → Shared → Prop), 2 ≤ vs.length → Q κ { s with heap := midHeap s.heap a vs } → wpAny (model prog w) A (keyKind' vs.toArray) Q E { s with heap := midHeap s.heap a vs })
    (hL : ∀ i j (C : Bool → Shared → Prop), i < vs.length → j < vs.length → C (decide (key i < key j)) { s with heap := midHeap s.heap a vs } →
      wpAny (model prog w) A (keyLt' κ (vs.getD i Value.none) (vs.getD j Value.none)) C (fun _ _ => False) { s with heap := midHeap s.heap a vs })
    (h : ∀ q : Array Nat, PermN vs.length q → (q.toList.map key).Pairwise (· ≤ ·) → P (.done (.ret .none)) { s with heap := sortedHeap s.heap a vs (List.toArray (q.toList.map fun i => vs.getD i Value.none)) }) :
    wpAny (model prog w) A (Builtin.«list.sort» ⟨[.ref a], []⟩) P E s := by
  rw [list_sort_plain]
  have ha : a < s.heap.objs.size := Heap.lt_size ho
  refine wpAny_bind (listItems_at ho rfl ?_)
  refine wpAny_bind (listUpdate_at ho rfl ?_ (by rw [List.size_toArray, sizeLine_eq]; first | lia | omega) (Nat.zero_le _))
  obtain ⟨e1, ho1⟩ : ∃ e1, (s.heap.update a (Obj.mapSeq fun _ => #[])).get? a = some (seqObj "list" #[] e1) := ⟨_, get?_update_seq ho (fun _ => #[])⟩
  refine wpAny_bind (seqEpoch_at ho1 rfl ?_)
  refine wpAny_bind (wpAny_newTuple ?_ (by show vs.length ≤ _; rw [sizeLine_eq]; first | lia | omega))
  refine wpAny_bind (wpAny_newList ?_ (Nat.zero_le _))
  refine wpAny_holding ?_
  have ho6 : (midHeap s.heap a vs).get? a = some (seqObj "list" #[] e1) := by
    unfold midHeap
    rw [Heap.get?_push_ne _ _ _ (by rw [size_push', Heap.size_update]; exact Nat.ne_of_lt (Nat.lt_succ_of_lt ha)), Heap.get?_push_ne _ _ _ (by rw [Heap.size_update]; exact Nat.ne_of_lt ha)]
    exact ho1
  show wpAny (model prog w) A _ P E { s with heap := midHeap s.heap a vs }
  dsimp only
  have hsz : vs.toArray.size = vs.length := by simp
  by_cases h2 : vs.toArray.size < 2
  · rw [if_pos h2, if_pos h2]
    refine wpAny_bind (wpAny_pure ?_)
    rw [StateT.run_pure]
    refine wpAny_bind (wpAny_pure ?_)
    dsimp only
    refine wpAny_bind (seqEpoch_at ho6 rfl ?_)
    refine wpAny_bind (listUpdate_at ho6 rfl ?_ (Nat.zero_le _) (by rw [Array.size_map]; show (pairsOf vs).size ≤ _; rw [pairsOf_size, sizeLine_eq]; first | lia | omega))
    simp only [bne_self_eq_false, Bool.false_eq_true, if_false]
    have hh := h (List.toArray (List.range vs.length)) (by show List.Perm _ _; simp) (by
      rw [hsz] at h2
      rcases (by first | lia | omega : vs.length = 0 ∨ vs.length = 1) with e | e <;> rw [e] <;> simp [List.range_succ])
    have e3 : List.map (fun i => vs.getD i Value.none) (List.range vs.length).toArray.toList = vs := pick_all vs
    rw [e3] at hh
    have e2 : (arrOf (SortSt.mk' general' (vs.toArray.zip vs.toArray) #[] 7 none)).map (·.2) = vs.toArray := by
      show (vs.toArray.zip vs.toArray).map (·.2) = vs.toArray
      apply Array.ext'
      simp [List.map_snd_zip]
    refine wpAny_pure ?_
    rw [e2]
    exact hh
  · rw [if_neg h2, if_neg h2]
    have h2' : 2 ≤ vs.length := by first | lia | omega
    refine wpAny_bind (hK _ _ h2' ?_)
    refine wpAny_bind (wpAny_mono (kat_run (ks := vs) (vs := vs) (Q := fun st' s' => s' = { s with heap := midHeap s.heap a vs } ∧ ∃ p : Array Nat, p.size = vs.length ∧ arrOf st' = p.map (kas_item (vs.toArray.zip vs.toArray)) ∧ failedOf st' = none ∧ PermN vs.length p ∧ (p.toList.map key).Pairwise (· ≤ ·))
      (G := fun p s' => s' = { s with heap := midHeap s.heap a vs } ∧ PermN vs.length p ∧ (p.toList.map key).Pairwise (· ≤ ·)) rfl h2' h64 (fun p st' s' a1 a2 a3 a4 => ⟨a4.1, p, a1, a2, a3, a4.2⟩)
      (kas_sort_ok (fun i j C hi hj hC => hL i j C hi hj hC) (by first | lia | omega) fun q hq hp => ⟨rfl, hq, hp⟩)) ?_ fun _ _ e => e)
    rintro ⟨⟨⟩, st'⟩ s' ⟨rfl, p, hp, har, hf, pp, ps⟩
    dsimp only
    have hout := kat_snds rfl har
    have hsz2 : (List.toArray (p.toList.map fun i => vs.getD i Value.none)).size = vs.length := by rw [List.size_toArray, List.length_map, Array.length_toList, hp]
    rw [hout]
    refine wpAny_bind (seqEpoch_at ho6 rfl ?_)
    refine wpAny_bind (listUpdate_at ho6 rfl ?_ (Nat.zero_le _) (Nat.le_trans (Nat.le_of_eq hsz2) (by rw [sizeLine_eq]; first | lia | omega)))
    rw [hf]
    simp only [bne_self_eq_false, Bool.false_eq_true, if_false]
    exact wpAny_pure (h p pp ps)

theorem sortedT {l : Addr} {vs : List Value} {κ : SortKind} {key : Nat → Int} {Q : Value → Shared → Prop} (hl : s.heap.IsList l vs.toArray) (h64 : vs.length < 64)
    (hK : ∀ (h' : Heap), (∀ b o, s.heap.get? b = some o → h'.get? b = some o) → ∀ (A : Around) (Q : SortKind → Shared → Prop) (E : Value → Shared → Prop), 2 ≤ vs.length → Q κ { s with heap := h' } → wpAny (model prog w) A (keyKind' vs.toArray) Q E { s with heap := h' })
    (hL : ∀ (h' : Heap), (∀ b o, s.heap.get? b = some o → h'.get? b = some o) → ∀ (A : Around) i j (C : Bool → Shared → Prop), i < vs.length → j < vs.length → C (decide (key i < key j)) { s with heap := h' } →
      wpAny (model prog w) A (keyLt' κ (vs.getD i Value.none) (vs.getD j Value.none)) C (fun _ _ => False) { s with heap := h' })
    (h : ∀ q : Array Nat, PermN vs.length q → (q.toList.map key).Pairwise (· ≤ ·) → Q (.ref (s.heap.objs.size + 1)) { s with heap := sortedAll s.heap vs (List.toArray (q.toList.map fun i => vs.getD i Value.none)) }) :
    wpAny (model prog w) A (call (.builtin "sorted") [.ref l]) Q E s := by
  refine Calls.call_function_entry kind_sorted plain_sorted entry_sorted (args_sorted1 _) ?_
  unfold Builtin.«sorted»
  refine wpAny_bind (m := checkCount "sorted" 1 1 _) (wpAny_pure ?_)
  refine wpAny_bind (collect_list hl ?_ (by rw [sizeLine_eq]; first | lia | omega))
  refine wpAny_bind (wpAny_newList ?_ (by rw [sizeLine_eq]; first | lia | omega))
  have hsz : ((s.heap.push (seqObj "list" #[] 0)).update s.heap.objs.size (Obj.mapSeq (· ++ vs.toArray))).objs.size = s.heap.objs.size + 1 := by
    rw [Heap.size_update, size_push']
  have hoL : (((s.heap.push (seqObj "list" #[] 0)).update s.heap.objs.size (Obj.mapSeq (· ++ vs.toArray))).push (seqObj "list" vs.toArray 0)).get? (s.heap.objs.size + 1) = some (seqObj "list" vs.toArray 0) := by
    rw [← hsz]; exact Heap.get?_push_size _ rfl
  have keep : ∀ b o, s.heap.get? b = some o → (((s.heap.push (seqObj "list" #[] 0)).update s.heap.objs.size (Obj.mapSeq (· ++ vs.toArray))).push (seqObj "list" vs.toArray 0)).get? b = some o := fun b o q => by
    have hlt : b < s.heap.objs.size := Heap.lt_size q
    rw [Heap.get?_push_ne _ _ _ (by rw [hsz]; exact Nat.ne_of_lt (Nat.lt_succ_of_lt hlt)), Heap.get?_update_ne _ _ _ _ (Nat.ne_of_lt hlt), Heap.get?_push_ne _ _ _ (Nat.ne_of_lt hlt)]
    exact q
  show wpAny _ _ _ _ _ { s with heap := ((s.heap.push (seqObj "list" #[] 0)).update s.heap.objs.size (Obj.mapSeq (· ++ vs.toArray))).push (seqObj "list" vs.toArray 0) }
  rw [hsz]
  have mid : ∀ b o, s.heap.get? b = some o → (midHeap (((s.heap.push (seqObj "list" #[] 0)).update s.heap.objs.size (Obj.mapSeq (· ++ vs.toArray))).push (seqObj "list" vs.toArray 0)) (s.heap.objs.size + 1) vs).get? b = some o := fun b o q =>
    midHeap_keep (Nat.ne_of_lt (Nat.lt_succ_of_lt (Heap.lt_size q))) (keep b o q)
  refine wpAny_bind (wpAny_holding (wpAny_call_entry slot_list_sort ⟨_, hoL, rfl⟩ entry_list_sort (list_sort_treeT (κ := κ) (key := key) (s := { s with heap := ((s.heap.push (seqObj "list" #[] 0)).update s.heap.objs.size (Obj.mapSeq (· ++ vs.toArray))).push (seqObj "list" vs.toArray 0) }) hoL h64 (fun Q E h2 hq => hK _ mid _ Q E h2 hq) (fun i j C hi hj hc => hL _ mid _ i j C hi hj hc) fun q a1 a2 => ⟨_, rfl, ?_⟩) (args_list_sort _)))
  exact wpAny_pure ⟨_, rfl, h q a1 a2⟩
/-- a lexicographic question about tuples of ints of one length -/
theorem katLex_ints {fin : Bool} {Q : Bool → Shared → Prop} (hf : fin = false) : ∀ {vs ws : List Value} {ns ms : List Int} (i : Nat), IntsAre vs ns → IntsAre ws ms → ns.length = ms.length → Q (HT.lexLt ns ms) s → KatLex prog w A true fin Q (vs.zip ws) i s
  | _, _, _, _, i, .nil, .nil, _, hq => by rw [HT.lexLt_nil_nil] at hq; rw [hf]; exact hq
  | _, _, _, _, i, .cons n t hn, .cons m u hm, hl, hq => by
    rw [List.zip_cons_cons]
    rw [HT.lexLt_cons] at hq
    refine kat_cons (wpAny_eqBool_int (kat_go (fun e => kat_yes ?_) fun e => kat_no ?_))
    · have e' : n = m := by simpa using e
      rw [if_pos e'] at hq
      exact katLex_ints hf (i + 1) hn hm (by simpa using hl) hq
    · have e' : ¬ n = m := by simpa using e
      rw [if_neg e'] at hq
      by_cases hi : i = 0
      · subst hi
        exact oneLt_int hq
      · have hb : (true && i == 0) = false := by simp [hi]
        rw [hb]
        exact kat_one _ _ (lt_int hq)
end
section
variable {X : Cx}
theorem refs_vals : ∀ {ts : List Addr} {its : List Value}, Vals (ts.map V.ref) its → its = ts.map Value.ref
  | [], _, .nil => rfl
  | a :: r, _, .cons h t => by
    cases (show _ = Value.ref a from h)
    rw [List.map_cons, refs_vals t]
theorem refs_vals' : ∀ (ts : List Addr), Vals (ts.map V.ref) (ts.map Value.ref)
  | [] => .nil
  | a :: r => .cons rfl (refs_vals' r)
theorem katTups_of {h : Heap} {m : Nat} : ∀ {ts : List (Addr × List Int)}, (∀ t ∈ ts, t.2.length = m + 1 ∧ ∃ items, IsTup h t.1 items ∧ IntsAre items.toList t.2) → ∃ fs, KatTups h (ts.map fun t => Value.ref t.1) fs ∧ fs.length = ts.length ∧ ∀ v ∈ fs, ∃ n tk, v = Value.int n tk
  | [], _ => ⟨[], KatTups.nil, rfl, fun v hv => nomatch hv⟩
  | t :: r, hh => by
    obtain ⟨fs, h1, h2, h3⟩ := katTups_of (ts := r) fun u hu => hh u (List.mem_cons_of_mem _ hu)
    obtain ⟨hl, items, ⟨o, ho, hc, n, hd⟩, hi⟩ := hh t List.mem_cons_self
    obtain ⟨x, tk, z, e⟩ : ∃ (n : Int) (tk : Tok) (zs : List Value), items.toList = Value.int n tk :: zs := by
      generalize items.toList = vs at hi
      generalize t.2 = ns at hi hl
      cases hi with
      | nil => simp at hl
      | cons n tk hz => exact ⟨n, tk, _, rfl⟩
    have hf : items[0]? = some (Value.int x tk) := by
      rw [← Array.getElem?_toList, e]; rfl
    exact ⟨_, KatTups.cons ho hc hd hf h1, by simp [h2], fun v hv => by
      rcases List.mem_cons.mp hv with rfl | hv
      · exact ⟨x, tk, rfl⟩
      · exact h3 v hv⟩
/-- sorted(xs), xs fewer than 64 tuples of ints of one length; key tells their order -/
theorem call_sortedT : CallR X (.builtin "sorted") (fun xs H Q => ∃ (p : Addr) (ts : List (Addr × List Int)) (m : Nat) (key : List Int → Int), xs = [.ref p] ∧ SqL X.K H p (ts.map fun t => V.ref t.1) ∧ ts.length < 64 ∧
    (∀ t ∈ ts, t.2.length = m + 1 ∧ H t.1 = some (.tup (t.2.map V.int))) ∧ (∀ t ∈ ts, ∀ u ∈ ts, HT.lexLt t.2 u.2 = decide (key t.2 < key u.2)) ∧
    ∀ l (ts' : List (Addr × List Int)), H l = none → ts'.Perm ts → (ts'.map fun t => key t.2).Pairwise (· ≤ ·) → Q (.ref l) (upd H l (.lst (ts'.map fun t => V.ref t.1)))) := by
  intro pins s σ H xs us Q I r h
  obtain ⟨p, ts, m, key, rfl, hp, h64, ht, hkey, q⟩ := h
  obtain ⟨u, rfl, ru⟩ := vals1 r
  cases ru
  obtain ⟨its, rv, pl, hz⟩ := I.list hp
  have hits : its = ts.map fun t => Value.ref t.1 := by
    have := refs_vals (ts := ts.map (·.1)) (its := its) (by rw [List.map_map]; exact rv)
    rw [this, List.map_map]; rfl
  have hlen : its.length = ts.length := by rw [hits, List.length_map]
  have tup : ∀ t ∈ ts, t.2.length = m + 1 ∧ ∃ items, IsTup s.heap t.1 items ∧ IntsAre items.toList t.2 := fun t htm => by
    obtain ⟨h1, h2⟩ := ht t htm
    obtain ⟨_, zs, rz, tz⟩ := (show ObjOk X.prog X.w H s.heap t.1 (.tup (t.2.map V.int)) from I.hok _ _ h2)
    exact ⟨h1, _, tz, by simpa using intsAre_of rz⟩
  have tupK : ∀ (h' : Heap), (∀ b o, s.heap.get? b = some o → h'.get? b = some o) → ∀ t ∈ ts, t.2.length = m + 1 ∧ ∃ items, IsTup h' t.1 items ∧ IntsAre items.toList t.2 := fun h' k t htm => by
    obtain ⟨h1, items, ⟨o, e, c⟩, h3⟩ := tup t htm
    exact ⟨h1, items, ⟨o, k _ _ e, c⟩, h3⟩
  refine sortedT (κ := tuples' true) (key := fun i => key ((ts.map (·.2)).getD i [])) pl.isList (by first | lia | omega) (fun h' k A' Q' E' h2 hq => ?_) (fun h' k A' i j C hi hj hc => ?_) fun qq pq sq => ?_
  · obtain ⟨fs, f1, f2, f3⟩ := katTups_of (tupK h' k)
    rw [hits]
    refine kat_kind (s := { s with heap := h' }) (T := Value.type "int") f1 (by first | lia | omega) (fun v hv => ?_) (by decide) hq
    obtain ⟨n, tk, rfl⟩ := f3 v hv
    exact .now
  · have hi' : i < ts.length := by first | lia | omega
    have hj' : j < ts.length := by first | lia | omega
    obtain ⟨l1, x1, ⟨o1, e1, c1, n1, d1⟩, z1⟩ := tupK h' k _ (List.getElem_mem hi')
    obtain ⟨l2, x2, ⟨o2, e2, c2, n2, d2⟩, z2⟩ := tupK h' k _ (List.getElem_mem hj')
    have g1 : its.getD i Value.none = Value.ref ts[i].1 := by rw [hits]; simp [List.getD, hi']
    have g2 : its.getD j Value.none = Value.ref ts[j].1 := by rw [hits]; simp [List.getD, hj']
    have k1 : (ts.map (·.2)).getD i [] = ts[i].2 := by simp [List.getD, hi']
    have k2 : (ts.map (·.2)).getD j [] = ts[j].2 := by simp [List.getD, hj']
    simp only [k1, k2] at hc
    rw [← hkey _ (List.getElem_mem hi') _ (List.getElem_mem hj')] at hc
    rw [g1, g2]
    have s1 := z1.length
    have s2 := z2.length
    exact kat_lt (s := { s with heap := h' }) e1 d1 e2 d2 (katLex_ints (by rw [decide_eq_false]; simp at s1 s2; first | lia | omega) 0 z1 z2 (by first | lia | omega) hc)
  · obtain ⟨e, he⟩ := sortedAll_at s.heap its (List.toArray (qq.toList.map fun i => its.getD i Value.none))
    have hn : H (s.heap.objs.size + 1) = none := I.hok.fresh (Nat.le_succ _)
    have pq' : qq.toList.Perm (List.range ts.length) := by rw [← hlen]; exact pq
    have pick : ts.Perm (qq.toList.map fun i => ts.getD i (0, [])) := by
      have := (pq'.map fun i => ts.getD i ((0 : Addr), ([] : List Int))).symm
      have e2 : (List.range ts.length).map (fun i => ts.getD i ((0 : Addr), ([] : List Int))) = ts := by
        apply List.ext_getElem?
        intro i
        rw [List.getElem?_map]
        by_cases h : i < ts.length
        · rw [List.getElem?_range h, Option.map_some, List.getD_eq_getElem?_getD, List.getElem?_eq_getElem h]; rfl
        · rw [List.getElem?_eq_none (by simpa using h), List.getElem?_eq_none (by first | lia | omega)]; rfl
      rw [e2] at this
      exact this
    have inR : ∀ i ∈ qq.toList, i < ts.length := fun i hi => List.mem_range.mp (pq'.mem_iff.mp hi)
    have eV : qq.toList.map (fun i => its.getD i Value.none) = (qq.toList.map fun i => ts.getD i (0, [])).map fun t => Value.ref t.1 := by
      rw [List.map_map]
      refine List.map_congr_left fun i hi => ?_
      have := inR i hi
      rw [hits]; simp [List.getD, this]
    refine ⟨.ref (s.heap.objs.size + 1), _, I.laid (o := .lst ((qq.toList.map fun i => ts.getD i (0, [])).map fun t => V.ref t.1)) (t' := s.toks) (fun b o z => sortedAll_old z) (Nat.le_succ _) ⟨?_, _, e, ?_, he⟩, rfl, q _ _ hn pick.symm ?_⟩
    · rw [List.length_map, List.length_map, Array.length_toList, pq.size, sizeLine_eq]; first | lia | omega
    · rw [eV]
      generalize (qq.toList.map fun i => ts.getD i ((0 : Addr), ([] : List Int))) = zs
      have := refs_vals' (zs.map (·.1))
      rw [List.map_map, List.map_map] at this
      exact this
    · rw [List.map_map]
      have e4 : qq.toList.map ((fun t : Addr × List Int => key t.2) ∘ fun i => ts.getD i (0, [])) = qq.toList.map fun i => key ((ts.map (·.2)).getD i []) := by
        refine List.map_congr_left fun i hi => ?_
        have := inR i hi
        simp [List.getD, this]
      rw [e4]
      exact sq
end
end L2
namespace L2
open PySem PySem.Spec PyProof.Rows

section
variable {κ : Type} [DecidableEq κ]
def valV (kvs : List (κ × V)) (k : κ) : Option V := (kvs.find? fun kv => decide (kv.1 = k)).map (·.2)
/-- in its place, or at the end -/
def putK (kvs : List (κ × V)) (k : κ) (v : V) : List (κ × V) :=
  if (kvs.any fun kv => decide (kv.1 = k)) = true then kvs.map (fun kv => if kv.1 = k then (kv.1, v) else kv) else kvs ++ [(k, v)]
theorem valV_pos {p : κ × V} {r : List (κ × V)} {k : κ} (e : p.1 = k) : valV (p :: r) k = some p.2 := by simp [valV, List.find?_cons, e]
theorem valV_neg {p : κ × V} {r : List (κ × V)} {k : κ} (e : ¬ p.1 = k) : valV (p :: r) k = valV r k := by simp [valV, List.find?_cons, e]
theorem valV_any (k : κ) : ∀ kvs : List (κ × V), (kvs.any fun kv => decide (kv.1 = k)) = (valV kvs k).isSome
  | [] => rfl
  | p :: r => by
    rw [List.any_cons]
    by_cases e : p.1 = k
    · simp only [valV_pos e, decide_eq_true e, Bool.true_or, Option.isSome_some]
    · rw [valV_neg e, decide_eq_false e, Bool.false_or]; exact valV_any k r
theorem valV_map (k j : κ) (y : V) : ∀ kvs : List (κ × V), valV (kvs.map fun kv => if kv.1 = k then (kv.1, y) else kv) j = (valV kvs j).map fun x => if j = k then y else x
  | [] => rfl
  | p :: r => by
    have ih := valV_map k j y r
    rw [List.map_cons]
    by_cases h : p.1 = k
    · rw [if_pos h]
      by_cases e : p.1 = j
      · rw [valV_pos (p := (p.1, y)) e, valV_pos e, Option.map_some, if_pos (e.symm.trans h)]
      · rw [valV_neg (p := (p.1, y)) e, valV_neg e, ih]
    · rw [if_neg h]
      by_cases e : p.1 = j
      · rw [valV_pos (p := p) e, valV_pos e, Option.map_some, if_neg (fun z => h (e.trans z))]
      · rw [valV_neg (p := p) e, valV_neg e, ih]
theorem valV_snoc (k j : κ) (y : V) : ∀ kvs : List (κ × V), valV kvs k = none → valV (kvs ++ [(k, y)]) j = if j = k then some y else valV kvs j
  | [], _ => by
    by_cases e : k = j
    · rw [if_pos e.symm]; exact valV_pos (p := (k, y)) e
    · rw [if_neg (fun z => e z.symm)]; exact valV_neg (p := (k, y)) e
  | p :: r, hn => by
    rw [List.cons_append]
    have hk : ¬ p.1 = k := fun z => by rw [valV_pos z] at hn; cases hn
    rw [valV_neg hk] at hn
    have ih := valV_snoc k j y r hn
    by_cases e : p.1 = j
    · rw [valV_pos e, valV_pos e, if_neg (fun z => hk (e.trans z))]
    · rw [valV_neg e, valV_neg e, ih]
theorem valV_put (kvs : List (κ × V)) (k j : κ) (y : V) : valV (putK kvs k y) j = if j = k then some y else valV kvs j := by
  unfold putK
  by_cases a : (kvs.any fun kv => decide (kv.1 = k)) = true
  · rw [if_pos a, valV_map]
    rw [valV_any] at a
    by_cases e : j = k
    · obtain ⟨x, hx⟩ := Option.isSome_iff_exists.mp a
      rw [if_pos e, e, hx, Option.map_some, if_pos rfl]
    · rw [if_neg e]
      cases valV kvs j with
      | none => rfl
      | some x => rw [Option.map_some, if_neg e]
  · rw [if_neg a]
    refine valV_snoc k j y kvs ?_
    rw [valV_any] at a
    cases q : valV kvs k with
    | none => rfl
    | some x => rw [q] at a; exact (a rfl).elim
theorem length_putK (kvs : List (κ × V)) (k : κ) (v : V) : (putK kvs k v).length ≤ kvs.length + 1 := by
  unfold putK
  split
  · rw [List.length_map]; first | lia | omega
  · rw [List.length_append, List.length_cons, List.length_nil]; first | lia | omega
theorem RelO.isSome_eq {o : Option V} {u : Option Value} (r : RelO o u) : o.isSome = u.isSome := by
  cases o with
  | none => cases u with
    | none => rfl
    | some _ => exact (show False from r).elim
  | some _ => cases u with
    | none => exact (show False from r).elim
    | some _ => rfl
/-- raw tables of the same keys -/
theorem KV.val {kvs : List (κ × V)} {vs : List (κ × Value)} (r : KV kvs vs) (k : κ) : RelO (valV kvs k) (valueAt vs k) := by
  unfold KV at r
  induction r with
  | nil => exact True.intro
  | @cons p q ps qs h t ih =>
    obtain ⟨h1, h2⟩ := h
    by_cases e : p.1 = k
    · have e' : q.1 = k := h1.symm.trans e
      have b : valueAt (q :: qs) k = some q.2 := by simp [valueAt, List.find?_cons, e']
      rw [valV_pos e, b]; exact h2
    · have e' : ¬ q.1 = k := fun z => e (h1.trans z)
      have b : valueAt (q :: qs) k = valueAt qs k := by simp [valueAt, List.find?_cons, e']
      rw [valV_neg e, b]; exact ih
theorem KV.any {kvs : List (κ × V)} {vs : List (κ × Value)} (r : KV kvs vs) (k : κ) : (kvs.any fun kv => decide (kv.1 = k)) = vs.any fun kv => decide (kv.1 = k) := by
  unfold KV at r
  induction r with
  | nil => rfl
  | cons h t ih => rw [List.any_cons, List.any_cons, ih, h.1]
theorem KV.repl {kvs : List (κ × V)} {vs : List (κ × Value)} (r : KV kvs vs) (k : κ) {y : V} {u : Value} (ry : RelV y u) :
    KV (kvs.map fun kv => if kv.1 = k then (kv.1, y) else kv) (vs.map fun kv => if kv.1 = k then (kv.1, u) else kv) := by
  unfold KV at r ⊢
  induction r with
  | nil => exact .nil
  | @cons p q ps qs h t ih =>
    rw [List.map_cons, List.map_cons]
    refine .cons ?_ ih
    obtain ⟨h1, h2⟩ := h
    by_cases e : p.1 = k
    · rw [if_pos e, if_pos (h1.symm.trans e)]; exact ⟨h1, ry⟩
    · rw [if_neg e, if_neg (fun z => e (h1.trans z))]; exact ⟨h1, h2⟩
theorem KV.put {kvs : List (κ × V)} {vs : List (κ × Value)} (r : KV kvs vs) (k : κ) {y : V} {u : Value} (ry : RelV y u) : KV (putK kvs k y) (stored vs k u) := by
  unfold putK stored
  rw [r.any k]
  by_cases e : (vs.any fun kv => decide (kv.1 = k)) = true
  · rw [if_pos e, if_pos e]; exact r.repl k ry
  · rw [if_neg e, if_neg e]; exact Paired.snoc r ⟨rfl, ry⟩
theorem KV.length {kvs : List (κ × V)} {vs : List (κ × Value)} (r : KV kvs vs) : kvs.length = vs.length := Paired.length r
end


theorem kV_is {P : Program} {w : World} {k : Key} {u : Value} (r : RelV (kV k) u) : (mixKind P w).is k u = true := by
  cases k with
  | inl i => obtain ⟨t, e⟩ := (show ∃ t, u = Value.int i t from r); subst e; exact mixKind_int P w i t
  | inr x => obtain ⟨t, e⟩ := (show ∃ t, u = Value.str x t from r); subst e; exact mixKind_str P w x t
theorem items_are {P : Program} {w : World} : ∀ {ks : List Key} {us : List Value}, Vals (ks.map kV) us → ItemsAre (mixKind P w) ks us
  | [], _, r => by rw [List.map_nil] at r; cases r; exact .nil
  | k :: ks, _, r => by
    rw [List.map_cons] at r
    cases r with
    | cons h t => exact .cons (kV_is h) (items_are t)

/-- raw entries of a dict with tuple keys -/
abbrev KT (H : Hp) : List (List Key × V) → List (List Key × Addr × Value) → Prop := Paired fun p q => p.1 = q.1 ∧ H q.2.1 = some (.tup (p.1.map kV)) ∧ RelV p.2 q.2.2
theorem KT.val {H : Hp} {kvs : List (List Key × V)} {xs : List (List Key × Addr × Value)} (r : KT H kvs xs) (k : List Key) : RelO (valV kvs k) ((atKey xs k).map (·.2)) := by
  induction r with
  | nil => exact True.intro
  | @cons p q ps qs h t ih =>
    obtain ⟨h1, _, h2⟩ := h
    by_cases e : p.1 = k
    · have e' : q.1 = k := h1.symm.trans e
      have b : atKey (q :: qs) k = some q.2 := by simp [atKey, List.find?_cons, e']
      rw [valV_pos e, b]; exact h2
    · have e' : ¬ q.1 = k := fun z => e (h1.trans z)
      have b : atKey (q :: qs) k = atKey qs k := by simp [atKey, List.find?_cons, e']
      rw [valV_neg e, b]; exact ih
theorem KT.repl {H : Hp} {kvs : List (List Key × V)} {xs : List (List Key × Addr × Value)} (r : KT H kvs xs) (k : List Key) {y : V} {u : Value} (ry : RelV y u) :
    KT H (kvs.map fun kv => if kv.1 = k then (kv.1, y) else kv) (xs.map (putAt k u)) := by
  induction r with
  | nil => exact .nil
  | @cons p q ps qs h t ih =>
    rw [List.map_cons, List.map_cons]
    refine .cons ?_ ih
    obtain ⟨h1, h2, h3⟩ := h
    unfold putAt
    by_cases e : p.1 = k
    · rw [if_pos e, if_pos (h1.symm.trans e)]; exact ⟨h1, h2, ry⟩
    · rw [if_neg e, if_neg (fun z => e (h1.trans z))]; exact ⟨h1, h2, h3⟩
theorem KT.put {H : Hp} {kvs : List (List Key × V)} {xs : List (List Key × Addr × Value)} (r : KT H kvs xs) (k : List Key) {b : Addr} {y : V} {u : Value} (hb : H b = some (.tup (k.map kV))) (ry : RelV y u) :
    KT H (putK kvs k y) (storedH xs k b u) := by
  have e : (kvs.any fun kv => decide (kv.1 = k)) = (atKey xs k).isSome := by
    rw [valV_any, (r.val k).isSome_eq, Option.isSome_map]
  unfold putK storedH
  rw [e]
  by_cases q : (atKey xs k).isSome = true
  · rw [if_pos q, if_pos q]; exact r.repl k ry
  · rw [if_neg q, if_neg q]; exact Paired.snoc r ⟨rfl, hb, ry⟩
theorem KT.keeps {H H' : Hp} {kvs : List (List Key × V)} {xs : List (List Key × Addr × Value)} (r : KT H kvs xs) (ht : ∀ b ys, H b = some (.tup ys) → H' b = some (.tup ys)) : KT H' kvs xs :=
  Paired.mapP r fun _ _ z => ⟨z.1, ht _ _ z.2.1, z.2.2⟩

section
variable {P : Program} {w : World} {H : Hp} {h : Heap} {a : Addr}
theorem rd_of {u : HO} (ok : HOk P w H h) (e : Rd H a u) : ObjOk P w H h a u := e.ok ok
theorem dk_rd {kvs : List (Key × V)} (ok : HOk P w H h) (e : Rd H a (.dK kvs)) : kvs.length ≤ sizeLine ∧ (a == sysModules) = false ∧ ∃ vs, KV kvs vs ∧ h.DictOf (mixKind P w) a vs :=
  show ObjOk P w H h a (.dK kvs) from rd_of ok e
theorem dk_of {kvs : List (Key × V)} (ok : HOk P w H h) (e : H a = some (.dK kvs)) : kvs.length ≤ sizeLine ∧ (a == sysModules) = false ∧ ∃ vs, KV kvs vs ∧ h.DictOf (mixKind P w) a vs := dk_rd ok (.inl e)
/-- a tracked tuple of ints and texts is a key -/
theorem key_of {ks : List Key} (ok : HOk P w H h) (e : H a = some (.tup (ks.map kV))) : (tupleKind (mixKind P w)).is h ks a := by
  obtain ⟨_, its, r, o, h1, h2, n, h3⟩ := (show ObjOk P w H h a (.tup (ks.map kV)) from ok a _ e)
  exact ⟨o, its.toArray, n, h1, h2, h3, by simpa using items_are r⟩
theorem dt_rd {kvs : List (List Key × V)} (ok : HOk P w H h) (e : Rd H a (.dT kvs)) : kvs.length ≤ sizeLine ∧ (a == sysModules) = false ∧
    ∃ xs, KT H kvs xs ∧ h.DictOfH (tupleKind (mixKind P w)) a xs := by
  obtain ⟨z, y, xs, r, o, es, ep, h1, h2, h3, h4, h5⟩ := (show ObjOk P w H h a (.dT kvs) from rd_of ok e)
  refine ⟨z, y, xs, r, o, es, ep, h1, h2, h3, h4, fun x hx => ?_, h5⟩
  have all : ∀ {l : List (List Key × V)} {m : List (List Key × Addr × Value)}, KT H l m → ∀ x ∈ m, (tupleKind (mixKind P w)).is h x.1 x.2.1 := by
    intro l m q
    induction q with
    | nil => intro x hx; exact nomatch hx
    | @cons p q ps qs hq t ih =>
      intro x hx
      rcases List.mem_cons.mp hx with e | hx
      · subst e
        exact key_of ok (by rw [← hq.1]; exact hq.2.1)
      · exact ih x hx
  exact all r x hx
theorem dt_of {kvs : List (List Key × V)} (ok : HOk P w H h) (e : H a = some (.dT kvs)) : kvs.length ≤ sizeLine ∧ (a == sysModules) = false ∧
    ∃ xs, KT H kvs xs ∧ h.DictOfH (tupleKind (mixKind P w)) a xs := dt_rd ok (.inl e)
end

/-- what the dict at a holds at the key y -/
def DGet (H : Hp) (a : Addr) (y : V) (r : Option V) : Prop :=
  (∃ kvs k, Rd H a (.dK kvs) ∧ y = kV k ∧ r = valV kvs k) ∨ ∃ kvs k b, Rd H a (.dT kvs) ∧ y = .ref b ∧ H b = some (.tup (k.map kV)) ∧ r = valV kvs k
/-- the heap behind a[y] = v -/
def DPut (H : Hp) (a : Addr) (y v : V) (H' : Hp) : Prop :=
  (∃ kvs k, H a = some (.dK kvs) ∧ y = kV k ∧ kvs.length < sizeLine ∧ H' = upd H a (.dK (putK kvs k v))) ∨
  ∃ kvs k b, H a = some (.dT kvs) ∧ y = .ref b ∧ H b = some (.tup (k.map kV)) ∧ kvs.length < sizeLine ∧ H' = upd H a (.dT (putK kvs k v))
theorem DGet.t {H : Hp} {a b : Addr} {kvs : List (List Key × V)} {k : List Key} (e : H a = some (.dT kvs)) (eb : H b = some (.tup (k.map kV))) : DGet H a (.ref b) (valV kvs k) := .inr ⟨kvs, k, b, .inl e, rfl, eb, rfl⟩
theorem DPut.t {H : Hp} {a b : Addr} {kvs : List (List Key × V)} {k : List Key} {v : V} (e : H a = some (.dT kvs)) (eb : H b = some (.tup (k.map kV))) (hl : kvs.length < sizeLine) :
    DPut H a (.ref b) v (upd H a (.dT (putK kvs k v))) := .inr ⟨kvs, k, b, e, rfl, eb, hl, rfl⟩


section
variable {X : Cx} {pins : List (Addr × Obj)} {σ : St} {H : Hp} {s : Shared} {a : Addr} {y v : V} {u r : Value} {o : Option V} {A : Around} {E : Value → Shared → Prop}

theorem Inv.big (I : Inv X pins σ H s) : sysModules < s.heap.objs.size := by
  have h : mainGlobals < s.heap.objs.size := (I.mod.glob.keeps I.bk).lt
  exact Nat.lt_trans (by decide) h

/-- y in d -/
theorem d_in {Q : Value → Shared → Prop} (hu : A.units + 1 < cLine) (I : Inv X pins σ H s) (g : DGet H a y o) (ry : RelV y u) (h : ∀ s', Inv X pins σ H s' → Q (.bool o.isSome) s') :
    wpAny (model X.prog X.w) A (compareOp .In u (.ref a)) Q E s := by
  rcases g with ⟨kvs, k, e, ey, l⟩ | ⟨kvs, k, b, e, ey, eb, l⟩
  · subst ey
    obtain ⟨z, hd, vs, rel, dd⟩ := dk_rd I.hok e
    refine wpAny_in_of (kV_is ry) hd dd.mapOf ?_
    rw [← (rel.val k).isSome_eq, ← l]
    exact h _ (I.tok _)
  · subst ey
    cases (show u = Value.ref b from ry)
    obtain ⟨z, hd, xs, rel, dd⟩ := dt_rd I.hok e
    refine wpAny_in_heap (tupleKind_room_in1 hu) (key_of I.hok eb) hd dd ?_
    have q := (rel.val k).isSome_eq
    rw [Option.isSome_map] at q
    rw [← q, ← l]
    exact h _ (I.tok _)
theorem d_notIn {Q : Value → Shared → Prop} (hu : A.units + 1 < cLine) (I : Inv X pins σ H s) (g : DGet H a y o) (ry : RelV y u) (h : ∀ s', Inv X pins σ H s' → Q (.bool (!o.isSome)) s') :
    wpAny (model X.prog X.w) A (compareOp .NotIn u (.ref a)) Q E s := by
  rcases g with ⟨kvs, k, e, ey, l⟩ | ⟨kvs, k, b, e, ey, eb, l⟩
  · subst ey
    obtain ⟨z, hd, vs, rel, dd⟩ := dk_rd I.hok e
    refine wpAny_notIn_of (kV_is ry) hd dd.mapOf ?_
    rw [← (rel.val k).isSome_eq, ← l]
    exact h _ (I.tok _)
  · subst ey
    cases (show u = Value.ref b from ry)
    obtain ⟨z, hd, xs, rel, dd⟩ := dt_rd I.hok e
    refine wpAny_notIn_heap (tupleKind_room_in1 hu) (key_of I.hok eb) hd dd ?_
    have q := (rel.val k).isSome_eq
    rw [Option.isSome_map] at q
    rw [← q, ← l]
    exact h _ (I.tok _)
/-- a dict's object is replaced -/
theorem d_write {h' : Heap} {t' : Nat} {ob : HO} (I : Inv X pins σ H s) (mu : Mut (H a)) (hs : Heap.SameBut a s.heap h') (he : ∃ q, h'.get? a = some q) (new : ObjOk X.prog X.w (upd H a ob) h' a ob) :
    Inv X pins σ (upd H a ob) { s with heap := h', toks := t' } :=
  I.write (x := a) (e := a) mu (.inl rfl) (fun b q hb z => (hs.2 b hb).trans z) he new
theorem dk_new {P : Program} {w : World} {H' : Hp} {h' : Heap} {kvs : List (Key × V)} {vs : List (Key × Value)} (z : kvs.length ≤ sizeLine) (hd : (a == sysModules) = false) (rel : KV kvs vs) (dd : h'.DictOf (mixKind P w) a vs) :
    ObjOk P w H' h' a (.dK kvs) := ⟨z, hd, vs, rel, dd⟩
/-- d[y] = v -/
theorem d_setItem {H' : Hp} {Q : Unit → Shared → Prop} (hu : A.units + 1 < cLine) (I : Inv X pins σ H s) (g : DPut H a y v H') (ry : RelV y u) (rv : RelV v r) (h : ∀ s', Inv X pins σ H' s' → Q () s') :
    wpAny (model X.prog X.w) A (setItem (.ref a) u r) Q E s := by
  rcases g with ⟨kvs, k, e, ey, l, eH⟩ | ⟨kvs, k, b, e, ey, eb, l, eH⟩
  · subst ey eH
    obtain ⟨z, hd, vs, rel, dd⟩ := dk_of I.hok e
    have hz : vs.length ≤ sizeLine := by rw [← rel.length]; exact z
    have hl : (putK kvs k v).length ≤ sizeLine := by have := length_putK kvs k v; first | lia | omega
    refine wpAny_setItem_pairs (hsz := hz) (kV_is ry) dd fun h' dd' hs => h _ ?_
    have he : ∃ q, h'.get? a = some q := let ⟨q, _, _, hq, _⟩ := dd'; ⟨q, hq⟩
    exact d_write I (by rw [e]; exact True.intro) hs he (dk_new hl hd (rel.put k rv) dd')
  · subst ey eH
    cases (show u = Value.ref b from ry)
    obtain ⟨z, hd, xs, rel, dd⟩ := dt_of I.hok e
    have hz : xs.length ≤ sizeLine := by rw [← Paired.length rel]; exact z
    have hl : (putK kvs k v).length ≤ sizeLine := by have := length_putK kvs k v; first | lia | omega
    refine wpAny_setItem_heap (hsz := hz) (tupleKind_room_in1 hu) (key_of I.hok eb) dd fun h' dd' hs => h _ ?_
    obtain ⟨q, es, ep, hq, h2, h3, h4, _, h5⟩ := dd'
    refine d_write I (by rw [e]; exact True.intro) hs ⟨q, hq⟩ ⟨hl, hd, _, (rel.put k eb rv).keeps fun c ys ec => ?_, q, es, ep, hq, h2, h3, h4, h5⟩
    rw [upd_ne (ne_of ec e (fun z => nomatch z))]
    exact ec
end

section
variable {X : Cx} {pins : List (Addr × Obj)} {σ : St} {H : Hp} {s : Shared} {a : Addr} {kvs : List (Key × V)} {k : Key} {u : Value} {A : Around} {E : Value → Shared → Prop}
end


/-- y in d, y not in d -/
inductive IDIn (x y : V) (H : Hp) (Q : VK) : Prop
  | mk (a : Addr) (o : Option V) (e : x = .ref a) (g : DGet H a y o) (q : Q (.bl o.isSome) H) : IDIn x y H Q
def tDIn (ty td : TE) : TE := fun σ H Q => ty σ H fun y H1 => td σ H1 fun x H2 => IDIn x y H2 Q
def tDNotIn (ty td : TE) : TE := fun σ H Q => ty σ H fun y H1 => td σ H1 fun x H2 => ∃ a o, x = .ref a ∧ DGet H2 a y o ∧ Q (.bl (!o.isSome)) H2
/-- d[y] = v -/
inductive IDPut (x y v : V) (H : Hp) (N : Hp → Prop) : Prop
  | mk (a : Addr) (H4 : Hp) (e : x = .ref a) (p : DPut H a y v H4) (q : N H4) : IDPut x y v H N
def sDPut (td ty tv : TE) : TS := fun D σ H => tv σ H fun v H1 => td σ H1 fun x H2 => ty σ H2 fun y H3 => IDPut x y v H3 fun H4 => D.nx σ H4
section
variable {X : Cx} {o i e value : Expr} {pos pos' tpos : Pos} {td ty tv : TE}
theorem pc_din (hu : X.A.units + 1 < cLine) (hi : PE X i ty) (ho : PE X o td) : PC X .In i o (tDIn ty td) := by
  intro pins s σ H Q I h
  refine thn (hi pins s σ H _ I h) fun iv s1 ⟨y, H1, I1, ry, q1⟩ => thn (ho pins s1 σ H1 _ I1 q1) fun u s2 hz_ => ?_
  obtain ⟨x, H2, I2, rx, a, ov, ex, g, q2⟩ := hz_
  subst ex
  obtain rfl : u = Value.ref a := rx
  exact d_in hu I2 g ry fun s3 I3 => ⟨.bl ov.isSome, H2, I3, rfl, q2⟩
theorem pc_dnotin (hu : X.A.units + 1 < cLine) (hi : PE X i ty) (ho : PE X o td) : PC X .NotIn i o (tDNotIn ty td) := by
  intro pins s σ H Q I h
  refine thn (hi pins s σ H _ I h) fun iv s1 ⟨y, H1, I1, ry, q1⟩ => thn (ho pins s1 σ H1 _ I1 q1) fun u s2 hz_ => ?_
  obtain ⟨x, H2, I2, rx, a, ov, ex, g, q2⟩ := hz_
  subst ex
  obtain rfl : u = Value.ref a := rx
  exact d_notIn hu I2 g ry fun s3 I3 => ⟨.bl (!ov.isSome), H2, I3, rfl, q2⟩
theorem ps_dput (hu : X.A.units + 1 < cLine) (ho : PE X o td) (hi : PE X i ty) (hv : PE X value tv) (hs : swapsWith value (some (.Subscript o i pos')) pos.line X.env = pure false) :
    PS X (.Assign [.Subscript o i pos'] value pos) (sDPut td ty tv) := by
  intro pins s σ H D I h
  refine wpAny_Assign_Subscript (thn (hv pins s σ H _ I h) fun r s1 ⟨v, H1, I1, rv, q1⟩ => thn (ho pins s1 σ H1 _ I1 q1) fun u s2 ⟨x, H2, I2, rx, q2⟩ => thn (hi pins s2 σ H2 _ I2 q2) fun iv s3 ⟨y, H3, I3, ry, a, H4, ex, g, q3⟩ => ?_) hs
  subst ex
  obtain rfl : u = Value.ref a := rx
  exact d_setItem hu I3 g ry rv fun s4 I4 => ⟨σ, H4, I4, q3⟩
end


theorem dt_empty {P : Program} {w : World} {H : Hp} (h : Heap) (hb : sysModules < h.objs.size) : ObjOk P w H (h.push { cls := .type "dict", data := .dict #[] }) h.objs.size (.dT []) :=
  ⟨Nat.zero_le _, beq_eq_false_iff_ne.mpr (Ne.symm (Nat.ne_of_lt hb)), [], .nil, _, #[], 0, Heap.get?_push_size _ rfl, ⟨rfl, rfl, rfl⟩, rfl, rfl, List.nodup_nil⟩
def tDNewT : TE := fun _ H Q => ∀ p, H p = none → Q (.ref p) (upd H p (.dT []))
section
variable {X : Cx} {pos : Pos}
theorem pe_dnewT : PE X (.Dict [] [] pos) tDNewT := fun pins s σ H Q I h =>
  wpAny_Dict_empty ⟨.ref s.heap.objs.size, _, I.laid (a := s.heap.objs.size) (o := .dT []) (t' := s.toks) (fun _ _ q => Heap.get?_push_of_some _ q) (Nat.le_refl _) (dt_empty s.heap I.big), rfl, h _ (I.hok.fresh (Nat.le_refl _))⟩
end

section
variable {X : Cx} {pins : List (Addr × Obj)} {σ : St} {H : Hp} {s : Shared} {a : Addr} {y d : V} {u r : Value} {o : Option V} {A : Around} {E : Value → Shared → Prop}
end

section
variable {X : Cx} {o e f : Expr} {apos cpos : Pos} {td ty tx : TE}
end

section
variable {X : Cx} {pins : List (Addr × Obj)} {σ : St} {H : Hp} {s : Shared} {a : Addr} {kvs : List (Key × V)} {A : Around} {E : Value → Shared → Prop}
end


section
variable {X : Cx} {pins : List (Addr × Obj)} {σ : St} {H : Hp} {s : Shared} {a : Addr} {y : V} {u : Value} {A : Around} {E : Value → Shared → Prop}
end
section
variable {κ : Type} [DecidableEq κ]
end
section
variable {X : Cx}
end
end L2
namespace L2
open PySem PySem.Spec PyProof.Rows
/-- at each turn a new tuple (i, x) -/
def Ite (K : PySem.W.Frag) (a : Addr) : It :=
  ⟨fun i H => ∃ xs x, SqL K H a xs ∧ xs[i]? = some x, fun i H y H' => ∃ t x, (∀ xs, SqL K H a xs → xs[i]? = some x) ∧ y = .ref t ∧ H t = none ∧ H' = upd H t (.tup [.int i, x]), fun i H => ∃ xs, SqL K H a xs ∧ xs.length ≤ i⟩
theorem enum_step {X : Cx} {pins : List (Addr × Obj)} {σ : St} {H : Hp} {s : Shared} {h' : Heap} {e it : Addr} {t' : Nat} {ys : List V} (I : Inv X pins σ H s) (fe : FpOk X pins H e) (fi : FpOk X pins H it)
    (k : ∀ b o, b ≠ e → b ≠ it → s.heap.get? b = some o → h'.get? b = some o) (he : ∃ o, h'.get? e = some o) (hi : ∃ o, h'.get? it = some o)
    (new : ObjOk X.prog X.w (upd H s.heap.objs.size (.tup ys)) h' s.heap.objs.size (.tup ys)) :
    Inv X pins σ (upd H s.heap.objs.size (.tup ys)) { s with heap := h', toks := t' } := by
  have hn : H s.heap.objs.size = none := I.hok.fresh (Nat.le_refl _)
  obtain ⟨e0, e1, e2, e3, e4, e5⟩ := fe
  obtain ⟨i0, i1, i2, i3, i4, i5⟩ := fi
  have nt : ∀ b u, H b = some u → b ≠ e ∧ b ≠ it := fun b u q => ⟨fun z => (by rw [z, e0] at q; cases q), fun z => (by rw [z, i0] at q; cases q)⟩
  have nc : ∀ b, b ∉ [e, it] → b ≠ e ∧ b ≠ it := fun b hb => ⟨fun z => hb (by simp [z]), fun z => hb (by simp [z])⟩
  have ne : ∀ b u, H b = some u → b ≠ s.heap.objs.size := fun b u q => ne_of_none q hn
  refine I.step (g' := s.gens) (d' := s.drawn) (ch := [e, it]) (fun b hb => ?_) (fun b o _ _ hc q _ => k b o (nc b hc).1 (nc b hc).2 q) (fun b o _ _ hc q _ => ⟨o.slots, k b o (nc b hc).1 (nc b hc).2 q⟩)
    (fun b o _ q n => by rw [upd_ne (Nat.ne_of_lt (Heap.lt_size q))]; exact n) (fun b o hc q => ⟨o, k b o (nc b hc).1 (nc b hc).2 q⟩) (fun b xs q => by rw [upd_ne (ne b _ q)]; exact q) (fun b o u q => by rw [upd_ne (ne b _ q)]; exact q)
    (fun b ps q => ⟨#[], by rw [upd_ne (ne b _ q), q]; simp⟩) (fun m hm => ?_) (fun b u q => ?_) I.bare
  · rcases List.mem_cons.mp hb with rfl | hb
    · exact ⟨e3, e1, e4, e5⟩
    · rw [List.mem_singleton.mp hb]; exact ⟨i3, i1, i4, i5⟩
  · obtain ⟨o, es, ep, ho, r⟩ := hm
    exact ⟨o, es, ep, k _ o (Ne.symm e1) (Ne.symm i1) ho, r⟩
  · by_cases hb : b = s.heap.objs.size
    · subst hb; rw [upd_same] at q; cases q; exact new
    · rw [upd_ne hb] at q
      refine (I.hok b u q).stay (fun c v hc z => k c v ?_ ?_ z) (fun c z => by rw [upd_ne (ne c _ z)]; exact z) fun c xs z => by rw [upd_ne (ne c _ z)]; exact z
      · rcases hc with rfl | hc
        · exact (nt c u q).1
        · exact (nt c _ hc).1
      · rcases hc with rfl | hc
        · exact (nt c u q).2
        · exact (nt c _ hc).2
theorem turn_enum {P : Program} {w : World} {K : PySem.W.Frag} {es : List Expr} {k : Nat} {pos : Pos} (a e it : Addr) (hei : e ≠ it) :
    Turn P w K (.Tuple es k pos) (Ite K a) [e, it] e (fun i h => (∃ old, IsEnum h e it i old) ∧ h.IsListIter it a i) where
  mem := by simp
  obj := fun i h st b hb => by
    obtain ⟨⟨old, he⟩, ⟨o, eo, c, d⟩⟩ := st
    rcases List.mem_cons.mp hb with rfl | hb
    · exact ⟨_, he, fun v z => by
        have z' : Data.fields _ = Data.cell v := z
        cases z'⟩
    · rw [List.mem_singleton.mp hb]; exact ⟨o, eo, fun v z => by rw [d] at z; cases z⟩
  keep := fun i h h' st kk => by
    obtain ⟨⟨old, he⟩, st⟩ := st
    exact ⟨⟨old, kk e (by simp) _ he⟩, st.at fun o z => kk it (by simp) o z⟩
  item := by
    intro X hP hw hK hc i pins s σ H E I hf st hg
    subst hP hw hK
    obtain ⟨⟨old, he⟩, st⟩ := st
    obtain ⟨xs, x, hq, hx⟩ := hg
    obtain ⟨its, rv, p, hz⟩ := I.list hq
    obtain ⟨u, hu, ru⟩ := rv.get hx
    have fe := hf e (by simp)
    have fi := hf it (by simp)
    refine wpAny_pyNext_enum_item he st p.isList (x := u) (by simpa using hu) hei fun h' he' st' ht hz' kk => ?_
    refine ⟨_, rfl, ?_⟩
    have ltE : e < s.heap.objs.size := Heap.lt_size he
    have hn : H s.heap.objs.size = none := I.hok.fresh (Nat.le_refl _)
    have I1 : Inv X pins σ (upd H s.heap.objs.size (.tup [.int i, x])) { s with heap := h', toks := s.toks + 1 } := by
      refine enum_step I fe fi kk ⟨_, he'⟩ (let ⟨o, eo, _⟩ := st'; ⟨o, eo⟩) ⟨?_, [.int i s.toks, u], .cons ⟨_, rfl⟩ (.cons ru .nil), ⟨_, ht, rfl, _, rfl⟩⟩
      show 2 ≤ sizeLine
      decide
    refine wpAny_letOwnedTupleGo_enum (s := { s with heap := h', toks := s.toks + 1 }) he' fun h2 he2 sb => ?_
    have neE : e ≠ s.heap.objs.size := Nat.ne_of_lt ltE
    have fe2 : (upd H s.heap.objs.size (.tup [.int i, x])) e = none := by rw [upd_ne neE]; exact fe.1
    have I2 : Inv X pins σ (upd H s.heap.objs.size (.tup [.int i, x])) { ({ s with heap := h', toks := s.toks + 1 } : Shared) with heap := h2, toks := s.toks + 1 } :=
      I1.turned (t' := s.toks + 1) (it := e) (fun b o hb z => (sb.2 b hb).trans z) fe2 fe.2.1 fe.2.2.2.1 fe.2.2.2.2.1 fe.2.2.2.2.2
    obtain ⟨oi, hoi, _⟩ := id st
    have ltI : it < s.heap.objs.size := Heap.lt_size hoi
    refine ⟨.ref s.heap.objs.size, _, I2, rfl, ⟨_, x, fun ys hy => by rw [I.list_inj hy hq]; exact hx, rfl, hn, rfl⟩, ⟨⟨u, ?_⟩, ?_⟩, fun b hb => ?_⟩
    · have e1 : ((i + 1 : Nat) : Int) = (i : Int) + 1 := by push_cast; rfl
      rw [e1]; exact he2
    · exact st'.at fun o z => (sb.2 it (Ne.symm hei)).trans z
    · rcases List.mem_cons.mp hb with rfl | hb
      · exact fe2
      · rw [List.mem_singleton.mp hb, upd_ne (Nat.ne_of_lt ltI)]; exact fi.1
  done := by
    intro X hP hw hK hc i pins s σ H E I hf st hg
    subst hP hw hK
    obtain ⟨⟨old, he⟩, st⟩ := st
    obtain ⟨xs, hq, hx⟩ := hg
    obtain ⟨its, rv, p, hz⟩ := I.list hq
    obtain ⟨f0, f1, f2, f3, f4, f5⟩ := hf it (by simp)
    have hl := rv.length
    exact wpAny_pyNext_enum_end (I.ok.hd hc) he st p.isList (by simp; first | lia | omega) fun h' eb => ⟨rfl, I.turned (t' := s.toks) (fun b o hb z => eb b o hb z) f0 f1 f3 f4 f5⟩
  self := fun _ _ _ _ _ st h => by
    obtain ⟨⟨old, he⟩, _⟩ := st
    exact wpAny_pyIter_enum he h
def iEnum (K : PySem.W.Frag) (ta : TA) : TI := fun σ H R => ta σ H fun vs H1 => ∃ a, vs = [.ref a] ∧ (∃ xs, SqL K H1 a xs) ∧ R (Ite K a) H1
section
variable {X : Cx}
theorem pi_enum {a : Expr} {es : List Expr} {k : Nat} {tpos : Pos} {ta : TA} {p pos : Pos} (hg : Gl X "enumerate") (hm : X.mg "enumerate" = none) (ha : PA X [a] ta) (hs : starEach [a] X.env = [(false, eval a X.env)] := by rfl) :
    PI X (.Tuple es k tpos) (.Call (.Name "enumerate" p) [a] [] pos) (iEnum X.K ta) := by
  intro pins s σ H R I h
  refine Call_ (ld_blt I hg hm boot_enumerate (PyProof.Rows.callWith_type1 (thn (ha pos pins s σ H _ I h) fun us s1 ⟨vs, H1, I1, r1, q1⟩ => ?_) hs rfl))
  obtain ⟨b, e, ⟨xs, hq⟩, q⟩ := q1
  subst e
  cases r1 with
  | cons r rr =>
    cases rr
    cases r
    obtain ⟨its, rv, pl, hz⟩ := I1.list hq
    refine call_enumerate_list pl.isList fun h' he hit hsz hk => ?_
    have I2 : Inv X pins σ H1 { s1 with heap := h' } := I1.kept (t' := s1.toks) hk
    refine wpAny_pyIter_enum (s := { s1 with heap := h' }) he ?_
    refine ⟨s1.heap.objs.size + 1, [s1.heap.objs.size + 1, s1.heap.objs.size], _, _, H1, rfl, I2, turn_enum b _ _ (Nat.succ_ne_self _), ⟨⟨_, he⟩, hit⟩, fun c hc => ?_, q⟩
    rcases List.mem_cons.mp hc with rfl | hc
    · exact I1.fpOk (Nat.le_succ _) (I1.hok.fresh (Nat.le_succ _))
    · rw [List.mem_singleton.mp hc]; exact I1.fpOk (Nat.le_refl _) (I1.hok.fresh (Nat.le_refl _))
end
/-- the loop by what holds ahead of the i-th item; the list stays -/
theorem for_enum {K : PySem.W.Frag} {a : Addr} {xs : List V} {g : TG} {tb : TS} {D : Ends} {σ : St} {H : Hp} (Pv : Nat → St → Hp → Prop) (h0 : Pv 0 σ H) (hl : ∀ i σ H, i ≤ xs.length → Pv i σ H → SqL K H a xs)
    (hs : ∀ i x σ H t, xs[i]? = some x → Pv i σ H → H t = none → g (.ref t) σ (upd H t (.tup [.int i, x])) fun σ2 H2 => tb { D with nx := Pv (i + 1), ct := Pv (i + 1), bk := D.nx } σ2 H2) (hd : ∀ σ H, Pv xs.length σ H → D.nx σ H) :
    ∃ W : Nat → Nat → St → Hp → Prop, (∃ m, W 0 m σ H) ∧ ∀ i m σ H, W i m σ H →
      ((Ite K a).stop i H ∧ D.nx σ H) ∨ ((Ite K a).go i H ∧ ∃ N : St → Hp → Prop, (∀ σ' H', N σ' H' → ∃ m', m' < m ∧ W (i + 1) m' σ' H') ∧ ∀ x H', (Ite K a).yld i H x H' → g x σ H' fun σ2 H2 => tb { D with nx := N, ct := N, bk := D.nx } σ2 H2) := by
  refine ⟨fun i m σ H => m = xs.length - i ∧ i ≤ xs.length ∧ Pv i σ H, ⟨xs.length, by simp, Nat.zero_le _, h0⟩, ?_⟩
  rintro i m σ H ⟨rfl, hi, p⟩
  have q := hl i σ H hi p
  by_cases hlt : i < xs.length
  · refine .inr ⟨⟨xs, xs[i], q, by simp [hlt]⟩, Pv (i + 1), fun σ' H' p' => ⟨xs.length - (i + 1), by first | lia | omega, rfl, hlt, p'⟩, fun x H' y => ?_⟩
    obtain ⟨t, z, hz, rfl, ht, rfl⟩ := y
    exact hs i z σ H t (hz xs q) p ht
  · have e : i = xs.length := by first | lia | omega
    subst e
    exact .inl ⟨⟨xs, q, Nat.le_refl _⟩, hd σ H p⟩
end L2
namespace L2
open PySem PySem.Spec PyProof.Rows PySem.SeqAt
mutual
inductive D where
  | at (v : V)
  | tup (xs : Ds)
  | lst (xs : Ds)
inductive Ds where
  | nil
  | cons (d : D) (r : Ds)
end
mutual
def DIs (K : PySem.W.Frag) (H : Hp) : D → V → Prop
  | .at u, v => v = u ∧ flatV u = true
  | .tup ds, v => ∃ a xs, v = .ref a ∧ SqT K H a xs ∧ DIss K H ds xs
  | .lst ds, v => ∃ a xs, v = .ref a ∧ SqL K H a xs ∧ DIss K H ds xs
def DIss (K : PySem.W.Frag) (H : Hp) : Ds → List V → Prop
  | .nil, xs => xs = []
  | .cons d r, xs => ∃ x ys, xs = x :: ys ∧ DIs K H d x ∧ DIss K H r ys
end
mutual
def dep : D → Nat
  | .at _ => 0
  | .tup ds => deps ds + 1
  | .lst ds => deps ds + 1
def deps : Ds → Nat
  | .nil => 0
  | .cons d r => max (dep d) (deps r)
end
mutual
def deq : D → D → Bool
  | .at u, .at v => eqV u v
  | .tup xs, .tup ys => deqs xs ys
  | .lst xs, .lst ys => deqs xs ys
  | _, _ => false
def deqs : Ds → Ds → Bool
  | .nil, .nil => true
  | .cons d r, .cons e q => deq d e && deqs r q
  | _, _ => false
end
def Ds.len : Ds → Nat
  | .nil => 0
  | .cons _ r => r.len + 1
def Ds.get : Ds → Nat → D
  | .nil, _ => .at .non
  | .cons d _, 0 => d
  | .cons _ r, i + 1 => r.get i
theorem deqs_all : ∀ (ds es : Ds), ((List.range (min ds.len es.len)).all (fun j => deq (ds.get j) (es.get j)) && ds.len == es.len) = deqs ds es
  | .nil, .nil => rfl
  | .nil, .cons e q => by simp [Ds.len, deqs]
  | .cons d r, .nil => by simp [Ds.len, deqs]
  | .cons d r, .cons e q => by
    have ih := deqs_all r q
    rw [show deqs (.cons d r) (.cons e q) = (deq d e && deqs r q) from by rw [deqs], ← ih]
    show ((List.range (min (r.len + 1) (q.len + 1))).all _ && (r.len + 1 == q.len + 1)) = _
    rw [show min (r.len + 1) (q.len + 1) = min r.len q.len + 1 by first | lia | omega, List.range_succ_eq_map, List.all_cons, List.all_map, Bool.and_assoc]
    congr 1
    rw [show (r.len + 1 == q.len + 1) = (r.len == q.len) by simp]
    rfl
mutual
theorem deq_refl : ∀ {K : PySem.W.Frag} {H : Hp} (d : D) {v : V}, DIs K H d v → deq d d = true
  | _, _, .at u, v, h => by
    obtain ⟨_, hf⟩ := (show v = u ∧ flatV u = true by simpa [DIs] using h)
    rw [deq]
    cases u <;> simp_all [flatV, eqV]
  | _, _, .tup ds, v, h => by
    rw [DIs] at h
    obtain ⟨a, xs, _, _, q⟩ := h
    rw [deq]; exact deqs_refl ds q
  | _, _, .lst ds, v, h => by
    rw [DIs] at h
    obtain ⟨a, xs, _, _, q⟩ := h
    rw [deq]; exact deqs_refl ds q
theorem deqs_refl : ∀ {K : PySem.W.Frag} {H : Hp} (ds : Ds) {xs : List V}, DIss K H ds xs → deqs ds ds = true
  | _, _, .nil, _, _ => by rw [deqs]
  | _, _, .cons d r, xs, h => by
    rw [DIss] at h
    obtain ⟨x, ys, _, h1, h2⟩ := h
    rw [deqs, deq_refl d h1, deqs_refl r h2]; rfl
end
theorem DIss.len {K : PySem.W.Frag} {H : Hp} : ∀ {ds : Ds} {xs : List V}, DIss K H ds xs → ds.len = xs.length
  | .nil, xs, h => by rw [DIss] at h; rw [h]; rfl
  | .cons d r, xs, h => by
    rw [DIss] at h
    obtain ⟨x, ys, rfl, _, h2⟩ := h
    show r.len + 1 = ys.length + 1
    rw [DIss.len h2]
theorem DIss.get {K : PySem.W.Frag} {H : Hp} : ∀ {ds : Ds} {xs : List V} {i : Nat} {x : V}, DIss K H ds xs → xs[i]? = some x → DIs K H (ds.get i) x
  | .nil, xs, i, x, h, e => by rw [DIss] at h; rw [h] at e; simp at e
  | .cons d r, xs, i, x, h, e => by
    rw [DIss] at h
    obtain ⟨y, ys, rfl, h1, h2⟩ := h
    cases i with
    | zero => simp at e; subst e; exact h1
    | succ i =>
      show DIs K H (r.get i) x
      exact DIss.get h2 (by simpa using e)
theorem dep_get : ∀ (ds : Ds) (i : Nat), i < ds.len → dep (ds.get i) ≤ deps ds
  | .nil, i, h => absurd h (by simp [Ds.len])
  | .cons d r, 0, _ => by show dep d ≤ _; rw [deps]; first | lia | omega
  | .cons d r, i + 1, h => by
    have := dep_get r i (by simpa [Ds.len] using h)
    show dep (r.get i) ≤ _
    rw [deps]; first | lia | omega
section
variable {X : Cx} {pins : List (Addr × Obj)} {σ : St} {H : Hp} {s : Shared}
mutual
theorem DIs.inj (I : Inv X pins σ H s) : ∀ {d e : D} {v : V}, DIs X.K H d v → DIs X.K H e v → d = e
  | .at u, .at w', v, h, h' => by
    rw [DIs] at h
    rw [DIs] at h'
    rw [← h.1, ← h'.1]
  | .at u, .tup ds, v, h, h' => by
    rw [DIs] at h
    rw [DIs] at h'
    obtain ⟨a, xs, e, _⟩ := h'
    have := h.2
    rw [← h.1, e] at this
    cases this
  | .at u, .lst ds, v, h, h' => by
    rw [DIs] at h
    rw [DIs] at h'
    obtain ⟨a, xs, e, _⟩ := h'
    have := h.2
    rw [← h.1, e] at this
    cases this
  | .tup ds, .at u, v, h', h => by
    rw [DIs] at h
    rw [DIs] at h'
    obtain ⟨a, xs, e, _⟩ := h'
    have := h.2
    rw [← h.1, e] at this
    cases this
  | .lst ds, .at u, v, h', h => by
    rw [DIs] at h
    rw [DIs] at h'
    obtain ⟨a, xs, e, _⟩ := h'
    have := h.2
    rw [← h.1, e] at this
    cases this
  | .tup ds, .tup es, v, h, h' => by
    rw [DIs] at h
    rw [DIs] at h'
    obtain ⟨a, xs, rfl, h1, h2⟩ := h
    obtain ⟨b, ys, e, k1, k2⟩ := h'
    cases e
    have e := I.tuple_inj h1 k1
    subst e
    rw [DIss.inj I h2 k2]
  | .lst ds, .lst es, v, h, h' => by
    rw [DIs] at h
    rw [DIs] at h'
    obtain ⟨a, xs, rfl, h1, h2⟩ := h
    obtain ⟨b, ys, e, k1, k2⟩ := h'
    cases e
    have e := I.list_inj h1 k1
    subst e
    rw [DIss.inj I h2 k2]
  | .tup ds, .lst es, v, h, h' => by
    rw [DIs] at h
    rw [DIs] at h'
    obtain ⟨a, xs, rfl, h1, h2⟩ := h
    obtain ⟨b, ys, e, k1, k2⟩ := h'
    cases e
    obtain ⟨_, _, t1, _⟩ := I.tuple h1
    obtain ⟨_, _, t2, _⟩ := I.list k1
    exact absurd rfl (ne_of_list_tuple t2.isList (show s.heap.IsTuple a _ from t1))
  | .lst ds, .tup es, v, h, h' => by
    rw [DIs] at h
    rw [DIs] at h'
    obtain ⟨a, xs, rfl, h1, h2⟩ := h
    obtain ⟨b, ys, e, k1, k2⟩ := h'
    cases e
    obtain ⟨_, _, t1, _⟩ := I.tuple k1
    obtain ⟨_, _, t2, _⟩ := I.list h1
    exact absurd rfl (ne_of_list_tuple t2.isList (show s.heap.IsTuple a _ from t1))
theorem DIss.inj (I : Inv X pins σ H s) : ∀ {ds es : Ds} {xs : List V}, DIss X.K H ds xs → DIss X.K H es xs → ds = es
  | .nil, .nil, xs, h, h' => rfl
  | .nil, .cons d r, xs, h, h' => by
    rw [DIss] at h
    rw [DIss] at h'
    obtain ⟨x, ys, e, _⟩ := h'
    rw [h] at e; cases e
  | .cons d r, .nil, xs, h', h => by
    rw [DIss] at h
    rw [DIss] at h'
    obtain ⟨x, ys, e, _⟩ := h'
    rw [h] at e; cases e
  | .cons d r, .cons e q, xs, h, h' => by
    rw [DIss] at h
    rw [DIss] at h'
    obtain ⟨x, ys, rfl, h1, h2⟩ := h
    obtain ⟨y, zs, e', k1, k2⟩ := h'
    cases e'
    rw [DIs.inj I h1 k1, DIss.inj I h2 k2]
end
theorem flat_tup {A : Around} {u : V} {x : Value} {l : Addr} {items : Array Value} (r : RelV u x) (f : flatV u = true) (hl : s.heap.IsTuple l items) (hu : A.units < cLine) : EqAt A s x (.ref l) false ∧ EqAt A s (.ref l) x false := by
  cases u with
  | non => cases r; exact ⟨.none_tuple hl hu, .tuple_none hl hu⟩
  | bl b => cases r; exact ⟨.bool_tuple b hl hu, .tuple_bool b hl hu⟩
  | int b => obtain ⟨t, rfl⟩ := r; exact ⟨.int_tuple b t hl hu, .tuple_int b t hl hu⟩
  | str b => obtain ⟨t, rfl⟩ := r; exact ⟨.str_tuple b t hl hu, .tuple_str b t hl hu⟩
  | _ => exact absurd (show false = true from f) Bool.false_ne_true
theorem flat_lst {A : Around} {u : V} {x : Value} {l : Addr} {items : Array Value} (r : RelV u x) (f : flatV u = true) (hl : s.heap.IsList l items) (hu : A.units < cLine) : EqAt A s x (.ref l) false ∧ EqAt A s (.ref l) x false := by
  cases u with
  | non => cases r; exact ⟨.none_list hl hu, .list_none hl hu⟩
  | bl b => cases r; exact ⟨.bool_list b hl hu, .list_bool b hl hu⟩
  | int b => obtain ⟨t, rfl⟩ := r; exact ⟨.int_list b t hl hu, .list_int b t hl hu⟩
  | str b => obtain ⟨t, rfl⟩ := r; exact ⟨.str_list b t hl hu, .list_str b t hl hu⟩
  | _ => exact absurd (show false = true from f) Bool.false_ne_true
theorem eqAt_D (I : Inv X pins σ H s) : ∀ (n : Nat) (A : Around) (d e : D) (x y : V) (u v : Value), dep d ≤ n → DIs X.K H d x → DIs X.K H e y → RelV x u → RelV y v → A.units + n < cLine → EqAt A s u v (deq d e) := by
  intro n
  induction n with
  | zero =>
    intro A d e x y u v hn hd he rx ry hu
    cases d with
    | tup ds => rw [dep] at hn; first | lia | omega
    | lst ds => rw [dep] at hn; first | lia | omega
    | «at» p =>
      rw [DIs] at hd
      obtain ⟨rfl, hf⟩ := hd
      cases e with
      | «at» q =>
        rw [DIs] at he
        obtain ⟨rfl, hg⟩ := he
        rw [deq]; exact eqAt_V rx ry hf hg
      | tup es =>
        rw [DIs] at he
        obtain ⟨b, ys, rfl, h1, _⟩ := he
        obtain ⟨_, _, t, _⟩ := I.tuple h1
        cases ry
        rw [deq]
        · exact (flat_tup rx hf (show s.heap.IsTuple b _ from t) hu).1
        all_goals (intros; simp_all)
      | lst es =>
        rw [DIs] at he
        obtain ⟨b, ys, rfl, h1, _⟩ := he
        obtain ⟨_, _, t, _⟩ := I.list h1
        cases ry
        rw [deq]
        · exact (flat_lst rx hf t.isList hu).1
        all_goals (intros; simp_all)
  | succ n ih =>
    intro A d e x y u v hn hd he rx ry hu
    have hu1 : A.in1.units + n < cLine := by show A.units + 1 + n < cLine; first | lia | omega
    cases d with
    | «at» p =>
      rw [DIs] at hd
      obtain ⟨rfl, hf⟩ := hd
      cases e with
      | «at» q =>
        rw [DIs] at he
        obtain ⟨rfl, hg⟩ := he
        rw [deq]; exact eqAt_V rx ry hf hg
      | tup es =>
        rw [DIs] at he
        obtain ⟨b, ys, rfl, h1, _⟩ := he
        obtain ⟨_, _, t, _⟩ := I.tuple h1
        cases ry
        rw [deq]
        · exact (flat_tup rx hf (show s.heap.IsTuple b _ from t) (by first | lia | omega)).1
        all_goals (intros; simp_all)
      | lst es =>
        rw [DIs] at he
        obtain ⟨b, ys, rfl, h1, _⟩ := he
        obtain ⟨_, _, t, _⟩ := I.list h1
        cases ry
        rw [deq]
        · exact (flat_lst rx hf t.isList (by first | lia | omega)).1
        all_goals (intros; simp_all)
    | tup ds =>
      have hd0 := hd
      rw [dep] at hn
      rw [DIs] at hd
      obtain ⟨a, xs, rfl, h1, h2⟩ := hd
      obtain ⟨i1, r1, t1, _⟩ := I.tuple h1
      cases rx
      cases e with
      | «at» q =>
        rw [DIs] at he
        obtain ⟨rfl, hg⟩ := he
        rw [deq]
        · exact (flat_tup ry hg (show s.heap.IsTuple a _ from t1) (by first | lia | omega)).2
        all_goals (intros; simp_all)
      | lst es =>
        rw [DIs] at he
        obtain ⟨b, ys, rfl, k1, _⟩ := he
        obtain ⟨_, _, t2, _⟩ := I.list k1
        cases ry
        rw [deq]
        · exact EqAt.tuple_list (show s.heap.IsTuple a _ from t1) t2.isList (by first | lia | omega)
        all_goals (intros; simp_all)
      | tup es =>
        have he0 := he
        rw [DIs] at he
        obtain ⟨b, ys, rfl, k1, k2⟩ := he
        obtain ⟨i2, r2, t2, _⟩ := I.tuple k1
        cases ry
        by_cases hab : a = b
        · subst hab
          rw [DIs.inj I he0 hd0, deq_refl _ hd0]
          exact EqAt.same _
        · refine EqAt.of_refs hab ?_
          have := RcAt.tuples (A := A) (e := fun j => deq (ds.get j) (es.get j)) (show s.heap.IsTuple a i1.toArray from t1) (show s.heap.IsTuple b i2.toArray from t2) (by first | lia | omega) fun j g1 g2 => ?_
          · have l1 := r1.length
            have l2 := r2.length
            have m1 := h2.len
            have m2 := k2.len
            rw [List.size_toArray, List.size_toArray, ← l1, ← l2, ← m1, ← m2, deqs_all] at this
            rw [deq]; exact this
          · have l1 := r1.length
            have l2 := r2.length
            have m1 := h2.len
            have g1' : j < xs.length := by simp at g1; first | lia | omega
            have g2' : j < ys.length := by simp at g2; first | lia | omega
            obtain ⟨u1, e1, q1⟩ := r1.get (List.getElem?_eq_getElem g1')
            obtain ⟨u2, e2, q2⟩ := r2.get (List.getElem?_eq_getElem g2')
            have d1 : i1.toArray[j] = u1 := by
              have : i1[j]? = some i1.toArray[j] := by simp
              rw [e1] at this; exact (Option.some.inj this).symm
            have d2 : i2.toArray[j] = u2 := by
              have : i2[j]? = some i2.toArray[j] := by simp
              rw [e2] at this; exact (Option.some.inj this).symm
            rw [d1, d2]
            exact ih _ _ _ _ _ _ _ (Nat.le_trans (dep_get ds j (by first | lia | omega)) (by first | lia | omega)) (h2.get (List.getElem?_eq_getElem g1')) (k2.get (List.getElem?_eq_getElem g2')) q1 q2 hu1
    | lst ds =>
      have hd0 := hd
      rw [dep] at hn
      rw [DIs] at hd
      obtain ⟨a, xs, rfl, h1, h2⟩ := hd
      obtain ⟨i1, r1, t1, _⟩ := I.list h1
      cases rx
      cases e with
      | «at» q =>
        rw [DIs] at he
        obtain ⟨rfl, hg⟩ := he
        rw [deq]
        · exact (flat_lst ry hg t1.isList (by first | lia | omega)).2
        all_goals (intros; simp_all)
      | tup es =>
        rw [DIs] at he
        obtain ⟨b, ys, rfl, k1, _⟩ := he
        obtain ⟨_, _, t2, _⟩ := I.tuple k1
        cases ry
        rw [deq]
        · exact EqAt.list_tuple t1.isList (show s.heap.IsTuple b _ from t2) (by first | lia | omega)
        all_goals (intros; simp_all)
      | lst es =>
        have he0 := he
        rw [DIs] at he
        obtain ⟨b, ys, rfl, k1, k2⟩ := he
        obtain ⟨i2, r2, t2, _⟩ := I.list k1
        cases ry
        by_cases hab : a = b
        · subst hab
          rw [DIs.inj I he0 hd0, deq_refl _ hd0]
          exact EqAt.same _
        · refine EqAt.of_refs hab ?_
          have l1 := r1.length
          have l2 := r2.length
          have m1 := h2.len
          have m2 := k2.len
          rw [deq]
          rw [← deqs_all]
          by_cases hz : ds.len = es.len
          · have := RcAt.lists (A := A) (e := fun j => deq (ds.get j) (es.get j)) t1.isList t2.isList (by simp; first | lia | omega) (by first | lia | omega) fun j g1 g2 => ?_
            · rw [List.size_toArray, ← l1, ← m1] at this
              rw [hz, Nat.min_self, beq_self_eq_true, Bool.and_true, ← hz]
              exact this
            · have g1' : j < xs.length := by simp at g1; first | lia | omega
              have g2' : j < ys.length := by simp at g2; first | lia | omega
              obtain ⟨u1, e1, q1⟩ := r1.get (List.getElem?_eq_getElem g1')
              obtain ⟨u2, e2, q2⟩ := r2.get (List.getElem?_eq_getElem g2')
              have d1 : i1.toArray[j] = u1 := by
                have : i1[j]? = some i1.toArray[j] := by simp
                rw [e1] at this; exact (Option.some.inj this).symm
              have d2 : i2.toArray[j] = u2 := by
                have : i2[j]? = some i2.toArray[j] := by simp
                rw [e2] at this; exact (Option.some.inj this).symm
              rw [d1, d2]
              exact ih _ _ _ _ _ _ _ (Nat.le_trans (dep_get ds j (by first | lia | omega)) (by first | lia | omega)) (h2.get (List.getElem?_eq_getElem g1')) (k2.get (List.getElem?_eq_getElem g2')) q1 q2 hu1
          · have e0 : (ds.len == es.len) = false := by simpa using hz
            rw [e0, Bool.and_false]
            exact RcAt.lists_lengths t1.isList t2.isList (by simp; first | lia | omega) (by first | lia | omega)
end
section
variable {X : Cx}
/-- the items, one by one -/
theorem eqItems {pins : List (Addr × Obj)} {σ : St} {H : Hp} {s : Shared} (I : Inv X pins σ H s) {A : Around} {ds es : Ds} {xs ys : List V} {i1 i2 : List Value} (h2 : DIss X.K H ds xs) (k2 : DIss X.K H es ys) (r1 : Vals xs i1) (r2 : Vals ys i2)
    (hu : A.units + 60 < cLine) (hd : deps ds ≤ 50) : ∀ j (g1 : j < i1.toArray.size) (g2 : j < i2.toArray.size), EqAt A.in1 s i1.toArray[j] i2.toArray[j] (deq (ds.get j) (es.get j)) := fun j g1 g2 => by
  have l1 := r1.length
  have l2 := r2.length
  have m1 := h2.len
  have g1' : j < xs.length := by simp at g1; first | lia | omega
  have g2' : j < ys.length := by simp at g2; first | lia | omega
  obtain ⟨u1, e1, q1⟩ := r1.get (List.getElem?_eq_getElem g1')
  obtain ⟨u2, e2, q2⟩ := r2.get (List.getElem?_eq_getElem g2')
  have d1 : i1.toArray[j] = u1 := by
    have : i1[j]? = some i1.toArray[j] := by simp
    rw [e1] at this; exact (Option.some.inj this).symm
  have d2 : i2.toArray[j] = u2 := by
    have : i2[j]? = some i2.toArray[j] := by simp
    rw [e2] at this; exact (Option.some.inj this).symm
  rw [d1, d2]
  exact eqAt_D I 50 _ _ _ _ _ _ _ (Nat.le_trans (dep_get ds j (by first | lia | omega)) hd) (h2.get (List.getElem?_eq_getElem g1')) (k2.get (List.getElem?_eq_getElem g2')) q1 q2 (by show A.units + 1 + 50 < cLine; first | lia | omega)
/-- == of two lists or tuples of data -/
def rEqD (K : PySem.W.Frag) (neg : Bool) : R2 := fun x y H Q => ∃ d e, DIs K H d x ∧ DIs K H e y ∧ (∃ a, x = .ref a) ∧ (∃ b, y = .ref b) ∧ dep d ≤ 50 ∧ Q (.bl (if neg then !deq d e else deq d e)) H
theorem op_eqD {k : Nat} (hr : Room k X.A) : OpR X (compareOp .Eq) (rEqD X.K false) := by
  intro pins s σ H x y v u Q I rx ry h
  obtain ⟨d, e, hd, he, ⟨a, rfl⟩, ⟨b, rfl⟩, hn, q⟩ := h
  cases rx
  cases ry
  have hu := hr.units
  cases d with
  | «at» p => rw [DIs] at hd; obtain ⟨rfl, hf⟩ := hd; cases hf
  | tup ds =>
    rw [dep] at hn
    rw [DIs] at hd
    obtain ⟨a', xs, e', h1, h2⟩ := hd
    cases e'
    obtain ⟨i1, r1, t1, _⟩ := I.tuple h1
    cases e with
    | «at» p => rw [DIs] at he; obtain ⟨rfl, hf⟩ := he; cases hf
    | tup es =>
      rw [DIs] at he
      obtain ⟨b', ys, e', k1, k2⟩ := he
      cases e'
      obtain ⟨i2, r2, t2, _⟩ := I.tuple k1
      refine RcAt.tuples (show s.heap.IsTuple a i1.toArray from t1) (show s.heap.IsTuple b i2.toArray from t2) (by first | lia | omega) (eqItems I h2 k2 r1 r2 (by first | lia | omega) (by first | lia | omega)) _ _ _ _ ⟨.bl _, H, I, ?_, q⟩
      show Value.bool _ = Value.bool _
      rw [List.size_toArray, List.size_toArray, ← r1.length, ← r2.length, ← h2.len, ← k2.len, deqs_all]
      simp only [Bool.false_eq_true, if_false]
      rw [deq]
    | lst es =>
      rw [DIs] at he
      obtain ⟨b', ys, e', k1, k2⟩ := he
      cases e'
      obtain ⟨i2, r2, t2, _⟩ := I.list k1
      refine RcAt.tuple_list (show s.heap.IsTuple a _ from t1) t2.isList (by first | lia | omega) _ _ _ _ ⟨.bl _, H, I, ?_, q⟩
      show Value.bool _ = Value.bool _
      simp only [Bool.false_eq_true, if_false]
      rw [deq] <;> (intros; simp_all)
  | lst ds =>
    rw [dep] at hn
    rw [DIs] at hd
    obtain ⟨a', xs, e', h1, h2⟩ := hd
    cases e'
    obtain ⟨i1, r1, t1, _⟩ := I.list h1
    cases e with
    | «at» p => rw [DIs] at he; obtain ⟨rfl, hf⟩ := he; cases hf
    | tup es =>
      rw [DIs] at he
      obtain ⟨b', ys, e', k1, k2⟩ := he
      cases e'
      obtain ⟨i2, r2, t2, _⟩ := I.tuple k1
      refine RcAt.list_tuple t1.isList (show s.heap.IsTuple b _ from t2) (by first | lia | omega) _ _ _ _ ⟨.bl _, H, I, ?_, q⟩
      show Value.bool _ = Value.bool _
      simp only [Bool.false_eq_true, if_false]
      rw [deq] <;> (intros; simp_all)
    | lst es =>
      rw [DIs] at he
      obtain ⟨b', ys, e', k1, k2⟩ := he
      cases e'
      obtain ⟨i2, r2, t2, _⟩ := I.list k1
      have l1 := r1.length
      have l2 := r2.length
      have m1 := h2.len
      have m2 := k2.len
      by_cases hz : ds.len = es.len
      · refine RcAt.lists t1.isList t2.isList (by simp; first | lia | omega) (by first | lia | omega) (eqItems I h2 k2 r1 r2 (by first | lia | omega) (by first | lia | omega)) _ _ _ _ ⟨.bl _, H, I, ?_, q⟩
        show Value.bool _ = Value.bool _
        simp only [Bool.false_eq_true, if_false]
        rw [deq, ← deqs_all, List.size_toArray, ← l1, ← m1, hz, Nat.min_self, beq_self_eq_true, Bool.and_true]
      · refine RcAt.lists_lengths t1.isList t2.isList (by simp; first | lia | omega) (by first | lia | omega) _ _ _ _ ⟨.bl _, H, I, ?_, q⟩
        show Value.bool _ = Value.bool _
        have e0 : (ds.len == es.len) = false := by simpa using hz
        simp only [Bool.false_eq_true, if_false]
        rw [deq, ← deqs_all, e0, Bool.and_false]
theorem op_neD {k : Nat} (hr : Room k X.A) : OpR X (compareOp .NotEq) (rEqD X.K true) := by
  intro pins s σ H x y v u Q I rx ry h
  obtain ⟨d, e, hd, he, ⟨a, rfl⟩, ⟨b, rfl⟩, hn, q⟩ := h
  cases rx
  cases ry
  have hu := hr.units
  cases d with
  | «at» p => rw [DIs] at hd; obtain ⟨rfl, hf⟩ := hd; cases hf
  | tup ds =>
    rw [dep] at hn
    rw [DIs] at hd
    obtain ⟨a', xs, e', h1, h2⟩ := hd
    cases e'
    obtain ⟨i1, r1, t1, _⟩ := I.tuple h1
    cases e with
    | «at» p => rw [DIs] at he; obtain ⟨rfl, hf⟩ := he; cases hf
    | tup es =>
      rw [DIs] at he
      obtain ⟨b', ys, e', k1, k2⟩ := he
      cases e'
      obtain ⟨i2, r2, t2, _⟩ := I.tuple k1
      refine RcNeAt.tuples (show s.heap.IsTuple a i1.toArray from t1) (show s.heap.IsTuple b i2.toArray from t2) (by first | lia | omega) (eqItems I h2 k2 r1 r2 (by first | lia | omega) (by first | lia | omega)) _ _ _ _ ⟨.bl _, H, I, ?_, q⟩
      show Value.bool _ = Value.bool _
      rw [List.size_toArray, List.size_toArray, ← r1.length, ← r2.length, ← h2.len, ← k2.len, deqs_all]
      simp only [if_true]
      rw [deq]
    | lst es =>
      rw [DIs] at he
      obtain ⟨b', ys, e', k1, k2⟩ := he
      cases e'
      obtain ⟨i2, r2, t2, _⟩ := I.list k1
      refine RcNeAt.tuple_list (show s.heap.IsTuple a _ from t1) t2.isList (by first | lia | omega) _ _ _ _ ⟨.bl _, H, I, ?_, q⟩
      show Value.bool _ = Value.bool _
      simp only [if_true]
      rw [deq] <;> first | rfl | (intros; simp_all)
  | lst ds =>
    rw [dep] at hn
    rw [DIs] at hd
    obtain ⟨a', xs, e', h1, h2⟩ := hd
    cases e'
    obtain ⟨i1, r1, t1, _⟩ := I.list h1
    cases e with
    | «at» p => rw [DIs] at he; obtain ⟨rfl, hf⟩ := he; cases hf
    | tup es =>
      rw [DIs] at he
      obtain ⟨b', ys, e', k1, k2⟩ := he
      cases e'
      obtain ⟨i2, r2, t2, _⟩ := I.tuple k1
      refine RcNeAt.list_tuple t1.isList (show s.heap.IsTuple b _ from t2) (by first | lia | omega) _ _ _ _ ⟨.bl _, H, I, ?_, q⟩
      show Value.bool _ = Value.bool _
      simp only [if_true]
      rw [deq] <;> first | rfl | (intros; simp_all)
    | lst es =>
      rw [DIs] at he
      obtain ⟨b', ys, e', k1, k2⟩ := he
      cases e'
      obtain ⟨i2, r2, t2, _⟩ := I.list k1
      have l1 := r1.length
      have l2 := r2.length
      have m1 := h2.len
      have m2 := k2.len
      by_cases hz : ds.len = es.len
      · refine RcNeAt.lists t1.isList t2.isList (by simp; first | lia | omega) (by first | lia | omega) (eqItems I h2 k2 r1 r2 (by first | lia | omega) (by first | lia | omega)) _ _ _ _ ⟨.bl _, H, I, ?_, q⟩
        show Value.bool _ = Value.bool _
        simp only [if_true]
        rw [deq, ← deqs_all, List.size_toArray, ← l1, ← m1, hz, Nat.min_self, beq_self_eq_true, Bool.and_true]
      · refine RcNeAt.lists_lengths t1.isList t2.isList (by simp; first | lia | omega) (by first | lia | omega) _ _ _ _ ⟨.bl _, H, I, ?_, q⟩
        show Value.bool _ = Value.bool _
        have e0 : (ds.len == es.len) = false := by simpa using hz
        simp only [if_true]
        rw [deq, ← deqs_all, e0, Bool.and_false]; rfl
end
end L2
namespace L2
open PySem PySem.Spec PyProof.Rows
section
variable {X : Cx} {e st : Expr} {te ts : TE} {pos p2 : Pos}
end
end L2
namespace L2
open PySem PySem.Spec PyProof.Rows
structure MdOk (P : Program) (w : World) (K : PySem.W.Frag) (mg : Str → Option Value) (base : Heap) (k : Nat) (C : Addr) (m : Str) (ps : List Str) (sp : Sp) : Prop where
  cl : Cls K C
  ex : ∃ (f : Addr) (fd : FuncData), Meth K C m f ∧ FnOk P w K mg base CX0 k f fd ps sp ∧ Binds K fd ps []
section
variable {X : Cx} {k j : Nat} {x m : Str} {C : Addr} {ps : List Str} {sp : Sp} {p pos apos : Pos} {e o : Expr} {es : List Expr} {t : TA} {ta : TE}
theorem pe_md0 {pl : Sem Bool} (D : MdOk X.prog X.w X.K X.mg X.base k C m ps sp) (hr : Room j X.A) (he : PE X o ta) (hj : k ≤ j := by decide)
    (ht : eval (.Call (.Attribute o m apos) [] [] pos) X.env = (do
      let ov ← eval o X.env
      standAt apos.atName
      let (f, first) ← holding [ov] (getMethod ov m pl)
      callWith pos f first (backTo pos (starEach [] X.env)) (backToKw pos (keywordEach [] X.env))) := by rfl) : PE X (.Call (.Attribute o m apos) [] [] pos) (tMeth C m sp [] E0 ta tNil) := by
  obtain ⟨f, fd, M, F, hb⟩ := D.ex
  exact pe_meth0 he D.cl M F (hr.mono hj) hb .nil pass0 ht
end
section
variable {X : Cx} {K : PySem.W.Frag} {pos : Pos}
def rTupleOf (K : PySem.W.Frag) : List V → Hp → VK → Prop := fun xs H Q => ∃ p ys, xs = [V.ref p] ∧ ((SqL K H p ys ∧ ∀ l, H l = none → Q (.ref l) (upd H l (.tup ys))) ∨ (SqT K H p ys ∧ Q (.ref p) H))
theorem call_tuple_K (hK : X.K = K := by rfl) : CallR X (.type "tuple") (rTupleOf K) := by subst hK; exact call_tuple_of
end
end L2
namespace GB
open PySem L2
structure Rc where
  t : Int
  l : Int
  b : Int
  r : Int
  deriving DecidableEq
def Rc.ls (p : Rc) : List Int := [p.t, p.l, p.b, p.r]
def Rc.has (p : Rc) (r c : Int) : Prop := p.t ≤ r ∧ r < p.b ∧ p.l ≤ c ∧ c < p.r
def Rc.In (w h : Int) (p : Rc) : Prop := 0 ≤ p.t ∧ p.t < p.b ∧ p.b ≤ h ∧ 0 ≤ p.l ∧ p.l < p.r ∧ p.r ≤ w
def Apart (p q : Rc) : Prop := ∀ r c, p.has r c → q.has r c → False
theorem Apart.symm {p q : Rc} (h : Apart p q) : Apart q p := fun r c a b => h r c b a
structure Tiles (w h : Int) (ps : List Rc) : Prop where
  ins : ∀ p ∈ ps, p.In w h
  dis : ps.Pairwise Apart
  cov : ∀ r c, 0 ≤ r → r < h → 0 ≤ c → c < w → ∃ p ∈ ps, p.has r c
theorem Tiles.perm {w h : Int} {ps qs : List Rc} (T : Tiles w h ps) (e : qs.Perm ps) : Tiles w h qs :=
  ⟨fun p hp => T.ins p (e.mem_iff.mp hp), (e.pairwise_iff (fun {a b} x => Apart.symm x)).mpr T.dis, fun r c a b x y => let ⟨p, hp, z⟩ := T.cov r c a b x y; ⟨p, e.mem_iff.mpr hp, z⟩⟩
/-- the order of rectangles, as one number -/
def key : List Int → Int
  | [a, b, c, d] => ((a * 13 + b) * 13 + c) * 13 + d
  | _ => 0
theorem key_ls (p : Rc) : key p.ls = ((p.t * 13 + p.l) * 13 + p.b) * 13 + p.r := rfl
theorem key_lt {p q : Rc} {w h w' h' : Int} (hp : p.In w h) (hq : q.In w' h') (b1 : w ≤ 12) (b2 : h ≤ 12) (b3 : w' ≤ 12) (b4 : h' ≤ 12) : HT.lexLt p.ls q.ls = decide (key p.ls < key q.ls) := by
  obtain ⟨a1, a2, a3, a4, a5, a6⟩ := hp
  obtain ⟨c1, c2, c3, c4, c5, c6⟩ := hq
  rw [key_ls, key_ls]
  show (if p.t = q.t then (if p.l = q.l then (if p.b = q.b then (if p.r = q.r then false else decide (p.r < q.r)) else decide (p.b < q.b)) else decide (p.l < q.l)) else decide (p.t < q.t)) = _
  repeat' split
  all_goals (first | (apply Eq.symm; rw [decide_eq_false_iff_not]; first | lia | omega) | (rw [decide_eq_decide]; first | lia | omega))
theorem key_inj {p q : Rc} {w h w' h' : Int} (hp : p.In w h) (hq : q.In w' h') (b1 : w ≤ 12) (b2 : h ≤ 12) (b3 : w' ≤ 12) (b4 : h' ≤ 12) (e : key p.ls = key q.ls) : p = q := by
  obtain ⟨a1, a2, a3, a4, a5, a6⟩ := hp
  obtain ⟨c1, c2, c3, c4, c5, c6⟩ := hq
  rw [key_ls, key_ls] at e
  obtain ⟨pt, pl, pb, pr⟩ := p
  obtain ⟨qt, ql, qb, qr⟩ := q
  simp only at *
  have e1 : pt = qt := by first | lia | omega
  subst e1
  have e2 : pl = ql := by first | lia | omega
  subst e2
  have e3 : pb = qb := by first | lia | omega
  subst e3
  have e4 : pr = qr := by first | lia | omega
  subst e4
  rfl
def Srt (ps : List Rc) : Prop := (ps.map fun p => key p.ls).Pairwise (· ≤ ·)
theorem sorted_same {ps qs : List Rc} {w h : Int} (hp : ∀ p ∈ ps, p.In w h) (b1 : w ≤ 12) (b2 : h ≤ 12) (e : ps.Perm qs) (s1 : Srt ps) (s2 : Srt qs) : ps = qs := by
  have hq : ∀ p ∈ qs, p.In w h := fun p x => hp p (e.mem_iff.mpr x)
  have hm := PySem.W.ksm_same (List.Perm.map (fun p : Rc => key p.ls) e) s1 s2
  have len := e.length_eq
  apply List.ext_getElem len
  intro i h1 h2
  have := congrArg (fun l => l[i]?) hm
  simp only [List.getElem?_map, List.getElem?_eq_getElem h1, List.getElem?_eq_getElem h2, Option.map_some, Option.some.injEq] at this
  exact key_inj (hp _ (List.getElem_mem h1)) (hq _ (List.getElem_mem h2)) b1 b2 b1 b2 this
/-- the squares of a rectangle, row by row -/
def rowSq (p : Rc) (i : Nat) (j : Nat) : List (Int × Int) := (List.range j).map fun (k : Nat) => (p.t + (i : Int), p.l + (k : Int))
def sqsN (p : Rc) : Nat → List (Int × Int)
  | 0 => []
  | i + 1 => sqsN p i ++ rowSq p i (p.r - p.l).toNat
def sqs (p : Rc) : List (Int × Int) := sqsN p (p.b - p.t).toNat
theorem mem_rowSq {p : Rc} {i j : Nat} {r c : Int} : (r, c) ∈ rowSq p i j ↔ r = p.t + i ∧ p.l ≤ c ∧ c < p.l + j := by
  unfold rowSq
  rw [List.mem_map]
  constructor
  · rintro ⟨k, hk, e⟩
    have := List.mem_range.mp hk
    cases e
    first | lia | omega
  · rintro ⟨rfl, a, b⟩
    exact ⟨(c - p.l).toNat, List.mem_range.mpr (by first | lia | omega), by rw [show ((c - p.l).toNat : Int) = c - p.l by first | lia | omega]; congr 1; first | lia | omega⟩
theorem mem_sqsN {p : Rc} (h : p.l ≤ p.r) {r c : Int} : ∀ {n : Nat}, (r, c) ∈ sqsN p n ↔ p.t ≤ r ∧ r < p.t + n ∧ p.l ≤ c ∧ c < p.r
  | 0 => by
    simp only [sqsN, List.not_mem_nil, false_iff]
    first | lia | omega
  | n + 1 => by
    rw [sqsN, List.mem_append, mem_sqsN h, mem_rowSq]
    first | lia | omega
theorem mem_sqs {p : Rc} (h : p.l ≤ p.r) (h2 : p.t ≤ p.b) {r c : Int} : (r, c) ∈ sqs p ↔ p.has r c := by
  unfold sqs Rc.has
  rw [mem_sqsN h]
  first | lia | omega
theorem rowSq_nodup (p : Rc) (i j : Nat) : (rowSq p i j).Nodup := by
  unfold rowSq
  rw [List.nodup_iff_pairwise_ne, List.pairwise_map]
  exact (List.nodup_range (n := j)).imp fun {a b} h e => h (by
    have := congrArg Prod.snd e
    simp only at this
    first | lia | omega)
theorem sqsN_nodup {p : Rc} (h : p.l ≤ p.r) : ∀ n, (sqsN p n).Nodup
  | 0 => List.nodup_nil
  | n + 1 => by
    rw [sqsN, List.nodup_append]
    refine ⟨sqsN_nodup h n, rowSq_nodup p n _, fun a ha b hb e => ?_⟩
    subst e
    obtain ⟨r, c⟩ := a
    have h1 := (mem_sqsN h).mp ha
    have h2 := mem_rowSq.mp hb
    first | lia | omega
theorem sqsN_len (p : Rc) : ∀ n, (sqsN p n).length = n * (p.r - p.l).toNat
  | 0 => by simp [sqsN]
  | n + 1 => by rw [sqsN, List.length_append, sqsN_len p n, rowSq, List.length_map, List.length_range, Nat.succ_mul]
theorem rowSq_succ (p : Rc) (i j : Nat) : rowSq p i (j + 1) = rowSq p i j ++ [(p.t + (i : Int), p.l + (j : Int))] := by
  unfold rowSq
  rw [List.range_succ, List.map_append]
  rfl
end GB
namespace L2
open PySem PySem.Spec PyProof.Rows PySem.W PySem.Builtin PySem.Builtin.ObjectAttr
section
variable {prog : Program} {w : World} {A : Around} {E : Value → Shared → Prop} {R : Result → Shared → Prop} {s : Shared} {K : Frag} {x C : Addr} {ox : Obj} {od : Option Obj} {name : Str} {tk : Tok} {v : Value} {expr : Bool}
theorem ga_code (X : K.In s.heap) (I : InstAt s.heap x ox C od) (hp : L2.excIn K C = true)
    (h : wpAny (model prog w) A.in1 (Builtin.«object.__getattribute__» ⟨[.ref x, .str name tk], []⟩)
      (fun fin s' => match fin with | .done f => R (.ok f) s' | .again c' => c'.quiet = true ∧ codeAny (model prog w) A c' R s') (fun e s' => R (.error e) s') s) :
    codeAny (model prog w) A (.call (.builtin "BaseException.__getattribute__") ⟨[.ref x, .str name tk], []⟩) R s := by
  obtain ⟨cd, hc, ho⟩ := any_some hp
  have ne : cd.mro.isEmpty = false := by cases q : cd.mro with | nil => rw [q] at ho; cases ho | cons _ _ => rfl
  have tB : Looks (model prog w) s.heap (isInstance (.ref x) (.type "BaseException")) true := I.type.andThen (looks_mroIn X (by
    unfold mroIn
    rw [hc, Option.bind_some, ne]
    show some (cd.mro.contains (.type "BaseException")) = some true
    rw [exc_has (by decide +kernel) ho]))
  exact codeAny_call_builtin PySem.F.attrBase_ValueError.ga.plain PySem.F.entry_bexc_ga (@check_slot (model prog w) _ _ s "BaseException.__getattribute__" "BaseException" "__getattribute__" (.ref x) [.str name tk] [] _ (by decide +kernel) (by decide +kernel) tB (PySem.F.args_bexc_ga (.ref x) (.str name tk)) h)
theorem ga_by (X : K.In s.heap) (I : InstAt s.heap x ox C od) (hp : L2.excIn K C = true) (hga : findIn K (.ref C) "__getattribute__" = some (some (.builtin "BaseException.__getattribute__"))) (hk : findIn K (.ref C) "__getattr__" = some none) {fill : Bool} {Q : Value → Shared → Prop}
    (h : wpAny (model prog w) A.in1 (Builtin.«object.__getattribute__» ⟨[.ref x, .str name tk], []⟩)
      (fun fin s' => match fin with | .done (.ret v) => wpAny (model prog w) A (handedOut v) Q E s' | _ => False) (fun _ _ => False) s) :
    wpAny (model prog w) A (getAttrBy (.ref x) (.str name tk) fill expr) Q E s := by
  have L0 := I.type (M := model prog w)
  have L1 := looks_findIn (M := model prog w) X hga
  have L2 := looks_findIn (M := model prog w) X hk
  unfold getAttrBy
  refine wpAny_holding (wpAny_bind (L0.here (wpAny_bind (L1.here ?_))))
  show wpAny _ _ (getAttrByItsOwn (.ref x) (.str name tk) (.ref C) (.builtin "BaseException.__getattribute__") fill expr) _ _ _
  unfold getAttrByItsOwn hookBefore callGetattribute boundAndCalled
  refine wpAny_bind (L2.here ?_)
  refine wpAny_bind (wpAny_attempt (wpAny_holding ?_))
  rw [show (expr && onTheHeap (Value.builtin "BaseException.__getattribute__")) = false from by cases expr <;> rfl, if_neg Bool.false_ne_true]
  refine wpAny_bind (wpAny_of_eq (PySem.F.attrBase_ValueError.ga.bind _) ?_)
  refine wpAny_call (ga_code X I hp (wpAny_mono h (fun fin s' z => ?_) fun _ _ z => z.elim))
  rcases fin with (_ | _ | _ | _) | _ <;> first | exact z.elim | exact z
theorem get_exc {Q : Value → Shared → Prop} (X : K.In s.heap) (I : InstAt s.heap x ox C od) (hp : L2.excIn K C = true) (hga : findIn K (.ref C) "__getattribute__" = some (some (.builtin "BaseException.__getattribute__"))) (hk : findIn K (.ref C) "__getattr__" = some none)
    (hf : findObj K C od name = some (.value v)) (hh : handedIn v = true) (h : Q v { s with toks := s.toks + 1 }) : wpAny (model prog w) A (getAttr (.ref x) name expr) Q E s := by
  unfold getAttr
  refine wpAny_bind (wpAny_mkText (ga_by (s := { s with toks := s.toks + 1 }) X I hp hga hk ?_))
  have L0 := I.type (M := model prog w)
  have L1 := looks_find (M := model prog w) X I hf
  refine wpAny_bind (wpAny_of_eq (show slotArgs "__getattribute__" 1 ⟨[.ref x, .str name s.toks], []⟩ = pure (.ref x, [.str name s.toks]) from rfl) ?_)
  refine wpAny_bind (wpAny_pure (wpAny_bind (Looks.here (s := { s with toks := s.toks + 1 }) L0 (wpAny_bind (Looks.here (s := { s with toks := s.toks + 1 }) L1 ?_)))))
  refine wpAny_pure ?_
  show wpAny _ _ (handedOut v) _ _ _
  rw [handedOut_of hh]; exact wpAny_pure h
theorem class_exc {Q : Option Value → Shared → Prop} (X : K.In s.heap) (I : InstAt s.heap x ox C od) (hp : L2.excIn K C = true) (hga : findIn K (.ref C) "__getattribute__" = some (some (.builtin "BaseException.__getattribute__"))) (hk : findIn K (.ref C) "__getattr__" = some none)
    (hf : findObj K C od "__class__" = some (.bind (.builtin "getset_descriptor.__get__") (.builtin "object.__class__"))) (hm : mroIn K C (.type "object") = some true) (h : Q (some (.ref C)) { s with toks := s.toks + 1 }) : wpAny (model prog w) A (getAttr? (.ref x) "__class__") Q E s := by
  unfold getAttr? getAttrBy?
  refine wpAny_bind (wpAny_mkText (wpAny_bind (wpAny_attempt (ga_by (s := { s with toks := s.toks + 1 }) X I hp hga hk ?_))))
  have L0 := I.type (M := model prog w)
  have L1 := looks_find (M := model prog w) X I hf
  refine wpAny_bind (wpAny_of_eq (show slotArgs "__getattribute__" 1 ⟨[.ref x, .str "__class__" s.toks], []⟩ = pure (.ref x, [.str "__class__" s.toks]) from rfl) ?_)
  refine wpAny_bind (wpAny_pure (wpAny_bind (Looks.here (s := { s with toks := s.toks + 1 }) L0 (wpAny_bind (Looks.here (s := { s with toks := s.toks + 1 }) L1 ?_)))))
  show wpAny _ _ (holding [.builtin "object.__class__"] (call (.builtin "getset_descriptor.__get__") [.builtin "object.__class__", .ref x, .ref C]) >>= ret) _ _ _
  refine wpAny_bind (wpAny_holding (wpAny_call (class_get (s := { s with toks := s.toks + 1 }) (ox := ox) (od := od) X I hm ?_)))
  exact wpAny_pure (handed_on rfl (wpAny_pure h))
end
end L2
namespace L2
open PySem PySem.Spec PyProof.Rows PySem.W
def ExcN (C x : Addr) : HO := .ext fun h => ∃ vs sl, h.get? x = some ⟨.ref C, none, .fields vs, sl⟩ ∧ vs[1]? = some Value.none
def ExcO (C dx x : Addr) : HO := .ext fun h => ∃ vs sl, h.get? x = some ⟨.ref C, some dx, .fields vs, sl⟩ ∧ vs[1]? = some Value.none
/-- .. that has been raised -/
def ExcT (C : Addr) (d : Option Addr) (x T : Addr) : HO := .ext fun h => ∃ vs sl, h.get? x = some ⟨.ref C, d, .fields vs, sl⟩ ∧ vs[1]? = some (.ref T)
def ExcD (dx : Addr) (fs : List (Str × V)) : HO := .ext fun h => ∃ mA, h.Ns1 dx mA ∧ (∀ f, RelO (fs.lookup f) (mA f)) ∧ PySem.Within mA (fs.map (·.1))
section
variable {P : Program} {w : World} {H : Hp} {h : Heap} {x C dx : Addr} {fs : List (Str × V)}
theorem excN_ok {vs : Array Value} {sl : Array (Option Value)} (e : h.get? x = some ⟨.ref C, none, .fields vs, sl⟩) (f : vs[1]? = some Value.none) : ObjOk P w H h x (ExcN C x) :=
  ⟨⟨vs, sl, e, f⟩, ⟨_, e⟩, fun _ _ ⟨vs, sl, e, f⟩ k => ⟨vs, sl, k _ e, f⟩⟩
theorem excO_ok {vs : Array Value} {sl : Array (Option Value)} (e : h.get? x = some ⟨.ref C, some dx, .fields vs, sl⟩) (f : vs[1]? = some Value.none) : ObjOk P w H h x (ExcO C dx x) :=
  ⟨⟨vs, sl, e, f⟩, ⟨_, e⟩, fun _ _ ⟨vs, sl, e, f⟩ k => ⟨vs, sl, k _ e, f⟩⟩
theorem excT_ok {d : Option Addr} {T : Addr} {vs : Array Value} {sl : Array (Option Value)} (e : h.get? x = some ⟨.ref C, d, .fields vs, sl⟩) (f : vs[1]? = some (.ref T)) : ObjOk P w H h x (ExcT C d x T) :=
  ⟨⟨vs, sl, e, f⟩, ⟨_, e⟩, fun _ _ ⟨vs, sl, e, f⟩ k => ⟨vs, sl, k _ e, f⟩⟩
theorem excD_ok {mA : Str → Option Value} (n : h.Ns1 dx mA) (r : ∀ f, RelO (fs.lookup f) (mA f)) (wi : PySem.Within mA (fs.map (·.1))) : ObjOk P w H h dx (ExcD dx fs) :=
  ⟨⟨mA, n, r, wi⟩, let ⟨o, _, _, e, _⟩ := n; ⟨o, e⟩, fun _ _ ⟨mA, n, r, wi⟩ k => ⟨mA, n.at k, r, wi⟩⟩
end
/-- what is asked of a refusal's class -/
structure XCls (K : Frag) (C : Addr) : Prop where
  ga : findIn K (.ref C) "__getattribute__" = some (some (.builtin "BaseException.__getattribute__"))
  gh : findIn K (.ref C) "__getattr__" = some none
  hd : hasDictIn K C = true
  sa : findIn K (.ref C) "__setattr__" = some (some (.builtin "object.__setattr__"))
  ex : L2.excIn K C = true
  ca : findIn K (.ref C) "__class__" = some (some (.builtin "object.__class__"))
  gn : specialIn K (.builtin "object.__class__") "__get__" = some (some (.builtin "getset_descriptor.__get__"))
  tk : takesIn K (.builtin "object.__class__") = some true
  mo : mroIn K C (.type "object") = some true
def xclsB (K : Frag) (C : Addr) : Bool := (findIn K (.ref C) "__getattribute__" == some (some (.builtin "BaseException.__getattribute__"))) && (findIn K (.ref C) "__getattr__" == some none) && hasDictIn K C && (findIn K (.ref C) "__setattr__" == some (some (.builtin "object.__setattr__"))) && L2.excIn K C &&
  (findIn K (.ref C) "__class__" == some (some (.builtin "object.__class__"))) && (specialIn K (.builtin "object.__class__") "__get__" == some (some (.builtin "getset_descriptor.__get__"))) &&
  (takesIn K (.builtin "object.__class__") == some true) && (mroIn K C (.type "object") == some true)
theorem XCls.of {K : Frag} {C : Addr} (h : xclsB K C = true) : XCls K C := by
  unfold xclsB at h
  simp only [Bool.and_eq_true, beq_iff_eq] at h
  obtain ⟨⟨⟨⟨⟨⟨⟨⟨a, a'⟩, b⟩, c⟩, d⟩, e⟩, f⟩, g⟩, i⟩ := h
  exact ⟨a, a', b, c, d, e, f, g, i⟩
section
variable {X : Cx} {pins : List (Addr × Obj)} {σ : St} {H : Hp} {s : Shared} {a C dx : Addr} {fs : List (Str × V)} {f : Str} {v : V} {A : Around} {E : Value → Shared → Prop}
theorem ext_ne_own {φ : Heap → Prop} {b c : Addr} (h : H b = some (.ext φ)) : H b ≠ some (.own c) := fun e => by rw [h] at e; cases e
theorem setexc0_ok {y : V} {u : Value} {Q : Unit → Shared → Prop} (I : Inv X pins σ H s) (e : H a = some (ExcN C a)) (c : XCls X.K C) (n : NoAttr X.K C f) (ry : RelV y u)
    (h : ∀ s' d, H d = none → Inv X pins σ (upd (upd H d (ExcD d [(f, y)])) a (ExcO C d a)) s' → Q () s') : wpAny (model X.prog X.w) A (setAttr (.ref a) f u) Q E s := by
  obtain ⟨⟨vs, sl, hx, hv1⟩, _⟩ := (show ObjOk X.prog X.w H s.heap a (ExcN C a) from I.hok a _ e)
  refine set_exc0 I.kIn hx c.sa c.ex c.hd n fun h' h1 h2 k => ?_
  have hn : H s.heap.objs.size = none := I.hok.fresh (Nat.le_refl _)
  have nea : s.heap.objs.size ≠ a := Ne.symm (ne_of_none e hn)
  refine h _ s.heap.objs.size hn ?_
  have e' : ∀ b o, H b = some o → b ≠ s.heap.objs.size := fun b o q => ne_of_none q hn
  have lt : ∀ b o, s.heap.get? b = some o → b ≠ s.heap.objs.size := fun b o q => Nat.ne_of_lt (Heap.lt_size q)
  have na : ∀ b o, H b = some o → (∀ φ, o ≠ .ext φ) → b ≠ a := fun b o q z t => by subst t; rw [e] at q; cases q; exact z _ rfl
  refine I.un (h' := h') (t' := s.toks + 2) ⟨fun b o q m _ _ => k b o (fun z => by rw [z, e] at m; cases m) q, fun b o q m _ _ => ⟨o.slots, k b o (fun z => by rw [z, e] at m; cases m) q⟩,
    fun b o q m _ => by rw [upd_ne (fun z => by rw [z, e] at m; cases m), upd_ne (lt b o q)]; exact m, fun b o q _ => ?_, fun b xs q => by rw [upd_ne (na b _ q (fun φ z => by cases z)), upd_ne (e' b _ q)]; exact q,
    fun b o u q => by rw [upd_ne (na b _ q (fun φ z => by cases z)), upd_ne (e' b _ q)]; exact q, fun b ps q => ⟨#[], by rw [upd_ne (na b _ q (fun φ z => by cases z)), upd_ne (e' b _ q), q]; simp⟩⟩ fun b o q => ?_
  · by_cases hb : b = a
    · subst hb; exact ⟨_, h1⟩
    · exact ⟨o, k b o hb q⟩
  · by_cases hb : b = a
    · subst hb; rw [upd_same] at q; cases q; exact excO_ok h1 hv1
    · rw [upd_ne hb] at q
      by_cases hd : b = s.heap.objs.size
      · subst hd; rw [upd_same] at q; cases q
        refine excD_ok h2 (fun g => ?_) fun g hg => ?_
        · show RelO (List.lookup g [(f, y)]) (if g = f then some u else none)
          by_cases q : g = f
          · have hb : (g == f) = true := beq_iff_eq.mpr q
            rw [if_pos q]; simp only [List.lookup, hb]; exact ry
          · have hb : (g == f) = false := beq_eq_false_iff_ne.mpr q
            rw [if_neg q]; simp only [List.lookup, hb]; exact True.intro
        · by_cases q : g = f
          · rw [q]; simp
          · exact absurd (if_neg q) hg
      · rw [upd_ne hd] at q
        refine (I.hok b o q).stay (fun cc w' hc z => k cc w' ?_ z) (fun cc z => ?_) fun cc xs z => ?_
        · rcases hc with rfl | hc
          · exact hb
          · exact fun t => ext_ne_own e (t ▸ hc)
        · rw [upd_ne (fun t => ext_ne_own e (t ▸ z)), upd_ne (e' cc _ z)]; exact z
        · rw [upd_ne (na cc _ z (fun φ t => by cases t)), upd_ne (e' cc _ z)]; exact z
theorem setexc_ok {y : V} {u : Value} {Q : Unit → Shared → Prop} (I : Inv X pins σ H s) (e : H a = some (ExcO C dx a)) (ed : H dx = some (ExcD dx fs)) (c : XCls X.K C) (n : NoAttr X.K C f) (hl : fs.length < 1000) (ry : RelV y u)
    (h : ∀ s', Inv X pins σ (upd H dx (ExcD dx (putF f y fs))) s' → Q () s') : wpAny (model X.prog X.w) A (setAttr (.ref a) f u) Q E s := by
  obtain ⟨⟨vs, sl, hx, _⟩, _⟩ := (show ObjOk X.prog X.w H s.heap a (ExcO C dx a) from I.hok a _ e)
  obtain ⟨⟨mA, hn, r, wi⟩, _⟩ := (show ObjOk X.prog X.w H s.heap dx (ExcD dx fs) from I.hok dx _ ed)
  have hne : dx ≠ a := fun z => by
    subst z
    obtain ⟨o, es, ep, ho, hd, _⟩ := hn
    rw [hx] at ho
    cases ho
    cases hd
  have hz : (fs.map (·.1)).length ≤ sizeLine := by rw [List.length_map, sizeLine_eq]; first | lia | omega
  refine set_exc I.kIn hx hn hne c.sa c.ex c.hd n wi hz fun h' h1 h2 sb => h _ ?_
  have hd : ∃ o, h'.get? dx = some o := let ⟨o, _, _, e', _⟩ := h2; ⟨o, e'⟩
  refine I.write (x := dx) (e := dx) (t' := s.toks + 2) (by rw [ed]; exact True.intro) (.inl rfl) (fun b q hb z => (sb.2 b hb).trans z) hd (excD_ok h2 (fun g => ?_) fun g hg => ?_)
  · show RelO ((putF f y fs).lookup g) (if g = f then some u else mA g)
    rw [lookup_putF]
    by_cases q : g = f
    · rw [if_pos q, if_pos q]; exact ry
    · rw [if_neg q, if_neg q]; exact r g
  · by_cases q : g = f
    · rw [q]; exact (keys_putF f y fs).1
    · refine (keys_putF f y fs).2 g (wi g fun z => hg ?_)
      show (if g = f then some u else mA g) = none
      rw [if_neg q]; exact z
/-- a refusal with its attributes' dict at dx: new, or raised -/
def XAt (H : Hp) (C dx a : Addr) : Prop := H a = some (ExcO C dx a) ∨ ∃ T, H a = some (ExcT C (some dx) a T)
theorem XAt.same {H' : Hp} (h : XAt H C dx a) (s : Same H H') : XAt H' C dx a := h.imp (fun z => s _ _ z) fun ⟨T, z⟩ => ⟨T, s _ _ z⟩
theorem XAt.obj (I : Inv X pins σ H s) (h : XAt H C dx a) : ∃ vs sl, s.heap.get? a = some ⟨.ref C, some dx, .fields vs, sl⟩ := by
  rcases h with h | ⟨T, h⟩
  · obtain ⟨⟨vs, sl, hx, _⟩, _⟩ := (show ObjOk X.prog X.w H s.heap a (ExcO C dx a) from I.hok a _ h)
    exact ⟨vs, sl, hx⟩
  · obtain ⟨⟨vs, sl, hx, _⟩, _⟩ := (show ObjOk X.prog X.w H s.heap a (ExcT C (some dx) a T) from I.hok a _ h)
    exact ⟨vs, sl, hx⟩
theorem getexc_ok {b : Bool} {Q : Value → Shared → Prop} (I : Inv X pins σ H s) (e : XAt H C dx a) (ed : H dx = some (ExcD dx fs)) (c : XCls X.K C) (n : NoAttr X.K C f) (l : fs.lookup f = some v)
    (h : ∀ u s', Inv X pins σ H s' → RelV v u → Q u s') : wpAny (model X.prog X.w) A (getAttr (.ref a) f b) Q E s := by
  obtain ⟨vs, sl, hx⟩ := e.obj I
  obtain ⟨⟨mA, hn, r, wi⟩, _⟩ := (show ObjOk X.prog X.w H s.heap dx (ExcD dx fs) from I.hok dx _ ed)
  obtain ⟨u, hu, ru⟩ := RelO.some_of (v := v) (o := mA f) (by rw [← l]; exact r f)
  obtain ⟨od, ho, hl⟩ := lookIn_ns hn
  have J : InstAt s.heap a ⟨.ref C, some dx, .fields vs, sl⟩ C (some od) := ⟨hx, rfl, rfl, ho⟩
  exact get_exc I.kIn J c.ex c.ga c.gh (findObj_own c.hd n rfl (by rw [hl, hu])) (handed_of ru) (h u _ (I.tok _) ru)
end
theorem kitx_exc {K : Frag} {x D : Addr} (c : XCls K D) : KitX K (.ref x) (.ref D) (fun h => ∃ (ox : Obj) (od : Option Obj), InstAt h x ox D od) where
  ty := fun _ _ _ ⟨_, _, I⟩ => I.type
  it := fun _ _ X _ => by
    obtain ⟨cdD, hcD, _⟩ := any_some c.hd
    unfold clsIn at hcD
    split at hcD
    · rename_i c' d' cd' sl' ho
      intro A' Q' E' s' k q
      unfold isType loadHead
      exact wpAny_bind (wpAny_loadPart (k _ _ (X _ _ ho)) (wpAny_pure q))
    · cases hcD
  ne := fun h tp dd its n sl X htp => by
    obtain ⟨cdD, hcD, _⟩ := any_some c.hd
    refine Bool.eq_false_iff.mpr fun q => ?_
    have e : D = tp := Value.ref.inj (beq_iff_eq.mp q)
    subst e
    unfold clsIn at hcD
    split at hcD
    · rename_i c' d' cd' sl' ho
      have z := (X _ _ ho).symm.trans htp
      cases z
    · cases hcD
  ca := fun {prog w A E Q s} X ⟨ox, od, I⟩ h => by
    have hf : findObj K D od "__class__" = some (.bind (.builtin "getset_descriptor.__get__") (.builtin "object.__class__")) := by
      obtain ⟨cd, hc, _⟩ := any_some c.hd
      unfold findObj
      rw [hc, Option.bind_some, c.ca, Option.bind_some]
      simp [c.gn, c.tk]
    exact class_exc X I c.ex c.ga c.gh hf c.mo h
/-- a refusal stands at a, of the class at C -/
def IsExc (H : Hp) (a C : Addr) : Prop := (∃ dx fs, XAt H C dx a ∧ H dx = some (ExcD dx fs)) ∨ H a = some (ExcN C a) ∨ ∃ T, H a = some (ExcT C none a T)
theorem IsExc.same {H H' : Hp} {a C : Addr} (h : IsExc H a C) (s : Same H H') : IsExc H' a C := by
  rcases h with ⟨dx, fs, h1, h2⟩ | h | ⟨T, h⟩
  · exact .inl ⟨dx, fs, h1.same s, s _ _ h2⟩
  · exact .inr (.inl (s _ _ h))
  · exact .inr (.inr ⟨T, s _ _ h⟩)
section
variable {X : Cx}
theorem isexc_inst {pins : List (Addr × Obj)} {σ : St} {H : Hp} {s : Shared} {a C : Addr} (I : Inv X pins σ H s) (h : IsExc H a C) : ∃ (ox : Obj) (od : Option Obj), InstAt s.heap a ox C od := by
  rcases h with ⟨dx, fs, h1, h2⟩ | h | ⟨T, h⟩
  · obtain ⟨vs, sl, hx⟩ := h1.obj I
    obtain ⟨⟨mA, hn, _⟩, _⟩ := (show ObjOk X.prog X.w H s.heap dx (ExcD dx fs) from I.hok dx _ h2)
    obtain ⟨o, _, _, ho, _⟩ := hn
    exact ⟨_, some o, ⟨hx, rfl, rfl, ho⟩⟩
  · obtain ⟨⟨vs, sl, hx, _⟩, _⟩ := (show ObjOk X.prog X.w H s.heap a (ExcN C a) from I.hok a _ h)
    exact ⟨_, none, ⟨hx, rfl, rfl, trivial⟩⟩
  · obtain ⟨⟨vs, sl, hx, _⟩, _⟩ := (show ObjOk X.prog X.w H s.heap a (ExcT C none a T) from I.hok a _ h)
    exact ⟨_, none, ⟨hx, rfl, rfl, trivial⟩⟩
/-- isinstance(e, C) of a refusal, C an own class or a built-in one -/
theorem call_isinX : CallR X (.builtin "isinstance") (fun xs H Q => ∃ a C c u b, xs = [.ref a, c] ∧ IsExc H a C ∧ XCls X.K C ∧ RelV c u ∧ (∀ u', RelV c u' → u' = u) ∧ kitOne X.K (.ref C) u = some b ∧ Q (.bl b) H) := by
  intro pins s σ H xs us Q I r h
  obtain ⟨a, C, c, u, b, rfl, he, hc, ru, uq, hk, q⟩ := h
  obtain ⟨v1, v2, rfl, r1, r2⟩ := vals2 r
  cases r1
  have := uq v2 r2
  subst this
  exact kia_one (kitx_exc hc) I.kIn (isexc_inst I he) hk (fun z => nomatch z) fun tk => ⟨.bl b, H, I.tok tk, rfl, q⟩
end
def tXFld (K : Frag) (ta : TE) (f : Str) : TE := fun σ H Q => ta σ H fun x H1 => ∃ a C dx fs v, x = .ref a ∧ XAt H1 C dx a ∧ H1 dx = some (ExcD dx fs) ∧ XCls K C ∧ NoAttr K C f ∧ fs.lookup f = some v ∧ Q v H1
def sXFld (K : Frag) (ta tv : TE) (f : Str) : TS := fun D σ H => tv σ H fun y H1 => ta σ H1 fun x H2 => ∃ a C, x = .ref a ∧ XCls K C ∧ NoAttr K C f ∧
  ((H2 a = some (ExcN C a) ∧ ∀ d, H2 d = none → D.nx σ (upd (upd H2 d (ExcD d [(f, y)])) a (ExcO C d a))) ∨ ∃ dx fs, H2 a = some (ExcO C dx a) ∧ H2 dx = some (ExcD dx fs) ∧ fs.length < 1000 ∧ D.nx σ (upd H2 dx (ExcD dx (putF f y fs))))
section
variable {X : Cx} {o e value : Expr} {f : Str} {pos pos' : Pos} {ta tv : TE}
theorem pe_xfld (he : PE X e ta) (hb : attributeBase e f X.env (eval e X.env) = eval e X.env) : PE X (.Attribute e f pos) (tXFld X.K ta f) := by
  intro pins s σ H Q I h
  refine attr_of hb (thn (he pins s σ H _ I h) fun u s1 hz_ => ?_)
  obtain ⟨x, H1, I1, rx, a, C, dx, fs, v, ex, ea, ed, c, n, l, q⟩ := hz_
  subst ex
  obtain rfl : u = Value.ref a := rx
  exact getexc_ok I1 ea ed c n l fun u' s2 I2 ru => ⟨v, H1, I2, ru, q⟩
theorem ps_xfld (ha : PE X o ta) (hv : PE X value tv) (hs : swapsWith value (some (.Attribute o f pos')) pos.line X.env = pure false) : PS X (.Assign [.Attribute o f pos'] value pos) (sXFld X.K ta tv f) := by
  intro pins s σ H D I h
  refine plainObj_wpAny_Assign_Attribute (thn (hv pins s σ H _ I h) fun u s1 ⟨y, H1, I1, ry, q⟩ => thn (ha pins s1 σ H1 _ I1 q) fun ov s2 ⟨x, H2, I2, rx, a, C, ex, c, n, q2⟩ => ?_) hs
  subst ex
  obtain rfl : ov = Value.ref a := rx
  rcases q2 with ⟨e0, q2⟩ | ⟨dx, fs, e1, e2, l, q2⟩
  · exact setexc0_ok I2 e0 c n ry fun s3 d hd I3 => ⟨σ, _, I3, q2 d hd⟩
  · exact setexc_ok I2 e1 e2 c n l ry fun s3 I3 => ⟨σ, _, I3, q2⟩
end
/-- its class, as the top has left it, with an __init__ of its own at fI -/
def excInI (K : Frag) (C : Addr) (fI : Addr) : Bool := match K.lookup C with
  | some ⟨.type "type", _, .cls cd, sl⟩ => (match cd.mro, sl.toList with
    | .ref C' :: bm, [_, _, _, _, some (.builtin n), _] => C' == C && n == "ValueError.__new__" && !cd.hasDel && tailIn K vErr bm && nsOkIn K cd.ns && nsIn K cd.ns "__init__" == some (some (.ref fI))
    | _, _ => false)
  | _ => false
theorem ns_some_of {K : Frag} {h : Heap} {N : Addr} {mg : Str → Option Value} {n : Str} {v : Value} (X : K.In h) (G : h.Ns N mg) (e : nsIn K N n = some (some v)) : mg n = some v := by
  obtain ⟨o, es, ep, ho, hd, _, hf⟩ := G
  unfold nsIn at e
  split at e
  · rename_i c d es' n' sl q
    have := X _ _ q
    rw [ho] at this
    cases this
    cases hd
    split at e
    · rename_i e' he
      cases e
      rw [← hf]
      unfold nsFind findBy
      rw [← Array.find?_toList, he]
      rfl
    · split at e <;> cases e
  · cases e
/-- what is asked of a class to be made by an __init__ of its own -/
structure XMk (K : Frag) (C fI : Addr) : Prop where
  cl : XCls K C
  ei : excInI K C fI = true
  kp : keepIn K (.ref C) = true
  fn : isFn K (.ref fI) = true
theorem XMk.call {K : Frag} {C fI : Addr} (M : XMk K C fI) {prog : Program} {w : World} {A : Around} {E : Value → Shared → Prop} {s : Shared} {rest : List Value} {Q : Value → Shared → Prop} (X : K.In s.heap) (hrest : rest.length ≤ sizeLine)
    (hq : wpAny (model prog w) (A.under (.builtin "type.__call__" ⟨.ref C :: rest, []⟩)) (call (.ref fI) (.ref (s.heap.objs.size + 1) :: rest)) (fun r s' => r = .none ∧ Q (.ref (s.heap.objs.size + 1)) s') E { s with heap := rawExc s.heap C rest }) :
    wpAny (model prog w) A (call (.ref C) rest) Q E s := by
  obtain ⟨hh, g, d, t, os⟩ := s
  have q := M.ei
  have fnt : typeIn K (.ref fI) = some (.type "function") := beq_iff_eq.mp M.fn
  have hfI : ∃ oI : Obj, hh.get? fI = some oI ∧ oI.cls = .type "function" := by
    cases z : K.lookup fI with
    | none => simp [typeIn, z] at fnt
    | some o => exact ⟨o, X _ _ z, by simpa [typeIn, z] using fnt⟩
  obtain ⟨oI, hoI, hcI⟩ := hfI
  unfold excInI at q
  split at q
  · rename_i dd cd sl ho
    split at q
    · rename_i C' bm k0 k1 k2 k3 n k5 hm hs
      simp only [Bool.and_eq_true, beq_iff_eq, Bool.not_eq_true'] at q
      obtain ⟨⟨⟨⟨⟨rfl, rfl⟩, hdel⟩, ht⟩, hok⟩, hni⟩ := q
      obtain ⟨nm, bs, mro, ns, qn, hd, sn, sub, ab, col, del⟩ := cd
      dsimp only at hm hdel hok hni
      subst hm hdel
      have hsl : sl = #[k0, k1, k2, k3, some (.builtin "ValueError.__new__"), k5] := by
        obtain ⟨l⟩ := sl
        simp only at hs
        rw [hs]
      subst hsl
      have G : hh.Ns ns (hh.nsMap ns) := .of_isNs (isNs_of_in X hok)
      exact call_excT PySem.F.excBase_ValueError (tail_of_in X ht) (X _ _ ho) G (ns_some_of X G hni) hoI hcI hrest hq
    · cases q
  · cases q
end L2
namespace L2
open PySem PySem.Spec PyProof.Rows PySem.W
theorem ObjOk.there {P : Program} {w : World} {H : Hp} {h : Heap} {a : Addr} {o : HO} (x : ObjOk P w H h a o) : ∃ u, h.get? a = some u := by
  cases o with
  | lst xs => obtain ⟨_, _, _, _, e⟩ := x; exact ⟨_, e⟩
  | tup xs => obtain ⟨_, _, _, p⟩ := x; obtain ⟨_, e, _⟩ := p; exact ⟨_, e⟩
  | dK kvs => obtain ⟨_, _, _, _, o, _, _, e, _⟩ := x; exact ⟨_, e⟩
  | dT kvs => obtain ⟨_, _, _, _, o, _, _, e, _⟩ := x; exact ⟨_, e⟩
  | set S n => obtain ⟨o, _, _, _, e, _⟩ := x; exact ⟨_, e⟩
  | ins C dx fs => obtain ⟨_, _, _, e, _⟩ := x; exact ⟨_, e⟩
  | own y => obtain ⟨_, e⟩ := x; exact ⟨_, e⟩
  | xd fs => obtain ⟨_, ⟨_, _, _, e, _⟩, _⟩ := x; exact ⟨_, e⟩
  | rng lo hi => obtain ⟨_, _, _, e⟩ := x; exact ⟨_, e⟩
  | frz ob u => obtain ⟨e, _⟩ := x; exact ⟨_, e⟩
  | tbl ps => exact ⟨_, (show h.get? a = some _ from x)⟩
  | met f y => exact ⟨_, (show h.get? a = some _ from x)⟩
  | ext φ => obtain ⟨_, ⟨_, e⟩, _⟩ := x; exact ⟨_, e⟩
/-- the promise of its __init__ -/
def sp_x (C : Addr) (names : List Str) : Sp := fun vs H Q _ => ∃ x ws, vs = .ref x :: ws ∧ ws.length = names.length ∧ H x = some (ExcN C x) ∧
  ∀ d H', H d = none → H' x = some (ExcO C d x) → H' d = some (ExcD d (names.zip ws)) → (∀ a o, a ≠ x → H a = some o → H' a = some o) → Q .non H'
structure XMkOk (P : Program) (w : World) (K : PySem.W.Frag) (mg : Str → Option Value) (base : Heap) (k : Nat) (x : Str) (C : Addr) (ps names : List Str) : Prop where
  few : names.length ≤ 1000
  ex : ∃ (f : Addr) (fd : FuncData), XMk K C f ∧ FnOk P w K mg base CX0 k f fd ps (sp_x C names) ∧ mg x = some (.ref C) ∧ Binds K fd ps []
section
variable {X : Cx} {CX : CXT} {k j : Nat} {f C : Addr} {fd : FuncData} {ps names : List Str} {sp : Sp} {E : XK} {x m : Str} {p pos apos : Pos} {e o : Expr} {es : List Expr} {ta : TE} {t : TA}
theorem run_xmk {pins : List (Addr × Obj)} {σ : St} {H : Hp} {s : Shared} {Q : VK} {us : List Value} {vs : List V} (M : XMk X.K C f) (F : FnOk X.prog X.w X.K X.mg X.base CX k f fd ps sp) (hr : Room (k + 1) X.A) (hb : Binds X.K fd ps [])
    (hx : Passes CX X E) (I : Inv X pins σ H s) (r : Vals vs us) (hz : vs.length ≤ 1000)
    (h : ∀ x, H x = none → sp (.ref x :: vs) (upd H x (ExcN C x)) (fun v H2 => v = .non ∧ Q (.ref x) H2) E) :
    wpAny (model X.prog X.w) X.A (call (.ref C) us) (EP X pins σ Q) X.xe s := by
  have hq := h (s.heap.objs.size + 1) (I.hok.fresh (Nat.le_succ _))
  have hus : us.length ≤ sizeLine := by rw [← r.length, sizeLine_eq]; first | lia | omega
  have I2 : Inv X pins σ (upd H (s.heap.objs.size + 1) (ExcN C (s.heap.objs.size + 1))) { s with heap := rawExc s.heap C us } :=
    I.laid (t' := s.toks) (fun b u z => rawExc_keep z) (Nat.le_succ _) (excN_ok (rawExc_at C us) rfl)
  have r2 : Vals (V.ref (s.heap.objs.size + 1) :: vs) (Value.ref (s.heap.objs.size + 1) :: us) := .cons rfl r
  have hl : (Value.ref (s.heap.objs.size + 1) :: us ++ []).length = ps.length := by
    have e := r2.length
    rw [F.len _ _ _ _ hq] at e
    rw [List.append_nil]
    exact e.symm
  have hb2 := hb { s with heap := rawExc s.heap C us } (Value.ref (s.heap.objs.size + 1) :: us) I2.kIn hl
  rw [List.append_nil] at hb2
  refine M.call I.kIn hus (wpAny_call (codeAny_mono (F.run _ X.stack _ _ ⟨Value.ref (s.heap.objs.size + 1) :: us, []⟩ (Value.ref (s.heap.objs.size + 1) :: us) _ _ E (hr.make C us [])
    (I2.env0.make C us []) hb2 r2 hq) fun r s' hq' => ?_))
  cases r with
  | error e => exact hx pins σ _ _ e s' I2 hq'
  | ok fl =>
    cases fl with
    | ret u =>
      obtain ⟨v, H', I3, rv, ev, q3⟩ := I2.after hq'
      subst ev
      exact ⟨rv, ⟨V.ref (s.heap.objs.size + 1), H', I3, rfl, q3⟩⟩
    | next => exact False.elim hq'
    | brk => exact False.elim hq'
    | cont => exact False.elim hq'
end
end L2
namespace L2
open PySem PySem.Spec PyProof.Rows PySem.W
/-- what noting the frame leaves: a new traceback at T, the exception's field, the frames' slots; the older traceback at those of tt may have changed -/
structure NoteTo (fr tt : List Addr) (e T : Addr) (fl cls : Value) (d : Option Addr) (h h' : Heap) : Prop where
  nT : h.get? T = none
  keep : ∀ b o, b ≠ e → b ∉ fr → b ∉ tt → h.get? b = some o → h'.get? b = some o
  slot : ∀ b o, b ∈ fr → h.get? b = some o → ∃ sl, h'.get? b = some { o with slots := sl }
  exc : ∃ vs sl, h'.get? e = some ⟨cls, d, .fields vs, sl⟩ ∧ vs[1]? = some (.ref T)
  tb : ∃ o ts, h'.get? T = some o ∧ o.data = .fields ts ∧ ts[3]? = some fl
  old : ∀ t o ts, t ∈ tt → t ≠ e → h.get? t = some o → o.data = .fields ts → 3 < ts.size → ∃ o' ts', h'.get? t = some o' ∧ o'.data = .fields ts' ∧ ts'[3]? = some Value.none
section
variable {M : Model} {A : Around} {E : Value → Shared → Prop} {s : Shared} {base : Heap} {env : Env} {outer : List Env} {L e : Addr} {cls : Value} {d : Option Addr} {vs : Array Value} {sl : Array (Option Value)} {Q : Unit → Shared → Prop}
theorem note_entry {head : Value} {hadNext : Bool} (hfr : A.frames = some (env :: outer)) (hl : s.heap.FunFrames base (env :: outer)) (hf : env.frame = some L) (he : s.heap.get? e = some ⟨cls, d, .fields vs, sl⟩) (hsz : 1 < vs.size)
    (h : ∀ h' T, NoteTo (frs (env :: outer)) [] e T (rawInt L) cls d s.heap h' → Q () { s with heap := h' }) :
    wpAny M A (do
      let a ← frameOf env
      let pl ← entryPlaceOf L hadNext
      let b ← EntryCells.newEntry head a .none (rawInt L) .none pl
      setField (.ref e) 1 b) Q E s := by
  have hne : e ∉ frs (env :: outer) := fun hm => by
    obtain ⟨_, o, ho, hnf⟩ := hl.mem hm
    rw [he] at ho; cases ho; exact hnf vs rfl
  refine wpAny_bind (wpAny_frameOf_fun hfr hl hf fun h₁ hs => wpAny_bind (wpAny_entryPlaceOf fun pl hpl => ?_))
  unfold EntryCells.newEntry newFields
  refine wpAny_bind (wpAny_newObj_type ?_ (hpl.sizeOk5 _ _ _ _ _))
  have e1 : h₁.get? e = some ⟨cls, d, .fields vs, sl⟩ := (hs.2.1 e hne).trans he
  generalize hob : ({ cls := .type "traceback", dict := none, data := .fields ([head, .ref L, .none, rawInt L, .none] ++ (if pl.isEmpty then List.replicate 6 Value.none else pl)).toArray } : Obj) = ob
  have hfb : ob.isFreed = false := by rw [← hob]; rfl
  have e2 := Heap.get?_push_of_some (h := h₁) ob e1
  refine wpAny_setField e2 rfl hsz (h _ h₁.objs.size ?_)
  have nTe : h₁.objs.size ≠ e := Nat.ne_of_gt (Heap.lt_size e1)
  have kp : ∀ b o, b ≠ e → h₁.get? b = some o → ((h₁.push ob).update e (Obj.mapFields (·.setIfInBounds 1 (Value.ref h₁.objs.size)))).get? b = some o := fun b o nb hb => by
    rw [Heap.get?_update_other _ _ (Ne.symm nb)]; exact Heap.get?_push_of_some _ hb
  refine ⟨Heap.get?_none_of_le (Nat.le_of_eq hs.1.symm), fun b o nb nf _ hb => kp b o nb ((hs.2.1 b nf).trans hb), fun b o bf hb => ?_, ⟨vs.setIfInBounds 1 (.ref h₁.objs.size), sl, ?_, by simp [hsz]⟩, ⟨ob, ([head, .ref L, .none, rawInt L, .none] ++ (if pl.isEmpty then List.replicate 6 Value.none else pl)).toArray, ?_, by rw [← hob], ?_⟩, fun _ _ _ z => nomatch z⟩
  · obtain ⟨sl', z⟩ := hs.2.2 b o hb
    exact ⟨sl', kp b _ (fun q => hne (q ▸ bf)) z⟩
  · exact Heap.get?_update_self _ e2 rfl
  · rw [Heap.get?_update_other _ _ (Ne.symm nTe)]; exact Heap.get?_push_size _ hfb
  · simp
theorem note_new (hfr : A.frames = some (env :: outer)) (hl : s.heap.FunFrames base (env :: outer)) (hf : env.frame = some L) (he : s.heap.get? e = some ⟨cls, d, .fields vs, sl⟩) (h1 : vs[1]? = some Value.none)
    (h : ∀ h' T, NoteTo (frs (env :: outer)) [] e T (rawInt L) cls d s.heap h' → Q () { s with heap := h' }) : wpAny M A (noteFrame (.ref e) env) Q E s := by
  unfold noteFrame
  simp only [hf]
  refine wpAny_bind (wpAny_field he rfl h1 ?_)
  rw [if_neg (by decide)]
  exact note_entry hfr hl hf he (Array.getElem?_eq_some_iff.mp h1).1 h
theorem note_next {T1 : Addr} {oT : Obj} {ts : Array Value} (hfr : A.frames = some (env :: outer)) (hl : s.heap.FunFrames base (env :: outer)) (hf : env.frame = some L) (he : s.heap.get? e = some ⟨cls, d, .fields vs, sl⟩) (h1 : vs[1]? = some (.ref T1))
    (hT : s.heap.get? T1 = some oT) (hd : oT.data = .fields ts) (h3 : ts[3]? = some Value.none) (ne : T1 ≠ e)
    (h : ∀ h' T, NoteTo (frs (env :: outer)) [T1] e T (rawInt L) cls d s.heap h' → Q () { s with heap := h' }) : wpAny M A (noteFrame (.ref e) env) Q E s := by
  unfold noteFrame
  simp only [hf]
  refine wpAny_bind (wpAny_field he rfl h1 ?_)
  rw [if_pos (show (Value.ref T1 != Value.none) = true from by simp)]
  refine wpAny_bind (wpAny_field hT hd h3 ?_)
  rw [if_neg (show ¬ ((Value.none == rawInt L) = true) from by simp [rawInt])]
  have hs3 : 3 < ts.size := (Array.getElem?_eq_some_iff.mp h3).1
  refine wpAny_bind (wpAny_setField hT hd hs3 ?_)
  have oth : ∀ b, b ≠ T1 → (s.heap.update T1 (Obj.mapFields (·.setIfInBounds 3 Value.none))).get? b = s.heap.get? b := fun b hb => Heap.get?_update_other _ _ (Ne.symm hb)
  have nT1 : T1 ∉ frs (env :: outer) := fun hm => by
    obtain ⟨_, o, ho, hnf⟩ := hl.mem hm
    rw [hT] at ho; cases ho; exact hnf ts hd
  have self : (s.heap.update T1 (Obj.mapFields (·.setIfInBounds 3 Value.none))).get? T1 = some (Obj.mapFields (·.setIfInBounds 3 Value.none) oT) := Heap.get?_update_self _ hT (Obj.isFreed_of_fields (Obj.data_mapFields hd _))
  refine note_entry (s := { s with heap := s.heap.update T1 (Obj.mapFields (·.setIfInBounds 3 Value.none)) }) hfr (hl.of_keeps fun b o hb hnf => ⟨o, (oth b fun q => ?_).trans hb, rfl⟩) hf ((oth e (Ne.symm ne)).trans he) (Array.getElem?_eq_some_iff.mp h1).1 fun h' T n => h h' T ?_
  · rw [q, hT] at hb; cases hb; exact hnf ts hd
  · have nT' : s.heap.get? T = none := by
      by_cases q : T = T1
      · have := n.nT; rw [q] at this; rw [self] at this; cases this
      · rw [← oth T q]; exact n.nT
    refine ⟨nT', fun b o nb nf nt hb => n.keep b o nb nf (by simp) ((oth b (by simpa using nt)).trans hb), fun b o bf hb => n.slot b o bf ((oth b fun q => nT1 (q ▸ bf)).trans hb), n.exc, n.tb, fun t o us ht hte hb hdo hsz => ?_⟩
    obtain rfl : t = T1 := by simpa using ht
    rw [hT] at hb; cases hb
    rw [hd] at hdo; cases hdo
    exact ⟨_, _, n.keep t _ hte nT1 (by simp) self, Obj.data_mapFields hd _, by simp [hs3]⟩
/-- the mark of flight is taken off -/
theorem flight_off {T : Addr} {oT : Obj} {ts : Array Value} (he : s.heap.get? e = some ⟨cls, d, .fields vs, sl⟩) (h1 : vs[1]? = some (.ref T)) (hT : s.heap.get? T = some oT) (hd : oT.data = .fields ts) (hs3 : 3 < ts.size)
    (h : ∀ h', (∀ b, b ≠ T → h'.get? b = s.heap.get? b) → (∃ o' ts', h'.get? T = some o' ∧ o'.data = .fields ts' ∧ ts'[3]? = some Value.none) → Q () { s with heap := h' }) : wpAny M A (setFlight (.ref e) none) Q E s := by
  unfold setFlight
  refine wpAny_bind (wpAny_field he rfl h1 ?_)
  rw [if_pos (show (Value.ref T != Value.none) = true from by simp)]
  refine wpAny_setField hT hd hs3 (h _ (fun b hb => Heap.get?_update_other _ _ (Ne.symm hb)) ⟨_, _, Heap.get?_update_self _ hT (Obj.isFreed_of_fields (Obj.data_mapFields hd _)), Obj.data_mapFields hd _, by simp [hs3]⟩)
end
end L2
namespace L2
open PySem PySem.Spec PyProof.Rows PySem.W
section
variable {prog : Program} {w : World} {A : Around} {E : Value → Shared → Prop} {s : Shared} {K : Frag} {C fI e : Addr} {d : Option Addr} {env : Env}
theorem raise_made {x : Sem Value} {Q : Flow → Shared → Prop} (M : XMk K C fI) (hh : A.handled = none)
    (h : wpAny (model prog w) A x (fun v s₁ => ∃ e d vs sl, v = .ref e ∧ K.In s₁.heap ∧ s₁.heap.get? e = some ⟨.ref C, d, .fields vs, sl⟩ ∧ vs[1]? = some Value.none ∧ E (.ref e) s₁) E s) :
    wpAny (model prog w) A (raiseStmt env (some x) none) Q E s := by
  unfold raiseStmt
  refine wpAny_bind (wpAny_mono h (fun v s₁ h₁ => ?_) fun _ _ x => x)
  obtain ⟨e, d, vs, sl', rfl, X, he, h1, hE⟩ := h₁
  obtain ⟨hp, g, dr, tk, os⟩ := s₁
  have q := M.ei
  unfold excInI at q
  split at q
  · rename_i dd cd sl ho
    split at q
    · rename_i C' bm k0 k1 k2 k3 n k5 hm hs
      simp only [Bool.and_eq_true, beq_iff_eq, Bool.not_eq_true'] at q
      obtain ⟨⟨⟨⟨⟨rfl, rfl⟩, hdel⟩, ht⟩, hok⟩, hni⟩ := q
      obtain ⟨nm, bs, mro, ns, qn, hd, sn, sub, ab, col, del⟩ := cd
      dsimp only at hm hdel hok hni
      subst hm hdel
      have hsl : sl = #[k0, k1, k2, k3, some (.builtin "ValueError.__new__"), k5] := by
        obtain ⟨l⟩ := sl
        simp only at hs
        rw [hs]
      subst hsl
      have hC : hp.get? C' = some (excClassObj nm qn C' ns bs bm hd sn sub ab col dd k0 k1 k2 k3 k5 "ValueError.__new__") := X _ _ ho
      have hcB : (Value.ref C' :: bm).contains (.type "BaseException") = true := by
        rw [List.contains_cons, (tail_of_in X ht).hasType (show vErr.contains (.type "BaseException") = true by decide +kernel)]; exact Bool.or_true _
      repeat (first | with_reducible refine wpAny_field he rfl h1 ?_ | with_reducible refine wpAny_loadPart_at he ?_ | with_reducible refine wpAny_loadPart_at hC ?_ | (with_reducible refine wpAny_isSubtype_exc hC ?_; rw [hcB]) | wp_step)
      exact wpAny_raiseNew_none hh hE
    · cases q
  · cases q
end
end L2
namespace L2
open PySem PySem.Spec PyProof.Rows PySem.W
def TbO (T : Addr) : HO := .ext fun h => ∃ o ts, h.get? T = some o ∧ o.data = .fields ts ∧ ts[3]? = some Value.none
theorem tbO_ok {P : Program} {w : World} {H : Hp} {h : Heap} {T : Addr} (t : ∃ o ts, h.get? T = some o ∧ o.data = .fields ts ∧ ts[3]? = some Value.none) : ObjOk P w H h T (TbO T) :=
  ⟨t, let ⟨o, _, e, _⟩ := t; ⟨o, e⟩, fun _ _ ⟨o, ts, e, r⟩ k => ⟨o, ts, k _ e, r⟩⟩
def Fresh (H : Hp) (x C : Addr) (d : Option Addr) : Prop := (d = none ∧ H x = some (ExcN C x)) ∨ ∃ dx, d = some dx ∧ H x = some (ExcO C dx x)
def Flown (H : Hp) (x C : Addr) (d : Option Addr) (T : Addr) : Prop := H x = some (ExcT C d x T) ∧ H T = some (TbO T) ∧ T ≠ x
def thrown (H : Hp) (x C : Addr) (d : Option Addr) (T : Addr) : Hp := upd (upd H T (TbO T)) x (ExcT C d x T)
theorem thrown_x {H : Hp} {x C T : Addr} {d : Option Addr} : thrown H x C d T x = some (ExcT C d x T) := upd_same
theorem thrown_T {H : Hp} {x C T : Addr} {d : Option Addr} (n : T ≠ x) : thrown H x C d T T = some (TbO T) := by unfold thrown; rw [upd_ne n, upd_same]
theorem thrown_ne {H : Hp} {x C T b : Addr} {d : Option Addr} (n : b ≠ x) (m : b ≠ T) : thrown H x C d T b = H b := by unfold thrown; rw [upd_ne n, upd_ne m]
section
variable {X : Cx} {pins : List (Addr × Obj)} {σ : St} {H : Hp} {s : Shared} {x C T : Addr} {d : Option Addr} {h1 h2 : Heap} {fl : Value} {tt : List Addr}
theorem note_un (I : Inv X pins σ H s) {φ : Heap → Prop} (hx : H x = some (.ext φ)) (htt : ∀ t ∈ tt, H t = some (TbO t) ∧ t ≠ x) (n : NoteTo (frs X.stack) tt x T fl (.ref C) d s.heap h1) (k2 : ∀ b, b ≠ T → h2.get? b = h1.get? b)
    (t2 : ∃ o ts, h2.get? T = some o ∧ o.data = .fields ts ∧ ts[3]? = some Value.none) : H T = none ∧ T ≠ x ∧ Un (frs X.stack) [] H (thrown H x C d T) s.heap h2 ∧ HOk X.prog X.w (thrown H x C d T) h2 := by
  have hT : H T = none := by
    cases q : H T with
    | none => rfl
    | some u =>
      obtain ⟨o, ho⟩ := (I.hok T u q).there
      rw [n.nT] at ho; cases ho
  have nTx : T ≠ x := fun z => by rw [z, hx] at hT; cases hT
  have tn : ∀ b o, s.heap.get? b = some o → b ≠ T := fun b o e z => by rw [z, n.nT] at e; cases e
  have un : ∀ b, H b = none → b ≠ x := fun b e z => by rw [z, hx] at e; cases e
  have ut : ∀ b, H b = none → b ∉ tt := fun b e z => by rw [(htt b z).1] at e; cases e
  have hb : ∀ b u, H b = some u → b ≠ T := fun b u e z => by rw [z, hT] at e; cases e
  have old : ∀ t ∈ tt, ∃ o' ts', h2.get? t = some o' ∧ o'.data = .fields ts' ∧ ts'[3]? = some Value.none := fun t ht => by
    obtain ⟨e, ne⟩ := htt t ht
    obtain ⟨⟨o, ts, e1, e2, e3⟩, _⟩ := (show ObjOk X.prog X.w H s.heap t (TbO t) from I.hok t _ e)
    obtain ⟨o', ts', f1, f2, f3⟩ := n.old t o ts ht ne e1 e2 (Array.getElem?_eq_some_iff.mp e3).1
    exact ⟨o', ts', (k2 t (hb t _ e)).trans f1, f2, f3⟩
  have exc : ∃ vs sl, h2.get? x = some ⟨.ref C, d, .fields vs, sl⟩ ∧ vs[1]? = some (.ref T) := by
    obtain ⟨vs, sl, e1, e2⟩ := n.exc
    exact ⟨vs, sl, (k2 x (Ne.symm nTx)).trans e1, e2⟩
  have ne_ext : ∀ b u, H b = some u → (∀ ψ, u ≠ .ext ψ) → b ≠ x := fun b u e z q => by rw [q, hx] at e; cases e; exact z _ rfl
  refine ⟨hT, nTx, ⟨fun b o q e nf _ => ?_, fun b o q e bf _ => ?_, fun b o q e _ => ?_, fun b o q _ => ?_, fun b xs e => ?_, fun b o u e => ?_, fun b ps e => ⟨#[], ?_⟩⟩, fun b u e => ?_⟩
  · exact (k2 b (tn b o q)).trans (n.keep b o (un b e) nf (ut b e) q)
  · obtain ⟨sl, z⟩ := n.slot b o bf q
    exact ⟨sl, (k2 b (tn b o q)).trans z⟩
  · rw [thrown_ne (un b e) (tn b o q)]; exact e
  · by_cases z : b = x
    · obtain ⟨vs, sl, e1, _⟩ := exc; exact ⟨_, z ▸ e1⟩
    · by_cases zf : b ∈ frs X.stack
      · obtain ⟨sl, z⟩ := n.slot b o zf q
        exact ⟨_, (k2 b (tn b o q)).trans z⟩
      · by_cases zt : b ∈ tt
        · obtain ⟨o', _, e1, _⟩ := old b zt; exact ⟨o', e1⟩
        · exact ⟨o, (k2 b (tn b o q)).trans (n.keep b o z zf zt q)⟩
  · rw [thrown_ne (ne_ext b _ e fun ψ z => by cases z) (hb b _ e)]; exact e
  · rw [thrown_ne (ne_ext b _ e fun ψ z => by cases z) (hb b _ e)]; exact e
  · rw [thrown_ne (ne_ext b _ e fun ψ z => by cases z) (hb b _ e), e]; simp
  · by_cases z : b = x
    · subst z; rw [thrown_x] at e; cases e
      obtain ⟨vs, sl, e1, e2⟩ := exc
      exact excT_ok e1 e2
    · by_cases zT : b = T
      · subst zT; rw [thrown_T nTx] at e; cases e
        exact tbO_ok t2
      · rw [thrown_ne z zT] at e
        by_cases zt : b ∈ tt
        · rw [(htt b zt).1] at e; cases e
          exact tbO_ok (old b zt)
        · have own_ne : ∀ c, H c = some (.own b) → c ≠ x ∧ c ≠ T := fun c hc => ⟨ne_ext c _ hc (fun ψ z => by cases z), hb c _ hc⟩
          refine (I.hok b u e).stay (fun c v hc q => ?_) (fun c q => ?_) fun c xs q => ?_
          · have hcH : ∃ y, H c = some y := by
              rcases hc with rfl | hc
              · exact ⟨u, e⟩
              · exact ⟨_, hc⟩
            obtain ⟨y, hy⟩ := hcH
            refine (k2 c (hb c y hy)).trans (n.keep c v ?_ (fun zf => by rw [I.stkFree c zf] at hy; cases hy) (fun zt' => ?_) q)
            · rcases hc with rfl | hc
              · exact z
              · exact (own_ne c hc).1
            · rcases hc with rfl | hc
              · exact zt zt'
              · rw [(htt c zt').1] at hc; cases hc
          · rw [thrown_ne (own_ne c q).1 (own_ne c q).2]; exact q
          · rw [thrown_ne (ne_ext c _ q fun ψ z => by cases z) (hb c _ q)]; exact q
/-- the frame is noted, the mark of flight taken off -/
theorem note_flight {E : Value → Shared → Prop} {Q : Unit → Shared → Prop} (I : Inv X pins σ H s) (hst : X.stack = X.env :: X.outer) (hfr : X.env.frame = some X.env.locals) (hf : Fresh H x C d ∨ ∃ T, Flown H x C d T)
    (h : ∀ h' T, H T = none → T ≠ x → Inv X pins σ (thrown H x C d T) { s with heap := h' } → Q () { s with heap := h' }) :
    wpAny (model X.prog X.w) X.A (noteFrame (.ref x) X.env) (fun _ s₂ => wpAny (model X.prog X.w) X.A (setFlight (.ref x) none) Q E s₂) E s := by
  have fr : X.A.frames = some (X.env :: X.outer) := hst ▸ I.ok.frames
  have ff : s.heap.FunFrames X.base (X.env :: X.outer) := hst ▸ I.stack
  have rest : ∀ {φ : Heap → Prop} {tt : List Addr} (hx : H x = some (.ext φ)) (htt : ∀ t ∈ tt, H t = some (TbO t) ∧ t ≠ x) (h1 : Heap) (T : Addr), NoteTo (frs (X.env :: X.outer)) tt x T (rawInt X.env.locals) (.ref C) d s.heap h1 →
      wpAny (model X.prog X.w) X.A (setFlight (.ref x) none) Q E { s with heap := h1 } := fun {φ tt} hx htt h1 T n => by
    obtain ⟨vs, sl, e1, e2⟩ := n.exc
    obtain ⟨o, ts, f1, f2, f3⟩ := n.tb
    refine flight_off (s := { s with heap := h1 }) e1 e2 f1 f2 (Array.getElem?_eq_some_iff.mp f3).1 fun h2 k2 t2 => ?_
    obtain ⟨hT, nT, un, ok⟩ := note_un I hx htt (hst ▸ n) k2 t2
    exact h h2 T hT nT (I.call (g' := s.gens) (d' := s.drawn) (t' := s.toks) (ch := []) un ok I.bare (fun b z => absurd z (by simp)))
  rcases hf with (⟨rfl, hx⟩ | ⟨dx, rfl, hx⟩) | ⟨T, hx, hT, ne⟩
  · obtain ⟨⟨vs, sl, e1, e2⟩, _⟩ := (show ObjOk X.prog X.w H s.heap x (ExcN C x) from I.hok x _ hx)
    exact note_new fr ff hfr e1 e2 fun h1 T n => rest (tt := []) hx (fun t z => absurd z (by simp)) h1 T n
  · obtain ⟨⟨vs, sl, e1, e2⟩, _⟩ := (show ObjOk X.prog X.w H s.heap x (ExcO C dx x) from I.hok x _ hx)
    exact note_new fr ff hfr e1 e2 fun h1 T n => rest (tt := []) hx (fun t z => absurd z (by simp)) h1 T n
  · obtain ⟨⟨vs, sl, e1, e2⟩, _⟩ := (show ObjOk X.prog X.w H s.heap x (ExcT C d x T) from I.hok x _ hx)
    obtain ⟨⟨o, ts, f1, f2, f3⟩, _⟩ := (show ObjOk X.prog X.w H s.heap T (TbO T) from I.hok T _ hT)
    exact note_next fr ff hfr e1 e2 f1 f2 f3 ne fun h1 T' n => rest (tt := [T]) hx (fun t z => by rw [List.mem_singleton.mp z]; exact ⟨hT, ne⟩) h1 T' n
theorem leave_inv {E : Value → Shared → Prop} {Q : Unit → Shared → Prop} (I : Inv X pins σ H s) (hst : X.stack = X.env :: X.outer) (hfr : X.env.frame = some X.env.locals) (hf : Fresh H x C d ∨ ∃ T, Flown H x C d T)
    (h : ∀ h' T, H T = none → T ≠ x → Inv X pins σ (thrown H x C d T) { s with heap := h' } → Q () { s with heap := h' }) : wpAny (model X.prog X.w) X.A (leaving X.env (.ref x)) Q E s := by
  unfold leaving
  exact wpAny_bind (note_flight I hst hfr hf h)
end
end L2
namespace L2
open PySem PySem.Spec PyProof.Rows PySem.W
/-- a raised refusal lies so behind a call -/
def CX1 (P : Program) (w : World) : CXT := fun outer H s E e s' => ∃ x T C d H', e = Value.ref x ∧ s'.os = s.os ∧ AllBare s'.gens ∧ Un (frs outer) [] H H' s.heap s'.heap ∧ HOk P w H' s'.heap ∧ Flown H' x C d T ∧ E (.ref x) d H'
/-- a refusal handed to the wish about exceptions is carried on -/
def XeOk (X : Cx) (E : XK) : Prop := ∀ (pins : List (Addr × Obj)) (σ : St) (H : Hp) (s : Shared) (x C : Addr) (d : Option Addr), Inv X pins σ H s → (Fresh H x C d ∨ ∃ T, Flown H x C d T) →
  (∀ T, H T = none → T ≠ x → E (.ref x) d (thrown H x C d T)) → X.xe (.ref x) s
section
variable {P : Program} {w : World} {K : PySem.W.Frag} {mg : Str → Option Value} {base : Heap} {N : List Str} {qual : Str} {scope : Scope} {f : Addr} {cd : Value} {A : Around} {outer : List Env} {s : Shared} {H : Hp} {E E₁ : XK}
theorem xeok_cx : XeOk (cxOf (CX1 P w) P w K mg base N qual scope f cd A outer s H E) E := by
  intro pins σ H1 s1 x C d I hf hE
  exact leave_inv I rfl rfl hf fun h' T hT nT I' => ⟨x, T, C, d, _, rfl, I'.os, I'.bare, I'.base, I'.hok, ⟨thrown_x, thrown_T nT, nT⟩, hE T hT nT⟩
theorem own_cx : PassesOwn (model (cxOf (CX1 P w) P w K mg base N qual scope f cd A outer s H E).prog (cxOf (CX1 P w) P w K mg base N qual scope f cd A outer s H E).w) (cxOf (CX1 P w) P w K mg base N qual scope f cd A outer s H E).A (cxOf (CX1 P w) P w K mg base N qual scope f cd A outer s H E).env (cxOf (CX1 P w) P w K mg base N qual scope f cd A outer s H E).xe := PassesOwn.leaving
end
section
variable {X : Cx} {E E₁ : XK}
/-- a callee's refusal reaches what the body wants -/
theorem pass_x (hX : XeOk X E) (h : ∀ x C d T T2 H', E₁ (.ref x) d H' → Flown H' x C d T → H' T2 = none → T2 ≠ x → E (.ref x) d (thrown H' x C d T2)) : Passes (CX1 X.prog X.w) X E₁ := by
  rintro pins σ H s e s' I ⟨x, T, C, d, H', rfl, os, bare, un, hok, fl, q⟩
  obtain ⟨hh, g, dr, t, os'⟩ := s'
  obtain rfl : os' = s.os := os
  exact hX pins σ H' _ x C d (I.call (h' := hh) (g' := g) (d' := dr) (t' := t) (ch := []) un hok bare (fun b z => absurd z (by simp))) (.inr ⟨T, fl⟩) fun T2 h2 n2 => h x C d T T2 H' q fl h2 n2
end
/-- THE RULE for a def that refusals may leave -/
theorem Fun.okx {P : Program} {w : World} {K : PySem.W.Frag} {mg : Str → Option Value} {base : Heap} {x qual : Str} {st : Stmt} {f : Addr} {fd : FuncData} {N ps : List Str} {k : Nat} {sp : Sp} (F : Fun K x qual st f fd) (S : FnScope N ps (defScope st)) (len : ∀ vs H Q E, sp vs H Q E → vs.length = ps.length)
    (hbody : ∀ (cdv : Value) (A : Around) (outer : List Env) (s : Shared) (H : Hp) (vs : List V) (Q : VK) (E : XK), Room k (A.deeper (envOfC qual (defScope st) s.heap.objs.size f cdv)) → sp vs H Q E →
      ∃ t, PSs (cxOf (CX1 P w) P w K mg base N qual (defScope st) f cdv A outer s H E) (defBody st) t ∧ t { nx := fun _ H' => Q .non H', rt := Q } (start N vs) H) : FnOk P w K mg base (CX1 P w) (k + 1) f fd ps sp := by
  obtain ⟨oc, od, kV, doc, pm, an, cdv, ct, osl, rfl, lk, hcd⟩ := F.ex
  exact fn_of lk hcd S len fun A outer s H vs Q E hr hsp => hbody cdv A outer s H vs Q E hr hsp
structure DefOkX (P : Program) (w : World) (K : PySem.W.Frag) (mg : Str → Option Value) (base : Heap) (k : Nat) (x : Str) (ps : List Str) (sp : Sp) : Prop where
  ex : ∃ (f : Addr) (fd : FuncData), FnOk P w K mg base (CX1 P w) k f fd ps sp ∧ mg x = some (.ref f) ∧ PySem.W.keepIn K (.ref f) = true ∧ Binds K fd ps []
structure MkOkX (P : Program) (w : World) (K : PySem.W.Frag) (mg : Str → Option Value) (base : Heap) (k : Nat) (x : Str) (C : Addr) (ps : List Str) (sp : Sp) : Prop where
  ex : ∃ (f : Addr) (fd : FuncData), Mk K C f ∧ FnOk P w K mg base (CX1 P w) k f fd ps sp ∧ mg x = some (.ref C) ∧ Binds K fd ps []
def sRaise (C : Addr) (names : List Str) (E : XK) (t : TA) : TS := fun _ σ H => t σ H fun vs H1 => vs.length = names.length ∧
  ∀ y dx T H2, H1 y = none → Same H1 H2 → H2 y = some (ExcO C dx y) → H2 dx = some (ExcD dx (names.zip vs)) → dx ≠ y → H2 T = none → T ≠ y → E (.ref y) (some dx) (thrown H2 y C (some dx) T)
section
variable {X : Cx} {k j : Nat} {x : Str} {C : Addr} {ps names : List Str} {sp : Sp} {p pos cpos : Pos} {e : Expr} {es : List Expr} {t : TA} {E E₁ : XK}
theorem pe_fnx (D : DefOkX X.prog X.w X.K X.mg X.base k x ps sp) (hr : Room j X.A) (hx : Passes (CX1 X.prog X.w) X E₁) (ha : PA X (e :: es) t) (hj : k ≤ j := by decide) (hg : Gl X x := by rfl) (hdb : (x == ("__debug__" : Str)) = false := by decide)
    (he : starEach (e :: es) X.env = (false, eval e X.env) :: starEach es X.env := by rfl) (hpl : (backTo pos (starEach es X.env)).any (·.1) = false := by rfl) : PE X (.Call (.Name x p) (e :: es) [] pos) (tCall sp [] E₁ t) := by
  obtain ⟨f, fd, F, hm, hk, hb⟩ := D.ex
  exact pe_call F (hr.mono hj) hg hm hk hb .nil hx ha hdb he hpl
theorem ps_raise (hX : XeOk X E) (D : XMkOk X.prog X.w X.K X.mg X.base k x C ps names) (hr : Room j X.A) (ha : PA X (e :: es) t) (hc : X.calm = true := by rfl) (hj : k + 1 ≤ j := by decide) (hg : Gl X x := by rfl) (hdb : (x == ("__debug__" : Str)) = false := by decide)
    (he : starEach (e :: es) X.env = (false, eval e X.env) :: starEach es X.env := by rfl) (hpl : (backTo cpos (starEach es X.env)).any (·.1) = false := by rfl) : PS X (.Raise (some (.Call (.Name x p) (e :: es) [] cpos)) none pos) (sRaise C names E t) := by
  intro pins s σ H Dd I h
  obtain ⟨f, fd, M, F, hm, hb⟩ := D.ex
  have pe : wpAny (model X.prog X.w) X.A (eval (.Call (.Name x p) (e :: es) [] cpos) X.env) (EP X pins σ fun v H2 => ∃ y d, v = V.ref y ∧ Fresh H2 y C d ∧ ∀ T, H2 T = none → T ≠ y → E (.ref y) d (thrown H2 y C d T)) X.xe s := by
    refine wpAny_Call_Name_kw (ld_glob I hg hm ?_ hdb)
    refine PySem.W.callWith_K (h₀ := X.base) I.ok.mod.kin M.kp (thn (ha cpos pins s σ H _ I h) fun us s1 ⟨vs, H1, I1, r, hl, q⟩ => ⟨I1.kIn, ?_⟩) he hpl
    refine run_xmk M F (hr.mono hj) hb pass0 I1 r (hl ▸ D.few) fun y hy => ⟨y, vs, rfl, hl, upd_same, fun d H' hd h1 h2 hs => ⟨rfl, y, some d, rfl, .inr ⟨d, rfl, h1⟩, fun T hT nT => ?_⟩⟩
    refine q y d T H' hy (fun a o ho => hs a o (ne_of_none ho hy) ?_) h1 h2 (fun z => by rw [z, upd_same] at hd; cases hd) hT nT
    rw [upd_ne (ne_of_none ho hy)]; exact ho
  rw [arm_exec_Raise]
  simp only [evalOpt, Option.map]
  refine wpAny_bind (wpAny_standAt (raise_made M (I.ok.hd hc) ?_))
  refine wpAny_bind (thn pe fun v s1 ⟨u, H2, I2, r, y, d, ey, fr, hE⟩ => wpAny_bind (wpAny_standAt (wpAny_pure ?_)))
  subst ey
  obtain rfl : v = Value.ref y := r
  have ob : ∃ vs sl, s1.heap.get? y = some ⟨.ref C, d, .fields vs, sl⟩ ∧ vs[1]? = some Value.none := by
    rcases fr with ⟨rfl, hx⟩ | ⟨dx, rfl, hx⟩
    · exact (show ObjOk X.prog X.w H2 s1.heap y (ExcN C y) from I2.hok y _ hx).1
    · exact (show ObjOk X.prog X.w H2 s1.heap y (ExcO C dx y) from I2.hok y _ hx).1
  obtain ⟨vs, sl, e1, e2⟩ := ob
  exact ⟨y, d, vs, sl, rfl, I2.kIn, e1, e2, hX pins σ H2 s1 y C d I2 (.inl fr) hE⟩
end
def emptyTo : Nat → Heap
  | 0 => {}
  | n + 1 => (emptyTo n).push { cls := .type "dict", data := .dict #[] }
theorem emptyTo_size : ∀ n, (emptyTo n).objs.size = n
  | 0 => rfl
  | n + 1 => by rw [emptyTo, Heap.size_push, emptyTo_size n]
theorem excT_inj {C C' x T T' : Addr} {d d' : Option Addr} (h : ExcT C d x T = ExcT C' d' x T') : C = C' ∧ d = d' ∧ T = T' := by
  have h : (HO.ext fun h => ∃ vs sl, h.get? x = some ⟨.ref C, d, .fields vs, sl⟩ ∧ vs[1]? = some (.ref T)) = HO.ext fun h => ∃ vs sl, h.get? x = some ⟨.ref C', d', .fields vs, sl⟩ ∧ vs[1]? = some (.ref T') := h
  injection h with h
  have e := congrFun h ((emptyTo x).push ⟨.ref C, d, .fields #[.none, .ref T], #[]⟩)
  have g : ((emptyTo x).push ⟨.ref C, d, .fields #[.none, .ref T], #[]⟩).get? x = some ⟨.ref C, d, .fields #[.none, .ref T], #[]⟩ := Heap.get?_push_at (emptyTo_size x).symm rfl
  have q := e.mp ⟨_, _, g, rfl⟩
  obtain ⟨vs, sl, e1, e2⟩ := q
  rw [g] at e1
  cases e1
  cases e2
  exact ⟨rfl, rfl, rfl⟩
/-- a raised refusal at x, of the class at C, its values fs -/
def XR (H : Hp) (x C : Addr) (d : Option Addr) (fs : List (Str × V)) : Prop := (∃ dx, d = some dx ∧ dx ≠ x ∧ H dx = some (ExcD dx fs)) ∧ ∃ T, H x = some (ExcT C d x T)
theorem xr_new {H1 H2 : Hp} {y C dx T : Addr} {fs : List (Str × V)} (hy : H1 y = none) (s : Same H1 H2) (e : H2 y = some (ExcO C dx y)) (ed : H2 dx = some (ExcD dx fs)) (hT : H2 T = none) (nd : dx ≠ y) :
    XR (thrown H2 y C (some dx) T) y C (some dx) fs ∧ Same H1 (thrown H2 y C (some dx) T) :=
  ⟨⟨⟨dx, rfl, nd, by rw [thrown_ne nd (ne_of_none ed hT)]; exact ed⟩, T, thrown_x⟩, fun a o ho => by rw [thrown_ne (ne_of_none ho hy) (ne_of_none (s a o ho) hT)]; exact s a o ho⟩
theorem xr_on {H H1 : Hp} {x C C' : Addr} {d : Option Addr} {T T2 : Addr} {fs : List (Str × V)} (hx : H1 x = none) (s : Same H1 H) (r : XR H x C d fs) (fl : Flown H x C' d T) (hT : H T2 = none) :
    C = C' ∧ XR (thrown H x C' d T2) x C d fs ∧ Same H1 (thrown H x C' d T2) := by
  obtain ⟨⟨dx, rfl, nd, ed⟩, T', e⟩ := r
  have q : C = C' := by
    have := fl.1
    rw [e] at this
    exact (excT_inj (Option.some.inj this)).1
  subst q
  exact ⟨rfl, ⟨⟨dx, rfl, nd, by rw [thrown_ne nd (ne_of_none ed hT)]; exact ed⟩, T2, thrown_x⟩, fun a o ho => by rw [thrown_ne (ne_of_none ho hx) (ne_of_none (s a o ho) hT)]; exact s a o ho⟩
/-- what is wanted of a refusal of the class at C, whose values are as P says -/
def Rf (H : Hp) (E : XK) (C : Addr) (P : List (Str × V) → Hp → Prop) : Prop := ∀ x d fs H', H x = none → Same H H' → XR H' x C (some d) fs → P fs H' → E (.ref x) (some d) H'
theorem Rf.raise {H H1 H2 : Hp} {E : XK} {C y dx T : Addr} {P : List (Str × V) → Hp → Prop} {fs : List (Str × V)} (r : Rf H E C P) (s1 : Same H H1) (hy : H1 y = none) (s : Same H1 H2) (e : H2 y = some (ExcO C dx y)) (ed : H2 dx = some (ExcD dx fs)) (nd : dx ≠ y)
    (hT : H2 T = none) (p : P fs (thrown H2 y C (some dx) T)) : E (.ref y) (some dx) (thrown H2 y C (some dx) T) := by
  obtain ⟨a, b⟩ := xr_new hy s e ed hT nd
  have hy0 : H y = none := by
    cases q : H y with
    | none => rfl
    | some o => rw [s1 y o q] at hy; cases hy
  exact r y dx fs _ hy0 (s1.trans b) a p
/-- the wish handed to a callee: a refusal of the class at C as P says -/
def XE (H : Hp) (R : Addr → List (Str × V) → Hp → Prop) : XK := fun v d H' => ∃ x C dx fs, v = .ref x ∧ d = some dx ∧ H x = none ∧ Same H H' ∧ XR H' x C (some dx) fs ∧ R C fs H'
theorem XE.rf {H : Hp} {R : Addr → List (Str × V) → Hp → Prop} {C : Addr} {P : List (Str × V) → Hp → Prop} (h : ∀ fs H', P fs H' → R C fs H') : Rf H (XE H R) C P := fun x d fs H' hx s r p => ⟨x, C, d, fs, rfl, rfl, hx, s, r, h fs H' p⟩
theorem XE.on {H H0 : Hp} {R : Addr → List (Str × V) → Hp → Prop} {E : XK} (s0 : Same H0 H) (st : ∀ C fs H' x C' d T2, R C fs H' → (∃ φ, H' x = some (.ext φ)) → H' T2 = none → R C fs (thrown H' x C' d T2)) (hE : ∀ C, Rf H0 E C (R C)) :
    ∀ x C d T T2 H', XE H R (.ref x) d H' → Flown H' x C d T → H' T2 = none → T2 ≠ x → E (.ref x) d (thrown H' x C d T2) := by
  rintro x C d T T2 H' ⟨x', C', dx, fs, ev, rfl, hx, s, r, p⟩ fl hT2 nT2
  obtain rfl : x = x' := Value.ref.inj ev
  have hx0 : H0 x = none := by
    cases q : H0 x with
    | none => rfl
    | some o => rw [s0 x o q] at hx; cases hx
  obtain ⟨rfl, r2, s2⟩ := xr_on hx s r fl hT2
  exact hE C' x dx fs _ hx0 (s0.trans s2) r2 (st C' fs H' x C' (some dx) T2 p ⟨_, fl.1⟩ hT2)
/-- a wish that stays when the refusal passes a frame -/
def Stb (P : List (Str × V) → Hp → Prop) : Prop := ∀ fs H' x C' d T2, P fs H' → (∃ φ, H' x = some (.ext φ)) → H' T2 = none → P fs (thrown H' x C' d T2)
theorem stb_eq {l : List (Str × V)} : Stb fun fs _ => fs = l := fun _ _ _ _ _ _ p _ _ => p
theorem stb_tup {f : Str} {ys : List V} : Stb fun fs H' => ∃ q, fs = [(f, V.ref q)] ∧ H' q = some (.tup ys) := by
  rintro fs H' x C' d T2 ⟨q, e, h⟩ ⟨φ, hx⟩ hT
  exact ⟨q, e, by rw [thrown_ne (ne_of h hx (by intro z; cases z)) (ne_of_none h hT)]; exact h⟩
/-- all that the body's own wish takes -/
def RU (H : Hp) (E : XK) : Addr → List (Str × V) → Hp → Prop := fun C fs H' => ∃ P, Rf H E C P ∧ P fs H' ∧ Stb P
theorem pass_u {H : Hp} {E : XK} : ∀ x C d T T2 H', XE H (RU H E) (.ref x) d H' → Flown H' x C d T → H' T2 = none → T2 ≠ x → E (.ref x) d (thrown H' x C d T2) :=
  XE.on (Same.refl H) (fun C fs H' x C' d T2 ⟨P, r, p, st⟩ hx hT => ⟨P, r, st fs H' x C' d T2 p hx hT, st⟩) fun C x d fs H' hx s r ⟨P, rf, p, _⟩ => rf x d fs H' hx s r p
theorem rf_u {H H2 : Hp} {E : XK} {C : Addr} {P : List (Str × V) → Hp → Prop} (s : Same H H2) (r : Rf H E C P) (st : Stb P) : Rf H2 (XE H (RU H E)) C P := fun x d fs H' hx s2 xr p => by
  have hx0 : H x = none := by
    cases q : H x with
    | none => rfl
    | some o => rw [s x o q] at hx; cases hx
  exact ⟨x, C, d, fs, rfl, rfl, hx0, s.trans s2, xr, P, r, p, st⟩
end L2
namespace L2
open PySem PySem.Spec PyProof.Rows PySem.W
section
variable {X : Cx} {pins : List (Addr × Obj)} {σ : St} {H : Hp} {s : Shared}
/-- the name goes behind the suite -/
theorem goes_ok {M : Model} {A : Around} {E : Value → Shared → Prop} {i : Nat} {n : Str} {pos : Pos} {Q : Unit → Shared → Prop} (I : Inv X pins σ H s) (hN : X.N.Nodup) (hi : X.N[i]? = some n) (hk : X.env.scope.names.lookup n = some .local)
    (h : ∀ s', Inv X pins (σ.set i none) H s' → Q () s') : wpAny M A (do bindName X.env n .none; unbindBehindTheSuite X.env n pos) Q E s := by
  obtain ⟨m, hn, hl⟩ := id I.loc
  have hcls : (X.env.scope.kind == .class || (X.env.scope.kind == .module && X.env.locals != X.env.globals)) = false := by rw [I.ok.kind]; rfl
  have hiσ : i < σ.length := by rw [I.len]; exact (List.getElem?_eq_some_iff.mp hi).1
  refine wpAny_nameGoes_keeps hk hn hcls fun h' v hn' hs => h _ ?_
  have nl : ∀ b o, X.s₀.heap.get? b = some o → b ≠ X.env.locals := fun b o e => Nat.ne_of_lt (Nat.lt_of_lt_of_le (Heap.lt_size e) I.ok.above)
  refine ⟨I.ok, I.os, I.bare, ⟨fun b o e z hb hx => (hs.2 b (nl b o e)).trans (I.base.keep b o e z hb hx), fun b o e z hb hx => ?_, I.base.free, fun b o e hx => ?_, I.base.tups, I.base.frzs, I.base.tbls⟩, ⟨_, hn', fun j y v' e1 e2 e3 => ?_⟩, fun y c e => ?_, I.free, I.freeC, fun p hp => ?_, fun b ob e => ?_, by simpa using I.len⟩
  · obtain ⟨sl, e1⟩ := I.base.slot b o e z hb hx
    exact ⟨sl, (hs.2 b (nl b o e)).trans e1⟩
  · obtain ⟨o', e1⟩ := I.base.there b o e hx
    exact ⟨o', (hs.2 b (nl b o e)).trans e1⟩
  · by_cases hj : j = i
    · subst hj
      rw [List.getElem?_set_self hiσ] at e2
      cases e2
    · rw [List.getElem?_set_ne (Ne.symm hj)] at e2
      obtain ⟨u', r', q⟩ := hl j y v' e1 e2 e3
      refine ⟨u', r', ?_⟩
      rcases q with ⟨k, e⟩ | ⟨k, c, e, z⟩
      · have ny : y ≠ n := fun e => hj (nodup_ix hN e1 (e ▸ hi))
        exact .inl ⟨k, by simp [ny, e]⟩
      · exact .inr ⟨k, c, e, z.sameBut hs (I.cne y c e)⟩
  · obtain ⟨w', z⟩ := I.cell y c e
    exact ⟨w', z.sameBut hs (I.cne y c e)⟩
  · obtain ⟨e, z, ne, nf, d⟩ := I.pin p hp
    exact ⟨(hs.2 p.1 ne).trans e, z, ne, nf, d⟩
  · refine (I.hok b ob e).stay (fun c w' hc q => (hs.2 c ?_).trans q) (fun _ q => q) fun _ _ q => q
    rintro rfl
    rcases hc with hc | hc
    · rw [← hc, I.free] at e; cases e
    · rw [I.free] at hc; cases hc
/-- a handler's suite: no exception leaves it -/
abbrev Cx.suite (X : Cx) (x : Addr) : Cx := { X with A := X.A.mark (some (.ref x)), calm := false, xe := fun _ _ => False }
theorem Inv.suite (I : Inv X pins σ H s) (x : Addr) : Inv (X.suite x) pins σ H s :=
  ⟨⟨I.ok.mod, I.ok.kind, I.ok.glob, I.ok.blt, I.ok.above, I.ok.inj, I.ok.has, I.ok.cab, (fun z => nomatch z), I.ok.frames, I.ok.stk, I.ok.exf, I.ok.bs, I.ok.bsz, I.ok.noex, I.ok.exfs, I.ok.funs, I.ok.frf⟩, I.os, I.bare, I.base, I.loc, I.cell, I.free, I.freeC, I.pin, I.hok, I.len⟩
theorem Inv.unsuite {ok : X.Ok} {x : Addr} (I : Inv (X.suite x) pins σ H s) : Inv X pins σ H s :=
  ⟨ok, I.os, I.bare, I.base, I.loc, I.cell, I.free, I.freeC, I.pin, I.hok, I.len⟩
end
end L2
namespace L2
open PySem PySem.Spec PyProof.Rows PySem.W
/-- an expression that a refusal may leave: the names' values stay known -/
def PX (X : Cx) (e : Expr) (t : TE) (E : XK) : Prop := ∀ (pins : List (Addr × Obj)) (s : Shared) (σ : St) (H : Hp) (Q : VK) (Ex : Value → Shared → Prop), Inv X pins σ H s → t σ H Q →
  (∀ x T C d H' s', Inv X pins σ H' s' → Flown H' x C d T → E (.ref x) d H' → Ex (.ref x) s') → wpAny (model X.prog X.w) X.A (eval e X.env) (EP X pins σ Q) Ex s
section
variable {X : Cx} {k j : Nat} {x : Str} {C : Addr} {ps : List Str} {sp : Sp} {p pos : Pos} {e : Expr} {es : List Expr} {t : TA} {E : XK}
theorem px_mk (D : MkOkX X.prog X.w X.K X.mg X.base k x C ps sp) (hr : Room j X.A) (ha : PA X.nox (e :: es) t) (hj : k + 1 ≤ j := by decide) (hg : Gl X x := by rfl) (hdb : (x == ("__debug__" : Str)) = false := by decide)
    (he : starEach (e :: es) X.env = (false, eval e X.env) :: starEach es X.env := by rfl) (hpl : (backTo pos (starEach es X.env)).any (·.1) = false := by rfl) : PX X (.Call (.Name x p) (e :: es) [] pos) (tMake C sp [] E t) E := by
  obtain ⟨f, fd, M, F, hm, hb⟩ := D.ex
  intro pins s σ H Q Ex I h hx
  refine wpAny_Call_Name_kw (ld_glob I hg hm ?_ hdb)
  refine PySem.W.callWith_K (h₀ := X.base) I.ok.mod.kin M.kp (wpAny_mono (ha pos pins s σ H _ (I.wish _) h) (fun us s1 ⟨vs, H1, I1', r, q⟩ => ⟨I1'.unwish.kIn, ?_⟩) fun _ _ z => False.elim z) he hpl
  have I1 : Inv X pins σ H1 s1 := I1'.unwish
  have hq := q (s1.heap.objs.size + 1) s1.heap.objs.size (I1.hok.fresh (Nat.le_succ _)) (I1.hok.fresh (Nat.le_refl _)) (Nat.ne_of_lt (Nat.lt_succ_self _))
  rw [List.append_nil] at hq
  have I2 := Inv.made (C := C) I1
  have r2 : Vals (V.ref (s1.heap.objs.size + 1) :: vs) (Value.ref (s1.heap.objs.size + 1) :: us) := .cons rfl r
  have hl : (Value.ref (s1.heap.objs.size + 1) :: us ++ []).length = ps.length := by
    have e := r2.length
    rw [F.len _ _ _ _ hq] at e
    rw [List.append_nil]; exact e.symm
  have hb2 := hb _ (Value.ref (s1.heap.objs.size + 1) :: us) I2.kIn hl
  rw [List.append_nil] at hb2
  refine wpAny_call (make_map (f := f) I1.kIn M.makes M.init (beq_iff_eq.mp M.fn) (codeAny_mono (F.run _ X.stack _ _ ⟨Value.ref (s1.heap.objs.size + 1) :: us, []⟩ (Value.ref (s1.heap.objs.size + 1) :: us) _ _ E ((hr.mono hj).make C us [])
    (I2.env0.make C us []) hb2 r2 hq) fun r s' hq' => ?_))
  cases r with
  | error e =>
    obtain ⟨x, T, C', d, H', rfl, os, bare, un, hok, fl, q'⟩ := hq'
    exact hx x T C' d H' s' (I2.call' (ch := []) os un hok bare (fun b z => absurd z (by simp))) fl q'
  | ok fl =>
    cases fl with
    | ret u =>
      obtain ⟨v, H', I3, rv, ev, q3⟩ := I2.after hq'
      subst ev
      exact ⟨rv, ⟨V.ref (s1.heap.objs.size + 1), H', I3, rfl, q3⟩⟩
    | next => exact False.elim hq'
    | brk => exact False.elim hq'
    | cont => exact False.elim hq'
end
theorem match_sub {M : Model} {A : Around} {E : Value → Shared → Prop} {s : Shared} {K : Frag} {G C e : Addr} {d : Option Addr} {dt : Data} {sl' : Array (Option Value)} {Q : Bool → Shared → Prop} (X : K.In s.heap) (hG : PySem.W.excIn K G vErr "ValueError.__new__" = true)
    (he : s.heap.get? e = some ⟨.ref C, d, dt, sl'⟩) (hs : mroIn K C (.ref G) = some true) (h : Q true s) : wpAny M A (excMatches (.ref e) (.ref G)) Q E s := by
  have LS := looks_mroIn (M := M) X hs
  obtain ⟨hp, g, dr, tk, os⟩ := s
  have q := hG
  unfold PySem.W.excIn at q
  split at q
  · rename_i dd cd sl ho
    split at q
    · rename_i C' bm k0 k1 k2 k3 n k5 hm hs
      simp only [Bool.and_eq_true, beq_iff_eq, Bool.not_eq_true'] at q
      obtain ⟨⟨⟨⟨⟨rfl, rfl⟩, hdel⟩, ht⟩, hok⟩, hni⟩ := q
      obtain ⟨nm, bs, mro, ns, qn, hd, sn, sub, ab, col, del⟩ := cd
      dsimp only at hm hdel hok hni
      subst hm hdel
      have hsl : sl = #[k0, k1, k2, k3, some (.builtin "ValueError.__new__"), k5] := by
        obtain ⟨l⟩ := sl
        simp only at hs
        rw [hs]
      subst hsl
      have hC : hp.get? C' = some (excClassObj nm qn C' ns bs bm hd sn sub ab col dd k0 k1 k2 k3 k5 "ValueError.__new__") := X _ _ ho
      have hcB : (Value.ref C' :: bm).contains (.type "BaseException") = true := by
        rw [List.contains_cons, (tail_of_in X ht).hasType (show vErr.contains (.type "BaseException") = true by decide +kernel)]; exact Bool.or_true _
      have f := tc_notTuple
      unfold excMatches
      repeat (first | with_reducible refine wpAny_loadPart_at he ?_ | with_reducible refine wpAny_loadPart_at hC ?_ | (with_reducible refine wpAny_isSubtype_exc hC ?_; rw [hcB]) | (with_reducible refine LS.at ?_) | wp_step)
      exact h
    · cases q
  · cases q
/-- behind the suite the name goes -/
def goneD (im : Nat) (D : Ends) : Ends := { nx := fun σ H => D.nx (σ.set im none) H, rt := D.rt, bk := fun σ H => D.bk (σ.set im none) H, ct := fun σ H => D.ct (σ.set im none) H }
def sTry (K : Frag) (i im : Nat) (G : Addr) (te : XK → TE) (ts : TS) : TS := fun D σ H => ∃ E₁ : XK, te E₁ σ H (fun v H1 => D.nx (σ.set i (some v)) H1) ∧
  ∀ x C d T T2 H', E₁ (.ref x) d H' → Flown H' x C d T → H' T2 = none → T2 ≠ x → mroIn K C (.ref G) = some true ∧ ts (goneD im D) (σ.set im (some (.ref x))) (thrown H' x C d T2)
section
variable {X : Cx} {i im : Nat} {n m g : Str} {G : Addr} {value : Expr} {b₀ : Stmt} {suite : List Stmt} {np apos gp hpos pos : Pos} {te : XK → TE} {ts : TS}
theorem ps_tryset (hN : X.N.Nodup) (hi : X.N[i]? = some n) (hx : Loc X.env.scope n) (him : X.N[im]? = some m) (hm : X.env.scope.names.lookup m = some .local) (he : ∀ E, PX X value (te E) E) (hgl : Gl X g) (hg : X.mg g = some (.ref G))
    (hG : PySem.W.excIn X.K G vErr "ValueError.__new__" = true) (hst : X.stack = X.env :: X.outer) (hfr : X.env.frame = some X.env.locals) (hs : ∀ x, PSs (X.suite x) (b₀ :: suite) ts)
    (hsw : swapsWith value (some (.Name n np)) apos.line X.env = pure false := by rfl) (hf : X.fn n = true ∨ X.env.scope.names.lookup n = some .local := by first | exact .inl rfl | exact .inr rfl | assumption) (hdb : (g == ("__debug__" : Str)) = false := by decide) :
    PS X (.Try [.Assign [.Name n np] value apos] [.ExceptHandler (some (.Name g gp)) (some m) (b₀ :: suite) hpos] [] [] pos) (sTry X.K i im G te ts) := by
  intro pins s σ H D I ⟨E₁, h, hh⟩
  rw [arm_exec_Try]
  refine wpAny_bind (wpAny_standAt (wpAny_tryStmt_except ?_))
  refine wpAny_execs_cons (wpAny_Assign_Name (thn (he E₁ pins s σ H _ _ I h fun x T C d H' s' I' fl q => ?_) fun v s1 ⟨y, H1, I1, r1, q1⟩ => ?_) hsw)
  · refine note_flight I' hst hfr (.inr ⟨T, fl⟩) fun h' T2 hT2 nT2 I2 => ?_
    obtain ⟨hsub, hts⟩ := hh x C d T T2 H' q fl hT2 nT2
    have fl2 : Flown (thrown H' x C d T2) x C d T2 := ⟨thrown_x, thrown_T nT2, nT2⟩
    obtain ⟨⟨vs, sl, e1, e2⟩, _⟩ := (show ObjOk X.prog X.w (thrown H' x C d T2) h' x (ExcT C d x T2) from I2.hok x _ fl2.1)
    obtain ⟨⟨o, tv, f1, f2, f3⟩, _⟩ := (show ObjOk X.prog X.w (thrown H' x C d T2) h' T2 (TbO T2) from I2.hok T2 _ fl2.2.1)
    refine wpAny_handleBy_cons (codeAny_handlers_test (ld_glob (X := X.suite x) (I2.suite x) hgl hg (match_sub I2.kIn hG e1 hsub ?_) hdb)) (by intro z; cases z)
    show codeAny _ _ _ _ _
    refine codeAny_handlers_suite_as (flight_off e1 e2 f1 f2 (Array.getElem?_eq_some_iff.mp f3).1 fun h3 k3 t3 => ?_)
    have same : upd (thrown H' x C d T2) T2 (TbO T2) = thrown H' x C d T2 := funext fun b => by
      by_cases z : b = T2
      · rw [z, upd_same, thrown_T nT2]
      · rw [upd_ne z]
    have I3 : Inv X pins σ (thrown H' x C d T2) { s' with heap := h3 } := by
      have := I2.write (x := T2) (e := T2) (h' := h3) (o := TbO T2) (t' := s'.toks) (by rw [fl2.2.1]; exact True.intro) (.inl rfl) (fun b u nb z => (k3 b nb).trans z) (let ⟨o, _, e, _⟩ := t3; ⟨o, e⟩) (tbO_ok t3)
      rw [same] at this
      exact this
    refine store_ok (X := X.suite x) (I3.suite x) hN him (.inl hm) (v := .ref x) rfl (fun s4 I4 => ?_) (.inr hm)
    refine wpAny_mono (hs x pins s4 _ _ (goneD im D) I4 hts) (fun fl s5 q5 => ?_) fun _ _ z => False.elim z
    show wpAny (model X.prog X.w) X.A (do bindName X.env m .none; unbindBehindTheSuite X.env m hpos) (fun _ s₃ => SP X pins D fl s₃) X.xe s5
    cases fl with
    | next => obtain ⟨σ', H5, I5, q⟩ := q5; exact goes_ok (I5.unsuite (ok := I.ok)) hN him hm fun s6 I6 => ⟨_, H5, I6, q⟩
    | brk => obtain ⟨σ', H5, I5, q⟩ := q5; exact goes_ok (I5.unsuite (ok := I.ok)) hN him hm fun s6 I6 => ⟨_, H5, I6, q⟩
    | cont => obtain ⟨σ', H5, I5, q⟩ := q5; exact goes_ok (I5.unsuite (ok := I.ok)) hN him hm fun s6 I6 => ⟨_, H5, I6, q⟩
    | ret u => obtain ⟨v, σ', H5, I5, r, q⟩ := q5; exact goes_ok (I5.unsuite (ok := I.ok)) hN him hm fun s6 I6 => ⟨v, _, H5, I6, r, q⟩
  · exact store_ok I1 hN hi hx r1 (fun s2 I2 => wpAny_execs_nil (wpAny_execs_nil ⟨_, H1, I2, q1⟩)) hf
end
end L2
namespace L2
open PySem PySem.Spec PyProof.Rows
def tCompF (wi : TI) (g : TG) (tc : TT) (te : TE) (fr : List (Option Nat)) : TE := fun σ H Q => wi σ H fun J H1 => ∀ acc, H1 acc = none → ∃ W : Nat → Nat → St → Hp → Prop, (∃ m, W 0 m (stC fr σ) (upd H1 acc (.lst []))) ∧ ∀ i m σ1 H2, W i m σ1 H2 →
  (J.stop i H2 ∧ Q (.ref acc) H2) ∨ (J.go i H2 ∧ ∀ x H3, J.yld i H2 x H3 → g x σ1 H3 fun σ4 H4 => tc σ4 H4 fun b Hb => match b with
    | true => te σ4 Hb fun v H5 => ∃ xs, H5 acc = some (.lst xs) ∧ xs.length < sizeLine ∧ ∃ m', m' < m ∧ W (i + 1) m' σ4 (upd H5 acc (.lst (xs ++ [v])))
    | false => ∃ m', m' < m ∧ W (i + 1) m' σ4 Hb)
section
variable {prog : Program} {w : World} {A : Around} {R : Result → Shared → Prop} {s : Shared}
theorem compLoop_anyF {elt target iter cnd : Expr} {scope : Scope} {pos : Pos} {it acc : Value} {env : Env} (I : Nat → Shared → Prop)
    (turn : ∀ n s, I n s → wpAny (model prog w) A (pyNext it) (fun r s₁ => match r with
      | none => R (.ok .next) s₁
      | some v => wpAny (model prog w) A (letOwnedTupleGo target it v) (fun _ s₁ => wpAny (model prog w) A (assign target env v) (fun _ s₂ =>
          wpAny (model prog w) A (forIn [cnd] true fun c r => if r = true then do let ok ← isTrue c env (eval c env); pure (ForInStep.yield ok) else pure (ForInStep.yield r)) (fun ok s₃ =>
            if ok = true then wpAny (model prog w) A (eval elt env) (fun x s₄ => wpAny (model prog w) A (call (.builtin "list.append") [acc, x]) (fun _ s₅ => ∃ m, m < n ∧ I m s₅) (notedBy (model prog w) A env fun e s' => R (.error e) s') s₄)
              (notedBy (model prog w) A env fun e s' => R (.error e) s') s₃
            else ∃ m, m < n ∧ I m s₃) (notedBy (model prog w) A env fun e s' => R (.error e) s') s₂)
          (notedBy (model prog w) A env fun e s' => R (.error e) s') s₁) (notedBy (model prog w) A env fun e s' => R (.error e) s') s₁) (notedBy (model prog w) A env fun e s' => R (.error e) s') s)
    (n : Nat) (h : I n s) :
    codeAny (model prog w) A (.compLoop (.ListComp elt [⟨target, iter, [cnd], 0⟩] scope pos) 0 it acc env) R s := by
  refine codeAny_loop rfl I (fun n s hI => ?_) n h
  show wpAny _ _ ((compTurn (.ListComp elt [⟨target, iter, [cnd], 0⟩] scope pos) 0 it acc env).onRaise (fun x => do noteFrame x env; theTreesLotGoes x)) _ _ s
  refine wpAny_noted ?_
  rw [compTurn_list]
  refine wpAny_bind (wpAny_standAt (wpAny_bind (wpAny_mono (turn n s hI) (fun r s₁ h₁ => ?_) fun _ _ h' => h')))
  cases r with
  | none => exact wpAny_pure h₁
  | some v =>
    refine wpAny_bind (wpAny_mono h₁ (fun _ s₁ h₁ => ?_) fun _ _ h' => h')
    refine wpAny_bind (wpAny_mono h₁ (fun _ s₂ h₂ => wpAny_bind (wpAny_mono h₂ (fun ok s₃ h₃ => ?_) fun _ _ h' => h')) fun _ _ h' => h')
    cases ok with
    | false => exact wpAny_pure ⟨rfl, h₃⟩
    | true => exact wpAny_bind (wpAny_bind (wpAny_mono h₃ (fun x s₄ h₄ => wpAny_bind (wpAny_mono h₄ (fun _ s₅ h₅ => wpAny_pure (wpAny_pure ⟨rfl, h₅⟩)) fun _ _ h' => h')) fun _ _ h' => h'))
end
section
variable {X : Cx} {elt tg iter : Expr} {scope : Scope} {pos : Pos} {wi : TI} {g : TG} {te : TE} {N : List Str} {fr : List (Option Nat)}
variable {cnd : Expr} {tc : TT}
theorem comp_coreF {pins : List (Addr × Obj)} {σ : St} {H : Hp} {s : Shared} {Q : VK} {cl : List (Str × Addr)} {R : Value → Addr → Result → Shared → Prop} (hc : X.calm = true) (I : Inv X pins σ H s) (hi : PI X tg iter wi)
    (hg : ∀ cl C s H ex, PG (compCx X scope cl N C s H ex) tg g) (hcn : ∀ cl C s H ex, PT (compCx X scope cl N C s H ex) cnd tc) (he : ∀ cl C s H ex, PE (compCx X scope cl N C s H ex) elt te) (ck : CompChk X.env.scope X.N scope N fr)
    (c1 : ∀ x c, cl.lookup x = some c → X.env.cells.lookup x = some c) (c2 : ∀ x, (x, NameKind.free) ∈ scope.names → ∃ c, cl.lookup x = some c)
    (h : tCompF wi g tc te fr σ H Q)
    (hR : ∀ acc C s' H' m, s'.heap.Ns C m → FpOk X pins H' C → Inv X pins σ H' s' → Q (.ref acc) H' → R (.ref acc) C (.ok .next) s') :
    wpAny (model X.prog X.w) X.A (eval iter X.env) (fun x s₁ => wpAny (model X.prog X.w) X.A (pyIter x) (fun it s₂ => wpAny (model X.prog X.w) X.A (newList []) (fun acc s₃ =>
      wpAny (model X.prog X.w) X.A (newFunctionEnv scope X.env.globals cl [] X.env.qual none .none (some X.env)) (fun cenv s₄ =>
        codeAny (model X.prog X.w) X.A (.compStart (.ListComp elt [⟨tg, iter, [cnd], 0⟩] scope pos) 0 it acc { cenv with scope := relabel scope X.env }) (R acc cenv.locals) s₄) X.xe s₃) X.xe s₂) X.xe s₁) X.xe s := by
  refine thn (hi pins s σ H _ I h) fun v s1 h1 => thn h1 fun itv s2 h2 => ?_
  obtain ⟨it, fp, tn, J, H2, e, I2, T, st2, f2, q2⟩ := h2
  subst e
  refine wpAny_newObj_type (wpAny_newFunctionEnv ck.nocell (by intro y hy; simp at hy) (fun h₁ hns₁ hsb₁ => ?_) ck.kind)
  dsimp only at hns₁ hsb₁ ⊢
  have I3 : Inv X pins σ (upd H2 s2.heap.objs.size (.lst [])) { s2 with heap := s2.heap.push { cls := .type "list", dict := none, data := .seq ([] : List Value).toArray } } := I2.lnew (t' := s2.toks) (its := []) .nil (Nat.zero_le _)
  have acc0 : H2 s2.heap.objs.size = none := I2.fresh
  obtain ⟨W, ⟨m0, w0⟩, turn⟩ := q2 s2.heap.objs.size acc0
  generalize hH3 : s2.heap.push { cls := .type "list", dict := none, data := .seq ([] : List Value).toArray } = h3 at hns₁ hsb₁ I3 ⊢
  have hz3 : h3.objs.size = s2.heap.objs.size + 1 := by rw [← hH3, Heap.size_push]
  have k23 : ∀ b o, s2.heap.get? b = some o → h3.get? b = some o := fun b o e => by rw [← hH3]; exact Heap.get?_push_of_some _ e
  have k34 : ∀ b o, h3.get? b = some o → h₁.get? b = some o := fun b o e => hsb₁.extBut b o (Nat.ne_of_lt (Heap.lt_size e)) (Heap.get?_push_of_some _ e)
  have fpo : ∀ b ∈ fp, ∃ o, s2.heap.get? b = some o ∧ ∀ v, o.data ≠ .cell v := T.obj 0 _ st2
  have hex : ∀ b ∈ fp, FpOk X pins (upd H2 s2.heap.objs.size (.lst [])) b ∧ b < h3.objs.size := fun b hb => by
    obtain ⟨o, eo, _⟩ := fpo b hb
    have lt := Heap.lt_size eo
    obtain ⟨f0, fr'⟩ := f2 b hb
    exact ⟨⟨by rw [upd_ne (Nat.ne_of_lt lt)]; exact f0, fr'⟩, by rw [hz3]; exact Nat.lt_succ_of_lt lt⟩
  have I4 : Inv (compCx X scope cl N h3.objs.size { s2 with heap := h3 } (upd H2 s2.heap.objs.size (.lst [])) fp) [] (stC fr σ) (upd H2 s2.heap.objs.size (.lst [])) { s2 with heap := h₁, toks := s2.toks + ([] : List (Str × Value)).length } :=
    comp_entry I3 ck c1 c2 hex (Nat.le_refl _) hns₁ k34 rfl rfl
  have stat : ∀ {H' : Hp}, (∀ b ∈ fp, H' b = none) → ∀ b ∈ fp, FpOk (compCx X scope cl N h3.objs.size { s2 with heap := h3 } (upd H2 s2.heap.objs.size (.lst [])) fp) [] H' b := fun hn b hb =>
    ⟨hn b hb, (I4.ok.exf b hb).1, I4.ok.exfs b hb, .inl hb, (I4.ok.exf b hb).2, fun p hp => by simp at hp⟩
  have stn : ∀ i h h', tn i h → (∀ b o, h.get? b = some o → h'.get? b = some o) → tn i h' := fun i h h' st kk => T.keep i h h' st fun b _ o e => kk b o e
  have loop : codeAny (model X.prog X.w) X.A (.compLoop (.ListComp elt [⟨tg, iter, [cnd], 0⟩] scope pos) 0 (.ref it) (.ref s2.heap.objs.size) (compEnvC scope cl h3.objs.size X.env)) (R (.ref s2.heap.objs.size) h3.objs.size)
      { s2 with heap := h₁, toks := s2.toks + ([] : List (Str × Value)).length } := by
    refine compLoop_anyF (fun n s' => ∃ i σ' H', Inv (compCx X scope cl N h3.objs.size { s2 with heap := h3 } (upd H2 s2.heap.objs.size (.lst [])) fp) [] σ' H' s' ∧ tn i s'.heap ∧ (∀ b ∈ fp, H' b = none) ∧ W i n σ' H') ?_ m0
      ⟨0, _, _, I4, stn _ _ _ st2 fun b o e => k34 b o (k23 b o e), fun b hb => (hex b hb).1.1, w0⟩
    rintro n s3 ⟨i, σ3, H3, J3, st3, fr3, w3⟩
    rcases turn i n σ3 H3 w3 with ⟨stop, qn⟩ | ⟨go, step⟩
    · refine wpFalse (thn (T.done (compCx X scope cl N h3.objs.size { s2 with heap := h3 } (upd H2 s2.heap.objs.size (.lst [])) fp) rfl rfl rfl hc i [] s3 σ3 H3 (fun _ _ => False) J3 (stat fr3) st3 stop) fun r s4 hz_ => ?_)
      obtain ⟨hr, J4⟩ := hz_
      subst hr
      obtain ⟨mc, hmc, _⟩ := J4.loc
      have I5 : Inv X pins σ H3 s4 := I3.call' (ch := fp) J4.os J4.base J4.hok J4.bare fun b hb => ⟨(hex b hb).1.2.2.2.1, (hex b hb).1.2.1, (hex b hb).1.2.2.2.2.1, (hex b hb).1.2.2.2.2.2⟩
      exact hR _ _ s4 H3 mc hmc (I3.fpOk (Nat.le_refl _) J4.free) I5 qn
    · refine wpFalse (thn (T.item (compCx X scope cl N h3.objs.size { s2 with heap := h3 } (upd H2 s2.heap.objs.size (.lst [])) fp) rfl rfl rfl hc i [] s3 σ3 H3 (fun _ _ => False) J3 (stat fr3) st3 go) fun r s4 hz_ => ?_)
      obtain ⟨u, hr, h4⟩ := hz_
      subst hr
      refine wpFalse (thn h4 fun _ s5 hz_ => ?_)
      obtain ⟨x, H5, J5, r5, y5, st5, fr5⟩ := hz_
      have J5' := J5.pinned (stat fr5) (T.obj _ _ st5)
      refine wpFalse (thn (hg _ _ _ _ _ _ s5 σ3 H5 x u _ J5' r5 (step x H5 y5)) fun _ s6 hz_ => ?_)
      obtain ⟨σ6, H6, J6, q6⟩ := hz_
      refine wpAny_tests_one (wpFalse (thn (hcn _ _ _ _ _ _ s6 σ6 H6 _ J6 q6) fun b sb hz_ => ?_))
      obtain ⟨Hb, Jb, qb⟩ := hz_
      cases b with
      | false =>
        obtain ⟨m', hm', w7⟩ := qb
        refine ite_ff ⟨m', hm', i + 1, σ6, _, Jb.unpinned, T.keep _ _ _ st5 fun b hb o e => (Jb.pin (b, o) (List.mem_append_right _ (List.mem_append_right _ (mem_pinsAt hb e)))).1, fun b hb => ?_, w7⟩
        obtain ⟨o, e, d⟩ := T.obj _ _ st5 b hb
        exact (Jb.pin (b, o) (List.mem_append_right _ (List.mem_append_right _ (mem_pinsAt hb e)))).2.1
      | true =>
        refine ite_tt ?_
        refine wpFalse (thn (he _ _ _ _ _ _ sb σ6 Hb _ Jb qb) fun y s7 hz_ => ?_)
        obtain ⟨v7, H7, J7, r7, xs, hx, hz, m', hm', w7⟩ := hz_
        refine wpFalse (thn (mt_append _ s7 σ6 H7 (.ref s2.heap.objs.size) [v7] (.ref s2.heap.objs.size) [y] (fun v H8 => H8 = upd H7 s2.heap.objs.size (.lst (xs ++ [v7]))) J7 rfl (.cons r7 .nil) ⟨_, xs, v7, rfl, rfl, hx, hz, rfl⟩) fun _ s8 hz_ => ?_)
        obtain ⟨_, H8, J8, _, e8⟩ := hz_
        subst e8
        refine ⟨m', hm', i + 1, σ6, _, J8.unpinned, T.keep _ _ _ st5 fun b hb o e => (J8.pin (b, o) (List.mem_append_right _ (List.mem_append_right _ (mem_pinsAt hb e)))).1, fun b hb => ?_, w7⟩
        obtain ⟨o, e, d⟩ := T.obj _ _ st5 b hb
        exact (J8.pin (b, o) (List.mem_append_right _ (List.mem_append_right _ (mem_pinsAt hb e)))).2.1
  exact codeAny_compStart_list loop (T.self _ 0 _ _ _ (stn _ _ _ st2 fun b o e => k34 b o (k23 b o e)) loop)

theorem pe_compF (hc : X.calm = true) (hi : PI X tg iter wi) (hg : ∀ cl C s H ex, PG (compCx X scope cl N C s H ex) tg g) (hcn : ∀ cl C s H ex, PT (compCx X scope cl N C s H ex) cnd tc) (he : ∀ cl C s H ex, PE (compCx X scope cl N C s H ex) elt te)
    (hk : compChk X.env.scope X.N scope N fr = true := by rfl) (hs : ∀ x, foldedSetIterable iter X.env x = pure x := by intro _; rfl) : PE X (.ListComp elt [⟨tg, iter, [cnd], 0⟩] scope pos) (tCompF wi g tc te fr) := by
  intro pins s σ H Q I h
  have ck := compChk_of hk
  obtain ⟨cl, e1, c1, c2⟩ := comp_cl I.ok ck
  rw [eval_ListComp]
  refine wpAny_comprehension_free (use := none) (Q := EP X pins σ Q) rfl hs e1 ck.kind ck.loc (comp_coreF (R := fun acc C => compPost (model X.prog X.w) X.A X.xe none (EP X pins σ Q) acc C) hc I hi hg hcn he ck c1 c2 h fun acc C s' H' m hn f I' q => ?_)
  obtain ⟨f0, f1, f2, f3, f4, f5⟩ := f
  exact ⟨m, hn, fun h' hs' => ⟨.ref acc, H', I'.turned (t' := s'.toks) (fun b o hb e => hs'.extBut b o hb e) f0 f1 f3 f4 f5, rfl, q⟩⟩

end
end L2
namespace L2
open PySem PySem.Spec PyProof.Rows
def tChain3 (r r' r'' : R2) (ta tb tc td : TE) : TE := fun σ H Q => ta σ H fun x H1 => tb σ H1 fun y H2 => r x y H2 fun b H3 => IBl b fun k =>
  if k = true then tc σ H3 fun z H4 => r' y z H4 fun b' H5 => IBl b' fun k' => if k' = true then td σ H5 fun u H6 => r'' z u H6 Q else Q (.bl false) H5 else Q (.bl false) H3
section
variable {X : Cx} {a b c d : Expr} {ta tb tc td : TE} {pos : Pos}
theorem pe_chain3 {op op' op'' : CmpOp} {r r' r'' : R2} (ho : OpR X (compareOp op) r) (ho' : OpR X (compareOp op') r') (ho'' : OpR X (compareOp op'') r'') (ha : PE X a ta) (hb : PE X b tb) (hc : PE X c tc) (hd : PE X d td)
    (hm : lastMarks [op, op', op''] [b, c, d] = false := by with_unfolding_all rfl) : PE X (.Compare a [op, op', op''] [b, c, d] pos) (tChain3 r r' r'' ta tb tc td) := by
  intro pins s σ H Q I h
  refine Compare_chain (thn (ha pins s σ H _ I h) fun v s1 ⟨x, H1, I1, r1, q1⟩ => chain_link (thn (hb pins s1 σ H1 _ I1 q1) fun u s2 ⟨y, H2, I2, r2, q2⟩ =>
    thn (ho pins s2 σ H2 x y v u _ I2 r1 r2 q2) fun b s3 ⟨z, H3, I3, r3, k, e, q3⟩ => ?_)) hm
  subst e
  cases r3
  refine wpAny_truthy_bool ?_
  cases k with
  | false => exact ite_ff ⟨.bl false, H3, I3, rfl, q3⟩
  | true =>
    refine ite_tt (chain_link (thn (hc pins s3 σ H3 _ I3 q3) fun w' s4 ⟨z', H4, I4, r4, q4⟩ => thn (ho' pins s4 σ H4 y z' u w' _ I4 r2 r4 q4) fun b' s5 ⟨z5, H5, I5, r5, k', e5, q5⟩ => ?_))
    subst e5
    cases r5
    refine wpAny_truthy_bool ?_
    cases k' with
    | false => exact ite_ff ⟨.bl false, H5, I5, rfl, q5⟩
    | true => exact ite_tt (chain_last (thn (hd pins s5 σ H5 _ I5 q5) fun w6 s6 ⟨z6, H6, I6, r6, q6⟩ => ho'' pins s6 σ H6 z' z6 w' w6 Q I6 r4 r6 q6))
theorem ix_tupK {K : PySem.W.Frag} (hK : X.K = K := by rfl) : IxR X (rIxT K) := by subst hK; exact ix_tup
theorem ix_listK {K : PySem.W.Frag} (hK : X.K = K := by rfl) : IxR X (rIxL K) := by subst hK; exact ix_list
end
/-- the invariant of a comprehension with a condition -/
def fW (acc : Addr) (n : Nat) (Pv : Nat → List V → St → Hp → Prop) (i m : Nat) (σ : St) (H : Hp) : Prop := i ≤ n ∧ m = n - i ∧ ∃ xs, xs.length ≤ i ∧ H acc = some (.lst xs) ∧ Pv i xs σ H
def fNx (acc : Addr) (n : Nat) (Pv : Nat → List V → St → Hp → Prop) (i : Nat) (σ : St) (v : V) (H : Hp) : Prop := ∃ xs, H acc = some (.lst xs) ∧ xs.length < sizeLine ∧ ∃ m', m' < n - i ∧ fW acc n Pv (i + 1) m' σ (upd H acc (.lst (xs ++ [v])))
def fSk (acc : Addr) (n : Nat) (Pv : Nat → List V → St → Hp → Prop) (i : Nat) (σ : St) (H : Hp) : Prop := ∃ m', m' < n - i ∧ fW acc n Pv (i + 1) m' σ H
theorem fNx.mk {acc : Addr} {n : Nat} {Pv : Nat → List V → St → Hp → Prop} {i : Nat} {σ : St} {v : V} {H : Hp} {xs : List V} (hn : n ≤ sizeLine) (hi : i < n) (hl : xs.length ≤ i) (ha : H acc = some (.lst xs)) (hp : Pv (i + 1) (xs ++ [v]) σ (upd H acc (.lst (xs ++ [v])))) :
    fNx acc n Pv i σ v H := ⟨xs, ha, by first | lia | omega, n - (i + 1), by first | lia | omega, hi, rfl, xs ++ [v], by rw [List.length_append, List.length_singleton]; first | lia | omega, upd_same, hp⟩
theorem fSk.mk {acc : Addr} {n : Nat} {Pv : Nat → List V → St → Hp → Prop} {i : Nat} {σ : St} {H : Hp} {xs : List V} (hi : i < n) (hl : xs.length ≤ i) (ha : H acc = some (.lst xs)) (hp : Pv (i + 1) xs σ H) : fSk acc n Pv i σ H := ⟨n - (i + 1), by first | lia | omega, hi, rfl, xs, by first | lia | omega, ha, hp⟩
theorem comp_listF {K : PySem.W.Frag} {a : Addr} {ys : List V} {g : TG} {tc : TT} {te : TE} {σ : St} {H1 : Hp} {acc : Addr} {Qr : Hp → Prop} (Pv : Nat → List V → St → Hp → Prop) (h0 : Pv 0 [] σ (upd H1 acc (.lst [])))
    (hq : ∀ i xs σ H, i ≤ ys.length → H acc = some (.lst xs) → Pv i xs σ H → SqL K H a ys)
    (hs : ∀ i x xs σ H, ys[i]? = some x → i < ys.length → xs.length ≤ i → H acc = some (.lst xs) → Pv i xs σ H → g x σ H fun σ2 H2 => tc σ2 H2 fun b Hb => match b with
      | true => te σ2 Hb fun v H3 => fNx acc ys.length Pv i σ2 v H3
      | false => fSk acc ys.length Pv i σ2 Hb)
    (hd : ∀ xs σ H, xs.length ≤ ys.length → H acc = some (.lst xs) → Pv ys.length xs σ H → Qr H) :
    ∃ W : Nat → Nat → St → Hp → Prop, (∃ m, W 0 m σ (upd H1 acc (.lst []))) ∧ ∀ i m σ1 H2, W i m σ1 H2 →
      ((Itl K a).stop i H2 ∧ Qr H2) ∨ ((Itl K a).go i H2 ∧ ∀ x H3, (Itl K a).yld i H2 x H3 → g x σ1 H3 fun σ4 H4 => tc σ4 H4 fun b Hb => match b with
        | true => te σ4 Hb fun v H5 => ∃ xs, H5 acc = some (.lst xs) ∧ xs.length < sizeLine ∧ ∃ m', m' < m ∧ W (i + 1) m' σ4 (upd H5 acc (.lst (xs ++ [v])))
        | false => ∃ m', m' < m ∧ W (i + 1) m' σ4 Hb) := by
  refine ⟨fW acc ys.length Pv, ⟨ys.length, Nat.zero_le _, rfl, [], Nat.le_refl _, upd_same, h0⟩, ?_⟩
  rintro i m σ1 H2 ⟨hi, rfl, xs, hl, ha, hp⟩
  have hsq := hq i xs σ1 H2 hi ha hp
  rcases Nat.lt_or_ge i ys.length with h | h
  · refine .inr ⟨⟨ys, ys[i], hsq, List.getElem?_eq_getElem h⟩, ?_⟩
    rintro x H3 ⟨rfl, hx⟩
    exact hs i x xs σ1 H3 (hx ys hsq) h hl ha hp
  · have e : i = ys.length := Nat.le_antisymm hi h
    subst e
    exact .inl ⟨⟨ys, hsq, Nat.le_refl _⟩, hd xs σ1 H2 hl ha hp⟩
end L2
namespace L2
open PySem PySem.Spec PyProof.Rows PySem.W
inductive ILen (K : Frag) (xs : List V) (H : Hp) (Q : VK) : Prop
  | mk (p : Addr) (ys : List V) (e : xs = [.ref p]) (s : SqL K H p ys ∨ SqT K H p ys) (q : Q (.int ys.length) H) : ILen K xs H Q
section
variable {X : Cx} {K : Frag}
theorem call_len_seqK (hK : X.K = K := by rfl) : CallR X (.builtin "len") (fun xs H Q => ILen K xs H Q) := by
  subst hK
  intro pins s σ H xs us Q I r h
  obtain ⟨p, ys, e, h, q⟩ := h
  exact call_len_seq pins s σ H xs us Q I r ⟨p, ys, e, h, q⟩
theorem call_allK (hK : X.K = K := by rfl) (hc : X.calm = true := by rfl) : CallR X (.builtin "all") (fun xs H Q => ∃ (p : Addr) (bs : List Bool), xs = [.ref p] ∧ SqL K H p (bs.map V.bl) ∧ true = true ∧ Q (.bl (bs.all id)) H) := by
  subst hK
  intro pins s σ H xs us Q I r h
  obtain ⟨p, bs, e, h, _, q⟩ := h
  exact call_all pins s σ H xs us Q I r ⟨p, bs, e, h, hc, q⟩
theorem call_anyK (hK : X.K = K := by rfl) (hc : X.calm = true := by rfl) : CallR X (.builtin "any") (fun xs H Q => ∃ (p : Addr) (bs : List Bool), xs = [.ref p] ∧ SqL K H p (bs.map V.bl) ∧ true = true ∧ Q (.bl (bs.any id)) H) := by
  subst hK
  intro pins s σ H xs us Q I r h
  obtain ⟨p, bs, e, h, _, q⟩ := h
  exact call_any pins s σ H xs us Q I r ⟨p, bs, e, h, hc, q⟩
theorem call_list_ofK (hK : X.K = K := by rfl) : CallR X (.type "list") (fun xs H Q => ∃ p ys, xs = [.ref p] ∧ (SqL K H p ys ∨ SqT K H p ys) ∧ ∀ l, H l = none → Q (.ref l) (upd H l (.lst ys))) := by subst hK; exact call_list_of
theorem pi_listK {tg l : Expr} {tl : TE} (hl : PE X l tl) (hK : X.K = K := by rfl) : PI X tg l (iList K tl) := by subst hK; exact pi_list hl
theorem pi_tupK {tg l : Expr} {tl : TE} (hl : PE X l tl) (hK : X.K = K := by rfl) : PI X tg l (iTup K tl) := by subst hK; exact pi_tup hl
theorem pi_enumK {a : Expr} {es : List Expr} {k : Nat} {tpos : Pos} {ta : TA} {p pos : Pos} (hg : Gl X "enumerate") (hm : X.mg "enumerate" = none) (ha : PA X [a] ta) (hs : starEach [a] X.env = [(false, eval a X.env)] := by rfl) (hK : X.K = K := by rfl) :
    PI X (.Tuple es k tpos) (.Call (.Name "enumerate" p) [a] [] pos) (iEnum K ta) := by subst hK; exact pi_enum hg hm ha hs
theorem sl_tupK (hK : X.K = K := by rfl) : SlR X (rSlT K) := by subst hK; exact sl_tup
theorem sl_listK' (hK : X.K = K := by rfl) : SlR X (rSlL K) := by subst hK; exact sl_list
theorem pe_fldK {e : Expr} {f : Str} {pos : Pos} {ta : TE} (he : PE X e ta) (hb : attributeBase e f X.env (eval e X.env) = eval e X.env) (hK : X.K = K := by rfl) : PE X (.Attribute e f pos) (tFld K ta f) := by subst hK; exact pe_fld he hb
theorem ps_fldK {o value : Expr} {f : Str} {pos pos' : Pos} {ta tv : TE} (ha : PE X o ta) (hv : PE X value tv) (hs : swapsWith value (some (.Attribute o f pos')) pos.line X.env = pure false) (hK : X.K = K := by rfl) : PS X (.Assign [.Attribute o f pos'] value pos) (sFld K ta tv f) := by subst hK; exact ps_fld ha hv hs
theorem pe_xfldK {e : Expr} {f : Str} {pos : Pos} {ta : TE} (he : PE X e ta) (hb : attributeBase e f X.env (eval e X.env) = eval e X.env) (hK : X.K = K := by rfl) : PE X (.Attribute e f pos) (tXFld K ta f) := by subst hK; exact pe_xfld he hb
theorem ps_xfldK {o value : Expr} {f : Str} {pos pos' : Pos} {ta tv : TE} (ha : PE X o ta) (hv : PE X value tv) (hs : swapsWith value (some (.Attribute o f pos')) pos.line X.env = pure false) (hK : X.K = K := by rfl) : PS X (.Assign [.Attribute o f pos'] value pos) (sXFld K ta tv f) := by subst hK; exact ps_xfld ha hv hs
inductive IIsX (K : Frag) (xs : List V) (H : Hp) (Q : VK) : Prop
  | mk (a C : Addr) (c : V) (u : Value) (b : Bool) (e : xs = [.ref a, c]) (h1 : IsExc H a C) (h2 : XCls K C) (h3 : RelV c u) (h4 : ∀ u', RelV c u' → u' = u) (h5 : kitOne K (.ref C) u = some b) (q : Q (.bl b) H) : IIsX K xs H Q
theorem call_isinXK (hK : X.K = K := by rfl) : CallR X (.builtin "isinstance") (fun xs H Q => IIsX K xs H Q) := by
  subst hK
  intro pins s σ H xs us Q I r h
  obtain ⟨a, C, c, u, b, e, h1, h2, h3, h4, h5, q⟩ := h
  exact call_isinX pins s σ H xs us Q I r ⟨a, C, c, u, b, e, h1, h2, h3, h4, h5, q⟩
theorem op_eqDK {k : Nat} (hr : Room k X.A) (hK : X.K = K := by rfl) : OpR X (compareOp .Eq) (rEqD K false) := by subst hK; exact op_eqD hr
theorem op_neDK {k : Nat} (hr : Room k X.A) (hK : X.K = K := by rfl) : OpR X (compareOp .NotEq) (rEqD K true) := by subst hK; exact op_neD hr
theorem call_sortedTK (hK : X.K = K := by rfl) : CallR X (.builtin "sorted") (fun xs H Q => ∃ (p : Addr) (ts : List (Addr × List Int)) (m : Nat) (key : List Int → Int), xs = [.ref p] ∧ SqL K H p (ts.map fun t => V.ref t.1) ∧ ts.length < 64 ∧
    (∀ t ∈ ts, t.2.length = m + 1 ∧ H t.1 = some (.tup (t.2.map V.int))) ∧ (∀ t ∈ ts, ∀ u ∈ ts, HT.lexLt t.2 u.2 = decide (key t.2 < key u.2)) ∧
    ∀ l (ts' : List (Addr × List Int)), H l = none → ts'.Perm ts → (ts'.map fun t => key t.2).Pairwise (· ≤ ·) → Q (.ref l) (upd H l (.lst (ts'.map fun t => V.ref t.1)))) := by subst hK; exact call_sortedT
theorem pe_bm0K {o : Expr} {T id : String} {name : Str} {apos cpos : Pos} {r : V → List V → Hp → VK → Prop} {to : TE} (pa : PlainAttrs T) (slot : Slot T name id) (hty : typeOf (.builtin id) = pure (.type "method_descriptor")) (hm : MtR X id r) (ho : PE X o to)
    (hbase : attributeBase o name X.env (eval o X.env) = eval o X.env := by rfl) (hline : (apos.endLine == cpos.line) = true := by rfl) (hK : X.K = K := by rfl) : PE X (.Call (.Attribute o name apos) [] [] cpos) (tBM0 K T r to) := by subst hK; exact pe_bm0 pa slot hty hm ho hbase hline
theorem pe_bmK {o e : Expr} {es : List Expr} {T id : String} {name : Str} {apos cpos : Pos} {r : V → List V → Hp → VK → Prop} {to : TE} {t : TA} (pa : PlainAttrs T) (slot : Slot T name id) (hty : typeOf (.builtin id) = pure (.type "method_descriptor")) (hm : MtR X id r) (ho : PE X o to) (ha : PA X (e :: es) t)
    (hbase : attributeBase o name X.env (eval o X.env) = eval o X.env := by rfl)
    (hfew : ((backTo cpos (starEach (e :: es) X.env)).all (fun x => !x.1) && (backToKw cpos (keywordEach [] X.env)).all (fun x => x.1.isSome)
      && decide ((e :: es).length + ([] : List Keyword).length + (if ([] : List Keyword).isEmpty then 0 else 1) < 30)) = true := by rfl)
    (hline : (apos.endLine == cpos.line) = true := by rfl) (hs : starEach (e :: es) X.env = (false, eval e X.env) :: starEach es X.env := by rfl) (hplain : (backTo cpos (starEach es X.env)).any (·.1) = false := by rfl) (hK : X.K = K := by rfl) :
    PE X (.Call (.Attribute o name apos) (e :: es) [] cpos) (tBM K T r to t) := by subst hK; exact pe_bm pa slot hty hm ho ha hbase hfew hline hs hplain
end
end L2
namespace K2
open PySem L2 GB
def top (i : Nat) : Stmt := PySem.Challenge.pw_glazebench_k02_panels_made_or_refused.main.body.getD i (.Pass ⟨0, 0, 0, 0⟩)
abbrev s_NoSide_init : Stmt := inClass (top 3) 0
abbrev s_TooMany_init : Stmt := inClass (top 4) 0
abbrev s_NoPane_init : Stmt := inClass (top 5) 0
abbrev s_Overlap_init : Stmt := inClass (top 6) 0
abbrev s_Bare_init : Stmt := inClass (top 7) 0
abbrev s_is_whole : Stmt := top 11
abbrev s_is_side : Stmt := top 12
abbrev s_is_rectangle : Stmt := top 13
abbrev s_inside : Stmt := top 14
abbrev s_squares_of : Stmt := top 15
abbrev s_check_sides : Stmt := top 16
abbrev s_check_panes : Stmt := top 17
abbrev s_panes_by_square : Stmt := top 18
abbrev s_check_covered : Stmt := top 19
abbrev s_Panel_init : Stmt := inClass (top 20) 0
abbrev s_Panel_panes : Stmt := inClass (top 20) 1
abbrev s__law_purse : Stmt := top 22
abbrev s__law_take : Stmt := top 23
abbrev s__law_tiled : Stmt := top 24
abbrev s__law_whole : Stmt := top 25
abbrev s__law_first_square : Stmt := top 26
abbrev s__law_pane : Stmt := top 27
abbrev s__law_apart : Stmt := top 28
abbrev s__law_due : Stmt := top 29
abbrev s__law_spoiled : Stmt := top 30
abbrev s__law_kind : Stmt := top 31
abbrev s__law_flags : Stmt := top 32
abbrev s__law_same : Stmt := top 33
abbrev s_law : Stmt := top 34
def wholeV : V → Bool
  | .int _ => true
  | _ => false
def sideV : V → Bool
  | .int i => decide (1 ≤ i) && decide (i ≤ 12)
  | _ => false
def rectB : List V → Bool
  | [.int a, .int b, .int c, .int d] => decide (0 ≤ a) && decide (a < c) && (decide (0 ≤ b) && decide (b < d))
  | _ => false
def Ty (H : Hp) (v : V) : Prop := ∃ T, tyS H v = some T
theorem tyS_same {H H' : Hp} (s : Same H H') {v : V} {T : String} (h : tyS H v = some T) : tyS H' v = some T := by
  cases v with
  | ref a =>
    have h : tyO (H a) = some T := h
    show tyO (H' a) = some T
    cases e : H a with
    | none => rw [e] at h; cases h
    | some o => rw [e] at h; rw [s a o e]; exact h
  | _ => exact h
theorem Ty.same {H H' : Hp} (s : Same H H') {v : V} (h : Ty H v) : Ty H' v := let ⟨T, e⟩ := h; ⟨T, tyS_same s e⟩
theorem whole_eq {H : Hp} {v : V} {T : String} (h : tyS H v = some T) : (isB T "int" = true → (!isB T "bool") = wholeV v) ∧ (isB T "int" = false → false = wholeV v) := by
  cases v with
  | non => cases h; exact ⟨fun z => absurd z (by decide), fun _ => rfl⟩
  | bl b => cases h; exact ⟨fun _ => by show (!isB "bool" "bool") = false; decide, fun z => absurd z (by decide)⟩
  | int i => cases h; exact ⟨fun _ => by show (!isB "int" "bool") = true; decide, fun z => absurd z (by decide)⟩
  | str x => cases h; exact ⟨fun z => absurd z (by decide), fun _ => rfl⟩
  | byt b => cases h
  | flt b => cases h
  | ty n => cases h
  | ref a =>
    have key : T = "list" ∨ T = "tuple" ∨ T = "dict" := by
      have h : tyO (H a) = some T := h
      unfold tyO at h
      split at h <;> first | (cases h; simp) | cases h
    rcases key with rfl | rfl | rfl <;> exact ⟨fun z => absurd z (by decide), fun _ => rfl⟩
/-- a tuple of known things, or a thing that is no tuple -/
def Good (H : Hp) (v : V) : Prop := (∃ a xs, v = .ref a ∧ H a = some (.tup xs) ∧ xs.length ≤ 100 ∧ ∀ x ∈ xs, Ty H x) ∨ ∃ T, tyS H v = some T ∧ T ≠ "tuple"
theorem Good.same {H H' : Hp} (s : Same H H') {v : V} (h : Good H v) : Good H' v := by
  rcases h with ⟨a, xs, e, h1, hz, h2⟩ | ⟨T, h1, h2⟩
  · exact .inl ⟨a, xs, e, s _ _ h1, hz, fun x hx => (h2 x hx).same s⟩
  · exact .inr ⟨T, tyS_same s h1, h2⟩
theorem ty_tup {H : Hp} {a : Addr} {xs : List V} (h : H a = some (.tup xs)) : tyS H (.ref a) = some "tuple" := by
  show tyO (H a) = some "tuple"
  rw [h]; rfl
theorem ty_lst {H : Hp} {a : Addr} {xs : List V} (h : H a = some (.lst xs)) : tyS H (.ref a) = some "list" := by
  show tyO (H a) = some "list"
  rw [h]; rfl
/-- four ints -/
abbrev four (a b c d : Int) : List V := [.int a, .int b, .int c, .int d]
def insB (a0 a1 a2 a3 o0 o1 o2 o3 : Int) : Bool := decide (o0 ≤ a0) && decide (o1 ≤ a1) && (decide (a2 ≤ o2) && decide (a3 ≤ o3))
/-- panes as they lie: the tuples at their addresses -/
def At (H : Hp) (ts : List (Addr × Rc)) : Prop := ∀ t ∈ ts, H t.1 = some (.tup (four t.2.t t.2.l t.2.b t.2.r))
theorem At.same {H H' : Hp} {ts : List (Addr × Rc)} (a : At H ts) (s : Same H H') : At H' ts := fun t h => s _ _ (a t h)
theorem At.perm {H : Hp} {ts us : List (Addr × Rc)} (a : At H ts) (s : us.Perm ts) : At H us := fun t h => a t (s.mem_iff.mp h)
abbrev refs (ts : List (Addr × Rc)) : List V := ts.map fun t => V.ref t.1
abbrev rcs (ts : List (Addr × Rc)) : List Rc := ts.map (·.2)
theorem refs_snoc (us : List (Addr × Rc)) (x : Addr × Rc) : refs (us ++ [x]) = refs us ++ [V.ref x.1] := by simp
theorem rcs_snoc (us : List (Addr × Rc)) (x : Addr × Rc) : rcs (us ++ [x]) = rcs us ++ [x.2] := by simp
theorem refs_get {ts : List (Addr × Rc)} {i : Nat} {x : V} (h : (refs ts)[i]? = some x) : ∃ t, ts[i]? = some t ∧ x = .ref t.1 := by
  rw [List.getElem?_map] at h
  cases e : ts[i]? with
  | none => rw [e] at h; cases h
  | some t => rw [e] at h; exact ⟨t, rfl, (Option.some.inj h).symm⟩
def flds (w h : Int) (ls ld : Addr) : List (Str × V) := putF "by_square" (.ref ld) (putF "sorted_panes" (.ref ls) (putF "height" (.int h) (putF "width" (.int w) [])))
theorem flds_w (w h : Int) (ls ld : Addr) : (flds w h ls ld).lookup ("width" : Str) = some (.int w) := by
  unfold flds
  rw [lookup_putF, if_neg (by decide +kernel), lookup_putF, if_neg (by decide +kernel), lookup_putF, if_neg (by decide +kernel), lookup_putF, if_pos rfl]
theorem flds_h (w h : Int) (ls ld : Addr) : (flds w h ls ld).lookup ("height" : Str) = some (.int h) := by
  unfold flds
  rw [lookup_putF, if_neg (by decide +kernel), lookup_putF, if_neg (by decide +kernel), lookup_putF, if_pos rfl]
theorem flds_s (w h : Int) (ls ld : Addr) : (flds w h ls ld).lookup ("sorted_panes" : Str) = some (.ref ls) := by
  unfold flds
  rw [lookup_putF, if_neg (by decide +kernel), lookup_putF, if_pos rfl]
theorem flds_no (w h : Int) (ls ld : Addr) {m : Str} (h1 : ¬ m = "by_square") (h2 : ¬ m = "sorted_panes") (h3 : ¬ m = "height") (h4 : ¬ m = "width") : (flds w h ls ld).lookup m = none := by
  unfold flds
  rw [lookup_putF, if_neg h1, lookup_putF, if_neg h2, lookup_putF, if_neg h3, lookup_putF, if_neg h4]; rfl
abbrev sqK (r c : Int) : List Key := [Sum.inl r, Sum.inl c]
theorem sqK_inj {r c r' c' : Int} (h : sqK r c = sqK r' c') : r = r' ∧ c = c' := by
  injection h with h1 h2
  injection h2 with h2 _
  exact ⟨Sum.inl.inj h1, Sum.inl.inj h2⟩
/-- a panel: its sorted panes ts -/
structure PanelAt (C : Addr) (H : Hp) (a : Addr) (w h : Int) (ts : List (Addr × Rc)) (dx ls ld : Addr) (kvs : List (List Key × V)) : Prop where
  ob : H a = some (.ins C dx (flds w h ls ld))
  lst : H ls = some (.lst (refs ts))
  dic : H ld = some (.dT kvs)
  ats : At H ts
  til : Tiles w h (rcs ts)
  few : ts.length ≤ 52
  srt : Srt (rcs ts)
  look : ∀ r c, 0 ≤ r → r < h → 0 ≤ c → c < w → ∃ t ∈ ts, valV kvs (sqK r c) = some (.ref t.1) ∧ t.2.has r c
  sw : 1 ≤ w ∧ w ≤ 12
  sh : 1 ≤ h ∧ h ≤ 12
theorem PanelAt.same {C : Addr} {H H' : Hp} {a : Addr} {w h : Int} {ts : List (Addr × Rc)} {dx ls ld : Addr} {kvs : List (List Key × V)} (p : PanelAt C H a w h ts dx ls ld kvs) (s : Same H H') : PanelAt C H' a w h ts dx ls ld kvs :=
  ⟨s _ _ p.ob, s _ _ p.lst, s _ _ p.dic, p.ats.same s, p.til, p.few, p.srt, p.look, p.sw, p.sh⟩
/-- the datum of a list of panes -/
def rcD (p : Rc) : D := .tup (.cons (.at (.int p.t)) (.cons (.at (.int p.l)) (.cons (.at (.int p.b)) (.cons (.at (.int p.r)) .nil))))
def rcsD : List Rc → Ds
  | [] => .nil
  | p :: r => .cons (rcD p) (rcsD r)
theorem rcD_is {K : PySem.W.Frag} {H : Hp} {a : Addr} {p : Rc} (h : H a = some (.tup (four p.t p.l p.b p.r))) : DIs K H (rcD p) (.ref a) := by
  unfold rcD
  rw [DIs]
  refine ⟨a, _, rfl, SqT.of h, ?_⟩
  rw [DIss]; refine ⟨_, _, rfl, by rw [DIs]; exact ⟨rfl, rfl⟩, ?_⟩
  rw [DIss]; refine ⟨_, _, rfl, by rw [DIs]; exact ⟨rfl, rfl⟩, ?_⟩
  rw [DIss]; refine ⟨_, _, rfl, by rw [DIs]; exact ⟨rfl, rfl⟩, ?_⟩
  rw [DIss]; refine ⟨_, _, rfl, by rw [DIs]; exact ⟨rfl, rfl⟩, ?_⟩
  rw [DIss]
theorem rcsD_is {K : PySem.W.Frag} {H : Hp} : ∀ {ts : List (Addr × Rc)}, At H ts → DIss K H (rcsD (rcs ts)) (refs ts)
  | [], _ => by rw [show rcsD (rcs []) = .nil from rfl, DIss]; rfl
  | t :: r, h => by
    show DIss K H (.cons (rcD t.2) (rcsD (rcs r))) (V.ref t.1 :: refs r)
    rw [DIss]
    exact ⟨_, _, rfl, rcD_is (h t List.mem_cons_self), rcsD_is fun u hu => h u (List.mem_cons_of_mem _ hu)⟩
theorem rcD_dep (p : Rc) : dep (rcD p) = 1 := by
  unfold rcD
  simp [dep, deps]
theorem rcsD_dep : ∀ ps : List Rc, deps (rcsD ps) ≤ 1
  | [] => by rw [show rcsD [] = .nil from rfl, deps]; first | lia | omega
  | p :: r => by
    have := rcsD_dep r
    show deps (.cons (rcD p) (rcsD r)) ≤ 1
    rw [deps, rcD_dep]; first | lia | omega
/-- the datum of a list of panes, whole -/
theorem listD_is {K : PySem.W.Frag} {H : Hp} {l : Addr} {ts : List (Addr × Rc)} (h : SqL K H l (refs ts)) (a : At H ts) : DIs K H (.lst (rcsD (rcs ts))) (.ref l) := by
  rw [DIs]; exact ⟨l, _, rfl, h, rcsD_is a⟩
theorem listD_dep (ps : List Rc) : dep (.lst (rcsD ps)) ≤ 50 := by
  have := rcsD_dep ps
  rw [dep]; first | lia | omega
inductive Isp_whole (vs : List V) (H : Hp) (Q : VK) (E : XK) : Prop
  | mk (v : V) (h0 : vs = [v]) (h1 : Ty H v) (h2 : Q (.bl (wholeV v)) H) : Isp_whole vs H Q E
def sp_whole : Sp := fun vs H Q E => Isp_whole vs H Q E
inductive Isp_side (vs : List V) (H : Hp) (Q : VK) (E : XK) : Prop
  | mk (v : V) (h0 : vs = [v]) (h1 : Ty H v) (h2 : Q (.bl (sideV v)) H) : Isp_side vs H Q E
def sp_side : Sp := fun vs H Q E => Isp_side vs H Q E
inductive Isp_rect (vs : List V) (H : Hp) (Q : VK) (E : XK) : Prop
  | mk (v : V) (h0 : vs = [v]) (h1 : ((∃ a xs, v = .ref a ∧ H a = some (.tup xs) ∧ xs.length ≤ 100 ∧ (∀ x ∈ xs, Ty H x) ∧ ∀ H', Same H H' → Q (.bl (rectB xs)) H') ∨ ∃ T, tyS H v = some T ∧ T ≠ "tuple" ∧ Q (.bl false) H)) : Isp_rect vs H Q E
def sp_rect : Sp := fun vs H Q E => Isp_rect vs H Q E
inductive Isp_inside (vs : List V) (H : Hp) (Q : VK) (E : XK) : Prop
  | mk (a b : Addr) (a0 a1 a2 a3 o0 o1 o2 o3 : Int) (h0 : vs = [.ref a, .ref b]) (h1 : H a = some (.tup (four a0 a1 a2 a3))) (h2 : H b = some (.tup (four o0 o1 o2 o3))) (h3 : Q (.bl (insB a0 a1 a2 a3 o0 o1 o2 o3)) H) : Isp_inside vs H Q E
def sp_inside : Sp := fun vs H Q E => Isp_inside vs H Q E
inductive Isp_purse (K : PySem.W.Frag)  (vs : List V) (H : Hp) (Q : VK) (E : XK) : Prop
  | mk (a : Addr) (ns : List Int) (k : Int) (h0 : vs = [.ref a, .int k]) (h1 : SqL K H a (ns.map V.int)) (h2 : 0 ≤ k) (h3 : k < 1000) (h4 : ∀ p z, H p = none → Q (.ref p) (upd H p (.lst [.int z]))) : Isp_purse K vs H Q E
def sp_purse (K : PySem.W.Frag)  : Sp := fun vs H Q E => Isp_purse K vs H Q E
inductive Isp_take (vs : List V) (H : Hp) (Q : VK) (E : XK) : Prop
  | mk (p : Addr) (z m : Int) (h0 : vs = [.ref p, .int m]) (h1 : H p = some (.lst [.int z])) (h2 : 0 < m) (h3 : m < 18446744073709551616) (h4 : ∀ r z', 0 ≤ r → r < m → Q (.int r) (upd H p (.lst [.int z']))) : Isp_take vs H Q E
def sp_take : Sp := fun vs H Q E => Isp_take vs H Q E
inductive Isp_squares (vs : List V) (H : Hp) (Q : VK) (E : XK) : Prop
  | mk (a : Addr) (p : Rc) (h0 : vs = [.ref a]) (h1 : H a = some (.tup (four p.t p.l p.b p.r))) (h2 : 0 ≤ p.t) (h3 : p.t ≤ p.b) (h4 : p.b ≤ 12) (h5 : 0 ≤ p.l) (h6 : p.l ≤ p.r) (h7 : p.r ≤ 12) (h8 : ∀ (l : Addr) (sq : List (Addr × (Int × Int))) (H' : Hp), Same H H' → H l = none → H' l = some (.lst (sq.map fun s => V.ref s.1)) → (∀ s ∈ sq, H' s.1 = some (.tup [.int s.2.1, .int s.2.2])) → sq.map (·.2) = sqs p → Q (.ref l) H') : Isp_squares vs H Q E
def sp_squares : Sp := fun vs H Q E => Isp_squares vs H Q E
inductive Isp_panes (C : Addr)  (vs : List V) (H : Hp) (Q : VK) (E : XK) : Prop
  | mk (a dx ls ld : Addr) (w h : Int) (ts : List (Addr × Rc)) (kvs : List (List Key × V)) (h0 : vs = [.ref a]) (h1 : PanelAt C H a w h ts dx ls ld kvs) (h2 : ∀ l, H l = none → Q (.ref l) (upd H l (.lst (refs ts)))) : Isp_panes C vs H Q E
def sp_panes (C : Addr)  : Sp := fun vs H Q E => Isp_panes C vs H Q E
inductive Isp_tiled (K : PySem.W.Frag)  (vs : List V) (H : Hp) (Q : VK) (E : XK) : Prop
  | mk (a : Addr) (ns : List Int) (k w h : Int) (h0 : vs = [.ref a, .int k, .int w, .int h]) (h1 : SqL K H a (ns.map V.int)) (h2 : 0 ≤ k) (h3 : k ≤ 10) (h4 : (1 ≤ w ∧ w ≤ 12)) (h5 : (1 ≤ h ∧ h ≤ 12)) (h6 : ∀ (l : Addr) (ts : List (Addr × Rc)) (H' : Hp), Same H H' → H l = none → H' l = some (.lst (refs ts)) → At H' ts → ts.length ≤ 144 → Q (.ref l) H') : Isp_tiled K vs H Q E
def sp_tiled (K : PySem.W.Frag)  : Sp := fun vs H Q E => Isp_tiled K vs H Q E
inductive Isp_law (K : PySem.W.Frag)  (vs : List V) (H : Hp) (Q : VK) (E : XK) : Prop
  | mk (a : Addr) (ns : List Int) (h0 : vs = [.ref a]) (h1 : SqL K H a (ns.map V.int)) (h2 : ns.length ≤ 63) (h3 : ∀ H', Q (.bl true) H') : Isp_law K vs H Q E
def sp_law (K : PySem.W.Frag)  : Sp := fun vs H Q E => Isp_law K vs H Q E
structure Txt (mg : Str → Option Value) (tk : Tok × Tok) : Prop where
  z_isinstance : mg "isinstance" = none
  z_int : mg "int" = none
  z_bool : mg "bool" = none
  z_tuple : mg "tuple" = none
  z_len : mg "len" = none
  z_all : mg "all" = none
  z_any : mg "any" = none
  z_range : mg "range" = none
  z_sorted : mg "sorted" = none
  z_min : mg "min" = none
  z_max : mg "max" = none
  z_list : mg "list" = none
  z_enumerate : mg "enumerate" = none
  z_str : mg "str" = none
  z_ValueError : mg "ValueError" = none
  g_LONGEST_SIDE : mg "LONGEST_SIDE" = some (.int 12 tk.1)
  g_MOST_PANES : mg "MOST_PANES" = some (.int 52 tk.2)
/-- what the walk asks of the class Panel -/
structure PCls (K : PySem.W.Frag) (C : Addr) : Prop where
  cl : Cls K C
  n_width : NoAttr K C "width"
  n_height : NoAttr K C "height"
  n_sorted_panes : NoAttr K C "sorted_panes"
  n_by_square : NoAttr K C "by_square"
section
variable {P : Program} {w : World} {K : PySem.W.Frag} {mg : Str → Option Value} {base : Heap} {tk : Tok × Tok} {C : Addr} {cS cM cP cO cB : Addr}
theorem S_is_whole : FnScope ["thing"] ["thing"] (defScope s_is_whole) := ⟨rfl, rfl, rfl, by decide +kernel, rfl, by decide +kernel, by decide +kernel⟩
theorem ok_is_whole {f : Addr} {fd : FuncData} (F : Fun K "is_whole" "is_whole" s_is_whole f fd) (T : Txt mg tk) : FnOk P w K mg base CX0 1 f fd ["thing"] sp_whole := by
  have S := S_is_whole
  refine F.ok S (fun vs H Q E h => ?_) (fun cdv A outer s H vs Q E hr h => ?_)
  · obtain ⟨v, rfl, _⟩ := h; rfl
  · obtain ⟨v, rfl, ⟨T', hT⟩, q⟩ := h
    refine ⟨_, (pss_one (ps_ret (pe_and (pe_callB call_isin rfl T.z_isinstance rfl (pa_cons (pv 0) (pa_cons (pe_bltn (v := .ty "int") rfl T.z_int rfl rfl) pa_nil))) (pe_one (pe_not (pe_callB call_isin rfl T.z_isinstance rfl (pa_cons (pv 0) (pa_cons (pe_bltn (v := .ty "bool") rfl T.z_bool rfl rfl) pa_nil)))))))), ?_⟩
    refine ⟨v, rfl, v, T', "int", rfl, hT, .inl rfl, _, rfl, ite3 (fun h => ?_) (fun h => ?_)⟩
    · refine ⟨v, rfl, v, T', "bool", rfl, hT, .inr (.inl rfl), _, rfl, ?_⟩
      rw [(whole_eq hT).1 h]; exact q
    · show Q (.bl false) H
      rw [(whole_eq hT).2 h]; exact q
theorem S_is_side : FnScope ["thing"] ["thing"] (defScope s_is_side) := ⟨rfl, rfl, rfl, by decide +kernel, rfl, by decide +kernel, by decide +kernel⟩
theorem ok_is_side {f : Addr} {fd : FuncData} (F : Fun K "is_side" "is_side" s_is_side f fd) (T : Txt mg tk) (D_is_whole : DefOk P w K mg base 1 "is_whole" ["thing"] sp_whole) : FnOk P w K mg base CX0 2 f fd ["thing"] sp_side := by
  have S := S_is_side
  refine F.ok S (fun vs H Q E h => ?_) (fun cdv A outer s H vs Q E hr h => ?_)
  · obtain ⟨v, rfl, _⟩ := h; rfl
  · obtain ⟨v, rfl, hv, q⟩ := h
    refine ⟨_, (pss_one (ps_ret (pe_and (pe_fn D_is_whole hr (pa_cons (pv 0) pa_nil)) (pe_one (pe_chain op_le op_le pe_int (pv 0) (pe_glob (v := .int 12) rfl T.g_LONGEST_SIDE ⟨_, rfl⟩)))))), ?_⟩
    refine ⟨v, rfl, v, rfl, hv, _, rfl, ite3 (fun h => ?_) (fun h => ?_)⟩
    · obtain ⟨i, rfl⟩ : ∃ i, v = .int i := by cases v <;> first | exact ⟨_, rfl⟩ | cases h
      refine ⟨_, rfl, _, _, rfl, rfl, _, rfl, ite3 (fun h1 => ?_) (fun h1 => ?_)⟩
      · refine ⟨_, _, rfl, rfl, ?_⟩
        have e : sideV (.int i) = decide (i ≤ 12) := by
          show (decide (1 ≤ i) && decide (i ≤ 12)) = _
          rw [h1]; rfl
        show Q (.bl (decide (i ≤ 12))) H
        rw [← e]; exact q
      · have e : sideV (.int i) = false := by
          show (decide (1 ≤ i) && decide (i ≤ 12)) = _
          rw [h1]; rfl
        show Q (.bl false) H
        rw [← e]; exact q
    · have e : sideV v = false := by cases v <;> first | rfl | cases h
      show Q (.bl false) H
      rw [← e]; exact q
theorem at0 {x0 x1 x2 x3 : V} : atI [x0, x1, x2, x3] 0 = some x0 := rfl
theorem at1 {x0 x1 x2 x3 : V} : atI [x0, x1, x2, x3] 1 = some x1 := rfl
theorem at2 {x0 x1 x2 x3 : V} : atI [x0, x1, x2, x3] 2 = some x2 := rfl
theorem at3 {x0 x1 x2 x3 : V} : atI [x0, x1, x2, x3] 3 = some x3 := rfl
theorem len1 {α : Type} {us : List α} (h : us.length = 1) : ∃ a, us = [a] := List.length_eq_one_iff.mp h
theorem len2 {α : Type} {us : List α} (h : us.length = 2) : ∃ a b, us = [a, b] := by
  cases us with
  | nil => cases h
  | cons a r => obtain ⟨b, rfl⟩ := len1 (Nat.succ.inj h); exact ⟨a, b, rfl⟩
theorem len3 {α : Type} {us : List α} (h : us.length = 3) : ∃ a b c, us = [a, b, c] := by
  cases us with
  | nil => cases h
  | cons a r => obtain ⟨b, c, rfl⟩ := len2 (Nat.succ.inj h); exact ⟨a, b, c, rfl⟩
theorem len4 {α : Type} {us : List α} (h : us.length = 4) : ∃ a b c d, us = [a, b, c, d] := by
  cases us with
  | nil => cases h
  | cons a r => obtain ⟨b, c, d, rfl⟩ := len3 (Nat.succ.inj h); exact ⟨a, b, c, d, rfl⟩
theorem four_of {xs : List V} (hl : xs.length = 4) (h : (xs.map wholeV).all id = true) : ∃ a b c d, xs = four a b c d := by
  obtain ⟨x0, x1, x2, x3, rfl⟩ := len4 hl
  simp only [List.map_cons, List.map_nil, List.all_cons, List.all_nil, id, Bool.and_true, Bool.and_eq_true] at h
  obtain ⟨h0, h1, h2, h3⟩ := h
  have g : ∀ {x : V}, wholeV x = true → ∃ i, x = .int i := fun {x} h => by cases x <;> first | exact ⟨_, rfl⟩ | cases h
  obtain ⟨a, rfl⟩ := g h0
  obtain ⟨b, rfl⟩ := g h1
  obtain ⟨c, rfl⟩ := g h2
  obtain ⟨d, rfl⟩ := g h3
  exact ⟨a, b, c, d, rfl⟩
theorem rect_four {xs : List V} (h : rectB xs = true) : ∃ a b c d, xs = four a b c d := by
  unfold rectB at h
  split at h
  · exact ⟨_, _, _, _, rfl⟩
  · cases h
theorem rect_no {xs : List V} (h : ∀ a b c d, xs ≠ four a b c d) : rectB xs = false := by
  unfold rectB
  split
  · exact absurd rfl (h _ _ _ _)
  · rfl
theorem dec4 {n : Nat} : (!decide (V.int (n : Int) = V.int 4)) = true → n ≠ 4 := fun h e => by
  subst e
  have : decide (V.int ((4 : Nat) : Int) = V.int 4) = true := decI.mpr rfl
  rw [this] at h; cases h
theorem dec4' {n : Nat} : (!decide (V.int (n : Int) = V.int 4)) = false → n = 4 := fun h => by
  have e : decide (V.int (n : Int) = V.int 4) = true := by
    cases z : decide (V.int (n : Int) = V.int 4) with
    | true => rfl
    | false => rw [z] at h; cases h
  have := decI.mp e
  first | lia | omega
theorem take_next {xs : List V} {i : Nat} {x : V} (h : xs[i]? = some x) {f : V → V} : (xs.take i).map f ++ [f x] = (xs.take (i + 1)).map f := by
  rw [List.take_succ, h, List.map_append]; rfl
theorem S_is_rectangle : FnScope ["thing"] ["thing"] (defScope s_is_rectangle) := ⟨rfl, rfl, rfl, by decide +kernel, rfl, by decide +kernel, by decide +kernel⟩
theorem ok_is_rectangle {f : Addr} {fd : FuncData} (F : Fun K "is_rectangle" "is_rectangle" s_is_rectangle f fd) (T : Txt mg tk) (D_is_whole : DefOk P w K mg base 1 "is_whole" ["thing"] sp_whole) : FnOk P w K mg base CX0 2 f fd ["thing"] sp_rect := by
  have S := S_is_rectangle
  refine F.ok S (fun vs H Q E h => ?_) (fun cdv A outer s H vs Q E hr h => ?_)
  · obtain ⟨v, rfl, _⟩ := h; rfl
  · obtain ⟨v, rfl, h⟩ := h
    refine ⟨_, (pss_cons (ps_if (PW.pt (pw_or (pt_not (pt_val (pe_callB call_isin rfl T.z_isinstance rfl (pa_cons (pv 0) (pa_cons (pe_bltn (v := .ty "tuple") rfl T.z_tuple rfl rfl) pa_nil))))) (pw_or1 (pt_cmpR op_ne (pe_callB (call_len_seqK (K := K)) rfl T.z_len rfl (pa_cons (pv 0) pa_nil)) pe_int (nomark _))))) (pss_one (ps_ret pe_bl)) pss_nil)
      (pss_cons (ps_if (pt_not (pt_val (pe_callB (call_allK (K := K)) rfl T.z_all rfl (pa_cons (pe_comp rfl (pi_tupK (K := K) (pv 0)) (fun _ _ _ _ _ => (pg_name (i := 0) (show List.Nodup (["part"] : List Str) from by decide +kernel) rfl (Or.inl rfl))) (fun _ _ _ _ _ => (pe_fn D_is_whole hr (pa_cons (pv 0) pa_nil))) (N := ["part"]) (fr := [none])) pa_nil)))) (pss_one (ps_ret pe_bl)) pss_nil)
      (pss_one (ps_ret (pe_and (pe_chain op_le op_lt pe_int (pe_ix (ix_tupK (K := K)) (pv 0) pe_int (fun _ _ => rfl)) (pe_ix (ix_tupK (K := K)) (pv 0) pe_int (fun _ _ => rfl))) (pe_one (pe_chain op_le op_lt pe_int (pe_ix (ix_tupK (K := K)) (pv 0) pe_int (fun _ _ => rfl)) (pe_ix (ix_tupK (K := K)) (pv 0) pe_int (fun _ _ => rfl))))))))), ?_⟩
    rcases h with ⟨a, xs, rfl, ha, hlen, hx, q⟩ | ⟨T', hT, hne, q⟩
    · refine ⟨_, rfl, _, "tuple", "tuple", rfl, ty_tup ha, .inr (.inr (.inl rfl)), _, rfl, iteN (by rw [isB_tt]; rfl) ?_⟩
      refine ⟨_, rfl, a, xs, rfl, .inr (SqT.of ha), rfl, _, rfl, ite3 (fun h => ?_) (fun h => ?_)⟩
      · have e : rectB xs = false := rect_no fun a b c d z => dec4 h (by rw [z]; rfl)
        show Q (.bl false) H
        rw [← e]; exact q H (Same.refl H)
      · have h4 := dec4' h
        refine ⟨_, rfl, a, rfl, ⟨xs, SqT.of ha⟩, fun acc hacc => comp_tup (K := K) (a := a) (ys := xs) (fun i zs σ H' => (∃ y, σ = [y]) ∧ Same H H' ∧ zs = (xs.take i).map fun x => V.bl (wholeV x)) ⟨⟨none, rfl⟩, Same.new hacc, rfl⟩
          (fun i zs σ H' _ _ hp => SqT.of (hp.2.1 _ _ ha)) ?_ ?_⟩
        · rintro i x zs σ H' hxi hi hl hacc' ⟨⟨y, rfl⟩, hs, hzs⟩
          refine ⟨x, rfl, x, rfl, (hx x (List.mem_of_getElem? hxi)).same hs, cNx.mk (Nat.le_of_lt (small1000 (by first | lia | omega))) hi hl hacc' ⟨⟨_, rfl⟩, fun b o e => ?_, ?_⟩⟩
          · rw [upd_ne (ne_of_none e hacc)]; exact hs b o e
          · rw [hzs]; exact take_next (f := fun x => V.bl (wholeV x)) hxi
        · rintro zs σ H' hl hacc' ⟨_, hs, hzs⟩
          refine ⟨acc, xs.map wholeV, rfl, SqL.of (by rw [hacc', hzs, List.take_length, List.map_map]; rfl), rfl, _, rfl, ite3 (fun h => ?_) (fun h => ?_)⟩
          · have e : rectB xs = false := rect_no fun a b c d z => by subst z; cases h
            show Q (.bl false) H'
            rw [← e]; exact q H' hs
          · obtain ⟨a0, a1, a2, a3, rfl⟩ := four_of h4 (by simpa using h)
            have ha' := hs _ _ ha
            have key : Q (.bl (decide (0 ≤ a0) && decide (a0 < a2) && (decide (0 ≤ a1) && decide (a1 < a3)))) H' := q H' hs
            refine ⟨_, rfl, a, _, _, _, rfl, rfl, SqT.of ha', at0, _, _, rfl, rfl, _, rfl, ite3 (fun h1 => ?_) (fun h1 => ?_)⟩
            · refine ⟨_, rfl, a, _, _, _, rfl, rfl, SqT.of ha', at2, _, _, rfl, rfl, _, rfl, ite3 (fun h2 => ?_) (fun h2 => ?_)⟩
              · refine ⟨_, rfl, a, _, _, _, rfl, rfl, SqT.of ha', at1, _, _, rfl, rfl, _, rfl, ite3 (fun h3 => ?_) (fun h3 => ?_)⟩
                · refine ⟨_, rfl, a, _, _, _, rfl, rfl, SqT.of ha', at3, _, _, rfl, rfl, ?_⟩
                  rw [h1, h2, h3] at key; exact key
                · show Q (.bl false) H'
                  rw [h1, h2, h3] at key; exact key
              · show Q (.bl false) H'
                rw [h1, h2] at key; exact key
            · refine ⟨_, rfl, iteF ?_⟩
              show Q (.bl false) H'
              rw [h1] at key; exact key
    · refine ⟨_, rfl, _, T', "tuple", rfl, hT, .inr (.inr (.inl rfl)), _, rfl, iteP ?_ (iteT q)⟩
      have e : isB T' "tuple" = false := by
        unfold isB
        rw [decide_eq_false hne]
        simp
      rw [e]; rfl
theorem S_inside : FnScope ["one", "other", "starts_within"] ["one", "other"] (defScope s_inside) := ⟨rfl, rfl, rfl, by decide +kernel, rfl, by decide +kernel, by decide +kernel⟩
theorem ok_inside {f : Addr} {fd : FuncData} (F : Fun K "inside" "inside" s_inside f fd) : FnOk P w K mg base CX0 1 f fd ["one", "other"] sp_inside := by
  have S := S_inside
  refine F.ok S (fun vs H Q E h => ?_) (fun cdv A outer s H vs Q E hr h => ?_)
  · obtain ⟨a, b, a0, a1, a2, a3, o0, o1, o2, o3, rfl, _⟩ := h; rfl
  · obtain ⟨a, b, a0, a1, a2, a3, o0, o1, o2, o3, rfl, ha, hb, q⟩ := h
    refine ⟨_, (pss_cons (ps_set (i := 2) S.nd rfl (Or.inl rfl) (pe_and (pe_cmpR op_le (pe_ix (ix_tupK (K := K)) (pv 1) pe_int (fun _ _ => rfl)) (pe_ix (ix_tupK (K := K)) (pv 0) pe_int (fun _ _ => rfl)) (nomark _)) (pe_one (pe_cmpR op_le (pe_ix (ix_tupK (K := K)) (pv 1) pe_int (fun _ _ => rfl)) (pe_ix (ix_tupK (K := K)) (pv 0) pe_int (fun _ _ => rfl)) (nomark _)))))
      (pss_one (ps_ret (pe_and (pv 2) (pe_and (pe_cmpR op_le (pe_ix (ix_tupK (K := K)) (pv 0) pe_int (fun _ _ => rfl)) (pe_ix (ix_tupK (K := K)) (pv 1) pe_int (fun _ _ => rfl)) (nomark _)) (pe_one (pe_cmpR op_le (pe_ix (ix_tupK (K := K)) (pv 0) pe_int (fun _ _ => rfl)) (pe_ix (ix_tupK (K := K)) (pv 1) pe_int (fun _ _ => rfl)) (nomark _)))))))), ?_⟩
    have key : Q (.bl (decide (o0 ≤ a0) && decide (o1 ≤ a1) && (decide (a2 ≤ o2) && decide (a3 ≤ o3)))) H := q
    refine ⟨_, rfl, b, _, _, _, rfl, rfl, SqT.of hb, at0, _, rfl, a, _, _, _, rfl, rfl, SqT.of ha, at0, _, _, rfl, rfl, _, rfl, ite3 (fun h1 => ?_) (fun h1 => ?_)⟩
    · refine ⟨_, rfl, b, _, _, _, rfl, rfl, SqT.of hb, at1, _, rfl, a, _, _, _, rfl, rfl, SqT.of ha, at1, _, _, rfl, rfl, ?_⟩
      refine ⟨_, rfl, _, rfl, ite3 (fun h2 => ?_) (fun h2 => ?_)⟩
      · refine ⟨_, rfl, a, _, _, _, rfl, rfl, SqT.of ha, at2, _, rfl, b, _, _, _, rfl, rfl, SqT.of hb, at2, _, _, rfl, rfl, _, rfl, ite3 (fun h3 => ?_) (fun h3 => ?_)⟩
        · refine ⟨_, rfl, a, _, _, _, rfl, rfl, SqT.of ha, at3, _, rfl, b, _, _, _, rfl, rfl, SqT.of hb, at3, _, _, rfl, rfl, ?_⟩
          rw [h1, h2, h3] at key; exact key
        · show Q (.bl false) H
          rw [h1, h2, h3] at key; exact key
      · show Q (.bl false) H
        rw [h1, h2] at key; exact key
    · refine ⟨_, rfl, _, rfl, iteF ?_⟩
      show Q (.bl false) H
      rw [h1] at key; exact key
theorem S_law_take : FnScope ["_law_purse_here", "_law_many", "_law_found"] ["_law_purse_here", "_law_many"] (defScope s__law_take) := ⟨rfl, rfl, rfl, by decide +kernel, rfl, by decide +kernel, by decide +kernel⟩
theorem ok_law_take {f : Addr} {fd : FuncData} (F : Fun K "_law_take" "_law_take" s__law_take f fd) : FnOk P w K mg base CX0 1 f fd ["_law_purse_here", "_law_many"] sp_take := by
  have S := S_law_take
  refine F.ok S (fun vs H Q E h => ?_) (fun cdv A outer s H vs Q E hr h => ?_)
  · obtain ⟨p, z, m, rfl, _⟩ := h; rfl
  · obtain ⟨p, z, m, rfl, hp, hm, hm2, q⟩ := h
    refine ⟨_, (pss_cons (ps_set (i := 2) S.nd rfl (Or.inl rfl) (pe_op op_mod (pe_ix (ix_listK (K := K)) (pv 0) pe_int (fun _ _ => rfl)) (pv 1)))
      (pss_cons (ps_asg (pe_op op_fdivL (pe_ix (ix_listK (K := K)) (pv 0) pe_int (fun _ _ => rfl)) (pv 1)) (pg_sub (pv 0) pe_int set_list))
      (pss_one (ps_ret (pv 2))))), ?_⟩
    have hdiv : CDivL z m := ⟨hm, Nat.lt_trans (log2_lt_of (k := 64) (by decide) (by first | lia | omega)) (by decide)⟩
    refine ⟨_, rfl, p, _, _, _, rfl, rfl, SqL.of hp, rfl, _, rfl, _, _, rfl, rfl, hm, ?_⟩
    refine ⟨_, rfl, p, _, _, _, rfl, rfl, SqL.of hp, rfl, _, rfl, _, _, rfl, rfl, hdiv, _, rfl, p, _, _, 0, rfl, rfl, hp, rfl, ?_⟩
    exact ⟨_, rfl, q _ _ (Int.emod_nonneg _ (by first | lia | omega)) (Int.emod_lt_of_pos _ hm)⟩
theorem S_law_purse : FnScope ["_law_script", "_law_k", "_law_cell"] ["_law_script", "_law_k"] (defScope s__law_purse) := ⟨rfl, rfl, rfl, by decide +kernel, rfl, by decide +kernel, by decide +kernel⟩
theorem pow18 : CPow 10 18 := ⟨by decide, by decide, by decide⟩
theorem pow30 : CPow 10 30 := ⟨by decide, by decide, by decide⟩
theorem div18 (z : Int) : CDivL z (10 ^ (18 : Int).toNat) := ⟨by decide +kernel, by decide +kernel⟩
theorem big_eq : (10 : Int) ^ (30 : Int).toNat + 57 = 1000000000000000000000000000057 := by decide +kernel
theorem big_pos : (0 : Int) < (10 : Int) ^ (30 : Int).toNat + 57 := by rw [big_eq]; decide
theorem big_mul {z k : Int} (h0 : 0 ≤ k) (h1 : k < 1000) : IntMulOk (z % ((10 : Int) ^ (30 : Int).toNat + 57) + k + 1) 618033988749894848204586834365 := by
  rw [big_eq]
  refine mulOk_of ?_ (by decide +kernel)
  have a := Int.emod_nonneg z (b := 1000000000000000000000000000057) (by decide)
  have b := Int.emod_lt_of_pos z (b := 1000000000000000000000000000057) (by decide)
  have c : (2 : Nat) ^ 128 = 340282366920938463463374607431768211456 := by decide +kernel
  rw [c]
  first | lia | omega
theorem ok_law_purse {f : Addr} {fd : FuncData} (F : Fun K "_law_purse" "_law_purse" s__law_purse f fd) (T : Txt mg tk) : FnOk P w K mg base CX0 1 f fd ["_law_script", "_law_k"] (sp_purse K) := by
  have S := S_law_purse
  refine F.ok S (fun vs H Q E h => ?_) (fun cdv A outer s H vs Q E hr h => ?_)
  · obtain ⟨a, ns, k, rfl, _⟩ := h; rfl
  · obtain ⟨a, ns, k, rfl, hS, hk0, hk1, q⟩ := h
    refine ⟨_, (pss_cons (ps_set (i := 2) S.nd rfl (Or.inl rfl) pe_int)
      (pss_cons (ps_if (pt_cmpR op_lt (pv 1) (pe_callB (call_len_seqK (K := K)) rfl T.z_len rfl (pa_cons (pv 0) pa_nil)) (nomark _)) (pss_one (ps_set (i := 2) S.nd rfl (Or.inl rfl) (pe_ix (ix_listK (K := K)) (pv 0) (pv 1) (fun _ _ => rfl)))) pss_nil)
      (pss_cons (ps_if (pt_cmpR op_ne (pe_op op_fdivL (pv 2) (pe_op op_pow pe_int pe_int)) pe_int (nomark _)) (pss_one (ps_ret (pe_lst (pa_cons (pv 2) pa_nil)))) pss_nil)
      (pss_one (ps_ret (pe_lst (pa_cons (pe_op op_mod (pe_op op_mulL (pe_op op_add (pe_op op_add (pe_op op_mod (pv 2) (pe_op op_add (pe_op op_pow pe_int pe_int) pe_int)) (pv 1)) pe_int) pe_int) (pe_op op_add (pe_op op_pow pe_int pe_int) pe_int)) pa_nil))))))), ?_⟩
    refine ⟨_, rfl, _, rfl, a, _, rfl, .inl hS, _, _, rfl, rfl, _, rfl, ite3 (fun h => ?_) (fun h => ?_)⟩
    · have hk : k.toNat < ns.length := by
        have h' : k < ((ns.map V.int).length : Int) := of_decide_eq_true h
        rw [List.length_map] at h'
        first | lia | omega
      have hz : (ns.map V.int)[k.toNat]? = some (.int ns[k.toNat]) := by rw [List.getElem?_map, List.getElem?_eq_getElem hk]; rfl
      have hat : atI (ns.map V.int) k = some (.int ns[k.toNat]) := by
        have e := atI_nat hz
        rw [Int.toNat_of_nonneg hk0] at e
        exact e
      refine ⟨_, rfl, _, rfl, a, _, k, _, rfl, rfl, hS, hat, ?_⟩
      generalize ns[k.toNat] = z0
      refine ⟨_, rfl, _, _, rfl, rfl, pow18, _, _, rfl, rfl, div18 _, rfl, _, rfl, ite3 (fun h => ?_) (fun h => ?_)⟩
      · exact ⟨_, rfl, lenOk 1, fun p hp => q p _ hp⟩
      · exact ⟨_, rfl, _, _, rfl, rfl, pow30, _, _, rfl, rfl, _, _, rfl, rfl, big_pos, _, rfl, _, _, rfl, rfl, _, _, rfl, rfl, _, _, rfl, rfl, big_mul hk0 hk1, _, _, rfl, rfl, pow30, _, _, rfl, rfl, _, _, rfl, rfl, big_pos, lenOk 1, fun p hp => q p _ hp⟩
    · refine ⟨_, rfl, _, _, rfl, rfl, pow18, _, _, rfl, rfl, div18 _, rfl, _, rfl, ite3 (fun h => ?_) (fun h => ?_)⟩
      · exact ⟨_, rfl, lenOk 1, fun p hp => q p _ hp⟩
      · exact ⟨_, rfl, _, _, rfl, rfl, pow30, _, _, rfl, rfl, _, _, rfl, rfl, big_pos, _, rfl, _, _, rfl, rfl, _, _, rfl, rfl, _, _, rfl, rfl, big_mul hk0 hk1, _, _, rfl, rfl, pow30, _, _, rfl, rfl, _, _, rfl, rfl, big_pos, lenOk 1, fun p hp => q p _ hp⟩
theorem atI_in {L : List V} {i : Int} (h0 : 0 ≤ i) (h1 : i < L.length) : ∃ v, atI L i = some v ∧ v ∈ L := by
  have h : i.toNat < L.length := by first | lia | omega
  have e := atI_nat (List.getElem?_eq_getElem h)
  rw [Int.toNat_of_nonneg h0] at e
  exact ⟨_, e, List.getElem_mem h⟩
theorem S_squares_of : FnScope ["rectangle", "squares", "row", "column"] ["rectangle"] (defScope s_squares_of) := ⟨rfl, rfl, rfl, by decide +kernel, rfl, by decide +kernel, by decide +kernel⟩
theorem mul144 {i m : Nat} (h1 : i ≤ 12) (h2 : m ≤ 12) : i * m ≤ 144 := Nat.mul_le_mul h1 h2
theorem ok_squares_of {f : Addr} {fd : FuncData} (F : Fun K "squares_of" "squares_of" s_squares_of f fd) (T : Txt mg tk) : FnOk P w K mg base CX0 1 f fd ["rectangle"] sp_squares := by
  have S := S_squares_of
  refine F.ok S (fun vs H Q E h => ?_) (fun cdv A outer s H vs Q E hr h => ?_)
  · obtain ⟨a, p, rfl, _⟩ := h; rfl
  · obtain ⟨a, p, rfl, ha, g1, g2, g3, g4, g5, g6, q⟩ := h
    refine ⟨_, (pss_cons (ps_set (i := 1) S.nd rfl (Or.inl rfl) (pe_lst pa_nil))
      (pss_cons (ps_for PassesOwn.never rfl (pi_range2 rfl T.z_range (pa_cons (pe_ix (ix_tupK (K := K)) (pv 0) pe_int (fun _ _ => rfl)) (pa_cons (pe_ix (ix_tupK (K := K)) (pv 0) pe_int (fun _ _ => rfl)) pa_nil))) (pg_name (i := 2) S.nd rfl (Or.inl rfl)) (pss_one (ps_for PassesOwn.never rfl (pi_range2 rfl T.z_range (pa_cons (pe_ix (ix_tupK (K := K)) (pv 0) pe_int (fun _ _ => rfl)) (pa_cons (pe_ix (ix_tupK (K := K)) (pv 0) pe_int (fun _ _ => rfl)) pa_nil))) (pg_name (i := 3) S.nd rfl (Or.inl rfl)) (pss_one (ps_expr (pe_bmK (K := K) PySem.F.plainAttrs_list PySem.F.slot_list_append PySem.F.type_list_append mt_append (pv 1) (pa_cons (pe_tup (pa_cons (pv 2) (pa_cons (pv 3) pa_nil))) pa_nil)))))))
      (pss_one (ps_ret (pv 1))))), ?_⟩
    refine ⟨lenOk 0, fun l hl => ?_⟩
    have ha0 : (upd H l (.lst [])) a = some (.tup (four p.t p.l p.b p.r)) := Same.new hl _ _ ha
    refine ⟨_, rfl, a, _, _, _, rfl, rfl, SqT.of ha0, at0, _, rfl, a, _, _, _, rfl, rfl, SqT.of ha0, at2, p.t, p.b, rfl, ⟨by first | lia | omega, by first | lia | omega, by first | lia | omega, by first | lia | omega⟩,
      for_range (lo := p.t) (n := (p.b - p.t).toNat) (fun i σ H' => ∃ x y, ∃ sq : List (Addr × (Int × Int)), σ = [some (.ref a), some (.ref l), x, y] ∧ Same H H' ∧ H' l = some (.lst (sq.map fun s => V.ref s.1)) ∧ (∀ s ∈ sq, H' s.1 = some (.tup [.int s.2.1, .int s.2.2])) ∧ sq.map (·.2) = sqsN p i)
        ⟨none, none, [], rfl, Same.new hl, upd_same, fun s hs => (nomatch hs), rfl⟩ ?_ ?_⟩
    · rintro i σ H' hi ⟨x, y, sq, rfl, hs, hlst, hsq, hmap⟩
      have ha' := hs _ _ ha
      refine ⟨_, rfl, a, _, _, _, rfl, rfl, SqT.of ha', at1, _, rfl, a, _, _, _, rfl, rfl, SqT.of ha', at3, p.l, p.r, rfl, ⟨by first | lia | omega, by first | lia | omega, by first | lia | omega, by first | lia | omega⟩,
        for_range (lo := p.l) (n := (p.r - p.l).toNat) (fun j σ H2 => ∃ y, ∃ sq : List (Addr × (Int × Int)), σ = [some (.ref a), some (.ref l), some (.int (p.t + i)), y] ∧ Same H H2 ∧ H2 l = some (.lst (sq.map fun s => V.ref s.1)) ∧ (∀ s ∈ sq, H2 s.1 = some (.tup [.int s.2.1, .int s.2.2])) ∧ sq.map (·.2) = sqsN p i ++ rowSq p i j)
          ⟨y, sq, rfl, hs, hlst, hsq, by rw [hmap]; simp [rowSq]⟩ ?_ ?_⟩
      · rintro j σ H2 hj ⟨y, sq, rfl, hs2, hl2, hq2, hm2⟩
        refine ⟨_, rfl, .inl ⟨rfl, _, SqL.of hl2⟩, _, rfl, _, rfl, lenOk 2, fun t ht => ?_⟩
        have nlt : l ≠ t := ne_of_none hl2 ht
        have hlen : sq.length ≤ 288 := by
          have e := congrArg List.length hm2
          rw [List.length_map, List.length_append, sqsN_len, rowSq, List.length_map, List.length_range] at e
          have := mul144 (i := i) (m := (p.r - p.l).toNat) (by first | lia | omega) (by first | lia | omega)
          first | lia | omega
        refine ⟨l, _, _, rfl, rfl, by rw [upd_ne nlt]; exact hl2, small1000 (by rw [List.length_map]; first | lia | omega), ?_⟩
        refine ⟨_, sq ++ [(t, (p.t + (i : Int), p.l + (j : Int)))], rfl, fun b o e => ?_, ?_, fun z hz => ?_, ?_⟩
        · rw [upd_ne (ne_of_none e hl), upd_ne (ne_of_none (hs2 _ _ e) ht)]; exact hs2 b o e
        · rw [upd_same, List.map_append]; rfl
        · rcases List.mem_append.mp hz with hz | hz
          · have e := hq2 z hz
            have n1 : z.1 ≠ l := ne_of e hl2 (by intro q; cases q)
            rw [upd_ne n1, upd_ne (ne_of_none e ht)]; exact e
          · rw [List.mem_singleton.mp hz, upd_ne (Ne.symm nlt)]; exact upd_same
        · rw [List.map_append, hm2, List.append_assoc, rowSq_succ]; rfl
      · rintro σ H2 ⟨y, sq, rfl, hs2, hl2, hq2, hm2⟩
        exact ⟨_, _, sq, rfl, hs2, hl2, hq2, hm2⟩
    · rintro σ H2 ⟨x, y, sq, rfl, hs2, hl2, hq2, hm2⟩
      exact ⟨_, rfl, q l sq H2 hs2 hl hl2 hq2 hm2⟩
theorem S_check_sides : FnScope ["width", "height", "side"] ["width", "height"] (defScope s_check_sides) := ⟨rfl, rfl, rfl, by decide +kernel, rfl, by decide +kernel, by decide +kernel⟩
theorem S_check_panes : FnScope ["panes", "sheet", "place", "pane"] ["panes", "sheet"] (defScope s_check_panes) := ⟨rfl, rfl, rfl, by decide +kernel, rfl, by decide +kernel, by decide +kernel⟩
theorem mem_take_succ {α : Type} {xs : List α} {i : Nat} {u x : α} (h : xs[i]? = some u) : x ∈ xs.take (i + 1) ↔ x ∈ xs.take i ∨ x = u := by
  rw [List.take_succ, h, List.mem_append]
  simp
theorem nodup_take {α β : Type} {xs : List α} {f : α → β} (hn : (xs.map f).Nodup) {j : Nat} {s : α} (h : xs[j]? = some s) : f s ∉ (xs.take j).map f := fun hm => by
  obtain ⟨hj, rfl⟩ := List.getElem?_eq_some_iff.mp h
  obtain ⟨y, hy, e⟩ := List.mem_map.mp hm
  obtain ⟨k, hk, rfl⟩ := List.getElem_of_mem hy
  have hk' : k < j := by rw [List.length_take] at hk; first | lia | omega
  rw [List.nodup_iff_pairwise_ne, List.pairwise_iff_getElem] at hn
  exact hn k j (by rw [List.length_map]; first | lia | omega) (by rw [List.length_map]; exact hj) hk' (by simpa using e)
theorem sq_get {sq : List (Addr × (Int × Int))} {i : Nat} {x : V} (h : (sq.map fun s => V.ref s.1)[i]? = some x) : ∃ t, sq[i]? = some t ∧ x = .ref t.1 := by
  rw [List.getElem?_map] at h
  cases e : sq[i]? with
  | none => rw [e] at h; cases h
  | some t => rw [e] at h; exact ⟨t, rfl, (Option.some.inj h).symm⟩
theorem sqs_len {p : Rc} {w h : Int} (i : p.In w h) (b1 : w ≤ 12) (b2 : h ≤ 12) : (sqs p).length ≤ 144 := by
  obtain ⟨a1, a2, a3, a4, a5, a6⟩ := i
  unfold sqs
  rw [sqsN_len]
  exact mul144 (by first | lia | omega) (by first | lia | omega)
theorem S_panes_by_square : FnScope ["panes", "by_square", "place", "pane", "square"] ["panes"] (defScope s_panes_by_square) := ⟨rfl, rfl, rfl, by decide +kernel, rfl, by decide +kernel, by decide +kernel⟩
theorem S_check_covered : FnScope ["by_square", "sheet", "square"] ["by_square", "sheet"] (defScope s_check_covered) := ⟨rfl, rfl, rfl, by decide +kernel, rfl, by decide +kernel, by decide +kernel⟩
theorem perm_unmap {α β : Type} {f : α → β} : ∀ {l' m : List β}, l'.Perm m → ∀ {l : List α}, m = l.map f → ∃ us : List α, us.Perm l ∧ l' = us.map f := by
  intro l' m h
  induction h with
  | nil => intro l e; exact ⟨l, .refl _, e⟩
  | cons x hp ih =>
    intro l e
    cases l with
    | nil => cases e
    | cons y r =>
      rw [List.map_cons] at e
      injection e with e1 e2
      obtain ⟨us, h1, h2⟩ := ih e2
      exact ⟨y :: us, h1.cons y, by rw [List.map_cons, ← h2, e1]⟩
  | swap x y r =>
    intro l e
    match l, e with
    | a :: b :: r', e =>
      rw [List.map_cons, List.map_cons] at e
      injection e with e1 e2
      injection e2 with e2 e3
      exact ⟨b :: a :: r', .swap a b r', by rw [List.map_cons, List.map_cons, e1, e2, e3]⟩
  | trans h1 h2 ih1 ih2 =>
    intro l e
    obtain ⟨us, a1, a2⟩ := ih2 e
    obtain ⟨vs, b1, b2⟩ := ih1 a2
    exact ⟨vs, b1.trans a1, b2⟩
theorem S_Panel_init : FnScope ["self", "width", "height", "panes", "sheet", "own_panes", "by_square"] ["self", "width", "height", "panes"] (defScope s_Panel_init) := ⟨rfl, rfl, rfl, by decide +kernel, rfl, by decide +kernel, by decide +kernel⟩
theorem S_Panel_panes : FnScope ["self"] ["self"] (defScope s_Panel_panes) := ⟨rfl, rfl, rfl, by decide +kernel, rfl, by decide +kernel, by decide +kernel⟩
theorem ok_Panel_panes {f : Addr} {fd : FuncData} (F : Fun K "panes" "Panel.panes" s_Panel_panes f fd) (T : Txt mg tk) (PC : PCls K C) : FnOk P w K mg base CX0 1 f fd ["self"] (sp_panes C) := by
  have S := S_Panel_panes
  refine F.ok S (fun vs H Q E h => ?_) (fun cdv A outer s H vs Q E hr h => ?_)
  · obtain ⟨a, dx, ls, ld, w, h, ts, kvs, rfl, _⟩ := h; rfl
  · obtain ⟨a, dx, ls, ld, w, h, ts, kvs, rfl, pn, q⟩ := h
    refine ⟨_, (pss_one (ps_ret (pe_callTy (call_list_ofK (K := K)) rfl T.z_list rfl (pa_cons (pe_fldK (K := K) (pv 0) rfl) pa_nil)))), ?_⟩
    exact ⟨_, rfl, a, C, dx, _, _, rfl, pn.ob, PC.cl, PC.n_sorted_panes, flds_s _ _ _ _, ls, _, rfl, .inl (SqL.of pn.lst), fun l hl => q l hl⟩
structure Til (H0 H : Hp) (lp d : Addr) (r c : Int) (ts : List (Addr × Rc)) (kvs : List (List Key × V)) : Prop where
  same : Same H0 H
  lst : H lp = some (.lst (refs ts))
  dic : H d = some (.dT kvs)
  ats : At H ts
  cnt : (ts.length : Int) ≤ 12 * r + c
  siz : kvs.length ≤ 144 * ts.length
theorem Til.to {H0 H H' : Hp} {lp d : Addr} {r c : Int} {ts : List (Addr × Rc)} {kvs : List (List Key × V)} (t : Til H0 H lp d r c ts kvs) (s : Same H H') : Til H0 H' lp d r c ts kvs :=
  ⟨t.same.trans s, s _ _ t.lst, s _ _ t.dic, t.ats.same s, t.cnt, t.siz⟩
theorem Til.skip {H0 H : Hp} {lp d : Addr} {r c : Int} {ts : List (Addr × Rc)} {kvs : List (List Key × V)} (t : Til H0 H lp d r c ts kvs) : Til H0 H lp d r (c + 1) ts kvs :=
  ⟨t.same, t.lst, t.dic, t.ats, by have := t.cnt; first | lia | omega, t.siz⟩
theorem Til.line {H0 H : Hp} {lp d : Addr} {w r : Int} {ts : List (Addr × Rc)} {kvs : List (List Key × V)} (t : Til H0 H lp d r w ts kvs) (hw : w ≤ 12) : Til H0 H lp d (r + 1) 0 ts kvs :=
  ⟨t.same, t.lst, t.dic, t.ats, by have := t.cnt; first | lia | omega, t.siz⟩
/-- one pane more -/
theorem Til.more {H0 H H' : Hp} {lp d t : Addr} {i j : Int} {p : Rc} {ts : List (Addr × Rc)} {kvs kv : List (List Key × V)} (T : Til H0 H lp d i j ts kvs) (hs : Same H0 H') (hl : H' lp = some (.lst (refs ts ++ [V.ref t]))) (hd : H' d = some (.dT kv)) (ha : At H' ts)
    (ht : H' t = some (.tup (four p.t p.l p.b p.r))) (hz : kv.length ≤ kvs.length + 144) : Til H0 H' lp d i (j + 1) (ts ++ [(t, p)]) kv := by
  have h1 := T.cnt
  have h2 := T.siz
  refine ⟨hs, by rw [hl, refs_snoc], hd, fun u hu => ?_, by rw [List.length_append, List.length_singleton]; first | lia | omega, by rw [List.length_append, List.length_singleton]; first | lia | omega⟩
  rcases List.mem_append.mp hu with hu | hu
  · exact ha u hu
  · rw [List.mem_singleton.mp hu]; exact ht
def nth (b : List Stmt) (i : Nat) : Stmt := b.getD i (.Pass ⟨0, 0, 0, 0⟩)
def forBody : Stmt → List Stmt
  | .For _ _ b _ _ => b
  | _ => []
def muFree (ww : Int) (σ : St) : Nat := match σ[9]? with
  | some (some (V.int q)) => (ww - q).toNat
  | _ => 0
theorem pow20 : CPow 10 20 := ⟨by decide, by decide, by decide⟩
theorem div20 (z : Int) : CDivL z (10 ^ (20 : Int).toNat) := ⟨by decide +kernel, by decide +kernel⟩
abbrev N_tiled : List Str := ["_law_script", "_law_k", "_law_width", "_law_height", "_law_most", "_law_panes", "_law_owned", "_law_row", "_law_column", "_law_free", "_law_purse_here", "_law_wide", "_law_high", "_law_square"]
theorem S_law_tiled : FnScope N_tiled ["_law_script", "_law_k", "_law_width", "_law_height"] (defScope s__law_tiled) := ⟨rfl, rfl, rfl, by decide +kernel, rfl, by decide +kernel, by decide +kernel⟩
theorem ok_law_tiled {f : Addr} {fd : FuncData} (F : Fun K "_law_tiled" "_law_tiled" s__law_tiled f fd) (T : Txt mg tk) (D__law_purse : DefOk P w K mg base 1 "_law_purse" ["_law_script", "_law_k"] (sp_purse K)) (D__law_take : DefOk P w K mg base 1 "_law_take" ["_law_purse_here", "_law_many"] sp_take) :
    FnOk P w K mg base CX0 2 f fd ["_law_script", "_law_k", "_law_width", "_law_height"] (sp_tiled K) := by
  have S := S_law_tiled
  refine F.ok S (fun vs H Q E h => ?_) (fun cdv A outer s H vs Q E hr h => ?_)
  · obtain ⟨a, ns, k, w, h, rfl, _⟩ := h; rfl
  · obtain ⟨a, ns, k, ww, h, rfl, hS, k0, k1, gw, gh, q⟩ := h
    have hu := hu_of hr
    -- the last two statements of a turn: the pane, and its squares
    obtain ⟨tt, htt, fin⟩ : ∃ rd, PSs (cxOf CX0 P w K mg base N_tiled "_law_tiled" (defScope s__law_tiled) f cdv A outer s H E).nox ((forBody (nth (forBody (nth (defBody s__law_tiled) 3)) 0)).drop 7) rd ∧
        ∀ (D : Ends) (lp d pp : Addr) (i j fr wd hg m : Int) (x13 : Option V) (ts : List (Addr × Rc)) (kvs : List (List Key × V)) (H5 : Hp), Til H H5 lp d i j ts kvs → H lp = none → H d = none → 0 ≤ i → i < h → 0 ≤ j → j < ww → 1 ≤ wd → j + wd ≤ ww → 1 ≤ hg → i + hg ≤ h →
          
          (∀ (x13 : Option V) (ts' : List (Addr × Rc)) (kvs' : List (List Key × V)) (H6 : Hp), Til H H6 lp d i (j + 1) ts' kvs' → D.nx [some (.ref a), some (.int k), some (.int ww), some (.int h), some (.int m), some (.ref lp), some (.ref d), some (.int i), some (.int j), some (.int fr), some (.ref pp), some (.int wd), some (.int hg), x13] H6) →
          rd D [some (.ref a), some (.int k), some (.int ww), some (.int h), some (.int m), some (.ref lp), some (.ref d), some (.int i), some (.int j), some (.int fr), some (.ref pp), some (.int wd), some (.int hg), x13] H5 := by
      refine ⟨_, (pss_cons (ps_expr (pe_bmK (K := K) PySem.F.plainAttrs_list PySem.F.slot_list_append PySem.F.type_list_append mt_append (pv 5) (pa_cons (pe_tup (pa_cons (pv 7) (pa_cons (pv 8) (pa_cons (pe_op op_add (pv 7) (pv 12)) (pa_cons (pe_op op_add (pv 8) (pv 11)) pa_nil))))) pa_nil)))
      (pss_one (ps_for PassesOwn.never rfl (pi_range1 rfl T.z_range (pa_cons (pe_op op_mulL (pv 11) (pv 12)) pa_nil)) (pg_name (i := 13) S.nd rfl (Or.inl rfl)) (pss_one (ps_dput hu (pv 6) (pe_tup (pa_cons (pe_op op_add (pv 7) (pe_op op_fdivL (pv 13) (pv 11))) (pa_cons (pe_op op_add (pv 8) (pe_op op_mod (pv 13) (pv 11))) pa_nil))) pe_bl rfl))))), ?_⟩
      intro D lp d pp i j fr wd hg m x13 ts kvs H5 T5 nlp nd i0 i1 j0 j1 w1 w2 h1 h2 nx
      have nlpd : lp ≠ d := ne_of T5.lst T5.dic (by intro z; cases z)
      have few : ts.length ≤ 200 := by have := T5.cnt; first | lia | omega
      refine ⟨_, rfl, .inl ⟨rfl, _, SqL.of T5.lst⟩, _, rfl, _, rfl, _, rfl, _, rfl, _, _, rfl, rfl, _, rfl, _, rfl, _, _, rfl, rfl, lenOk 4, fun t ht => ?_⟩
      have nlt : lp ≠ t := ne_of_none T5.lst ht
      have ndt : d ≠ t := ne_of_none T5.dic ht
      refine ⟨lp, _, _, rfl, rfl, by rw [upd_ne nlt]; exact T5.lst, small1000 (by rw [List.length_map]; first | lia | omega), ?_⟩
      have l6 : (upd (upd H5 t (.tup (four i j (i + hg) (j + wd)))) lp (.lst (refs ts ++ [V.ref t]))) lp = some (.lst (refs ts ++ [V.ref t])) := upd_same
      have t6 : (upd (upd H5 t (.tup (four i j (i + hg) (j + wd)))) lp (.lst (refs ts ++ [V.ref t]))) t = some (.tup (four i j (i + hg) (j + wd))) := by rw [upd_ne (Ne.symm nlt)]; exact upd_same
      have d6 : (upd (upd H5 t (.tup (four i j (i + hg) (j + wd)))) lp (.lst (refs ts ++ [V.ref t]))) d = some (.dT kvs) := by rw [upd_ne (Ne.symm nlpd), upd_ne ndt]; exact T5.dic
      have s6 : Same H (upd (upd H5 t (.tup (four i j (i + hg) (j + wd)))) lp (.lst (refs ts ++ [V.ref t]))) := fun b o e => by
        rw [upd_ne (ne_of_none e nlp), upd_ne (ne_of_none (T5.same _ _ e) ht)]; exact T5.same b o e
      have a6 : At (upd (upd H5 t (.tup (four i j (i + hg) (j + wd)))) lp (.lst (refs ts ++ [V.ref t]))) ts := fun u hu => by
        have e := T5.ats u hu
        rw [upd_ne (ne_of e T5.lst (by intro z; cases z)), upd_ne (ne_of_none e ht)]; exact e
      generalize upd (upd H5 t (.tup (four i j (i + hg) (j + wd)))) lp (.lst (refs ts ++ [V.ref t])) = H6 at l6 t6 d6 s6 a6 ⊢
      have area : 0 ≤ wd * hg ∧ wd * hg ≤ 144 := by
        refine ⟨Int.mul_nonneg (by first | lia | omega) (by first | lia | omega), ?_⟩
        have e1 : wd * hg ≤ 12 * hg := Int.mul_le_mul_of_nonneg_right (by first | lia | omega) (by first | lia | omega)
        first | lia | omega
      refine ⟨_, rfl, _, rfl, _, _, rfl, rfl, mulOk_of (by first | lia | omega) (by first | lia | omega), wd * hg, rfl, by first | lia | omega, by first | lia | omega, for_range (lo := 0) (n := (wd * hg).toNat)
        (fun n σ H' => ∃ (x13 : Option V) (kv : List (List Key × V)), σ = [some (.ref a), some (.int k), some (.int ww), some (.int h), some (.int m), some (.ref lp), some (.ref d), some (.int i), some (.int j), some (.int fr), some (.ref pp), some (.int wd), some (.int hg), x13] ∧
          SameX d H6 H' ∧ H' d = some (.dT kv) ∧ kv.length ≤ kvs.length + n)
        ⟨x13, kvs, rfl, SameX.refl, d6, by first | lia | omega⟩ ?_ ?_⟩
      · rintro n σ H' hn ⟨x13, kv, rfl, sx, dk, dl⟩
        rw [Int.zero_add]
        have hdiv : CDivL (n : Int) wd := ⟨by first | lia | omega, Nat.lt_trans (log2_lt_of (k := 64) (by decide) (by first | lia | omega)) (by decide)⟩
        refine ⟨_, rfl, _, rfl, _, rfl, _, rfl, _, _, rfl, rfl, hdiv, _, _, rfl, rfl, _, rfl, _, rfl, _, rfl, _, _, rfl, rfl, (show 0 < wd by first | lia | omega), _, _, rfl, rfl, lenOk 2, fun y hy => ?_⟩
        have ndy : d ≠ y := ne_of_none dk hy
        refine ⟨d, _, rfl, DPut.t (k := sqK (i + n / wd) (j + n % wd)) (by rw [upd_ne ndy]; exact dk) upd_same (Nat.lt_of_le_of_lt (m := 40000) (by have := T5.siz; first | lia | omega) (by rw [sizeLine_eq]; decide)), ?_⟩
        refine ⟨_, _, rfl, fun b o nb e => ?_, upd_same, ?_⟩
        · rw [upd_ne nb, upd_ne (ne_of_none (sx b o nb e) hy)]; exact sx b o nb e
        · have := length_putK kv (sqK (i + n / wd) (j + n % wd)) (V.bl true)
          first | lia | omega
      · rintro σ H' ⟨x13, kv, rfl, sx, dk, dl⟩
        have nl := ne_of l6 d6 (by intro z; cases z)
        have nt := ne_of t6 d6 (by intro z; cases z)
        exact nx x13 _ kv H' (T5.more (p := ⟨i, j, i + hg, j + wd⟩) (fun b o e => sx b o (ne_of_none e nd) (s6 b o e)) (sx _ _ nl l6) dk (fun u hu => sx _ _ (ne_of (a6 u hu) d6 (by intro z; cases z)) (a6 u hu)) (sx _ _ nt t6) (by first | lia | omega))
    -- from the purse on
    obtain ⟨t2, ht2, fin2⟩ : ∃ rd, PSs (cxOf CX0 P w K mg base N_tiled "_law_tiled" (defScope s__law_tiled) f cdv A outer s H E).nox ((forBody (nth (forBody (nth (defBody s__law_tiled) 3)) 0)).drop 3) rd ∧
        ∀ (D : Ends) (lp d : Addr) (i j fr m : Int) (x10 x11 x12 x13 : Option V) (ts : List (Addr × Rc)) (kvs : List (List Key × V)) (H5 : Hp), Til H H5 lp d i j ts kvs → H lp = none → H d = none → 0 ≤ i → i < h → 0 ≤ j → j < ww → 1 ≤ fr → j + fr ≤ ww → 2 ≤ m → m ≤ 12 →
          (∀ (x9 x10 x11 x12 x13 : Option V) (ts' : List (Addr × Rc)) (kvs' : List (List Key × V)) (H6 : Hp), Til H H6 lp d i (j + 1) ts' kvs' → D.nx [some (.ref a), some (.int k), some (.int ww), some (.int h), some (.int m), some (.ref lp), some (.ref d), some (.int i), some (.int j), x9, x10, x11, x12, x13] H6) →
          rd D [some (.ref a), some (.int k), some (.int ww), some (.int h), some (.int m), some (.ref lp), some (.ref d), some (.int i), some (.int j), some (.int fr), x10, x11, x12, x13] H5 := by
      refine ⟨_, (pss_cons (ps_set (i := 10) S.nd rfl (Or.inl rfl) (pe_fn D__law_purse hr (pa_cons (pv 0) (pa_cons (pe_op op_add (pv 1) (pe_callB (call_len_seqK (K := K)) rfl T.z_len rfl (pa_cons (pv 5) pa_nil))) pa_nil))))
      (pss_cons (ps_set (i := 11) S.nd rfl (Or.inl rfl) (pe_op op_add pe_int (pe_fn D__law_take hr (pa_cons (pv 10) (pa_cons (pe_callB (call_min2 rfl) rfl T.z_min rfl (pa_cons (pv 4) (pa_cons (pv 9) pa_nil))) pa_nil)))))
      (pss_cons (ps_set (i := 12) S.nd rfl (Or.inl rfl) (pe_op op_add pe_int (pe_fn D__law_take hr (pa_cons (pv 10) (pa_cons (pe_callB (call_min2 rfl) rfl T.z_min rfl (pa_cons (pv 4) (pa_cons (pe_op op_sub (pv 3) (pv 7)) pa_nil))) pa_nil)))))
      (pss_cons (ps_if (pt_cmpR op_gt (pe_callB (call_len_seqK (K := K)) rfl T.z_len rfl (pa_cons (pv 5) pa_nil)) pe_int (nomark _)) (pss_cons (ps_set (i := 11) S.nd rfl (Or.inl rfl) (pv 9))
      (pss_one (ps_set (i := 12) S.nd rfl (Or.inl rfl) (pe_op op_sub (pv 3) (pv 7))))) pss_nil)
      htt)))), ?_⟩
      intro D lp d i j fr m x10 x11 x12 x13 ts kvs H5 T5 nlp nd i0 i1 j0 j1 f1 f2 m1 m2 nx
      have few : (ts.length : Int) ≤ 200 := by have := T5.cnt; first | lia | omega
      refine ⟨_, rfl, _, rfl, _, rfl, lp, _, rfl, .inl (SqL.of T5.lst), _, _, rfl, rfl, a, ns, _, rfl, T5.same.seq hS, by first | lia | omega, by rw [List.length_map]; first | lia | omega, fun pp z hpp => ?_⟩
      refine ⟨_, rfl, _, rfl, _, rfl, _, _, rfl, pp, z, _, rfl, upd_same, by split <;> first | lia | omega, by split <;> first | lia | omega, fun r1 z1 r10 r11 => ⟨_, _, rfl, rfl, ?_⟩⟩
      refine ⟨_, rfl, _, rfl, _, rfl, _, rfl, _, _, rfl, rfl, _, _, rfl, pp, z1, _, rfl, upd_same, by split <;> first | lia | omega, by split <;> first | lia | omega, fun r2 z2 r20 r21 => ⟨_, _, rfl, rfl, ?_⟩⟩
      have T8 : Til H (upd (upd (upd H5 pp (.lst [.int z])) pp (.lst [.int z1])) pp (.lst [.int z2])) lp d i j ts kvs := T5.to fun b o e => by
        have n := ne_of_none e hpp
        rw [upd_ne n, upd_ne n, upd_ne n]; exact e
      have b1 : r1 + 1 ≤ fr := by split at r11 <;> first | lia | omega
      have b2 : r2 + 1 ≤ h - i := by split at r21 <;> first | lia | omega
      refine ⟨_, rfl, lp, _, rfl, .inl (SqL.of T8.lst), _, _, rfl, rfl, _, rfl, ite3 (fun hb => ?_) (fun hb => ?_)⟩
      · refine ⟨_, rfl, _, rfl, _, rfl, _, _, rfl, rfl, ?_⟩
        exact fin D lp d pp i j fr fr (h - i) m x13 ts kvs _ T8 nlp nd i0 i1 j0 j1 (by first | lia | omega) (by first | lia | omega) (by first | lia | omega) (by first | lia | omega) fun y13 ts' kvs' H6 T6 => nx _ _ _ _ _ ts' kvs' H6 T6
      · have hb' := of_decide_eq_false hb
        rw [List.length_map] at hb'
        exact fin D lp d pp i j fr (1 + r1) (1 + r2) m x13 ts kvs _ T8 nlp nd i0 i1 j0 j1 (by first | lia | omega) (by first | lia | omega) (by first | lia | omega) (by first | lia | omega) fun y13 ts' kvs' H6 T6 => nx _ _ _ _ _ ts' kvs' H6 T6
    refine ⟨_, (pss_cons (ps_set (i := 4) S.nd rfl (Or.inl rfl) (pe_ix (ix_listK (K := K)) (pe_lst (pa_cons pe_int (pa_cons pe_int (pa_cons pe_int (pa_cons pe_int pa_nil))))) (pe_op op_mod (pe_op op_fdivL (pe_ix (ix_listK (K := K)) (pe_fn D__law_purse hr (pa_cons (pv 0) (pa_cons pe_int pa_nil))) pe_int (fun _ _ => rfl)) (pe_op op_pow pe_int pe_int)) pe_int) (fun _ _ => rfl)))
      (pss_cons (ps_set (i := 5) S.nd rfl (Or.inl rfl) (pe_lst pa_nil))
      (pss_cons (ps_set (i := 6) S.nd rfl (Or.inl rfl) pe_dnewT)
      (pss_cons (ps_for PassesOwn.never rfl (pi_range1 rfl T.z_range (pa_cons (pv 3) pa_nil)) (pg_name (i := 7) S.nd rfl (Or.inl rfl)) (pss_one (ps_for PassesOwn.never rfl (pi_range1 rfl T.z_range (pa_cons (pv 2) pa_nil)) (pg_name (i := 8) S.nd rfl (Or.inl rfl)) (pss_cons (ps_if (pt_cmp (pc_din hu (pe_tup (pa_cons (pv 7) (pa_cons (pv 8) pa_nil))) (pv 6))) (pss_one ps_continue) pss_nil)
      (pss_cons (ps_set (i := 9) S.nd rfl (Or.inl rfl) pe_int)
      (pss_cons (ps_while PassesOwn.never (PW.pt (pw_and (pt_cmpR op_lt (pe_op op_add (pv 8) (pv 9)) (pv 2) (nomark _)) (pw_and1 (pt_cmp (pc_dnotin hu (pe_tup (pa_cons (pv 7) (pa_cons (pe_op op_add (pv 8) (pv 9)) pa_nil))) (pv 6)))))) (pss_one (ps_set (i := 9) S.nd rfl (Or.inl rfl) (pe_op op_add (pv 9) pe_int))))
      ht2))))))
      (pss_one (ps_ret (pv 5))))))), ?_⟩
    refine ⟨lenOk 4, fun l0 h0 => ?_⟩
    have s0 : Same H (upd H l0 (.lst [.int 12, .int 3, .int 2, .int 12])) := Same.new h0
    refine ⟨_, rfl, a, ns, 0, rfl, s0.seq hS, by decide, by decide, fun p0 z0 hp0 => ?_⟩
    have n0 : l0 ≠ p0 := ne_of_none upd_same hp0
    obtain ⟨v, hv, hm⟩ := atI_in (L := [V.int 12, V.int 3, V.int 2, V.int 12]) (i := z0 / 10 ^ (20 : Int).toNat % 4) (Int.emod_nonneg _ (by decide)) (by show _ < (4 : Int); exact Int.emod_lt_of_pos _ (by decide))
    obtain ⟨m, rfl, m1, m2⟩ : ∃ m, v = .int m ∧ 2 ≤ m ∧ m ≤ 12 := by
      simp only [List.mem_cons, List.not_mem_nil, or_false] at hm
      rcases hm with rfl | rfl | rfl | rfl <;> exact ⟨_, rfl, by decide, by decide⟩
    refine ⟨p0, _, _, _, rfl, rfl, SqL.of upd_same, rfl, _, _, rfl, rfl, pow20, _, _, rfl, rfl, div20 _, _, _, rfl, rfl, (show (0 : Int) < 4 from by decide), l0, _, _, _, rfl, rfl, SqL.of (by rw [upd_ne n0]; exact upd_same), hv, ?_⟩
    have s1 := s0.trans (Same.new (o := .lst [.int z0]) hp0)
    generalize upd (upd H l0 (.lst [.int 12, .int 3, .int 2, .int 12])) p0 (.lst [.int z0]) = H1 at s1 ⊢
    refine ⟨lenOk 0, fun lp hlp => ?_⟩
    intro d hd
    have nlp : H lp = none := s1.free hlp
    have nd : H d = none := (s1.trans (Same.new hlp)).free hd
    have nlpd : lp ≠ d := ne_of_none upd_same hd
    have T0 : Til H (upd (upd H1 lp (.lst [])) d (.dT [])) lp d 0 0 [] [] := ⟨(s1.trans (Same.new hlp)).trans (Same.new hd), by rw [upd_ne nlpd]; exact upd_same, upd_same, fun t ht => (nomatch ht), by simp, by simp⟩
    refine ⟨_, rfl, h, rfl, by first | lia | omega, by first | lia | omega, for_range (lo := 0) (n := h.toNat) (fun i σ H' => ∃ x7 x8 x9 x10 x11 x12 x13 ts kvs, σ = [some (.ref a), some (.int k), some (.int ww), some (.int h), some (.int m), some (.ref lp), some (.ref d), x7, x8, x9, x10, x11, x12, x13] ∧ Til H H' lp d i 0 ts kvs)
      ⟨_, _, _, _, _, _, _, [], [], rfl, T0⟩ ?_ ?_⟩
    · rintro i σ H2 hi ⟨x7, x8, x9, x10, x11, x12, x13, ts, kvs, rfl, T2⟩
      rw [Int.zero_add]
      refine ⟨_, rfl, ww, rfl, by first | lia | omega, by first | lia | omega, for_range (lo := 0) (n := ww.toNat) (fun j σ H' => ∃ x8 x9 x10 x11 x12 x13 ts kvs, σ = [some (.ref a), some (.int k), some (.int ww), some (.int h), some (.int m), some (.ref lp), some (.ref d), some (.int i), x8, x9, x10, x11, x12, x13] ∧ Til H H' lp d i j ts kvs)
        ⟨_, _, _, _, _, _, ts, kvs, rfl, T2⟩ ?_ ?_⟩
      · rintro j σ H3 hj ⟨x8, x9, x10, x11, x12, x13, ts, kvs, rfl, T3⟩
        rw [Int.zero_add]
        refine ⟨_, rfl, _, rfl, lenOk 2, fun t ht => ?_⟩
        have T4 := T3.to (Same.new (o := .tup [.int i, .int j]) ht)
        have dg := DGet.t (k := sqK i j) T4.dic upd_same
        cases e : valV kvs (sqK i j) with
        | some v =>
          rw [e] at dg
          refine ⟨_, rfl, d, _, rfl, dg, _, rfl, iteT ?_⟩
          exact ⟨_, _, _, _, _, _, ts, kvs, rfl, T4.skip⟩
        | none =>
          rw [e] at dg
          refine ⟨_, rfl, d, _, rfl, dg, _, rfl, iteF ?_⟩
          refine while_by (fun σ H' => ∃ fr, σ = [some (.ref a), some (.int k), some (.int ww), some (.int h), some (.int m), some (.ref lp), some (.ref d), some (.int i), some (.int j), some (.int fr), x10, x11, x12, x13] ∧ Til H H' lp d i j ts kvs ∧ 1 ≤ fr ∧ j + fr ≤ ww)
            (fun σ _ => muFree ww σ) ⟨1, rfl, T4, by first | lia | omega, by first | lia | omega⟩ ?_ ?_
          · rintro σ H5 ⟨fr, rfl, T5, f1, f2⟩
            refine ⟨_, rfl, _, rfl, _, _, rfl, rfl, _, rfl, _, _, rfl, rfl, _, rfl, ite3 (fun hlt => ?_) (fun hge => ?_)⟩
            · have hlt' := of_decide_eq_true hlt
              refine ⟨_, rfl, _, rfl, _, rfl, _, _, rfl, rfl, lenOk 2, fun y hy => ?_⟩
              have T6 := T5.to (Same.new (o := .tup [.int i, .int (j + fr)]) hy)
              have dg2 := DGet.t (k := sqK i (j + fr)) T6.dic upd_same
              cases e2 : valV kvs (sqK i (j + fr)) with
              | none =>
                rw [e2] at dg2
                refine ⟨_, rfl, d, _, rfl, dg2, _, rfl, iteT ?_⟩
                refine ⟨_, rfl, _, _, rfl, rfl, ⟨fr + 1, rfl, T6, by first | lia | omega, by first | lia | omega⟩, ?_⟩
                · show (ww - (fr + 1)).toNat < (ww - fr).toNat
                  first | lia | omega
              | some v =>
                rw [e2] at dg2
                refine ⟨_, rfl, d, _, rfl, dg2, _, rfl, iteF ?_⟩
                refine fin2 _ lp d i j fr m _ _ _ _ ts kvs _ T6 nlp nd (by first | lia | omega) (by first | lia | omega) (by first | lia | omega) (by first | lia | omega) f1 f2 m1 m2 ?_
                exact fun _ _ _ _ _ ts' kvs' H6 T6 => ⟨_, _, _, _, _, _, ts', kvs', rfl, T6⟩
            · refine iteF ?_
              refine fin2 _ lp d i j fr m _ _ _ _ ts kvs _ T5 nlp nd (by first | lia | omega) (by first | lia | omega) (by first | lia | omega) (by first | lia | omega) f1 f2 m1 m2 ?_
              exact fun _ _ _ _ _ ts' kvs' H6 T6 => ⟨_, _, _, _, _, _, ts', kvs', rfl, T6⟩
          · rintro σ H5 Q1 Q2 hq ⟨v8, e8, v9, e9, i1, i2, r1, r2, v2, e2, i3, i4, r3, r4, b, rb, hh⟩
            refine ⟨v8, e8, v9, e9, i1, i2, r1, r2, v2, e2, i3, i4, r3, r4, b, rb, ?_⟩
            cases b with
            | false =>
              rw [if_neg Bool.false_ne_true] at hh ⊢
              exact hq _ _ hh
            | true =>
              rw [if_pos rfl] at hh ⊢
              obtain ⟨v7, e7, v8', e8', v9', e9', i5, i6, r5, r6, hz, all⟩ := hh
              exact ⟨v7, e7, v8', e8', v9', e9', i5, i6, r5, r6, hz, fun p hp => let ⟨v6, e6, a, o, ra, dg, c, rc, hQ⟩ := all p hp; ⟨v6, e6, a, o, ra, dg, c, rc, hq _ _ hQ⟩⟩
      · rintro σ H3 ⟨x8, x9, x10, x11, x12, x13, ts, kvs, rfl, T3⟩
        have ew : ((ww.toNat : Nat) : Int) = ww := by first | lia | omega
        rw [ew] at T3
        exact ⟨_, _, _, _, _, _, _, ts, kvs, rfl, by have := T3.line gw.2; push_cast; exact this⟩
    · rintro σ H3 ⟨x7, x8, x9, x10, x11, x12, x13, ts, kvs, rfl, T3⟩
      have eh : ((h.toNat : Nat) : Int) = h := by first | lia | omega
      rw [eh] at T3
      exact ⟨_, rfl, q lp ts H3 T3.same nlp T3.lst T3.ats (by have := T3.cnt; first | lia | omega)⟩

structure EX (P : Program) (w : World) (K : PySem.W.Frag) (mg : Str → Option Value) (base : Heap) (cS cM cP cO cB : Addr) : Prop where
  xS : XMkOk P w K mg base 1 "NoSide" cS ["self", "side"] ["side"]
  xM : XMkOk P w K mg base 1 "TooMany" cM ["self", "many"] ["many"]
  xP : XMkOk P w K mg base 1 "NoPane" cP ["self", "place"] ["place"]
  xO : XMkOk P w K mg base 1 "Overlap" cO ["self", "place"] ["place"]
  xB : XMkOk P w K mg base 1 "Bare" cB ["self", "square"] ["square"]
inductive Isp_sides1 (cS : Addr)  (vs : List V) (H : Hp) (Q : VK) (E : XK) : Prop
  | mk (a b : V) (h0 : vs = [a, b]) (h1 : Ty H a) (h2 : Ty H b) (h3 : (sideV a = true → sideV b = true → ∀ H', Same H H' → Q .non H')) (h4 : (sideV a = false → Rf H E cS fun fs _ => fs = [(("side" : Str), a)])) (h5 : (sideV a = true → sideV b = false → Rf H E cS fun fs _ => fs = [(("side" : Str), b)])) : Isp_sides1 cS vs H Q E
def sp_sides1 (cS : Addr)  : Sp := fun vs H Q E => Isp_sides1 cS vs H Q E
theorem ok_check_sides {f : Addr} {fd : FuncData} (F : Fun K "check_sides" "check_sides" s_check_sides f fd) (W : EX P w K mg base cS cM cP cO cB) (D_is_side : DefOk P w K mg base 2 "is_side" ["thing"] sp_side) :
    FnOk P w K mg base (CX1 P w) 3 f fd ["width", "height"] (sp_sides1 cS) := by
  have S := S_check_sides
  have X_NoSide := W.xS
  refine F.okx S (fun vs H Q E h => ?_) (fun cdv A outer s H vs Q E hr h => ?_)
  · obtain ⟨a, p, rfl, _⟩ := h; rfl
  · obtain ⟨a, b, rfl, ta, tb, q, r1, r2⟩ := h
    refine ⟨_, (pss_one (ps_for own_cx rfl (pi_tupK (K := K) (pe_tup (pa_cons (pv 0) (pa_cons (pv 1) pa_nil)))) (pg_name (i := 2) S.nd rfl (Or.inl rfl)) (pss_one (ps_if (pt_not (pt_val (pe_fn D_is_side hr (pa_cons (pv 2) pa_nil)))) (pss_one (ps_raise xeok_cx X_NoSide hr (pa_cons (pv 2) pa_nil))) pss_nil)))), ?_⟩
    refine ⟨_, rfl, _, rfl, lenOk 2, fun t ht => ⟨t, rfl, ⟨_, SqT.of upd_same⟩, for_tup (K := K) (a := t) (xs := [a, b]) (fun i σ H' => (∃ y, σ = [some a, some b, y]) ∧ H' = upd H t (.tup [a, b]) ∧ (0 < i → sideV a = true) ∧ (1 < i → sideV b = true)) ⟨⟨none, rfl⟩, rfl, (fun z => absurd z (by decide)), fun z => absurd z (by decide)⟩ (fun i σ H' _ hp => by rw [hp.2.1]; exact SqT.of upd_same) ?_ ?_⟩⟩
    · rintro i x σ H' hx ⟨⟨y, rfl⟩, rfl, h0, h1⟩
      have s1 : Same H (upd H t (.tup [a, b])) := Same.new ht
      match i, hx with
      | 0, hx =>
        cases hx
        refine ⟨_, rfl, a, rfl, ta.same s1, _, rfl, ite3 (fun hb => ?_) fun hb => ?_⟩
        · have hb : sideV a = false := by simpa using hb
          exact ⟨_, rfl, rfl, fun y dx T H2 hy s2 e ed nd hT nT => (r1 hb).raise s1 hy s2 e ed nd hT rfl⟩
        · exact ⟨⟨_, rfl⟩, rfl, fun _ => by simpa using hb, fun z => absurd z (by first | lia | omega)⟩
      | 1, hx =>
        cases hx
        refine ⟨_, rfl, b, rfl, tb.same s1, _, rfl, ite3 (fun hb => ?_) fun hb => ?_⟩
        · have hb : sideV b = false := by simpa using hb
          exact ⟨_, rfl, rfl, fun y dx T H2 hy s2 e ed nd hT nT => (r2 (h0 (by first | lia | omega)) hb).raise s1 hy s2 e ed nd hT rfl⟩
        · exact ⟨⟨_, rfl⟩, rfl, fun _ => h0 (by first | lia | omega), fun _ => by simpa using hb⟩
      | i + 2, hx => cases hx
    · rintro σ H' ⟨⟨y, rfl⟩, rfl, h0, h1⟩
      exact q (h0 (by show 0 < 2; decide)) (h1 (by show 1 < 2; decide)) _ (Same.new ht)
/-- the rectangle that a thing is -/
def thingR (H : Hp) : V → Option Rc
  | .ref a => match H a with
    | some (.tup [.int t, .int l, .int b, .int r]) => if rectB (four t l b r) = true then some ⟨t, l, b, r⟩ else none
    | _ => none
  | _ => none
def okV (H : Hp) (w h : Int) (v : V) : Bool := match thingR H v with
  | some p => insB p.t p.l p.b p.r 0 0 h w
  | none => false
theorem thingR_tup {H : Hp} {a : Addr} {xs : List V} (h : H a = some (.tup xs)) : (rectB xs = true → ∃ p : Rc, thingR H (.ref a) = some p ∧ xs = four p.t p.l p.b p.r) ∧ (rectB xs = false → thingR H (.ref a) = none) := by
  have e : thingR H (.ref a) = match some (HO.tup xs) with
    | some (.tup [.int t, .int l, .int b, .int r]) => if rectB (four t l b r) = true then some ⟨t, l, b, r⟩ else none
    | _ => none := by rw [← h]; rfl
  rw [e]
  constructor
  · intro hr
    obtain ⟨t, l, b, r, rfl⟩ := rect_four hr
    exact ⟨⟨t, l, b, r⟩, if_pos hr, rfl⟩
  · intro hr
    split
    · rename_i t l b r q
      cases q
      exact if_neg (by rw [hr]; exact Bool.false_ne_true)
    · rfl
theorem thingR_non {H : Hp} {v : V} {T : String} (h : tyS H v = some T) (n : T ≠ "tuple") : thingR H v = none := by
  cases v with
  | ref a =>
    have h : tyO (H a) = some T := h
    show (match H a with
      | some (.tup [.int t, .int l, .int b, .int r]) => if rectB (four t l b r) = true then some (⟨t, l, b, r⟩ : Rc) else none
      | _ => none) = none
    split
    · rename_i q
      rw [q] at h
      cases h
      exact absurd rfl n
    · rfl
  | _ => rfl
theorem thingR_some {H : Hp} {v : V} {p : Rc} (h : thingR H v = some p) : ∃ a, v = .ref a ∧ H a = some (.tup (four p.t p.l p.b p.r)) ∧ rectB (four p.t p.l p.b p.r) = true := by
  unfold thingR at h
  split at h
  · rename_i a
    split at h
    · rename_i t l b r q
      split at h
      · rename_i hr
        cases h
        exact ⟨a, rfl, q, hr⟩
      · cases h
    · cases h
  · cases h
inductive Isp_panes1 (K : PySem.W.Frag) (cM cP : Addr)  (vs : List V) (H : Hp) (Q : VK) (E : XK) : Prop
  | mk (l sh : Addr) (w h : Int) (xs : List V) (h0 : vs = [.ref l, .ref sh]) (h1 : SqL K H l xs) (h2 : (∀ x ∈ xs, Good H x)) (h3 : H sh = some (.tup (four 0 0 h w))) (h4 : xs.length ≤ 300) (h5 : (52 < xs.length → Rf H E cM fun fs _ => fs = [(("many" : Str), V.int xs.length)])) (h6 : (xs.length ≤ 52 → ∀ (k : Nat) v, xs[k]? = some v → (∀ (j : Nat) u, j < k → xs[j]? = some u → okV H w h u = true) → okV H w h v = false → Rf H E cP fun fs _ => fs = [(("place" : Str), V.int k)])) (h7 : (xs.length ≤ 52 → (∀ v ∈ xs, okV H w h v = true) → ∀ H', Same H H' → Q .non H')) : Isp_panes1 K cM cP vs H Q E
def sp_panes1 (K : PySem.W.Frag) (cM cP : Addr)  : Sp := fun vs H Q E => Isp_panes1 K cM cP vs H Q E
theorem ok_check_panes {f : Addr} {fd : FuncData} (F : Fun K "check_panes" "check_panes" s_check_panes f fd) (T : Txt mg tk) (W : EX P w K mg base cS cM cP cO cB) (D_is_rectangle : DefOk P w K mg base 2 "is_rectangle" ["thing"] sp_rect) (D_inside : DefOk P w K mg base 1 "inside" ["one", "other"] sp_inside) :
    FnOk P w K mg base (CX1 P w) 3 f fd ["panes", "sheet"] (sp_panes1 K cM cP) := by
  have S := S_check_panes
  have X_TooMany := W.xM
  have X_NoPane := W.xP
  refine F.okx S (fun vs H Q E h => ?_) (fun cdv A outer s H vs Q E hr h => ?_)
  · obtain ⟨l, sh, w, h, xs, rfl, _⟩ := h; rfl
  · obtain ⟨l, sh, w, h, xs, rfl, hl, hg, hsh, hlen, rM, rP, q⟩ := h
    refine ⟨_, (pss_cons (ps_if (pt_cmpR op_gt (pe_callB (call_len_seqK (K := K)) rfl T.z_len rfl (pa_cons (pv 0) pa_nil)) (pe_glob (v := .int 52) rfl T.g_MOST_PANES ⟨_, rfl⟩) (nomark _)) (pss_one (ps_raise xeok_cx X_TooMany hr (pa_cons (pe_callB (call_len_seqK (K := K)) rfl T.z_len rfl (pa_cons (pv 0) pa_nil)) pa_nil))) pss_nil)
      (pss_one (ps_for own_cx rfl (pi_enumK (K := K) rfl T.z_enumerate (pa_cons (pv 0) pa_nil)) (pg_tup rfl (pgs_cons (pg_name (i := 2) S.nd rfl (Or.inl rfl)) (pgs_cons (pg_name (i := 3) S.nd rfl (Or.inl rfl)) pgs_nil))) (pss_one (ps_if (PW.pt (pw_or (pt_not (pt_val (pe_fn D_is_rectangle hr (pa_cons (pv 3) pa_nil)))) (pw_or1 (pt_not (pt_val (pe_fn D_inside hr (pa_cons (pv 3) (pa_cons (pv 1) pa_nil)))))))) (pss_one (ps_raise xeok_cx X_NoPane hr (pa_cons (pv 2) pa_nil))) pss_nil))))), ?_⟩
    refine ⟨_, rfl, l, _, rfl, .inl hl, _, _, rfl, rfl, _, rfl, ite3 (fun hb => ?_) fun hb => ?_⟩
    · have hb : (52 : Int) < (xs.length : Int) := of_decide_eq_true hb
      exact ⟨_, rfl, l, _, rfl, .inl hl, rfl, fun y dx T H2 hy s2 e ed nd hT nT => (rM (by first | lia | omega)).raise (Same.refl H) hy s2 e ed nd hT rfl⟩
    · have hb : ¬ (52 : Int) < (xs.length : Int) := of_decide_eq_false hb
      have few : xs.length ≤ 52 := by first | lia | omega
      refine ⟨_, rfl, l, rfl, ⟨_, hl⟩, for_enum (K := K) (a := l) (xs := xs) (fun i σ H' => (∃ x y, σ = [some (.ref l), some (.ref sh), x, y]) ∧ Same H H' ∧ ∀ j u, j < i → xs[j]? = some u → okV H w h u = true) ⟨⟨none, none, rfl⟩, Same.refl H, fun j u z => absurd z (by first | lia | omega)⟩ (fun i σ H' _ hp => hp.2.1.seq hl) ?_ ?_⟩
      · rintro i x σ H' t hx ⟨⟨x0, y0, rfl⟩, hs, hok⟩ ht
        have hsT := Same.new (o := .tup [.int i, x]) ht
        have s1 := hs.trans hsT
        have hxm := List.mem_of_getElem? hx
        refine ⟨t, _, rfl, SqT.of upd_same, rfl, _, _, rfl, _, _, rfl, rfl, ?_⟩
        have bad : ∀ {H3 : Hp}, Same H H3 → okV H w h x = false → ∀ y dx T H2, H3 y = none → Same H3 H2 → H2 y = some (ExcO cP dx y) → H2 dx = some (ExcD dx ((["place"] : List Str).zip [V.int i])) → dx ≠ y → H2 T = none → T ≠ y → E (.ref y) (some dx) (thrown H2 y cP (some dx) T) :=
          fun {H3} s3 hbad y dx T H2 hy s2 e ed nd hT nT => (rP few i x hx hok hbad).raise s3 hy s2 e ed nd hT rfl
        rcases hg x hxm with ⟨a, ys, rfl, ha, hy, hty⟩ | ⟨T0, h1, h2⟩
        · obtain ⟨k1, k2⟩ := thingR_tup ha
          refine ⟨_, rfl, _, rfl, .inl ⟨a, ys, rfl, s1 _ _ ha, hy, fun z hz => (hty z hz).same s1, fun H2 s2 => ⟨_, rfl, ite3 (fun hr' => ?_) fun hr' => ?_⟩⟩⟩
          · have hr' : rectB ys = false := by simpa using hr'
            have hbad : okV H w h (.ref a) = false := by unfold okV; rw [k2 hr']
            exact ⟨_, rfl, rfl, bad (s1.trans s2) hbad⟩
          · have hr' : rectB ys = true := by simpa using hr'
            obtain ⟨p, hp, rfl⟩ := k1 hr'
            have hok' : okV H w h (.ref a) = insB p.t p.l p.b p.r 0 0 h w := by unfold okV; rw [hp]
            refine ⟨_, rfl, _, rfl, a, sh, _, _, _, _, _, _, _, _, rfl, s2 _ _ (s1 _ _ ha), s2 _ _ (s1 _ _ hsh), _, rfl, ite3 (fun hi' => ?_) fun hi' => ?_⟩
            · exact ⟨_, rfl, rfl, bad (s1.trans s2) (by rw [hok']; simpa using hi')⟩
            · refine ⟨⟨_, _, rfl⟩, s1.trans s2, fun j u hj hu => ?_⟩
              rcases Nat.lt_or_ge j i with z | z
              · exact hok j u z hu
              · obtain rfl : j = i := by first | lia | omega
                rw [hx] at hu; cases hu
                rw [hok']; simpa using hi'
        · have hbad : okV H w h x = false := by unfold okV; rw [thingR_non h1 h2]
          exact ⟨_, rfl, _, rfl, .inr ⟨T0, tyS_same s1 h1, h2, _, rfl, iteP rfl ⟨_, rfl, rfl, bad s1 hbad⟩⟩⟩
      · rintro σ H' ⟨⟨x0, y0, rfl⟩, hs, hok⟩
        refine q few (fun v hv => ?_) H' hs
        obtain ⟨j, hj, rfl⟩ := List.getElem_of_mem hv
        exact hok j _ hj (List.getElem?_eq_getElem hj)
inductive Isp_square1 (K : PySem.W.Frag) (cO : Addr)  (vs : List V) (H : Hp) (Q : VK) (E : XK) : Prop
  | mk (l : Addr) (w h : Int) (ts : List (Addr × Rc)) (h0 : vs = [.ref l]) (h1 : SqL K H l (refs ts)) (h2 : At H ts) (h3 : (∀ p ∈ rcs ts, p.In w h)) (h4 : ts.length ≤ 52) (h5 : w ≤ 12) (h6 : h ≤ 12) (h7 : ((rcs ts).Pairwise Apart → ∀ d kvs H', Same H H' → H d = none → H' d = some (.dT kvs) → (∀ t ∈ ts, ∀ r c, t.2.has r c → valV kvs (sqK r c) = some (.ref t.1)) → (∀ r c v, valV kvs (sqK r c) = some v → ∃ t ∈ ts, t.2.has r c) → Q (.ref d) H')) (h8 : ∀ (k : Nat) u, ts[k]? = some u → (rcs (ts.take k)).Pairwise Apart → (∃ t ∈ ts.take k, ¬ Apart t.2 u.2) → Rf H E cO fun fs _ => fs = [(("place" : Str), V.int k)]) : Isp_square1 K cO vs H Q E
def sp_square1 (K : PySem.W.Frag) (cO : Addr)  : Sp := fun vs H Q E => Isp_square1 K cO vs H Q E
theorem apart_snoc {ts : List (Addr × Rc)} {i : Nat} {u : Addr × Rc} (h : ts[i]? = some u) (hp : (rcs (ts.take i)).Pairwise Apart) (ha : ∀ t ∈ ts.take i, Apart t.2 u.2) : (rcs (ts.take (i + 1))).Pairwise Apart := by
  rw [List.take_succ, h]
  show (rcs (ts.take i ++ [u])).Pairwise Apart
  rw [rcs_snoc, List.pairwise_append]
  refine ⟨hp, by simp, fun a ha' b hb => ?_⟩
  rw [List.mem_singleton.mp hb]
  obtain ⟨t, ht, rfl⟩ := List.mem_map.mp ha'
  exact ha t ht
theorem ok_panes_by_square {f : Addr} {fd : FuncData} (F : Fun K "panes_by_square" "panes_by_square" s_panes_by_square f fd) (T : Txt mg tk) (W : EX P w K mg base cS cM cP cO cB) (D_squares_of : DefOk P w K mg base 1 "squares_of" ["rectangle"] sp_squares) : FnOk P w K mg base (CX1 P w) 3 f fd ["panes"] (sp_square1 K cO) := by
  have S := S_panes_by_square
  have X_Overlap := W.xO
  refine F.okx S (fun vs H Q E h => ?_) (fun cdv A outer s H vs Q E hr h => ?_)
  · obtain ⟨l, w, h, ts, rfl, _⟩ := h; rfl
  · obtain ⟨l, w, h, ts, rfl, hl, hat, hin, hlen, bw, bh, q, rO⟩ := h
    have hu := hu_of hr
    refine ⟨_, (pss_cons (ps_set (i := 1) S.nd rfl (Or.inl rfl) pe_dnewT)
      (pss_cons (ps_for own_cx rfl (pi_enumK (K := K) rfl T.z_enumerate (pa_cons (pv 0) pa_nil)) (pg_tup rfl (pgs_cons (pg_name (i := 2) S.nd rfl (Or.inl rfl)) (pgs_cons (pg_name (i := 3) S.nd rfl (Or.inl rfl)) pgs_nil))) (pss_one (ps_for own_cx rfl (pi_listK (K := K) (pe_fn D_squares_of hr (pa_cons (pv 3) pa_nil))) (pg_name (i := 4) S.nd rfl (Or.inl rfl)) (pss_cons (ps_if (pt_cmp (pc_din hu (pv 4) (pv 1))) (pss_one (ps_raise xeok_cx X_Overlap hr (pa_cons (pv 2) pa_nil))) pss_nil)
      (pss_one (ps_dput hu (pv 1) (pv 4) (pv 3) rfl))))))
      (pss_one (ps_ret (pv 1))))), ?_⟩
    intro d hd
    refine ⟨_, rfl, l, rfl, ⟨_, (Same.new hd).seq hl⟩, for_enum (K := K) (a := l) (xs := refs ts) (fun i σ H' => (∃ x y z, σ = [some (.ref l), some (.ref d), x, y, z]) ∧ Same H H' ∧ (rcs (ts.take i)).Pairwise Apart ∧ ∃ kvs, H' d = some (.dT kvs) ∧ kvs.length ≤ 144 * i ∧
        (∀ t ∈ ts.take i, ∀ r c, t.2.has r c → valV kvs (sqK r c) = some (.ref t.1)) ∧ ∀ r c v, valV kvs (sqK r c) = some v → ∃ t ∈ ts.take i, t.2.has r c)
      ⟨⟨none, none, none, rfl⟩, Same.new hd, by simp, [], upd_same, Nat.zero_le _, fun t ht => (nomatch ht), fun r c v e => by cases e⟩ (fun i σ H' _ hp => hp.2.1.seq hl) ?_ ?_⟩
    · rintro i x σ H' tt hx ⟨⟨x0, y0, z0, rfl⟩, hs, hap, kvs, hk, hkl, ha1, ha2⟩ htt
      obtain ⟨u, hu', rfl⟩ := refs_get hx
      have hum := List.mem_of_getElem? hu'
      have hi : i < ts.length := (List.getElem?_eq_some_iff.mp hu').1
      have s1 := hs.trans (Same.new (o := .tup [.int i, .ref u.1]) htt)
      have hui := hin u.2 (List.mem_map.mpr ⟨u, hum, rfl⟩)
      obtain ⟨c1, c2, c3, c4, c5, c6⟩ := id hui
      have hua := s1 _ _ (hat u hum)
      have hk1 : (upd H' tt (.tup [.int i, .ref u.1])) d = some (.dT kvs) := Same.new htt _ _ hk
      refine ⟨tt, _, rfl, SqT.of upd_same, rfl, _, _, rfl, _, _, rfl, rfl, ?_⟩
      refine ⟨_, rfl, u.1, u.2, rfl, hua, c1, by first | lia | omega, by first | lia | omega, c4, by first | lia | omega, by first | lia | omega, fun l2 sq H2 s2 n2 hl2 hsq hmap => ⟨l2, rfl, ⟨_, SqL.of hl2⟩, ?_⟩⟩
      have hk2 := s2 _ _ hk1
      have nl2 : l2 ≠ d := ne_of hl2 hk2 (by intro z; cases z)
      have sql : sq.length ≤ 144 := by
        have := sqs_len hui bw bh
        rw [← hmap, List.length_map] at this
        exact this
      have nd := sqsN_nodup (p := u.2) (by first | lia | omega) (u.2.b - u.2.t).toNat
      have nd' : (sq.map (·.2)).Nodup := by rw [hmap]; exact nd
      refine for_list (K := K) (a := l2) (xs := sq.map fun s => V.ref s.1) (fun j σ H3 => (∃ z, σ = [some (.ref l), some (.ref d), some (.int i), some (.ref u.1), z]) ∧ SameX d H2 H3 ∧ ∃ kvs, H3 d = some (.dT kvs) ∧ kvs.length ≤ 144 * i + j ∧
          (∀ t ∈ ts.take i, ∀ r c, t.2.has r c → valV kvs (sqK r c) = some (.ref t.1)) ∧ (∀ z ∈ sq.take j, valV kvs (sqK z.2.1 z.2.2) = some (.ref u.1)) ∧
          (∀ r c v, valV kvs (sqK r c) = some v → (∃ t ∈ ts.take i, t.2.has r c) ∨ (r, c) ∈ (sq.take j).map (fun y : Addr × (Int × Int) => y.2)) ∧ ∀ z ∈ sq.take j, ∀ t ∈ ts.take i, ¬ t.2.has z.2.1 z.2.2)
        ⟨⟨_, rfl⟩, SameX.refl, kvs, hk2, by first | lia | omega, ha1, fun z hz => (nomatch hz), fun r c v e => .inl (ha2 r c v e), fun z hz => (nomatch hz)⟩ (fun j σ H3 _ hp => SqL.of (hp.2.1 _ _ nl2 hl2)) ?_ ?_
      · rintro j y σ H3 hy ⟨⟨z0, rfl⟩, s3, kv, hk3, hkl3, b1, b2, b3, b4⟩
        obtain ⟨z, hz, rfl⟩ := sq_get hy
        have hzm := List.mem_of_getElem? hz
        have hj : j < sq.length := (List.getElem?_eq_some_iff.mp hz).1
        have hz2 := hsq z hzm
        have nz : z.1 ≠ d := ne_of hz2 hk2 (by intro q; cases q)
        have hz3 := s3 _ _ nz hz2
        have hin2 : u.2.has z.2.1 z.2.2 := (mem_sqs (by first | lia | omega) (by first | lia | omega)).mp (by rw [← hmap]; exact List.mem_map.mpr ⟨z, hzm, rfl⟩)
        have S3 : Same H H3 := fun b o e => s3 b o (ne_of_none e hd) (s2 b o (s1 b o e))
        have dg := DGet.t (k := sqK z.2.1 z.2.2) hk3 hz3
        cases hno : valV kv (sqK z.2.1 z.2.2) with
        | some v =>
          rw [hno] at dg
          have bad : ∃ t ∈ ts.take i, ¬ Apart t.2 u.2 := by
            rcases b3 _ _ v hno with ⟨t, ht, hh⟩ | hm
            · exact ⟨t, ht, fun ap => ap _ _ hh hin2⟩
            · exact absurd hm (nodup_take nd' hz)
          exact ⟨_, rfl, _, rfl, d, _, rfl, dg, _, rfl, iteT ⟨_, rfl, rfl, fun y dx T H4 hy s4 e ed nd hT nT => (rO i u hu' hap bad).raise S3 hy s4 e ed nd hT rfl⟩⟩
        | none =>
          rw [hno] at dg
          have fresh : ∀ t ∈ ts.take i, ¬ t.2.has z.2.1 z.2.2 := fun t ht hh => by rw [b1 t ht _ _ hh] at hno; cases hno
          refine ⟨_, rfl, _, rfl, d, _, rfl, dg, _, rfl, iteF ?_⟩
          refine ⟨_, rfl, _, rfl, _, rfl, d, _, rfl, DPut.t (k := sqK z.2.1 z.2.2) hk3 hz3 (Nat.lt_of_le_of_lt (m := 20000) (by first | lia | omega) (by rw [sizeLine_eq]; decide)), ?_⟩
          refine ⟨⟨_, rfl⟩, s3.trans SameX.upd, _, upd_same, ?_, fun t ht r c hh => ?_, fun y hy => ?_, fun r c v e => ?_, fun y hy t ht => ?_⟩
          · have := length_putK kv (sqK z.2.1 z.2.2) (V.ref u.1)
            first | lia | omega
          · rw [valV_put, if_neg, b1 t ht r c hh]
            intro e
            obtain ⟨e1, e2⟩ := sqK_inj e
            exact fresh t ht (by rw [← e1, ← e2]; exact hh)
          · rw [valV_put]
            rcases (mem_take_succ hz).mp hy with hy | rfl
            · split
              · rfl
              · exact b2 y hy
            · rw [if_pos rfl]
          · rw [valV_put] at e
            split at e
            · rename_i e2
              obtain ⟨e3, e4⟩ := sqK_inj e2
              exact .inr (List.mem_map.mpr ⟨z, (mem_take_succ hz).mpr (.inr rfl), by rw [e3, e4]⟩)
            · rcases b3 r c v e with h1 | h1
              · exact .inl h1
              · obtain ⟨y, hy, e2⟩ := List.mem_map.mp h1
                exact .inr (List.mem_map.mpr ⟨y, (mem_take_succ hz).mpr (.inl hy), e2⟩)
          · rcases (mem_take_succ hz).mp hy with hy | rfl
            · exact b4 y hy t ht
            · exact fresh t ht
      · rintro σ H3 ⟨⟨z0, rfl⟩, s3, kv, hk3, hkl3, b1, b2, b3, b4⟩
        rw [List.length_map] at hkl3 b2 b3 b4
        rw [List.take_length] at b2 b3 b4
        have sqm : ∀ r c, u.2.has r c → ∃ z ∈ sq, z.2 = (r, c) := fun r c hh => by
          have hm : (r, c) ∈ sq.map (·.2) := by rw [hmap]; exact (mem_sqs (by first | lia | omega) (by first | lia | omega)).mpr hh
          obtain ⟨z, hz, e⟩ := List.mem_map.mp hm
          exact ⟨z, hz, e⟩
        refine ⟨⟨_, _, _, rfl⟩, fun b o e => ?_, apart_snoc hu' hap fun t ht r c h1 h2 => ?_, kv, hk3, by first | lia | omega, fun t ht r c hh => ?_, fun r c v e => ?_⟩
        · exact s3 b o (ne_of_none e hd) (s2 b o (s1 b o e))
        · obtain ⟨z, hz, e⟩ := sqm r c h2
          have := b4 z hz t ht
          rw [e] at this
          exact this h1
        · rcases (mem_take_succ hu').mp ht with ht | rfl
          · exact b1 t ht r c hh
          · obtain ⟨z, hz, e⟩ := sqm r c hh
            have := b2 z hz
            rw [e] at this
            exact this
        · rcases b3 r c v e with ⟨t, ht, hh⟩ | hm
          · exact ⟨t, (mem_take_succ hu').mpr (.inl ht), hh⟩
          · exact ⟨u, (mem_take_succ hu').mpr (.inr rfl), (mem_sqs (by first | lia | omega) (by first | lia | omega)).mp (by rw [← hmap]; exact hm)⟩
    · rintro σ H' ⟨⟨x0, y0, z0, rfl⟩, hs, hap, kvs, hk, hkl, ha1, ha2⟩
      rw [List.length_map, List.take_length] at ha1 ha2 hap
      exact ⟨_, rfl, q hap d kvs H' hs hd hk ha1 ha2⟩
inductive Isp_covered1 (cB : Addr)  (vs : List V) (H : Hp) (Q : VK) (E : XK) : Prop
  | mk (d sh : Addr) (w h : Int) (kvs : List (List Key × V)) (h0 : vs = [.ref d, .ref sh]) (h1 : H d = some (.dT kvs)) (h2 : H sh = some (.tup (four 0 0 h w))) (h3 : (1 ≤ w ∧ w ≤ 12)) (h4 : (1 ≤ h ∧ h ≤ 12)) (h5 : ((∀ r c, 0 ≤ r → r < h → 0 ≤ c → c < w → valV kvs (sqK r c) ≠ none) → ∀ H', Same H H' → Q .non H')) (h6 : ∀ (j : Nat) z, (sqs ⟨0, 0, h, w⟩)[j]? = some z → (∀ (i : Nat) y, i < j → (sqs ⟨0, 0, h, w⟩)[i]? = some y → valV kvs (sqK y.1 y.2) ≠ none) → valV kvs (sqK z.1 z.2) = none →
    Rf H E cB fun fs H' => ∃ q, fs = [(("square" : Str), V.ref q)] ∧ H' q = some (.tup [.int z.1, .int z.2])) : Isp_covered1 cB vs H Q E
def sp_covered1 (cB : Addr)  : Sp := fun vs H Q E => Isp_covered1 cB vs H Q E
theorem ok_check_covered {f : Addr} {fd : FuncData} (F : Fun K "check_covered" "check_covered" s_check_covered f fd) (W : EX P w K mg base cS cM cP cO cB) (D_squares_of : DefOk P w K mg base 1 "squares_of" ["rectangle"] sp_squares) : FnOk P w K mg base (CX1 P w) 3 f fd ["by_square", "sheet"] (sp_covered1 cB) := by
  have S := S_check_covered
  have X_Bare := W.xB
  refine F.okx S (fun vs H Q E h => ?_) (fun cdv A outer s H vs Q E hr h => ?_)
  · obtain ⟨d, sh, w, h, kvs, rfl, _⟩ := h; rfl
  · obtain ⟨d, sh, w, h, kvs, rfl, hd, hsh, gw, gh, q, rB⟩ := h
    have hu := hu_of hr
    refine ⟨_, (pss_one (ps_for own_cx rfl (pi_listK (K := K) (pe_fn D_squares_of hr (pa_cons (pv 1) pa_nil))) (pg_name (i := 2) S.nd rfl (Or.inl rfl)) (pss_one (ps_if (pt_cmp (pc_dnotin hu (pv 2) (pv 0))) (pss_one (ps_raise xeok_cx X_Bare hr (pa_cons (pv 2) pa_nil))) pss_nil)))), ?_⟩
    refine ⟨_, rfl, sh, ⟨0, 0, h, w⟩, rfl, hsh, Int.le_refl _, by show (0 : Int) ≤ h; first | lia | omega, by show h ≤ 12; first | lia | omega, Int.le_refl _, by show (0 : Int) ≤ w; first | lia | omega, by show w ≤ 12; first | lia | omega, fun l2 sq H2 s2 n2 hl2 hsq hmap => ⟨l2, rfl, ⟨_, SqL.of hl2⟩, ?_⟩⟩
    have gets : ∀ (i : Nat) (z : Addr × (Int × Int)), sq[i]? = some z → (sqs ⟨0, 0, h, w⟩)[i]? = some z.2 := fun i z e => by rw [← hmap, List.getElem?_map, e]; rfl
    refine for_list (K := K) (a := l2) (xs := sq.map fun s => V.ref s.1) (fun j σ H3 => (∃ z, σ = [some (.ref d), some (.ref sh), z]) ∧ H3 = H2 ∧ ∀ (i : Nat) y, i < j → (sqs ⟨0, 0, h, w⟩)[i]? = some y → valV kvs (sqK y.1 y.2) ≠ none) ⟨⟨none, rfl⟩, rfl, fun i y z => absurd z (by first | lia | omega)⟩ (fun j σ H3 _ hp => by rw [hp.2.1]; exact SqL.of hl2) ?_ ?_
    · rintro j y σ H3 hy ⟨⟨z0, rfl⟩, rfl, hb⟩
      obtain ⟨z, hz, rfl⟩ := sq_get hy
      have hzm := List.mem_of_getElem? hz
      have hz2 := hsq z hzm
      have hk2 := s2 _ _ hd
      have dg := DGet.t (k := sqK z.2.1 z.2.2) hk2 hz2
      cases e : valV kvs (sqK z.2.1 z.2.2) with
      | none =>
        rw [e] at dg
        refine ⟨_, rfl, _, rfl, d, _, rfl, dg, _, rfl, iteT ⟨_, rfl, rfl, fun y dx T H4 hy s4 e4 ed nd hT nT => (rB j z.2 (gets j z hz) hb e).raise s2 hy s4 e4 ed nd hT ⟨z.1, rfl, ?_⟩⟩⟩
        rw [thrown_ne (ne_of_none hz2 hy) (ne_of_none (s4 _ _ hz2) hT)]
        exact s4 _ _ hz2
      | some v =>
        rw [e] at dg
        refine ⟨_, rfl, _, rfl, d, _, rfl, dg, _, rfl, iteF ⟨⟨_, rfl⟩, rfl, fun i y hi hy' => ?_⟩⟩
        rcases Nat.lt_or_ge i j with g | g
        · exact hb i y g hy'
        · obtain rfl : i = j := by first | lia | omega
          rw [gets i z hz] at hy'
          cases hy'
          rw [e]; exact fun z => nomatch z
    · rintro σ H3 ⟨⟨z0, rfl⟩, rfl, hb⟩
      refine q (fun r c a1 a2 a3 a4 => ?_) _ s2
      have hm : (r, c) ∈ sqs ⟨0, 0, h, w⟩ := (mem_sqs (p := ⟨0, 0, h, w⟩) (by show (0 : Int) ≤ w; first | lia | omega) (by show (0 : Int) ≤ h; first | lia | omega)).mpr ⟨a1, a2, a3, a4⟩
      obtain ⟨i, hi, e⟩ := List.getElem_of_mem hm
      refine hb i (r, c) ?_ (by rw [List.getElem?_eq_getElem hi, e])
      rw [List.length_map, ← List.length_map (f := (·.2)) (as := sq), hmap]
      exact hi
/-- panes that are all well: as rectangles -/
theorem all_ts {H : Hp} {w h : Int} : ∀ {xs : List V}, (∀ v ∈ xs, okV H w h v = true) → ∃ ts : List (Addr × Rc), xs = refs ts ∧ At H ts ∧ ∀ p ∈ rcs ts, p.In w h
  | [], _ => ⟨[], rfl, fun t h => (nomatch h), fun p h => (nomatch h)⟩
  | v :: r, hok => by
    obtain ⟨ts, e, ha, hi⟩ := all_ts (xs := r) fun u hu => hok u (List.mem_cons_of_mem _ hu)
    have hv := hok v List.mem_cons_self
    unfold okV at hv
    split at hv
    · rename_i p hp
      obtain ⟨a, rfl, h1, h2⟩ := thingR_some hp
      refine ⟨(a, p) :: ts, by rw [e]; rfl, fun t ht => ?_, fun q hq => ?_⟩
      · rcases List.mem_cons.mp ht with rfl | ht
        · exact h1
        · exact ha t ht
      · rcases List.mem_cons.mp hq with e0 | hq
        · rw [show q = p from e0]
          have h2 : (decide (0 ≤ p.t) && decide (p.t < p.b) && (decide (0 ≤ p.l) && decide (p.l < p.r))) = true := h2
          have hv : (decide (0 ≤ p.t) && decide (0 ≤ p.l) && (decide (p.b ≤ h) && decide (p.r ≤ w))) = true := hv
          simp only [Bool.and_eq_true, decide_eq_true_eq] at h2 hv
          exact ⟨h2.1.1, h2.1.2, hv.2.1, h2.2.1, h2.2.2, hv.2.2⟩
        · exact hi q hq
    · cases hv
theorem rc_ext {p q : Rc} (h1 : p.t = q.t) (h2 : p.l = q.l) (h3 : p.b = q.b) (h4 : p.r = q.r) : p = q := by
  obtain ⟨a, b, c, d⟩ := p
  obtain ⟨a', b', c', d'⟩ := q
  dsimp only at h1 h2 h3 h4
  subst h1 h2 h3 h4
  rfl
theorem side_int {v : V} (h : sideV v = true) : ∃ x : Int, v = .int x ∧ 1 ≤ x ∧ x ≤ 12 := by
  cases v with
  | int x =>
    have h : (decide (1 ≤ x) && decide (x ≤ 12)) = true := h
    simp only [Bool.and_eq_true, decide_eq_true_eq] at h
    exact ⟨x, rfl, h.1, h.2⟩
  | _ => cases h
/-- what is refused of things that panes would be; what is made of those that are -/
structure Made1 (H : Hp) (E : XK) (cM cP cO cB : Addr) (w h : Int) (xs : List V) : Prop where
  many : 52 < xs.length → Rf H E cM fun fs _ => fs = [(("many" : Str), V.int xs.length)]
  pane : xs.length ≤ 52 → ∀ (k : Nat) v, xs[k]? = some v → (∀ (j : Nat) u, j < k → xs[j]? = some u → okV H w h u = true) → okV H w h v = false → Rf H E cP fun fs _ => fs = [(("place" : Str), V.int k)]
  lap : ∀ ts : List (Addr × Rc), xs = refs ts → At H ts → (∀ p ∈ rcs ts, p.In w h) → ts.length ≤ 52 → ∀ (k : Nat) u, ts[k]? = some u → (rcs (ts.take k)).Pairwise Apart → (∃ t ∈ ts.take k, ¬ Apart t.2 u.2) → Rf H E cO fun fs _ => fs = [(("place" : Str), V.int k)]
  bare : ∀ ts : List (Addr × Rc), xs = refs ts → At H ts → (∀ p ∈ rcs ts, p.In w h) → ts.length ≤ 52 → (rcs ts).Pairwise Apart → ∀ (j : Nat) z, (sqs ⟨0, 0, h, w⟩)[j]? = some z → (∀ (i : Nat) y, i < j → (sqs ⟨0, 0, h, w⟩)[i]? = some y → ∃ t ∈ ts, t.2.has y.1 y.2) → (¬ ∃ t ∈ ts, t.2.has z.1 z.2) →
    Rf H E cB fun fs H' => ∃ q, fs = [(("square" : Str), V.ref q)] ∧ H' q = some (.tup [.int z.1, .int z.2])
inductive Isp_Panel1 (K : PySem.W.Frag) (C cS cM cP cO cB : Addr)  (vs : List V) (H : Hp) (Q : VK) (E : XK) : Prop
  | mk (a dx l : Addr) (wv hv : V) (xs : List V) (h0 : vs = [.ref a, wv, hv, .ref l]) (h1 : H a = some (.ins C dx [])) (h2 : SqL K H l xs) (h3 : (∀ x ∈ xs, Good H x)) (h4 : xs.length ≤ 300) (h5 : Ty H wv) (h6 : Ty H hv) (h7 : (sideV wv = false → Rf H E cS fun fs _ => fs = [(("side" : Str), wv)])) (h8 : (sideV wv = true → sideV hv = false → Rf H E cS fun fs _ => fs = [(("side" : Str), hv)])) (h9 : ∀ w h, wv = .int w → hv = .int h → (1 ≤ w ∧ w ≤ 12) → (1 ≤ h ∧ h ≤ 12) → Made1 H E cM cP cO cB w h xs ∧
    ∀ ts : List (Addr × Rc), xs = refs ts → At H ts → Tiles w h (rcs ts) → ts.length ≤ 52 → ∀ (ts' : List (Addr × Rc)) (ls ld : Addr) (kvs : List (List Key × V)) (H' : Hp), SameX a H H' → H ls = none → ts'.Perm ts → PanelAt C H' a w h ts' dx ls ld kvs → Q .non H') : Isp_Panel1 K C cS cM cP cO cB vs H Q E
def sp_Panel1 (K : PySem.W.Frag) (C cS cM cP cO cB : Addr)  : Sp := fun vs H Q E => Isp_Panel1 K C cS cM cP cO cB vs H Q E
theorem ok_Panel_init {f : Addr} {fd : FuncData} (F : Fun K "__init__" "Panel.__init__" s_Panel_init f fd) (T : Txt mg tk) (PC : PCls K C) (D_check_sides : DefOkX P w K mg base 3 "check_sides" ["width", "height"] (sp_sides1 cS)) (D_check_panes : DefOkX P w K mg base 3 "check_panes" ["panes", "sheet"] (sp_panes1 K cM cP))
    (D_panes_by_square : DefOkX P w K mg base 3 "panes_by_square" ["panes"] (sp_square1 K cO)) (D_check_covered : DefOkX P w K mg base 3 "check_covered" ["by_square", "sheet"] (sp_covered1 cB)) : FnOk P w K mg base (CX1 P w) 4 f fd ["self", "width", "height", "panes"] (sp_Panel1 K C cS cM cP cO cB) := by
  have S := S_Panel_init
  refine F.okx S (fun vs H Q E h => ?_) (fun cdv A outer s H vs Q E hr h => ?_)
  · obtain ⟨a, dx, l, wv, hv, xs, rfl, _⟩ := h; rfl
  · obtain ⟨a, dx, l, wv, hv, xs, rfl, hob, hl, hg, hlen, tw, th, r1, r2, rest⟩ := h
    refine ⟨_, (pss_cons (ps_expr (pe_fnx D_check_sides hr (pass_x xeok_cx (pass_u (H := H) (E := E))) (pa_cons (pv 1) (pa_cons (pv 2) pa_nil))))
      (pss_cons (ps_set (i := 4) S.nd rfl (Or.inl rfl) (pe_tup (pa_cons pe_int (pa_cons pe_int (pa_cons (pv 2) (pa_cons (pv 1) pa_nil))))))
      (pss_cons (ps_expr (pe_fnx D_check_panes hr (pass_x xeok_cx (pass_u (H := H) (E := E))) (pa_cons (pv 3) (pa_cons (pv 4) pa_nil))))
      (pss_cons (ps_setComp rfl (pg_name (i := 5) S.nd rfl (Or.inl rfl)) (pi_listK (K := K) (pv 3)) (fun _ _ _ _ _ => (pg_name (i := 0) (show List.Nodup (["pane"] : List Str) from by decide +kernel) rfl (Or.inl rfl))) (fun _ _ _ _ _ => (pe_callTy (call_tuple_K (K := K)) rfl T.z_tuple rfl (pa_cons (pv 0) pa_nil))) (N := ["pane"]) (fr := [none]))
      (pss_cons (ps_set (i := 6) S.nd rfl (Or.inl rfl) (pe_fnx D_panes_by_square hr (pass_x xeok_cx (pass_u (H := H) (E := E))) (pa_cons (pv 5) pa_nil)))
      (pss_cons (ps_expr (pe_fnx D_check_covered hr (pass_x xeok_cx (pass_u (H := H) (E := E))) (pa_cons (pv 6) (pa_cons (pv 4) pa_nil))))
      (pss_cons (ps_fldK (K := K) (pv 0) (pv 1) rfl)
      (pss_cons (ps_fldK (K := K) (pv 0) (pv 2) rfl)
      (pss_cons (ps_fldK (K := K) (pv 0) (pe_callB (call_sortedTK (K := K)) rfl T.z_sorted rfl (pa_cons (pv 5) pa_nil)) rfl)
      (pss_one (ps_fldK (K := K) (pv 0) (pv 6) rfl))))))))))), ?_⟩
    refine ⟨_, rfl, _, rfl, wv, hv, rfl, tw, th, fun b1 b2 H1 s1 => ?_, fun b1 => rf_u (Same.refl H) (r1 b1) stb_eq, fun b1 b2 => rf_u (Same.refl H) (r2 b1 b2) stb_eq⟩
    obtain ⟨w, rfl, gw⟩ := side_int b1
    obtain ⟨h, rfl, gh⟩ := side_int b2
    obtain ⟨md, fin⟩ := rest w h rfl rfl gw gh
    clear rest r1 r2 b1 b2
    refine ⟨_, rfl, _, rfl, lenOk 4, fun t ht => ?_⟩
    have s2 := s1.trans (Same.new (o := .tup (four 0 0 h w)) ht)
    have hsh : (upd H1 t (.tup (four 0 0 h w))) t = some (.tup (four 0 0 h w)) := upd_same
    generalize upd H1 t (.tup (four 0 0 h w)) = H2 at s2 hsh ⊢
    have okS : ∀ v ∈ xs, okV H2 w h v = okV H w h v := fun v hv => by
      unfold okV
      have : thingR H2 v = thingR H v := by
        rcases hg v hv with ⟨b, ys, rfl, hb, _⟩ | ⟨T0, g1, g2⟩
        · obtain ⟨k1, k2⟩ := thingR_tup hb
          obtain ⟨m1, m2⟩ := thingR_tup (s2 _ _ hb)
          cases hr' : rectB ys with
          | true =>
            obtain ⟨p, e1, e2⟩ := k1 hr'
            obtain ⟨p', e3, e4⟩ := m1 hr'
            rw [e1, e3]
            rw [e2] at e4
            obtain ⟨a1, a2, a3, a4⟩ : p.t = p'.t ∧ p.l = p'.l ∧ p.b = p'.b ∧ p.r = p'.r := by
              injection e4 with q1 q2
              injection q2 with q2 q3
              injection q3 with q3 q4
              injection q4 with q4 _
              exact ⟨V.int.inj q1, V.int.inj q2, V.int.inj q3, V.int.inj q4⟩
            rw [rc_ext a1 a2 a3 a4]
          | false => rw [k2 hr', m2 hr']
        · rw [thingR_non g1 g2, thingR_non (tyS_same s2 g1) g2]
      rw [this]
    refine ⟨_, rfl, _, rfl, l, t, w, h, xs, rfl, s2.seq hl, fun x hx => (hg x hx).same s2, hsh, hlen, fun b => rf_u s2 (md.many b) stb_eq, fun b k v hk hbef hbad => rf_u s2 (md.pane b k v hk (fun j u hj hu => ?_) ?_) stb_eq, fun few hall H3 s3 => ?_⟩
    · rw [← okS u (List.mem_of_getElem? hu)]; exact hbef j u hj hu
    · rw [← okS v (List.mem_of_getElem? hk)]; exact hbad
    have hall : ∀ v ∈ xs, okV H w h v = true := fun v hv => by rw [← okS v hv]; exact hall v hv
    obtain ⟨ts, rfl, hat, hin⟩ := all_ts hall
    have few : ts.length ≤ 52 := by rw [List.length_map] at few; exact few
    have s13 := s2.trans s3
    refine ⟨_, rfl, l, rfl, ⟨_, s13.seq hl⟩, fun acc hacc => comp_list (K := K) (a := l) (ys := refs ts) (fun i xs σ H' => (∃ y, σ = [y]) ∧ Same H3 H' ∧ xs = (refs ts).take i) ⟨⟨none, rfl⟩, Same.new hacc, rfl⟩
      (fun i xs σ H' _ _ hp => (s13.trans hp.2.1).seq hl) ?_ ?_⟩
    · rintro i x xs σ H' hx hi hl' hacc' ⟨⟨y, rfl⟩, hs, rfl⟩
      obtain ⟨u, hu', rfl⟩ := refs_get hx
      have hua := (s13.trans hs) _ _ (hat u (List.mem_of_getElem? hu'))
      refine ⟨_, rfl, u.1, _, rfl, .inr ⟨SqT.of hua, cNx.mk (Nat.le_of_lt (small1000 (by rw [List.length_map]; first | lia | omega))) hi hl' hacc' ⟨⟨_, rfl⟩, fun b o e => ?_, ?_⟩⟩⟩
      · rw [upd_ne (ne_of_none e hacc)]; exact hs b o e
      · rw [List.take_succ, hx]; rfl
    · rintro xs σ H4 hl4 hacc4 ⟨_, s4, rfl⟩
      rw [List.take_length] at hacc4
      have s14 := s13.trans s4
      refine ⟨_, rfl, acc, w, h, ts, rfl, SqL.of hacc4, hat.same s14, hin, few, gw.2, gh.2, fun hap d kvs H5 s5 n5 hd5 hk5 hk6 => ?_, fun k u hu' hap hbad => rf_u s14 (md.lap ts rfl hat hin few k u hu' hap hbad) stb_eq⟩
      have s15 := s14.trans s5
      have covK : ∀ r c, valV kvs (sqK r c) ≠ none ↔ ∃ t ∈ ts, t.2.has r c := fun r c => by
        constructor
        · intro e
          cases q : valV kvs (sqK r c) with
          | none => exact absurd q e
          | some v => exact hk6 r c v q
        · rintro ⟨u, hu', hh⟩ e
          rw [hk5 u hu' r c hh] at e; cases e
      refine ⟨_, rfl, _, rfl, d, t, w, h, kvs, rfl, hd5, (s3.trans (s4.trans s5)) _ _ hsh, gw, gh, fun hcov H6 s6 => ?_, fun j z hz hbef hno => rf_u s15 (md.bare ts rfl hat hin few hap j z hz (fun i y hi hy => (covK _ _).mp (hbef i y hi hy)) fun hex => (covK _ _).mpr hex hno) stb_tup⟩
      have til : Tiles w h (rcs ts) := ⟨hin, hap, fun r c a1 a2 a3 a4 => by
        obtain ⟨u, hu', hh⟩ := (covK r c).mp (hcov r c a1 a2 a3 a4)
        exact ⟨u.2, List.mem_map.mpr ⟨u, hu', rfl⟩, hh⟩⟩
      have look : ∀ r c, 0 ≤ r → r < h → 0 ≤ c → c < w → ∃ t ∈ ts, valV kvs (sqK r c) = some (.ref t.1) ∧ t.2.has r c := fun r c a1 a2 a3 a4 => by
        obtain ⟨p, hp, hh⟩ := til.cov r c a1 a2 a3 a4
        obtain ⟨u, hu', rfl⟩ := List.mem_map.mp hp
        exact ⟨u, hu', hk5 u hu' r c hh, hh⟩
      have q := fin ts rfl hat til few
      have hlen := few
      have s16 := s15.trans s6
      have ob6 := s16 _ _ hob
      have hacc6 := (s5.trans s6) _ _ hacc4
      have hd6 := s6 _ _ hd5
      have na : acc ≠ a := ne_of hacc6 ob6 (by intro z; cases z)
      have nd : d ≠ a := ne_of hd6 ob6 (by intro z; cases z)
      refine ⟨_, rfl, _, rfl, a, C, dx, _, rfl, ob6, PC.cl, PC.n_width, (by show 0 < 1000; decide), ?_⟩
      refine ⟨_, rfl, _, rfl, a, C, dx, _, rfl, upd_same, PC.cl, PC.n_height, (by show 1 < 1000; decide), ?_⟩
      have hacc7 : (upd (upd H6 a (.ins C dx (putF "width" (.int w) []))) a (.ins C dx (putF "height" (.int h) (putF "width" (.int w) [])))) acc = some (.lst (refs ts)) := by rw [upd_ne na, upd_ne na]; exact hacc6
      have tup : ∀ t ∈ ts, (upd (upd H6 a (.ins C dx (putF "width" (.int w) []))) a (.ins C dx (putF "height" (.int h) (putF "width" (.int w) [])))) t.1 = some (.tup (four t.2.t t.2.l t.2.b t.2.r)) := fun t ht => by
        have e := s16 _ _ (hat t ht)
        have nt : t.1 ≠ a := ne_of e ob6 (by intro z; cases z)
        rw [upd_ne nt, upd_ne nt]; exact e
      refine ⟨_, rfl, acc, ts.map fun t => (t.1, t.2.ls), 3, key, rfl, ?_, by rw [List.length_map]; first | lia | omega, ?_, ?_, fun ls us hls hp hsr => ?_⟩
      · rw [List.map_map]; exact SqL.of hacc7
      · intro z hz
        obtain ⟨t, ht, rfl⟩ := List.mem_map.mp hz
        exact ⟨rfl, tup t ht⟩
      · intro z hz y hy
        obtain ⟨t, ht, rfl⟩ := List.mem_map.mp hz
        obtain ⟨u, hu', rfl⟩ := List.mem_map.mp hy
        exact key_lt (til.ins _ (List.mem_map.mpr ⟨t, ht, rfl⟩)) (til.ins _ (List.mem_map.mpr ⟨u, hu', rfl⟩)) gw.2 gh.2 gw.2 gh.2
      obtain ⟨ts', hp', rfl⟩ := perm_unmap hp rfl
      have nls : ls ≠ a := Ne.symm (ne_of_none upd_same hls)
      have frls : H ls = none := by
        cases e : H ls with
        | none => rfl
        | some o =>
          have e6 := s16 _ _ e
          rw [upd_ne nls, upd_ne nls, e6] at hls
          cases hls
      refine ⟨_, rfl, a, C, dx, _, rfl, by rw [upd_ne (Ne.symm nls)]; exact upd_same, PC.cl, PC.n_sorted_panes, (by show 2 < 1000; decide), ?_⟩
      refine ⟨_, rfl, _, rfl, a, C, dx, _, rfl, upd_same, PC.cl, PC.n_by_square, (by show 3 < 1000; decide), ?_⟩
      have sx : SameX a H6 (upd (upd (upd (upd (upd H6 a (.ins C dx (putF "width" (.int w) []))) a (.ins C dx (putF "height" (.int h) (putF "width" (.int w) [])))) ls (.lst (List.map (fun t => V.ref t.1) (List.map (fun t : Addr × Rc => (t.1, t.2.ls)) ts')))) a (.ins C dx (putF "sorted_panes" (.ref ls) (putF "height" (.int h) (putF "width" (.int w) []))))) a (.ins C dx (flds w h ls d))) := by
        refine SameX.trans (SameX.trans (SameX.trans (SameX.trans SameX.upd SameX.upd) (SameX.new hls)) SameX.upd) SameX.upd
      refine q ts' ls d kvs _ (fun b o nb e => sx b o nb (s16 b o e)) frls hp' ⟨upd_same, ?_, sx _ _ nd hd6, fun t ht => ?_, til.perm (hp'.map _), by rw [hp'.length_eq]; exact hlen, ?_, fun r c a1 a2 a3 a4 => ?_, gw, gh⟩
      · rw [upd_ne nls, upd_ne nls, upd_same, List.map_map]; rfl
      · have ht' := hp'.mem_iff.mp ht
        have e := s16 _ _ (hat t ht')
        have nt : t.1 ≠ a := ne_of e ob6 (by intro z; cases z)
        exact sx _ _ nt e
      · unfold Srt
        rw [List.map_map] at hsr ⊢
        exact hsr
      · obtain ⟨u, hu', hv, hh⟩ := look r c a1 a2 a3 a4
        exact ⟨u, hp'.mem_iff.mpr hu', hv, hh⟩
theorem S_law_whole : FnScope ["_law_thing"] ["_law_thing"] (defScope s__law_whole) := ⟨rfl, rfl, rfl, by decide +kernel, rfl, by decide +kernel, by decide +kernel⟩
theorem ok_law_whole {f : Addr} {fd : FuncData} (F : Fun K "_law_whole" "_law_whole" s__law_whole f fd) (T : Txt mg tk) : FnOk P w K mg base CX0 1 f fd ["_law_thing"] sp_whole := by
  have S := S_law_whole
  refine F.ok S (fun vs H Q E h => ?_) (fun cdv A outer s H vs Q E hr h => ?_)
  · obtain ⟨v, rfl, _⟩ := h; rfl
  · obtain ⟨v, rfl, ⟨T', hT⟩, q⟩ := h
    refine ⟨_, (pss_one (ps_ret (pe_and (pe_callB call_isin rfl T.z_isinstance rfl (pa_cons (pv 0) (pa_cons (pe_bltn (v := .ty "int") rfl T.z_int rfl rfl) pa_nil))) (pe_one (pe_not (pe_callB call_isin rfl T.z_isinstance rfl (pa_cons (pv 0) (pa_cons (pe_bltn (v := .ty "bool") rfl T.z_bool rfl rfl) pa_nil)))))))), ?_⟩
    refine ⟨v, rfl, v, T', "int", rfl, hT, .inl rfl, _, rfl, ite3 (fun h => ?_) (fun h => ?_)⟩
    · refine ⟨v, rfl, v, T', "bool", rfl, hT, .inr (.inl rfl), _, rfl, ?_⟩
      rw [(whole_eq hT).1 h]; exact q
    · show Q (.bl false) H
      rw [(whole_eq hT).2 h]; exact q
inductive Isp_lpane (vs : List V) (H : Hp) (Q : VK) (E : XK) : Prop
  | mk (v : V) (w h : Int) (h0 : vs = [v, .int w, .int h]) (h1 : Good H v) (h2 : ∀ H', Same H H' → Q (.bl (okV H w h v)) H') : Isp_lpane vs H Q E
def sp_lpane : Sp := fun vs H Q E => Isp_lpane vs H Q E
theorem ok4 {H : Hp} {w h t l b r : Int} {a : Addr} (ha : H a = some (.tup (four t l b r))) : okV H w h (.ref a) = (decide (0 ≤ t) && (decide (t < b) && decide (b ≤ h)) && (decide (0 ≤ l) && (decide (l < r) && decide (r ≤ w)))) := by
  obtain ⟨k1, k2⟩ := thingR_tup ha
  cases hr : rectB (four t l b r) with
  | false =>
    have e : okV H w h (.ref a) = false := by unfold okV; rw [k2 hr]
    rw [e]
    have hr : (decide (0 ≤ t) && decide (t < b) && (decide (0 ≤ l) && decide (l < r))) = false := hr
    cases h1 : decide (0 ≤ t) <;> cases h2 : decide (t < b) <;> cases h3 : decide (0 ≤ l) <;> cases h4 : decide (l < r) <;> simp_all
  | true =>
    obtain ⟨p, e1, e2⟩ := k1 hr
    have e : okV H w h (.ref a) = insB p.t p.l p.b p.r 0 0 h w := by unfold okV; rw [e1]
    injection e2 with q1 q2
    injection q2 with q2 q3
    injection q3 with q3 q4
    injection q4 with q4 _
    have q1 := V.int.inj q1; have q2 := V.int.inj q2; have q3 := V.int.inj q3; have q4 := V.int.inj q4
    rw [e, ← q1, ← q2, ← q3, ← q4]
    have hr : (decide (0 ≤ t) && decide (t < b) && (decide (0 ≤ l) && decide (l < r))) = true := hr
    simp only [Bool.and_eq_true] at hr
    obtain ⟨⟨h1, h2⟩, h3, h4⟩ := hr
    show (decide (0 ≤ t) && decide (0 ≤ l) && (decide (b ≤ h) && decide (r ≤ w))) = _
    rw [h1, h2, h3, h4]
    cases decide (b ≤ h) <;> cases decide (r ≤ w) <;> rfl
theorem okV_no {H : Hp} {w h : Int} {a : Addr} {xs : List V} (ha : H a = some (.tup xs)) (hr : rectB xs = false) : okV H w h (.ref a) = false := by unfold okV; rw [(thingR_tup ha).2 hr]
theorem S_law_pane : FnScope ["_law_thing", "_law_width", "_law_height"] ["_law_thing", "_law_width", "_law_height"] (defScope s__law_pane) := ⟨rfl, rfl, rfl, by decide +kernel, rfl, by decide +kernel, by decide +kernel⟩
theorem ok_law_pane {f : Addr} {fd : FuncData} (F : Fun K "_law_pane" "_law_pane" s__law_pane f fd) (T : Txt mg tk) (D__law_whole : DefOk P w K mg base 1 "_law_whole" ["_law_thing"] sp_whole) : FnOk P w K mg base CX0 2 f fd ["_law_thing", "_law_width", "_law_height"] sp_lpane := by
  have S := S_law_pane
  refine F.ok S (fun vs H Q E h => ?_) (fun cdv A outer s H vs Q E hr h => ?_)
  · obtain ⟨v, w, h, rfl, _⟩ := h; rfl
  · obtain ⟨v, w, hh, rfl, g, q⟩ := h
    refine ⟨_, (pss_cons (ps_if (PW.pt (pw_or (pt_not (pt_val (pe_callB call_isin rfl T.z_isinstance rfl (pa_cons (pv 0) (pa_cons (pe_bltn (v := .ty "tuple") rfl T.z_tuple rfl rfl) pa_nil))))) (pw_or (pt_cmpR op_ne (pe_callB (call_len_seqK (K := K)) rfl T.z_len rfl (pa_cons (pv 0) pa_nil)) pe_int (nomark _)) (pw_or1 (pt_not (pt_val (pe_callB (call_allK (K := K)) rfl T.z_all rfl (pa_cons (pe_comp rfl (pi_tupK (K := K) (pv 0)) (fun _ _ _ _ _ => (pg_name (i := 0) (show List.Nodup (["_law_one"] : List Str) from by decide +kernel) rfl (Or.inl rfl))) (fun _ _ _ _ _ => (pe_fn D__law_whole hr (pa_cons (pv 0) pa_nil))) (N := ["_law_one"]) (fr := [none])) pa_nil)))))))) (pss_one (ps_ret pe_bl)) pss_nil)
      (pss_one (ps_ret (pe_and (pe_chain3 op_le op_lt op_le pe_int (pe_ix (ix_tupK (K := K)) (pv 0) pe_int (fun _ _ => rfl)) (pe_ix (ix_tupK (K := K)) (pv 0) pe_int (fun _ _ => rfl)) (pv 2)) (pe_one (pe_chain3 op_le op_lt op_le pe_int (pe_ix (ix_tupK (K := K)) (pv 0) pe_int (fun _ _ => rfl)) (pe_ix (ix_tupK (K := K)) (pv 0) pe_int (fun _ _ => rfl)) (pv 1))))))), ?_⟩
    rcases g with ⟨a, xs, rfl, ha, hlen, hx⟩ | ⟨T', hT, hne⟩
    · refine ⟨_, rfl, _, "tuple", "tuple", rfl, ty_tup ha, .inr (.inr (.inl rfl)), _, rfl, iteN (by rw [isB_tt]; rfl) ?_⟩
      refine ⟨_, rfl, a, xs, rfl, .inr (SqT.of ha), rfl, _, rfl, ite3 (fun h => ?_) (fun h => ?_)⟩
      · have e : rectB xs = false := rect_no fun a b c d z => dec4 h (by rw [z]; rfl)
        refine iteT ?_
        show Q (.bl false) H
        rw [← okV_no ha e]; exact q H (Same.refl H)
      · have h4 := dec4' h
        refine ⟨_, rfl, a, rfl, ⟨xs, SqT.of ha⟩, fun acc hacc => comp_tup (K := K) (a := a) (ys := xs) (fun i zs σ H' => (∃ y, σ = [y]) ∧ Same H H' ∧ zs = (xs.take i).map fun x => V.bl (wholeV x)) ⟨⟨none, rfl⟩, Same.new hacc, rfl⟩
          (fun i zs σ H' _ _ hp => SqT.of (hp.2.1 _ _ ha)) ?_ ?_⟩
        · rintro i x zs σ H' hxi hi hl hacc' ⟨⟨y, rfl⟩, hs, hzs⟩
          refine ⟨x, rfl, x, rfl, (hx x (List.mem_of_getElem? hxi)).same hs, cNx.mk (Nat.le_of_lt (small1000 (by first | lia | omega))) hi hl hacc' ⟨⟨_, rfl⟩, fun b o e => ?_, ?_⟩⟩
          · rw [upd_ne (ne_of_none e hacc)]; exact hs b o e
          · rw [hzs]; exact take_next (f := fun x => V.bl (wholeV x)) hxi
        · rintro zs σ H' hl hacc' ⟨_, hs, hzs⟩
          refine ⟨acc, xs.map wholeV, rfl, SqL.of (by rw [hacc', hzs, List.take_length, List.map_map]; rfl), rfl, _, rfl, ite3 (fun h => ?_) (fun h => ?_)⟩
          · have e : rectB xs = false := rect_no fun a b c d z => by subst z; cases h
            show Q (.bl false) H'
            rw [← okV_no ha e]; exact q H' hs
          · obtain ⟨a0, a1, a2, a3, rfl⟩ := four_of h4 (by simpa using h)
            have ha' := hs _ _ ha
            have key := q H' hs
            rw [ok4 ha] at key
            have no : (decide (0 ≤ a0) && (decide (a0 < a2) && decide (a2 ≤ hh)) && (decide (0 ≤ a1) && (decide (a1 < a3) && decide (a3 ≤ w)))) = false → Q (.bl false) H' := fun e => by rw [e] at key; exact key
            refine ⟨_, rfl, a, _, _, _, rfl, rfl, SqT.of ha', at0, _, _, rfl, rfl, _, rfl, ite3 (fun h1 => ?_) (fun h1 => ⟨_, rfl, iteN rfl (no (by rw [h1]; rfl))⟩)⟩
            refine ⟨_, rfl, a, _, _, _, rfl, rfl, SqT.of ha', at2, _, _, rfl, rfl, _, rfl, ite3 (fun h2 => ?_) (fun h2 => ⟨_, rfl, iteN rfl (no (by rw [h1, h2]; rfl))⟩)⟩
            refine ⟨_, rfl, _, _, rfl, rfl, _, rfl, ite3 (fun h3 => ?_) (fun h3 => no (by rw [h1, h2, h3]; rfl))⟩
            refine ⟨_, rfl, a, _, _, _, rfl, rfl, SqT.of ha', at1, _, _, rfl, rfl, _, rfl, ite3 (fun h5 => ?_) (fun h5 => no (by rw [h1, h2, h3, h5]; rfl))⟩
            refine ⟨_, rfl, a, _, _, _, rfl, rfl, SqT.of ha', at3, _, _, rfl, rfl, _, rfl, ite3 (fun h6 => ?_) (fun h6 => no (by rw [h1, h2, h3, h5, h6]; rfl))⟩
            refine ⟨_, rfl, _, _, rfl, rfl, ?_⟩
            rw [h1, h2, h3, h5, h6] at key
            exact key
    · refine ⟨_, rfl, _, T', "tuple", rfl, hT, .inr (.inr (.inl rfl)), _, rfl, iteP ?_ (iteT ?_)⟩
      · have e : isB T' "tuple" = false := by
          unfold isB
          rw [decide_eq_false hne]
          simp
        rw [e]; rfl
      · have e : okV H w hh v = false := by unfold okV; rw [thingR_non hT hne]
        show Q (.bl false) H
        rw [← e]; exact q H (Same.refl H)
inductive Isp_lapart (vs : List V) (H : Hp) (Q : VK) (E : XK) : Prop
  | mk (a b : Addr) (p q : Rc) (h0 : vs = [.ref a, .ref b]) (h1 : H a = some (.tup (four p.t p.l p.b p.r))) (h2 : H b = some (.tup (four q.t q.l q.b q.r))) (h3 : Q (.bl (decide (p.b ≤ q.t) || (decide (q.b ≤ p.t) || (decide (p.r ≤ q.l) || decide (q.r ≤ p.l))))) H) : Isp_lapart vs H Q E
def sp_lapart : Sp := fun vs H Q E => Isp_lapart vs H Q E
theorem S_law_apart : FnScope ["_law_one", "_law_other"] ["_law_one", "_law_other"] (defScope s__law_apart) := ⟨rfl, rfl, rfl, by decide +kernel, rfl, by decide +kernel, by decide +kernel⟩
theorem ok_law_apart {f : Addr} {fd : FuncData} (F : Fun K "_law_apart" "_law_apart" s__law_apart f fd) : FnOk P w K mg base CX0 1 f fd ["_law_one", "_law_other"] sp_lapart := by
  have S := S_law_apart
  refine F.ok S (fun vs H Q E h => ?_) (fun cdv A outer s H vs Q E hr h => ?_)
  · obtain ⟨a, b, p, q, rfl, _⟩ := h; rfl
  · obtain ⟨a, b, p, q, rfl, ha, hb, k⟩ := h
    refine ⟨_, (pss_one (ps_ret (pe_or (pe_cmpR op_le (pe_ix (ix_tupK (K := K)) (pv 0) pe_int (fun _ _ => rfl)) (pe_ix (ix_tupK (K := K)) (pv 1) pe_int (fun _ _ => rfl)) (nomark _)) (pe_or (pe_cmpR op_le (pe_ix (ix_tupK (K := K)) (pv 1) pe_int (fun _ _ => rfl)) (pe_ix (ix_tupK (K := K)) (pv 0) pe_int (fun _ _ => rfl)) (nomark _)) (pe_or (pe_cmpR op_le (pe_ix (ix_tupK (K := K)) (pv 0) pe_int (fun _ _ => rfl)) (pe_ix (ix_tupK (K := K)) (pv 1) pe_int (fun _ _ => rfl)) (nomark _)) (pe_one (pe_cmpR op_le (pe_ix (ix_tupK (K := K)) (pv 1) pe_int (fun _ _ => rfl)) (pe_ix (ix_tupK (K := K)) (pv 0) pe_int (fun _ _ => rfl)) (nomark _)))))))), ?_⟩
    refine ⟨_, rfl, a, _, _, _, rfl, rfl, SqT.of ha, at2, _, rfl, b, _, _, _, rfl, rfl, SqT.of hb, at0, _, _, rfl, rfl, _, rfl, ite3 (fun h1 => ?_) fun h1 => ?_⟩
    · show Q (.bl true) H
      rw [h1] at k; exact k
    refine ⟨_, rfl, b, _, _, _, rfl, rfl, SqT.of hb, at2, _, rfl, a, _, _, _, rfl, rfl, SqT.of ha, at0, _, _, rfl, rfl, _, rfl, ite3 (fun h2 => ?_) fun h2 => ?_⟩
    · show Q (.bl true) H
      rw [h1, h2] at k; exact k
    refine ⟨_, rfl, a, _, _, _, rfl, rfl, SqT.of ha, at3, _, rfl, b, _, _, _, rfl, rfl, SqT.of hb, at1, _, _, rfl, rfl, _, rfl, ite3 (fun h3 => ?_) fun h3 => ?_⟩
    · show Q (.bl true) H
      rw [h1, h2, h3] at k; exact k
    refine ⟨_, rfl, b, _, _, _, rfl, rfl, SqT.of hb, at3, _, rfl, a, _, _, _, rfl, rfl, SqT.of ha, at1, _, _, rfl, rfl, ?_⟩
    rw [h1, h2, h3] at k; exact k
/-- the order of squares -/
def lexlt (y z : Int × Int) : Prop := y.1 < z.1 ∨ (y.1 = z.1 ∧ y.2 < z.2)
theorem rowSq_lex (p : Rc) (i j : Nat) : (rowSq p i j).Pairwise lexlt := by
  unfold rowSq
  rw [List.pairwise_map, List.pairwise_iff_getElem]
  intro a b ha hb h
  rw [List.getElem_range, List.getElem_range]
  exact .inr ⟨rfl, by show p.l + (a : Int) < p.l + (b : Int); first | lia | omega⟩
theorem sqsN_lex {p : Rc} (h : p.l ≤ p.r) : ∀ n, (sqsN p n).Pairwise lexlt
  | 0 => by simp [sqsN]
  | n + 1 => by
    rw [sqsN, List.pairwise_append]
    refine ⟨sqsN_lex h n, rowSq_lex p n _, fun y hy z hz => ?_⟩
    have h1 := (mem_sqsN h (r := y.1) (c := y.2)).mp hy
    have h2 := (mem_rowSq (r := z.1) (c := z.2)).mp hz
    exact .inl (by first | lia | omega)
def cvr (ts : List (Addr × Rc)) (r c : Int) : Prop := ∃ t ∈ ts, t.2.has r c
theorem first_ix {ts : List (Addr × Rc)} {w h : Int} (gw : 0 ≤ w) (gh : 0 ≤ h) {z : Int × Int} (hz : 0 ≤ z.1 ∧ z.1 < h ∧ 0 ≤ z.2 ∧ z.2 < w) (hb : ∀ r c, 0 ≤ r → r < h → 0 ≤ c → c < w → lexlt (r, c) z → cvr ts r c) :
    ∃ j : Nat, (sqs ⟨0, 0, h, w⟩)[j]? = some z ∧ ∀ (i : Nat) y, i < j → (sqs ⟨0, 0, h, w⟩)[i]? = some y → cvr ts y.1 y.2 := by
  have hm : z ∈ sqs ⟨0, 0, h, w⟩ := (mem_sqs (p := ⟨0, 0, h, w⟩) (r := z.1) (c := z.2) gw gh).mpr hz
  obtain ⟨j, hj, e⟩ := List.getElem_of_mem hm
  refine ⟨j, by rw [List.getElem?_eq_getElem hj, e], fun i y hi hy => ?_⟩
  obtain ⟨hi', e'⟩ := List.getElem?_eq_some_iff.mp hy
  have lx := List.pairwise_iff_getElem.mp (sqsN_lex (p := ⟨0, 0, h, w⟩) gw (h - 0).toNat) i j hi' hj hi
  have e1 : (sqsN ⟨0, 0, h, w⟩ (h - 0).toNat)[i] = y := e'
  have e2 : (sqsN ⟨0, 0, h, w⟩ (h - 0).toNat)[j] = z := e
  rw [e1, e2] at lx
  have hy' : y ∈ sqs ⟨0, 0, h, w⟩ := List.mem_of_getElem? hy
  obtain ⟨y1, y2, y3, y4⟩ := (mem_sqs (p := ⟨0, 0, h, w⟩) (r := y.1) (c := y.2) gw gh).mp hy'
  exact hb y.1 y.2 y1 y2 y3 y4 lx
def hasB (p : Rc) (r c : Int) : Bool := decide (p.t ≤ r) && decide (r < p.b) && (decide (p.l ≤ c) && decide (c < p.r))
theorem hasB_iff {p : Rc} {r c : Int} : hasB p r c = true ↔ p.has r c := by
  unfold hasB
  simp only [Bool.and_eq_true, decide_eq_true_eq]
  constructor
  · rintro ⟨⟨a, b⟩, c, d⟩; exact ⟨a, b, c, d⟩
  · rintro ⟨a, b, c, d⟩; exact ⟨⟨a, b⟩, c, d⟩
inductive Isp_first (K : PySem.W.Frag)  (vs : List V) (H : Hp) (Q : VK) (E : XK) : Prop
  | mk (l : Addr) (w h : Int) (ts : List (Addr × Rc)) (h0 : vs = [.ref l, .int w, .int h]) (h1 : SqL K H l (refs ts)) (h2 : At H ts) (h3 : ts.length ≤ 52) (h4 : (1 ≤ w ∧ w ≤ 12)) (h5 : (1 ≤ h ∧ h ≤ 12)) (h6 : ((∀ r c, 0 ≤ r → r < h → 0 ≤ c → c < w → cvr ts r c) → ∀ H', Same H H' → Q .non H')) (h7 : ∀ z q H', Same H H' → (0 ≤ z.1 ∧ z.1 < h ∧ 0 ≤ z.2 ∧ z.2 < w) → (∀ r c, 0 ≤ r → r < h → 0 ≤ c → c < w → lexlt (r, c) z → cvr ts r c) → ¬ cvr ts z.1 z.2 → H' q = some (.tup [.int z.1, .int z.2]) → Q (.ref q) H') : Isp_first K vs H Q E
def sp_first (K : PySem.W.Frag)  : Sp := fun vs H Q E => Isp_first K vs H Q E
theorem any_cvr {ts : List (Addr × Rc)} {r c : Int} : ((ts.map fun t => hasB t.2 r c).any id = true → cvr ts r c) ∧ ((ts.map fun t => hasB t.2 r c).any id = false → ¬ cvr ts r c) := by
  constructor
  · intro h
    rw [List.any_eq_true] at h
    obtain ⟨b, hb, e⟩ := h
    obtain ⟨t, ht, rfl⟩ := List.mem_map.mp hb
    exact ⟨t, ht, hasB_iff.mp e⟩
  · rintro h ⟨t, ht, hh⟩
    rw [List.any_eq_false] at h
    exact h _ (List.mem_map.mpr ⟨t, ht, rfl⟩) (hasB_iff.mpr hh)
theorem S_law_first : FnScope ["_law_panes", "_law_width", "_law_height", "_law_row", "_law_column"] ["_law_panes", "_law_width", "_law_height"] (defScope s__law_first_square) := ⟨rfl, rfl, rfl, by decide +kernel, rfl, by decide +kernel, by decide +kernel⟩
theorem ok_law_first_square {f : Addr} {fd : FuncData} (F : Fun K "_law_first_square" "_law_first_square" s__law_first_square f fd) (T : Txt mg tk) : FnOk P w K mg base CX0 1 f fd ["_law_panes", "_law_width", "_law_height"] (sp_first K) := by
  have S := S_law_first
  refine F.ok S (fun vs H Q E h => ?_) (fun cdv A outer s H vs Q E hr h => ?_)
  · obtain ⟨l, w, h, ts, rfl, _⟩ := h; rfl
  · obtain ⟨l, w, h, ts, rfl, hl, hat, few, gw, gh, q1, q2⟩ := h
    refine ⟨_, (pss_cons (ps_for PassesOwn.never rfl (pi_range1 rfl T.z_range (pa_cons (pv 2) pa_nil)) (pg_name (i := 3) S.nd rfl (Or.inr rfl)) (pss_one (ps_for PassesOwn.never rfl (pi_range1 rfl T.z_range (pa_cons (pv 1) pa_nil)) (pg_name (i := 4) S.nd rfl (Or.inr rfl)) (pss_one (ps_if (pt_not (pt_val (pe_callB (call_anyK (K := K)) rfl T.z_any rfl (pa_cons (pe_comp rfl (pi_listK (K := K) (pv 0)) (fun _ _ _ _ _ => (pg_name (i := 0) (show List.Nodup (["_law_one", "_law_row", "_law_column"] : List Str) from by decide +kernel) rfl (Or.inl rfl))) (fun _ _ _ _ _ => (pe_and (pe_chain op_le op_lt (pe_ix (ix_tupK (K := K)) (pv 0) pe_int (fun _ _ => rfl)) (pv 1) (pe_ix (ix_tupK (K := K)) (pv 0) pe_int (fun _ _ => rfl))) (pe_one (pe_chain op_le op_lt (pe_ix (ix_tupK (K := K)) (pv 0) pe_int (fun _ _ => rfl)) (pv 2) (pe_ix (ix_tupK (K := K)) (pv 0) pe_int (fun _ _ => rfl)))))) (N := ["_law_one", "_law_row", "_law_column"]) (fr := [none, some 3, some 4])) pa_nil)))) (pss_one (ps_ret (pe_tup (pa_cons (pv 3) (pa_cons (pv 4) pa_nil))))) pss_nil)))))
      (pss_one (ps_ret pe_non))), ?_⟩
    refine ⟨_, rfl, h, rfl, by first | lia | omega, by first | lia | omega, for_range (lo := 0) (n := h.toNat) (fun i σ H' => (∃ x y, σ = [some (.ref l), some (.int w), some (.int h), x, y]) ∧ Same H H' ∧ ∀ r c : Int, 0 ≤ r → r < (i : Int) → 0 ≤ c → c < w → cvr ts r c) ⟨⟨none, none, rfl⟩, Same.refl H, fun r c a b => by first | lia | omega⟩ ?_ ?_⟩
    · rintro i σ H1 hi ⟨⟨x, y, rfl⟩, s1, c1⟩
      have hz : (0 : Int) + (i : Int) = (i : Int) := Int.zero_add _
      rw [hz]
      refine ⟨_, rfl, w, rfl, by first | lia | omega, by first | lia | omega, for_range (lo := 0) (n := w.toNat) (fun j σ H' => (∃ y, σ = [some (.ref l), some (.int w), some (.int h), some (.int i), y]) ∧ Same H H' ∧ ∀ c : Int, 0 ≤ c → c < (j : Int) → cvr ts i c) ⟨⟨y, rfl⟩, s1, fun c a b => by first | lia | omega⟩ ?_ ?_⟩
      · rintro j σ H2 hj ⟨⟨y, rfl⟩, s2, c2⟩
        have hz2 : (0 : Int) + (j : Int) = (j : Int) := Int.zero_add _
        rw [hz2]
        refine ⟨_, rfl, l, rfl, ⟨_, s2.seq hl⟩, fun acc hacc => comp_list (K := K) (a := l) (ys := refs ts) (fun k zs σ H' => (∃ y, σ = [y, some (.int i), some (.int j)]) ∧ Same H2 H' ∧ zs = (ts.take k).map fun t => V.bl (hasB t.2 i j)) ⟨⟨none, rfl⟩, Same.new hacc, rfl⟩
          (fun k zs σ H' _ _ hp => (s2.trans hp.2.1).seq hl) ?_ ?_⟩
        · rintro k x zs σ H' hx hk hl' hacc' ⟨⟨y, rfl⟩, hs, hzs⟩
          obtain ⟨u, hu', rfl⟩ := refs_get hx
          have hua := (s2.trans hs) _ _ (hat u (List.mem_of_getElem? hu'))
          have next : ∀ {H3 : Hp}, H3 = H' → cNx acc (refs ts).length (fun k zs σ H' => (∃ y, σ = [y, some (.int i), some (.int j)]) ∧ Same H2 H' ∧ zs = (ts.take k).map fun t => V.bl (hasB t.2 i j)) k [some (.ref u.1), some (.int i), some (.int j)] (.bl (hasB u.2 i j)) H3 := fun {H3} e => by
            subst e
            refine cNx.mk (Nat.le_of_lt (small1000 (by rw [List.length_map]; first | lia | omega))) hk hl' hacc' ⟨⟨_, rfl⟩, fun b o e => by rw [upd_ne (ne_of_none e hacc)]; exact hs b o e, ?_⟩
            rw [hzs, List.take_succ, hu', List.map_append]; rfl
          have lb : hasB u.2 i j = (decide (u.2.t ≤ (i : Int)) && decide ((i : Int) < u.2.b) && (decide (u.2.l ≤ (j : Int)) && decide ((j : Int) < u.2.r))) := rfl
          refine ⟨_, rfl, u.1, _, _, _, rfl, rfl, SqT.of hua, at0, _, rfl, _, _, rfl, rfl, _, rfl, ite3 (fun h1 => ?_) (fun h1 => ⟨_, rfl, iteN rfl ?_⟩)⟩
          · refine ⟨_, rfl, u.1, _, _, _, rfl, rfl, SqT.of hua, at2, _, _, rfl, rfl, _, rfl, ite3 (fun h2 => ?_) (fun h2 => ?_)⟩
            · refine ⟨_, rfl, u.1, _, _, _, rfl, rfl, SqT.of hua, at1, _, rfl, _, _, rfl, rfl, _, rfl, ite3 (fun h3 => ?_) (fun h3 => ?_)⟩
              · refine ⟨_, rfl, u.1, _, _, _, rfl, rfl, SqT.of hua, at3, _, _, rfl, rfl, ?_⟩
                have := next rfl
                rw [lb, h1, h2, h3] at this
                exact this
              · have := next rfl
                rw [lb, h1, h2, h3] at this
                exact this
            · have := next rfl
              rw [lb, h1, h2] at this
              exact this
          · have := next rfl
            rw [lb, h1] at this
            exact this
        · rintro zs σ H3 hl' hacc' ⟨_, hs, hzs⟩
          have hzs' : zs = (ts.map fun t => hasB t.2 i j).map V.bl := by rw [hzs, List.length_map, List.take_length, List.map_map]; rfl
          refine ⟨acc, ts.map fun t => hasB t.2 i j, rfl, SqL.of (by rw [hacc', hzs']), rfl, _, rfl, ite3 (fun hb => ?_) fun hb => ?_⟩
          · have hb : (ts.map fun t => hasB t.2 i j).any id = false := by simpa using hb
            have nc := any_cvr.2 hb
            refine ⟨_, rfl, _, rfl, lenOk 2, fun t ht => ?_⟩
            refine q2 ((i : Int), (j : Int)) t _ ((s2.trans hs).trans (Same.new ht)) ⟨by show (0 : Int) ≤ i; first | lia | omega, by show (i : Int) < h; first | lia | omega, by show (0 : Int) ≤ j; first | lia | omega, by show (j : Int) < w; first | lia | omega⟩ (fun r c a1 a2 a3 a4 lx => ?_) nc upd_same
            rcases lx with lx | ⟨e, lx⟩
            · exact c1 r c a1 lx a3 a4
            · have e : r = (i : Int) := e
              rw [e]; exact c2 c a3 lx
          · have hb : (ts.map fun t => hasB t.2 i j).any id = true := by simpa using hb
            have yc := any_cvr.1 hb
            refine ⟨⟨_, rfl⟩, s2.trans hs, fun c a b => ?_⟩
            by_cases e : c = (j : Int)
            · rw [e]; exact yc
            · exact c2 c a (by first | lia | omega)
      · rintro σ H2 ⟨⟨y, rfl⟩, s2, c2⟩
        refine ⟨⟨_, _, rfl⟩, s2, fun r c a1 a2 a3 a4 => ?_⟩
        by_cases e : r = (i : Int)
        · rw [e]; exact c2 c a3 (by first | lia | omega)
        · exact c1 r c a1 (by first | lia | omega) a3 a4
    · rintro σ H1 ⟨⟨x, y, rfl⟩, s1, c1⟩
      exact q1 (fun r c a1 a2 a3 a4 => c1 r c a1 (by first | lia | omega) a3 a4) H1 s1
def apB (p q : Rc) : Bool := decide (p.b ≤ q.t) || (decide (q.b ≤ p.t) || (decide (p.r ≤ q.l) || decide (q.r ≤ p.l)))
theorem apB_iff {p q : Rc} {w h : Int} (hp : p.In w h) (hq : q.In w h) : apB p q = true ↔ Apart p q := by
  obtain ⟨a1, a2, a3, a4, a5, a6⟩ := hp
  obtain ⟨b1, b2, b3, b4, b5, b6⟩ := hq
  unfold apB
  simp only [Bool.or_eq_true, decide_eq_true_eq]
  constructor
  · rintro e r c ⟨c1, c2, c3, c4⟩ ⟨d1, d2, d3, d4⟩
    first | lia | omega
  · intro ap
    refine Classical.byContradiction fun n => ?_
    simp only [not_or] at n
    exact ap (max p.t q.t) (max p.l q.l) ⟨by first | lia | omega, by first | lia | omega, by first | lia | omega, by first | lia | omega⟩ ⟨by first | lia | omega, by first | lia | omega, by first | lia | omega, by first | lia | omega⟩
/-- what is due: a tuple of a word and a value, or nothing -/
def Tld (H : Hp) (Q : VK) (k : Str) (P : V → Hp → Prop) : Prop := ∀ t v H', Same H H' → H' t = some (.tup [.str k, v]) → P v H' → Q (.ref t) H'
structure Due1 (H : Hp) (Q : VK) (w h : Int) (xs : List V) : Prop where
  many : 52 < xs.length → Tld H Q "many" fun v _ => v = V.int xs.length
  pane : xs.length ≤ 52 → ∀ (k : Nat) v, xs[k]? = some v → (∀ (j : Nat) u, j < k → xs[j]? = some u → okV H w h u = true) → okV H w h v = false → Tld H Q "pane" fun v _ => v = V.int k
  lap : ∀ ts : List (Addr × Rc), xs = refs ts → At H ts → (∀ p ∈ rcs ts, p.In w h) → ts.length ≤ 52 → ∀ (k : Nat) u, ts[k]? = some u → (rcs (ts.take k)).Pairwise Apart → (∃ t ∈ ts.take k, ¬ Apart t.2 u.2) → Tld H Q "overlap" fun v _ => v = V.int k
  bare : ∀ ts : List (Addr × Rc), xs = refs ts → At H ts → (∀ p ∈ rcs ts, p.In w h) → ts.length ≤ 52 → (rcs ts).Pairwise Apart → ∀ z : Int × Int, (0 ≤ z.1 ∧ z.1 < h ∧ 0 ≤ z.2 ∧ z.2 < w) → (∀ r c, 0 ≤ r → r < h → 0 ≤ c → c < w → lexlt (r, c) z → cvr ts r c) → ¬ cvr ts z.1 z.2 →
    Tld H Q "bare" fun v H' => ∃ q, v = .ref q ∧ H' q = some (.tup [.int z.1, .int z.2])
  none : ∀ ts : List (Addr × Rc), xs = refs ts → At H ts → Tiles w h (rcs ts) → ts.length ≤ 52 → ∀ H', Same H H' → Q .non H'
inductive Isp_due (K : PySem.W.Frag)  (vs : List V) (H : Hp) (Q : VK) (E : XK) : Prop
  | mk (wv hv : V) (l : Addr) (xs : List V) (h0 : vs = [wv, hv, .ref l]) (h1 : SqL K H l xs) (h2 : (∀ x ∈ xs, Good H x)) (h3 : xs.length ≤ 300) (h4 : Ty H wv) (h5 : Ty H hv) (h6 : (sideV wv = false → Tld H Q "side" fun v _ => v = wv)) (h7 : (sideV wv = true → sideV hv = false → Tld H Q "side" fun v _ => v = hv)) (h8 : ∀ w h, wv = .int w → hv = .int h → (1 ≤ w ∧ w ≤ 12) → (1 ≤ h ∧ h ≤ 12) → Due1 H Q w h xs) : Isp_due K vs H Q E
def sp_due (K : PySem.W.Frag)  : Sp := fun vs H Q E => Isp_due K vs H Q E
theorem okV_same {H H2 : Hp} {w h : Int} {v : V} (s : Same H H2) (g : Good H v) : okV H2 w h v = okV H w h v := by
  rcases g with ⟨b, ys, rfl, hb, _⟩ | ⟨T0, g1, g2⟩
  · cases hr : rectB ys with
    | false => rw [okV_no hb hr, okV_no (s _ _ hb) hr]
    | true =>
      obtain ⟨p, _, rfl⟩ := (thingR_tup hb).1 hr
      rw [ok4 hb, ok4 (s _ _ hb)]
  · unfold okV
    rw [thingR_non g1 g2, thingR_non (tyS_same s g1) g2]
theorem sideV_no {v : V} (h : wholeV v = false) : sideV v = false := by cases v <;> first | rfl | cases h
theorem whole_int {v : V} (h : wholeV v = true) : ∃ i, v = .int i := by cases v <;> first | exact ⟨_, rfl⟩ | cases h
abbrev N_due : List Str := ["_law_width", "_law_height", "_law_panes", "_law_side", "_law_k", "_law_square"]
theorem S_law_due : FnScope N_due ["_law_width", "_law_height", "_law_panes"] (defScope s__law_due) := ⟨rfl, rfl, rfl, by decide +kernel, rfl, by decide +kernel, by decide +kernel⟩
theorem ok_law_due {f : Addr} {fd : FuncData} (F : Fun K "_law_due" "_law_due" s__law_due f fd) (T : Txt mg tk) (D__law_whole : DefOk P w K mg base 1 "_law_whole" ["_law_thing"] sp_whole) (D__law_pane : DefOk P w K mg base 2 "_law_pane" ["_law_thing", "_law_width", "_law_height"] sp_lpane)
    (D__law_apart : DefOk P w K mg base 1 "_law_apart" ["_law_one", "_law_other"] sp_lapart) (D__law_first_square : DefOk P w K mg base 1 "_law_first_square" ["_law_panes", "_law_width", "_law_height"] (sp_first K)) : FnOk P w K mg base CX0 3 f fd ["_law_width", "_law_height", "_law_panes"] (sp_due K) := by
  have S := S_law_due
  refine F.ok S (fun vs H Q E h => ?_) (fun cdv A outer s H vs Q E hr h => ?_)
  · obtain ⟨wv, hv, l, xs, rfl, _⟩ := h; rfl
  · obtain ⟨wv, hv, l, xs, rfl, hl, hg, hlen, tw, th, r1, r2, rest⟩ := h
    obtain ⟨tA, hA, kA⟩ : ∃ rd, PSs (cxOf CX0 P w K mg base N_due "_law_due" (defScope s__law_due) f cdv A outer s H E).nox ((defBody s__law_due).drop 3) rd ∧ ∀ (w h : Int) (y z : Option V) (H2 : Hp), (1 ≤ w ∧ w ≤ 12) → (1 ≤ h ∧ h ≤ 12) → Due1 H Q w h xs → xs.length ≤ 52 → (∀ v ∈ xs, okV H w h v = true) → Same H H2 → rd { nx := fun _ H' => Q .non H', rt := Q } [some (.int w), some (.int h), some (.ref l), y, z, none] H2 := by
      refine ⟨_, (pss_cons (ps_for PassesOwn.never rfl (pi_range1 rfl T.z_range (pa_cons (pe_callB (call_len_seqK (K := K)) rfl T.z_len rfl (pa_cons (pv 2) pa_nil)) pa_nil)) (pg_name (i := 4) S.nd rfl (Or.inr rfl)) (pss_one (ps_if (pt_not (pt_val (pe_callB (call_allK (K := K)) rfl T.z_all rfl (pa_cons (pe_comp rfl (pi_range1 rfl T.z_range (pa_cons (pv 4) pa_nil)) (fun _ _ _ _ _ => (pg_name (i := 0) (show List.Nodup (["_law_j", "_law_panes", "_law_k"] : List Str) from by decide +kernel) rfl (Or.inl rfl))) (fun _ _ _ _ _ => (pe_fn D__law_apart hr (pa_cons (pe_ix (ix_listK (K := K)) (pv 1) (pv 0) (fun _ _ => rfl)) (pa_cons (pe_ix (ix_listK (K := K)) (pv 1) (pv 2) (fun _ _ => rfl)) pa_nil)))) (N := ["_law_j", "_law_panes", "_law_k"]) (fr := [none, some 2, some 4])) pa_nil)))) (pss_one (ps_ret (pe_tup (pa_cons pe_str (pa_cons (pv 4) pa_nil))))) pss_nil)))
      (pss_cons (ps_set (i := 5) S.nd rfl (Or.inl rfl) (pe_fn D__law_first_square hr (pa_cons (pv 2) (pa_cons (pv 0) (pa_cons (pv 1) pa_nil)))))
      (pss_cons (ps_if (pt_cmpR op_notN (pv 5) pe_non (nomark _)) (pss_one (ps_ret (pe_tup (pa_cons pe_str (pa_cons (pv 5) pa_nil))))) pss_nil)
      (pss_one (ps_ret pe_non))))), ?_⟩
      intro w h y z H2 gw gh du few hall s2
      clear rest r1 r2
      obtain ⟨ts, rfl, hat, hin⟩ := all_ts hall
      have few' : ts.length ≤ 52 := by rw [List.length_map] at few; exact few
      have inn : ∀ t ∈ ts, t.2.In w h := fun t ht => hin _ (List.mem_map.mpr ⟨t, ht, rfl⟩)
      refine ⟨_, rfl, l, _, rfl, .inl (s2.seq hl), ((refs ts).length : Int), rfl, by first | lia | omega, by first | lia | omega, for_range (lo := 0) (n := ((refs ts).length : Int).toNat) (fun i σ H' => (∃ z, σ = [some (.int w), some (.int h), some (.ref l), y, z, none]) ∧ Same H H' ∧ (rcs (ts.take i)).Pairwise Apart) ⟨⟨_, rfl⟩, s2, by simp⟩ ?_ ?_⟩
      · rintro i σ H3 hi ⟨⟨z, rfl⟩, s3, hap⟩
        have hi : i < ts.length := by rw [List.length_map] at hi; first | lia | omega
        have hu' : ts[i]? = some ts[i] := List.getElem?_eq_getElem hi
        have hum : ts[i] ∈ ts := List.getElem_mem hi
        generalize ts[i] = u at hu' hum
        have hz : (0 : Int) + (i : Int) = (i : Int) := Int.zero_add _
        rw [hz]
        refine ⟨_, rfl, (i : Int), rfl, by first | lia | omega, by first | lia | omega, fun acc hacc => comp_range (lo := 0) (n := (i : Int).toNat) (fun j zs σ H' => (∃ y, σ = [y, some (.ref l), some (.int i)]) ∧ Same H3 H' ∧ zs = (ts.take j).map fun t => V.bl (apB t.2 u.2)) ⟨⟨none, rfl⟩, Same.new hacc, rfl⟩ ?_ ?_⟩
        · rintro j zs σ H' hj hl' hacc' ⟨⟨y', rfl⟩, hs, hzs⟩
          have hj' : j < ts.length := by first | lia | omega
          have hv' : ts[j]? = some ts[j] := List.getElem?_eq_getElem hj'
          have hvm : ts[j] ∈ ts := List.getElem_mem hj'
          generalize ts[j] = v at hv' hvm
          have hz : (0 : Int) + (j : Int) = (j : Int) := Int.zero_add _
          rw [hz]
          have g1 : (refs ts)[j]? = some (.ref v.1) := by rw [List.getElem?_map, hv']; rfl
          have g2 : (refs ts)[i]? = some (.ref u.1) := by rw [List.getElem?_map, hu']; rfl
          have sS := s3.trans hs
          refine ⟨_, rfl, _, rfl, l, _, _, _, rfl, rfl, sS.seq hl, atI_nat g1, _, rfl, _, rfl, l, _, _, _, rfl, rfl, sS.seq hl, atI_nat g2, v.1, u.1, v.2, u.2, rfl, sS _ _ (hat v hvm), sS _ _ (hat u hum), ?_⟩
          refine cNx.mk (Nat.le_of_lt (small1000 (by first | lia | omega))) hj hl' hacc' ⟨⟨_, rfl⟩, fun b o e => by rw [upd_ne (ne_of_none e hacc)]; exact hs b o e, ?_⟩
          rw [hzs, List.take_succ, hv', List.map_append]; rfl
        · rintro zs σ H' hl' hacc' ⟨_, hs, hzs⟩
          have hzs' : zs = ((ts.take i).map fun t => apB t.2 u.2).map V.bl := by rw [hzs, Int.toNat_natCast, List.map_map]; rfl
          refine ⟨acc, (ts.take i).map fun t => apB t.2 u.2, rfl, SqL.of (by rw [hacc', hzs']), rfl, _, rfl, ite3 (fun hb => ?_) fun hb => ?_⟩
          · have hb : ((ts.take i).map fun t => apB t.2 u.2).all id = false := by simpa using hb
            have bad : ∃ t ∈ ts.take i, ¬ Apart t.2 u.2 := by
              rw [List.all_eq_false] at hb
              obtain ⟨b, hbm, e⟩ := hb
              obtain ⟨t, ht, rfl⟩ := List.mem_map.mp hbm
              exact ⟨t, ht, fun ap => e ((apB_iff (inn t (List.mem_of_mem_take ht)) (inn u hum)).mpr ap)⟩
            exact ⟨_, rfl, lenOk 2, fun t' ht' => du.lap ts rfl hat hin few' i u hu' hap bad t' _ _ ((s3.trans hs).trans (Same.new ht')) upd_same rfl⟩
          · have hb : ((ts.take i).map fun t => apB t.2 u.2).all id = true := by simpa using hb
            refine ⟨⟨_, rfl⟩, s3.trans hs, apart_snoc hu' hap fun t ht => ?_⟩
            rw [List.all_eq_true] at hb
            exact (apB_iff (inn t (List.mem_of_mem_take ht)) (inn u hum)).mp (hb _ (List.mem_map.mpr ⟨t, ht, rfl⟩))
      · rintro σ H3 ⟨⟨z, rfl⟩, s3, hap⟩
        have hap : (rcs ts).Pairwise Apart := by
          rw [Int.toNat_natCast, List.length_map, List.take_length] at hap; exact hap
        refine ⟨_, rfl, _, rfl, _, rfl, l, w, h, ts, rfl, s3.seq hl, hat.same s3, few', gw, gh, fun hcov H4 s4 => ?_, fun z q H4 s4 hz hbef hno hq => ?_⟩
        · refine ⟨_, rfl, rfl, _, rfl, iteN (by rw [decide_eq_true rfl]; rfl) ?_⟩
          exact du.none ts rfl hat ⟨hin, hap, fun r c a1 a2 a3 a4 => by
            obtain ⟨t, ht, hh⟩ := hcov r c a1 a2 a3 a4
            exact ⟨t.2, List.mem_map.mpr ⟨t, ht, rfl⟩, hh⟩⟩ few' _ (s3.trans s4)
        · refine ⟨_, rfl, rfl, _, rfl, iteP (by rw [decide_eq_false (fun z => by cases z)]; rfl) ⟨_, rfl, lenOk 2, fun t' ht' => ?_⟩⟩
          exact du.bare ts rfl hat hin few' hap z hz hbef hno t' _ _ ((s3.trans s4).trans (Same.new ht')) upd_same ⟨q, rfl, by rw [upd_ne (ne_of_none hq ht')]; exact hq⟩
    obtain ⟨tB, hB, kB⟩ : ∃ rd, PSs (cxOf CX0 P w K mg base N_due "_law_due" (defScope s__law_due) f cdv A outer s H E).nox ((defBody s__law_due).drop 1) rd ∧ ∀ (w h : Int) (y : Option V) (H1 : Hp), (1 ≤ w ∧ w ≤ 12) → (1 ≤ h ∧ h ≤ 12) → Due1 H Q w h xs → Same H H1 → rd { nx := fun _ H' => Q .non H', rt := Q } [some (.int w), some (.int h), some (.ref l), y, none, none] H1 := by
      refine ⟨_, (pss_cons (ps_if (pt_cmpR op_gt (pe_callB (call_len_seqK (K := K)) rfl T.z_len rfl (pa_cons (pv 2) pa_nil)) pe_int (nomark _)) (pss_one (ps_ret (pe_tup (pa_cons pe_str (pa_cons (pe_callB (call_len_seqK (K := K)) rfl T.z_len rfl (pa_cons (pv 2) pa_nil)) pa_nil))))) pss_nil)
      (pss_cons (ps_for PassesOwn.never rfl (pi_range1 rfl T.z_range (pa_cons (pe_callB (call_len_seqK (K := K)) rfl T.z_len rfl (pa_cons (pv 2) pa_nil)) pa_nil)) (pg_name (i := 4) S.nd rfl (Or.inr rfl)) (pss_one (ps_if (pt_not (pt_val (pe_fn D__law_pane hr (pa_cons (pe_ix (ix_listK (K := K)) (pv 2) (pv 4) (fun _ _ => rfl)) (pa_cons (pv 0) (pa_cons (pv 1) pa_nil)))))) (pss_one (ps_ret (pe_tup (pa_cons pe_str (pa_cons (pv 4) pa_nil))))) pss_nil)))
      hA)), ?_⟩
      intro w h y H1 gw gh du s1
      refine ⟨_, rfl, l, _, rfl, .inl (s1.seq hl), _, _, rfl, rfl, _, rfl, ite3 (fun hb => ?_) fun hb => ?_⟩
      · have hb := of_decide_eq_true hb
        exact ⟨_, rfl, l, _, rfl, .inl (s1.seq hl), lenOk 2, fun t' ht' => du.many (by first | lia | omega) t' _ _ (s1.trans (Same.new ht')) upd_same rfl⟩
      have hb := of_decide_eq_false hb
      have few : xs.length ≤ 52 := by first | lia | omega
      refine ⟨_, rfl, l, _, rfl, .inl (s1.seq hl), (xs.length : Int), rfl, by first | lia | omega, by first | lia | omega, for_range (lo := 0) (n := (xs.length : Int).toNat) (fun i σ H' => (∃ z, σ = [some (.int w), some (.int h), some (.ref l), y, z, none]) ∧ Same H H' ∧ ∀ (j : Nat) u, j < i → xs[j]? = some u → okV H w h u = true) ⟨⟨none, rfl⟩, s1, fun j u z => absurd z (by first | lia | omega)⟩ ?_ ?_⟩
      · rintro i σ H2 hi ⟨⟨z, rfl⟩, s2, hok⟩
        have hi : i < xs.length := by first | lia | omega
        have hx : xs[i]? = some xs[i] := List.getElem?_eq_getElem hi
        have hz : (0 : Int) + (i : Int) = (i : Int) := Int.zero_add _
        rw [hz]
        have gx := hg xs[i] (List.getElem_mem hi)
        refine ⟨_, rfl, _, rfl, l, _, _, _, rfl, rfl, s2.seq hl, atI_nat hx, _, rfl, _, rfl, _, w, h, rfl, gx.same s2, fun H3 s3 => ⟨_, rfl, ite3 (fun hb => ?_) fun hb => ?_⟩⟩
        · rw [okV_same s2 gx] at hb
          have hb : okV H w h xs[i] = false := by simpa using hb
          exact ⟨_, rfl, lenOk 2, fun t' ht' => du.pane few i _ hx hok hb t' _ _ ((s2.trans s3).trans (Same.new ht')) upd_same rfl⟩
        · rw [okV_same s2 gx] at hb
          refine ⟨⟨_, rfl⟩, s2.trans s3, fun j u hj hu => ?_⟩
          rcases Nat.lt_or_ge j i with g | g
          · exact hok j u g hu
          · obtain rfl : j = i := by first | lia | omega
            rw [hx] at hu; cases hu
            simpa using hb
      · rintro σ H2 ⟨⟨z, rfl⟩, s2, hok⟩
        have hall : ∀ v ∈ xs, okV H w h v = true := fun v hv => by
          obtain ⟨j, hj, rfl⟩ := List.getElem_of_mem hv
          exact hok j _ (by first | lia | omega) (List.getElem?_eq_getElem hj)
        exact kA w h y z H2 gw gh du few hall s2
    refine ⟨_, (pss_cons (ps_for PassesOwn.never rfl (pi_listK (K := K) (pe_lst (pa_cons (pv 0) (pa_cons (pv 1) pa_nil)))) (pg_name (i := 3) S.nd rfl (Or.inl rfl)) (pss_one (ps_if (PW.pt (pw_or (pt_not (pt_val (pe_fn D__law_whole hr (pa_cons (pv 3) pa_nil)))) (pw_or (pt_cmpR op_lt (pv 3) pe_int (nomark _)) (pw_or1 (pt_cmpR op_gt (pv 3) pe_int (nomark _)))))) (pss_one (ps_ret (pe_tup (pa_cons pe_str (pa_cons (pv 3) pa_nil))))) pss_nil)))
      hB), ?_⟩
    refine ⟨_, rfl, _, rfl, lenOk 2, fun t ht => ⟨t, rfl, ⟨_, SqL.of upd_same⟩, for_list (K := K) (a := t) (xs := [wv, hv]) (fun i σ H' => (∃ y, σ = [some wv, some hv, some (.ref l), y, none, none]) ∧ H' = upd H t (.lst [wv, hv]) ∧ (0 < i → sideV wv = true) ∧ (1 < i → sideV hv = true)) ⟨⟨none, rfl⟩, rfl, (fun z => absurd z (by decide)), fun z => absurd z (by decide)⟩ (fun i σ H' _ hp => by rw [hp.2.1]; exact SqL.of upd_same) ?_ ?_⟩⟩
    · rintro i x σ H' hx ⟨⟨y, rfl⟩, rfl, h0, h1⟩
      have s1 : Same H (upd H t (.lst [wv, hv])) := Same.new ht
      have one : ∀ v, (v = wv ∨ v = hv) → Ty H v → (sideV v = false → Tld H Q "side" fun u _ => u = v) → (sideV v = true → Prop) → True := fun _ _ _ _ _ => trivial
      have key : Ty H x ∧ (sideV x = false → Tld H Q "side" fun u _ => u = x) ∧ (sideV x = true → (0 < i + 1 → sideV wv = true) ∧ (1 < i + 1 → sideV hv = true)) := by
        match i, hx with
        | 0, hx => cases hx; exact ⟨tw, r1, fun e => ⟨fun _ => e, fun z => absurd z (by first | lia | omega)⟩⟩
        | 1, hx => cases hx; exact ⟨th, r2 (h0 (by first | lia | omega)), fun e => ⟨fun _ => h0 (by first | lia | omega), fun _ => e⟩⟩
        | i + 2, hx => cases hx
      obtain ⟨tx, bad, good⟩ := key
      have tell : sideV x = false → ∀ t' : Addr, (upd H t (.lst [wv, hv])) t' = none → Q (.ref t') (upd (upd H t (.lst [wv, hv])) t' (.tup [.str "side", x])) := fun e t' ht' => bad e t' x _ (s1.trans (Same.new ht')) upd_same rfl
      refine ⟨_, rfl, x, rfl, tx.same s1, _, rfl, ite3 (fun hb => ?_) fun hb => ?_⟩
      · have hb : wholeV x = false := by simpa using hb
        exact ⟨_, rfl, lenOk 2, fun t' ht' => tell (sideV_no hb) t' ht'⟩
      · have hb : wholeV x = true := by simpa using hb
        obtain ⟨n, rfl⟩ := whole_int hb
        refine ⟨_, rfl, _, _, rfl, rfl, _, rfl, ite3 (fun h2 => ?_) fun h2 => ?_⟩
        · have h2 := of_decide_eq_true h2
          exact ⟨_, rfl, lenOk 2, fun t' ht' => tell (by show (decide (1 ≤ n) && decide (n ≤ 12)) = false; rw [decide_eq_false (by first | lia | omega)]; rfl) t' ht'⟩
        · have h2 := of_decide_eq_false h2
          refine ⟨_, rfl, _, _, rfl, rfl, _, rfl, ite3 (fun h3 => ?_) fun h3 => ?_⟩
          · have h3 := of_decide_eq_true h3
            exact ⟨_, rfl, lenOk 2, fun t' ht' => tell (by show (decide (1 ≤ n) && decide (n ≤ 12)) = false; rw [decide_eq_false (show ¬ n ≤ 12 by first | lia | omega), Bool.and_false]) t' ht'⟩
          · have h3 := of_decide_eq_false h3
            obtain ⟨k1, k2⟩ := good (by show (decide (1 ≤ n) && decide (n ≤ 12)) = true; rw [decide_eq_true (show 1 ≤ n by first | lia | omega), decide_eq_true (show n ≤ 12 by first | lia | omega)]; rfl)
            exact ⟨⟨_, rfl⟩, rfl, k1, k2⟩
    · rintro σ H' ⟨⟨y, rfl⟩, rfl, h0, h1⟩
      obtain ⟨w, rfl, gw⟩ := side_int (h0 (by show 0 < 2; decide))
      obtain ⟨h, rfl, gh⟩ := side_int (h1 (by show 1 < 2; decide))
      exact kB w h y _ gw gh (rest w h rfl rfl gw gh) (Same.new ht)
structure RK (mg : Str → Option Value) (K : PySem.W.Frag) (cS cM cP cO cB : Addr) : Prop where
  g_NoSide : mg "NoSide" = some (.ref cS)
  g_TooMany : mg "TooMany" = some (.ref cM)
  g_NoPane : mg "NoPane" = some (.ref cP)
  g_Overlap : mg "Overlap" = some (.ref cO)
  g_Bare : mg "Bare" = some (.ref cB)
  cl_NoSide : XCls K cS
  n_NoSide : NoAttr K cS "side"
  kv_NoSide : PySem.W.kitOne K (.ref cS) (.type "ValueError") = some true
  cl_TooMany : XCls K cM
  n_TooMany : NoAttr K cM "many"
  kv_TooMany : PySem.W.kitOne K (.ref cM) (.type "ValueError") = some true
  cl_NoPane : XCls K cP
  n_NoPane : NoAttr K cP "place"
  kv_NoPane : PySem.W.kitOne K (.ref cP) (.type "ValueError") = some true
  cl_Overlap : XCls K cO
  n_Overlap : NoAttr K cO "place"
  kv_Overlap : PySem.W.kitOne K (.ref cO) (.type "ValueError") = some true
  cl_Bare : XCls K cB
  n_Bare : NoAttr K cB "square"
  kv_Bare : PySem.W.kitOne K (.ref cB) (.type "ValueError") = some true
  kt_NoSide_NoSide : PySem.W.kitOne K (.ref cS) (.ref cS) = some true
  kt_NoSide_TooMany : PySem.W.kitOne K (.ref cS) (.ref cM) = some false
  kt_NoSide_NoPane : PySem.W.kitOne K (.ref cS) (.ref cP) = some false
  kt_NoSide_Overlap : PySem.W.kitOne K (.ref cS) (.ref cO) = some false
  kt_NoSide_Bare : PySem.W.kitOne K (.ref cS) (.ref cB) = some false
  kt_TooMany_NoSide : PySem.W.kitOne K (.ref cM) (.ref cS) = some false
  kt_TooMany_TooMany : PySem.W.kitOne K (.ref cM) (.ref cM) = some true
  kt_TooMany_NoPane : PySem.W.kitOne K (.ref cM) (.ref cP) = some false
  kt_TooMany_Overlap : PySem.W.kitOne K (.ref cM) (.ref cO) = some false
  kt_TooMany_Bare : PySem.W.kitOne K (.ref cM) (.ref cB) = some false
  kt_NoPane_NoSide : PySem.W.kitOne K (.ref cP) (.ref cS) = some false
  kt_NoPane_TooMany : PySem.W.kitOne K (.ref cP) (.ref cM) = some false
  kt_NoPane_NoPane : PySem.W.kitOne K (.ref cP) (.ref cP) = some true
  kt_NoPane_Overlap : PySem.W.kitOne K (.ref cP) (.ref cO) = some false
  kt_NoPane_Bare : PySem.W.kitOne K (.ref cP) (.ref cB) = some false
  kt_Overlap_NoSide : PySem.W.kitOne K (.ref cO) (.ref cS) = some false
  kt_Overlap_TooMany : PySem.W.kitOne K (.ref cO) (.ref cM) = some false
  kt_Overlap_NoPane : PySem.W.kitOne K (.ref cO) (.ref cP) = some false
  kt_Overlap_Overlap : PySem.W.kitOne K (.ref cO) (.ref cO) = some true
  kt_Overlap_Bare : PySem.W.kitOne K (.ref cO) (.ref cB) = some false
  kt_Bare_NoSide : PySem.W.kitOne K (.ref cB) (.ref cS) = some false
  kt_Bare_TooMany : PySem.W.kitOne K (.ref cB) (.ref cM) = some false
  kt_Bare_NoPane : PySem.W.kitOne K (.ref cB) (.ref cP) = some false
  kt_Bare_Overlap : PySem.W.kitOne K (.ref cB) (.ref cO) = some false
  kt_Bare_Bare : PySem.W.kitOne K (.ref cB) (.ref cB) = some true
inductive Isp_kind (K : PySem.W.Frag) (cS cM cP cO cB : Addr)  (vs : List V) (H : Hp) (Q : VK) (E : XK) : Prop
  | mk (x C dx : Addr) (fs : List (Str × V)) (f k : Str) (v : V) (h0 : vs = [.ref x]) (h1 : XAt H C dx x) (h2 : H dx = some (ExcD dx fs)) (h3 : fs.lookup f = some v) (h4 : ((C = cS ∧ f = "side" ∧ k = "side") ∨ (C = cM ∧ f = "many" ∧ k = "many") ∨ (C = cP ∧ f = "place" ∧ k = "pane") ∨ (C = cO ∧ f = "place" ∧ k = "overlap") ∨ (C = cB ∧ f = "square" ∧ k = "bare"))) (h5 : ∀ t, H t = none → Q (.ref t) (upd H t (.tup [.str k, v]))) : Isp_kind K cS cM cP cO cB vs H Q E
def sp_kind (K : PySem.W.Frag) (cS cM cP cO cB : Addr)  : Sp := fun vs H Q E => Isp_kind K cS cM cP cO cB vs H Q E
theorem S_law_kind : FnScope ["_law_e"] ["_law_e"] (defScope s__law_kind) := ⟨rfl, rfl, rfl, by decide +kernel, rfl, by decide +kernel, by decide +kernel⟩
theorem ok_law_kind {f : Addr} {fd : FuncData} (F : Fun K "_law_kind" "_law_kind" s__law_kind f fd) (T : Txt mg tk) (R : RK mg K cS cM cP cO cB) : FnOk P w K mg base CX0 1 f fd ["_law_e"] (sp_kind K cS cM cP cO cB) := by
  have S := S_law_kind
  refine F.ok S (fun vs H Q E h => ?_) (fun cdv A outer s H vs Q E hr h => ?_)
  · obtain ⟨x, C, dx, fs, f, k, v, rfl, _⟩ := h; rfl
  · obtain ⟨x, C, dx, fs, f, k, v, rfl, hx, hd, hl, hc, q⟩ := h
    have he : IsExc H x C := .inl ⟨dx, fs, hx, hd⟩
    refine ⟨_, (pss_cons (ps_if (pt_val (pe_callB (call_isinXK (K := K)) rfl T.z_isinstance rfl (pa_cons (pv 0) (pa_cons (pe_glob (v := .ref (cS)) rfl R.g_NoSide rfl) pa_nil)))) (pss_one (ps_ret (pe_tup (pa_cons pe_str (pa_cons (pe_xfldK (K := K) (pv 0) rfl) pa_nil))))) pss_nil)
      (pss_cons (ps_if (pt_val (pe_callB (call_isinXK (K := K)) rfl T.z_isinstance rfl (pa_cons (pv 0) (pa_cons (pe_glob (v := .ref (cM)) rfl R.g_TooMany rfl) pa_nil)))) (pss_one (ps_ret (pe_tup (pa_cons pe_str (pa_cons (pe_xfldK (K := K) (pv 0) rfl) pa_nil))))) pss_nil)
      (pss_cons (ps_if (pt_val (pe_callB (call_isinXK (K := K)) rfl T.z_isinstance rfl (pa_cons (pv 0) (pa_cons (pe_glob (v := .ref (cP)) rfl R.g_NoPane rfl) pa_nil)))) (pss_one (ps_ret (pe_tup (pa_cons pe_str (pa_cons (pe_xfldK (K := K) (pv 0) rfl) pa_nil))))) pss_nil)
      (pss_cons (ps_if (pt_val (pe_callB (call_isinXK (K := K)) rfl T.z_isinstance rfl (pa_cons (pv 0) (pa_cons (pe_glob (v := .ref (cO)) rfl R.g_Overlap rfl) pa_nil)))) (pss_one (ps_ret (pe_tup (pa_cons pe_str (pa_cons (pe_xfldK (K := K) (pv 0) rfl) pa_nil))))) pss_nil)
      (pss_cons (ps_if (pt_val (pe_callB (call_isinXK (K := K)) rfl T.z_isinstance rfl (pa_cons (pv 0) (pa_cons (pe_glob (v := .ref (cB)) rfl R.g_Bare rfl) pa_nil)))) (pss_one (ps_ret (pe_tup (pa_cons pe_str (pa_cons (pe_xfldK (K := K) (pv 0) rfl) pa_nil))))) pss_nil)
      (pss_one (ps_ret pe_non))))))), ?_⟩
    rcases hc with ⟨e, rfl, rfl⟩ | ⟨e, rfl, rfl⟩ | ⟨e, rfl, rfl⟩ | ⟨e, rfl, rfl⟩ | ⟨e, rfl, rfl⟩ <;> rw [e] at hx he
    · refine ⟨_, rfl, x, cS, .ref cS, .ref cS, true, rfl, he, R.cl_NoSide, rfl, (fun _ z => z), R.kt_NoSide_NoSide, _, rfl, iteP rfl ?_⟩
      exact ⟨_, rfl, x, cS, dx, fs, v, rfl, hx, hd, R.cl_NoSide, R.n_NoSide, hl, lenOk 2, fun t ht => q t ht⟩
    · refine ⟨_, rfl, x, cM, .ref cS, .ref cS, false, rfl, he, R.cl_TooMany, rfl, (fun _ z => z), R.kt_TooMany_NoSide, _, rfl, iteN rfl ?_⟩
      refine ⟨_, rfl, x, cM, .ref cM, .ref cM, true, rfl, he, R.cl_TooMany, rfl, (fun _ z => z), R.kt_TooMany_TooMany, _, rfl, iteP rfl ?_⟩
      exact ⟨_, rfl, x, cM, dx, fs, v, rfl, hx, hd, R.cl_TooMany, R.n_TooMany, hl, lenOk 2, fun t ht => q t ht⟩
    · refine ⟨_, rfl, x, cP, .ref cS, .ref cS, false, rfl, he, R.cl_NoPane, rfl, (fun _ z => z), R.kt_NoPane_NoSide, _, rfl, iteN rfl ?_⟩
      refine ⟨_, rfl, x, cP, .ref cM, .ref cM, false, rfl, he, R.cl_NoPane, rfl, (fun _ z => z), R.kt_NoPane_TooMany, _, rfl, iteN rfl ?_⟩
      refine ⟨_, rfl, x, cP, .ref cP, .ref cP, true, rfl, he, R.cl_NoPane, rfl, (fun _ z => z), R.kt_NoPane_NoPane, _, rfl, iteP rfl ?_⟩
      exact ⟨_, rfl, x, cP, dx, fs, v, rfl, hx, hd, R.cl_NoPane, R.n_NoPane, hl, lenOk 2, fun t ht => q t ht⟩
    · refine ⟨_, rfl, x, cO, .ref cS, .ref cS, false, rfl, he, R.cl_Overlap, rfl, (fun _ z => z), R.kt_Overlap_NoSide, _, rfl, iteN rfl ?_⟩
      refine ⟨_, rfl, x, cO, .ref cM, .ref cM, false, rfl, he, R.cl_Overlap, rfl, (fun _ z => z), R.kt_Overlap_TooMany, _, rfl, iteN rfl ?_⟩
      refine ⟨_, rfl, x, cO, .ref cP, .ref cP, false, rfl, he, R.cl_Overlap, rfl, (fun _ z => z), R.kt_Overlap_NoPane, _, rfl, iteN rfl ?_⟩
      refine ⟨_, rfl, x, cO, .ref cO, .ref cO, true, rfl, he, R.cl_Overlap, rfl, (fun _ z => z), R.kt_Overlap_Overlap, _, rfl, iteP rfl ?_⟩
      exact ⟨_, rfl, x, cO, dx, fs, v, rfl, hx, hd, R.cl_Overlap, R.n_Overlap, hl, lenOk 2, fun t ht => q t ht⟩
    · refine ⟨_, rfl, x, cB, .ref cS, .ref cS, false, rfl, he, R.cl_Bare, rfl, (fun _ z => z), R.kt_Bare_NoSide, _, rfl, iteN rfl ?_⟩
      refine ⟨_, rfl, x, cB, .ref cM, .ref cM, false, rfl, he, R.cl_Bare, rfl, (fun _ z => z), R.kt_Bare_TooMany, _, rfl, iteN rfl ?_⟩
      refine ⟨_, rfl, x, cB, .ref cP, .ref cP, false, rfl, he, R.cl_Bare, rfl, (fun _ z => z), R.kt_Bare_NoPane, _, rfl, iteN rfl ?_⟩
      refine ⟨_, rfl, x, cB, .ref cO, .ref cO, false, rfl, he, R.cl_Bare, rfl, (fun _ z => z), R.kt_Bare_Overlap, _, rfl, iteN rfl ?_⟩
      refine ⟨_, rfl, x, cB, .ref cB, .ref cB, true, rfl, he, R.cl_Bare, rfl, (fun _ z => z), R.kt_Bare_Bare, _, rfl, iteP rfl ?_⟩
      exact ⟨_, rfl, x, cB, dx, fs, v, rfl, hx, hd, R.cl_Bare, R.n_Bare, hl, lenOk 2, fun t ht => q t ht⟩
inductive Isp_flags (cS cM cP cO cB : Addr)  (vs : List V) (H : Hp) (Q : VK) (E : XK) : Prop
  | mk (x C : Addr) (h0 : vs = [.ref x]) (h1 : IsExc H x C) (h2 : (C = cS ∨ C = cM ∨ C = cP ∨ C = cO ∨ C = cB)) (h3 : ∀ H', Same H H' → Q (.bl true) H') : Isp_flags cS cM cP cO cB vs H Q E
def sp_flags (cS cM cP cO cB : Addr)  : Sp := fun vs H Q E => Isp_flags cS cM cP cO cB vs H Q E
theorem S_law_flags : FnScope ["_law_e", "_law_flags_here"] ["_law_e"] (defScope s__law_flags) := ⟨rfl, rfl, rfl, by decide +kernel, rfl, by decide +kernel, by decide +kernel⟩
theorem ok_law_flags {f : Addr} {fd : FuncData} (F : Fun K "_law_flags" "_law_flags" s__law_flags f fd) (T : Txt mg tk) (R : RK mg K cS cM cP cO cB) : FnOk P w K mg base CX0 1 f fd ["_law_e"] (sp_flags cS cM cP cO cB) := by
  have S := S_law_flags
  refine F.ok S (fun vs H Q E h => ?_) (fun cdv A outer s H vs Q E hr h => ?_)
  · obtain ⟨x, C, rfl, _⟩ := h; rfl
  · obtain ⟨x, C, rfl, he, hc, q⟩ := h
    refine ⟨_, (pss_cons (ps_set (i := 1) S.nd rfl (Or.inl rfl) (pe_lst (pa_cons (pe_callB (call_isinXK (K := K)) rfl T.z_isinstance rfl (pa_cons (pv 0) (pa_cons (pe_glob (v := .ref (cS)) rfl R.g_NoSide rfl) pa_nil))) (pa_cons (pe_callB (call_isinXK (K := K)) rfl T.z_isinstance rfl (pa_cons (pv 0) (pa_cons (pe_glob (v := .ref (cM)) rfl R.g_TooMany rfl) pa_nil))) (pa_cons (pe_callB (call_isinXK (K := K)) rfl T.z_isinstance rfl (pa_cons (pv 0) (pa_cons (pe_glob (v := .ref (cP)) rfl R.g_NoPane rfl) pa_nil))) (pa_cons (pe_callB (call_isinXK (K := K)) rfl T.z_isinstance rfl (pa_cons (pv 0) (pa_cons (pe_glob (v := .ref (cO)) rfl R.g_Overlap rfl) pa_nil))) pa_nil))))))
      (pss_one (ps_ret (pe_and (pe_cmpR op_eq (pe_callB (call_len_seqK (K := K)) rfl T.z_len rfl (pa_cons (pe_compF rfl (pi_listK (K := K) (pe_op op_cat (pv 1) (pe_lst (pa_cons (pe_callB (call_isinXK (K := K)) rfl T.z_isinstance rfl (pa_cons (pv 0) (pa_cons (pe_glob (v := .ref (cB)) rfl R.g_Bare rfl) pa_nil))) pa_nil)))) (fun _ _ _ _ _ => (pg_name (i := 0) (show List.Nodup (["_law_flag"] : List Str) from by decide +kernel) rfl (Or.inl rfl))) (fun _ _ _ _ _ => (pt_val (pv 0))) (fun _ _ _ _ _ => (pv 0)) (N := ["_law_flag"]) (fr := [none])) pa_nil)) pe_int (nomark _)) (pe_one (pe_callB (call_isinXK (K := K)) rfl T.z_isinstance rfl (pa_cons (pv 0) (pa_cons (pe_bltn (v := .ty "ValueError") rfl T.z_ValueError rfl rfl) pa_nil)))))))), ?_⟩
    obtain ⟨b0, b1, b2, b3, b4, xc, k0, k1, k2, k3, k4, kv, one⟩ : ∃ b0 b1 b2 b3 b4, XCls K C ∧ PySem.W.kitOne K (.ref C) (.ref cS) = some b0 ∧ PySem.W.kitOne K (.ref C) (.ref cM) = some b1 ∧ PySem.W.kitOne K (.ref C) (.ref cP) = some b2 ∧ PySem.W.kitOne K (.ref C) (.ref cO) = some b3 ∧ PySem.W.kitOne K (.ref C) (.ref cB) = some b4 ∧ PySem.W.kitOne K (.ref C) (.type "ValueError") = some true ∧ ([b0, b1, b2, b3, b4].filter id).length = 1 := by
      rcases hc with e | e | e | e | e <;> rw [e]
      · exact ⟨_, _, _, _, _, R.cl_NoSide, R.kt_NoSide_NoSide, R.kt_NoSide_TooMany, R.kt_NoSide_NoPane, R.kt_NoSide_Overlap, R.kt_NoSide_Bare, R.kv_NoSide, rfl⟩
      · exact ⟨_, _, _, _, _, R.cl_TooMany, R.kt_TooMany_NoSide, R.kt_TooMany_TooMany, R.kt_TooMany_NoPane, R.kt_TooMany_Overlap, R.kt_TooMany_Bare, R.kv_TooMany, rfl⟩
      · exact ⟨_, _, _, _, _, R.cl_NoPane, R.kt_NoPane_NoSide, R.kt_NoPane_TooMany, R.kt_NoPane_NoPane, R.kt_NoPane_Overlap, R.kt_NoPane_Bare, R.kv_NoPane, rfl⟩
      · exact ⟨_, _, _, _, _, R.cl_Overlap, R.kt_Overlap_NoSide, R.kt_Overlap_TooMany, R.kt_Overlap_NoPane, R.kt_Overlap_Overlap, R.kt_Overlap_Bare, R.kv_Overlap, rfl⟩
      · exact ⟨_, _, _, _, _, R.cl_Bare, R.kt_Bare_NoSide, R.kt_Bare_TooMany, R.kt_Bare_NoPane, R.kt_Bare_Overlap, R.kt_Bare_Bare, R.kv_Bare, rfl⟩
    refine ⟨_, rfl, x, C, .ref cS, .ref cS, b0, rfl, he, xc, rfl, (fun _ z => z), k0, _, rfl, x, C, .ref cM, .ref cM, b1, rfl, he, xc, rfl, (fun _ z => z), k1, _, rfl, x, C, .ref cP, .ref cP, b2, rfl, he, xc, rfl, (fun _ z => z), k2, _, rfl, x, C, .ref cO, .ref cO, b3, rfl, he, xc, rfl, (fun _ z => z), k3, lenOk 4, fun l hl => ?_⟩
    have s1 : Same H (upd H l (.lst [.bl b0, .bl b1, .bl b2, .bl b3])) := Same.new hl
    have el : (upd H l (.lst [.bl b0, .bl b1, .bl b2, .bl b3])) l = some (.lst [.bl b0, .bl b1, .bl b2, .bl b3]) := upd_same
    generalize upd H l (.lst [.bl b0, .bl b1, .bl b2, .bl b3]) = H1 at s1 el ⊢
    refine ⟨_, rfl, _, rfl, x, C, .ref cB, .ref cB, b4, rfl, (he.same s1), xc, rfl, (fun _ z => z), k4, lenOk 1, fun m hm => ⟨l, m, [.bl b0, .bl b1, .bl b2, .bl b3], [.bl b4], rfl, rfl, Same.new hm _ _ el, upd_same, by show _ ≤ _; exact lenOk (xs := [.bl b0, .bl b1, .bl b2, .bl b3, .bl b4]) 5, fun c hc => ?_⟩⟩
    have s2 : Same H (upd (upd H1 m (.lst [.bl b4])) c (.lst ([.bl b0, .bl b1, .bl b2, .bl b3] ++ [.bl b4]))) := s1.trans ((Same.new hm).trans (Same.new hc))
    have ec : (upd (upd H1 m (.lst [.bl b4])) c (.lst ([.bl b0, .bl b1, .bl b2, .bl b3] ++ [.bl b4]))) c = some (.lst ([b0, b1, b2, b3, b4].map V.bl)) := upd_same
    generalize upd (upd H1 m (.lst [.bl b4])) c (.lst ([.bl b0, .bl b1, .bl b2, .bl b3] ++ [.bl b4])) = H2 at s2 ec ⊢
    obtain ⟨bs, ebs⟩ : ∃ bs, bs = [b0, b1, b2, b3, b4] := ⟨_, rfl⟩
    rw [← ebs] at ec one
    have lbs : bs.length = 5 := by rw [ebs]; rfl
    refine ⟨c, rfl, ⟨_, SqL.of ec⟩, fun acc hacc => comp_listF (K := K) (a := c) (ys := bs.map V.bl) (fun i zs σ H' => (∃ y, σ = [y]) ∧ Same H2 H' ∧ zs = ((bs.take i).filter id).map V.bl) ⟨⟨none, rfl⟩, Same.new hacc, rfl⟩ (fun i zs σ H' _ _ hp => SqL.of (hp.2.1 _ _ ec)) ?_ ?_⟩
    · rintro i x zs σ H' hx hi hl' hacc' ⟨⟨y, rfl⟩, hs, rfl⟩
      rw [List.length_map] at hi
      have hb : bs[i]? = some bs[i] := List.getElem?_eq_getElem hi
      rw [List.getElem?_map, hb] at hx
      generalize bs[i] = b at hb hx
      cases hx
      have sz : (bs.map V.bl).length ≤ sizeLine := Nat.le_of_lt (small1000 (by rw [List.length_map]; first | lia | omega))
      refine ⟨_, rfl, b, rfl, ?_⟩
      cases b with
      | true =>
        refine ⟨_, rfl, fNx.mk sz (by rw [List.length_map]; exact hi) hl' hacc' ⟨⟨_, rfl⟩, fun d o e => by rw [upd_ne (ne_of_none e hacc)]; exact hs d o e, ?_⟩⟩
        rw [List.take_succ, hb]
        show _ = ((bs.take i ++ [true]).filter id).map V.bl
        rw [List.filter_append, List.map_append]; rfl
      | false =>
        refine fSk.mk (by rw [List.length_map]; exact hi) hl' hacc' ⟨⟨_, rfl⟩, hs, ?_⟩
        rw [List.take_succ, hb]
        show _ = ((bs.take i ++ [false]).filter id).map V.bl
        rw [List.filter_append]
        show _ = ((bs.take i).filter id ++ []).map V.bl
        rw [List.append_nil]
    · rintro zs σ H' hl' hacc' ⟨_, hs, rfl⟩
      rw [List.length_map, List.take_length] at hacc'
      refine ⟨acc, _, rfl, .inl (SqL.of hacc'), rfl, _, rfl, iteP ?_ ?_⟩
      · rw [List.length_map, one]; exact decide_eq_true rfl
      · refine ⟨_, rfl, x, C, .ty "ValueError", .type "ValueError", true, rfl, he.same (s2.trans hs), xc, rfl, (fun _ z => z), kv, ?_⟩
        exact q _ (s2.trans hs)
inductive Isp_same (K : PySem.W.Frag)  (vs : List V) (H : Hp) (Q : VK) (E : XK) : Prop
  | mk (a b : Addr) (k : Str) (v v' : V) (d : D) (T : String) (h0 : vs = [.ref a, .ref b]) (h1 : H a = some (.tup [.str k, v])) (h2 : H b = some (.tup [.str k, v'])) (h3 : DIs K H d v) (h4 : DIs K H d v') (h5 : dep d ≤ 10) (h6 : tyS H v = some T) (h7 : tyS H v' = some T) (h8 : Q (.bl true) H) : Isp_same K vs H Q E
def sp_same (K : PySem.W.Frag)  : Sp := fun vs H Q E => Isp_same K vs H Q E
theorem S_law_same : FnScope ["_law_one", "_law_other"] ["_law_one", "_law_other"] (defScope s__law_same) := ⟨rfl, rfl, rfl, by decide +kernel, rfl, by decide +kernel, by decide +kernel⟩
theorem tellD {K : PySem.W.Frag} {H : Hp} {a : Addr} {k : Str} {v : V} {d : D} (h : H a = some (.tup [.str k, v])) (hd : DIs K H d v) : DIs K H (.tup (.cons (.at (.str k)) (.cons d .nil))) (.ref a) := by
  rw [DIs]
  refine ⟨a, _, rfl, SqT.of h, ?_⟩
  rw [DIss]
  refine ⟨_, _, rfl, by rw [DIs]; exact ⟨rfl, rfl⟩, ?_⟩
  rw [DIss]
  exact ⟨_, _, rfl, hd, by rw [DIss]⟩
theorem ok_law_same {f : Addr} {fd : FuncData} (F : Fun K "_law_same" "_law_same" s__law_same f fd) (T : Txt mg tk) : FnOk P w K mg base CX0 1 f fd ["_law_one", "_law_other"] (sp_same K) := by
  have S := S_law_same
  refine F.ok S (fun vs H Q E h => ?_) (fun cdv A outer s H vs Q E hr h => ?_)
  · obtain ⟨a, b, k, v, v', d, T0, rfl, _⟩ := h; rfl
  · obtain ⟨a, b, k, v, v', d, T0, rfl, ha, hb, h1, h2, hd, t1, t2, q⟩ := h
    refine ⟨_, (pss_one (ps_ret (pe_and (pe_cmpR (op_eqDK (K := K) hr) (pv 0) (pv 1) (nomark _)) (pe_one (pe_cmpR op_eq (pe_callB call_isin rfl T.z_isinstance rfl (pa_cons (pe_ix (ix_tupK (K := K)) (pv 0) pe_int (fun _ _ => rfl)) (pa_cons (pe_bltn (v := .ty "bool") rfl T.z_bool rfl rfl) pa_nil))) (pe_callB call_isin rfl T.z_isinstance rfl (pa_cons (pe_ix (ix_tupK (K := K)) (pv 1) pe_int (fun _ _ => rfl)) (pa_cons (pe_bltn (v := .ty "bool") rfl T.z_bool rfl rfl) pa_nil))) (nomark _)))))), ?_⟩
    have e1 := tellD ha h1
    refine ⟨_, rfl, _, rfl, _, _, e1, tellD hb h2, ⟨_, rfl⟩, ⟨_, rfl⟩, by rw [dep, deps, deps, deps, dep]; first | lia | omega, _, rfl, iteP (by rw [if_neg Bool.false_ne_true]; exact deq_refl _ e1) ?_⟩
    refine ⟨_, rfl, a, _, 1, v, rfl, rfl, SqT.of ha, rfl, v, T0, "bool", rfl, t1, .inr (.inl rfl), ?_⟩
    refine ⟨_, rfl, b, _, 1, v', rfl, rfl, SqT.of hb, rfl, v', T0, "bool", rfl, t2, .inr (.inl rfl), rfl, ?_⟩
    rw [decide_eq_true rfl]
    exact q
def Thg (H : Hp) (l : Addr) (v : V) : Prop := (v = .non ∨ ∃ i, v = .int i) ∨ (∃ a xs, v = .ref a ∧ H a = some (.tup xs) ∧ xs.length ≤ 4 ∧ ∀ x ∈ xs, flatV x = true) ∨ ∃ a, v = .ref a ∧ a ≠ l ∧ H a = some (.lst (four 0 0 1 1))
theorem flat_ty {H : Hp} {v : V} (h : flatV v = true) : Ty H v := by cases v <;> first | exact ⟨_, rfl⟩ | cases h
theorem Thg.good {H : Hp} {l : Addr} {v : V} (h : Thg H l v) : Good H v := by
  rcases h with (rfl | ⟨i, rfl⟩) | ⟨a, xs, rfl, h1, h2, h3⟩ | ⟨a, rfl, _, h1⟩
  · exact .inr ⟨"NoneType", rfl, by decide⟩
  · exact .inr ⟨"int", rfl, by decide⟩
  · exact .inl ⟨a, xs, rfl, h1, by first | lia | omega, fun x hx => flat_ty (h3 x hx)⟩
  · exact .inr ⟨"list", ty_lst h1, by decide⟩
theorem Thg.keep {H H' : Hp} {l l' p : Addr} {z : Int} {v : V} (h : Thg H l v) (hp : H p = some (.lst [.int z])) (k : ∀ b o, b ≠ p → b ≠ l → H b = some o → H' b = some o) (n : ∀ a, H a = some (.lst (four 0 0 1 1)) → a ≠ l → a ≠ l') (hl : ∃ ys, H l = some (.lst ys)) : Thg H' l' v := by
  obtain ⟨ys, hl⟩ := hl
  rcases h with h | ⟨a, xs, rfl, h1, h2, h3⟩ | ⟨a, rfl, h0, h1⟩
  · exact .inl h
  · exact .inr (.inl ⟨a, xs, rfl, k a _ (ne_of h1 hp (by intro q; cases q)) (ne_of h1 hl (by intro q; cases q)) h1, h2, h3⟩)
  · refine .inr (.inr ⟨a, rfl, n a h1 h0, k a _ (fun q => ?_) h0 h1⟩)
    rw [q, hp] at h1; cases h1
def flatsD : List V → Ds
  | [] => .nil
  | v :: r => .cons (.at v) (flatsD r)
theorem flatsD_is {K : PySem.W.Frag} {H : Hp} : ∀ {vs : List V}, (∀ v ∈ vs, flatV v = true) → DIss K H (flatsD vs) vs
  | [], _ => by rw [flatsD, DIss]
  | v :: r, h => by
    rw [flatsD, DIss]
    exact ⟨v, r, rfl, by rw [DIs]; exact ⟨rfl, h v List.mem_cons_self⟩, flatsD_is fun u hu => h u (List.mem_cons_of_mem _ hu)⟩
theorem flatsD_dep : ∀ vs : List V, deps (flatsD vs) = 0
  | [] => by rw [flatsD, deps]
  | v :: r => by rw [flatsD, deps, dep, flatsD_dep r]; rfl
theorem Thg.dat {K : PySem.W.Frag} {H : Hp} {l : Addr} {v : V} (h : Thg H l v) : ∃ d, DIs K H d v ∧ dep d ≤ 1 := by
  rcases h with (rfl | ⟨i, rfl⟩) | ⟨a, xs, rfl, h1, h2, h3⟩ | ⟨a, rfl, _, h1⟩
  · exact ⟨.at .non, by rw [DIs]; exact ⟨rfl, rfl⟩, by rw [dep]; first | lia | omega⟩
  · exact ⟨.at (.int i), by rw [DIs]; exact ⟨rfl, rfl⟩, by rw [dep]; first | lia | omega⟩
  · exact ⟨.tup (flatsD xs), by rw [DIs]; exact ⟨a, xs, rfl, SqT.of h1, flatsD_is h3⟩, by rw [dep, flatsD_dep]; first | lia | omega⟩
  · exact ⟨.lst (flatsD (four 0 0 1 1)), by rw [DIs]; exact ⟨a, _, rfl, SqL.of h1, flatsD_is (by intro v hv; simp only [List.mem_cons, List.not_mem_nil, or_false] at hv; rcases hv with rfl | rfl | rfl | rfl <;> rfl)⟩, by rw [dep, flatsD_dep]; first | lia | omega⟩
theorem thgs_dat {K : PySem.W.Frag} {H : Hp} {l : Addr} : ∀ {ys : List V}, (∀ v ∈ ys, Thg H l v) → ∃ ds, DIss K H ds ys ∧ deps ds ≤ 1 ∧ deqs ds .nil = decide (ys = [])
  | [], _ => ⟨.nil, by rw [DIss], by rw [deps]; first | lia | omega, by rw [deqs, decide_eq_true rfl]⟩
  | v :: r, h => by
    obtain ⟨ds, h1, h2, _⟩ := thgs_dat (K := K) (ys := r) fun u hu => h u (List.mem_cons_of_mem _ hu)
    obtain ⟨d, h3, h4⟩ := (h v List.mem_cons_self).dat (K := K)
    refine ⟨.cons d ds, by rw [DIss]; exact ⟨v, r, rfl, h3, h1⟩, by rw [deps]; first | lia | omega, ?_⟩
    rw [decide_eq_false (fun z => by cases z), deqs]
    all_goals (intros; contradiction)
inductive Isp_spoiled (K : PySem.W.Frag)  (vs : List V) (H : Hp) (Q : VK) (E : XK) : Prop
  | mk (l p : Addr) (w h z : Int) (xs : List V) (h0 : vs = [.ref l, .ref p, .int w, .int h]) (h1 : SqL K H l xs) (h2 : xs.length ≤ 144) (h3 : (∀ v ∈ xs, ∃ a ys, v = .ref a ∧ H a = some (.tup ys) ∧ ys.length ≤ 4 ∧ ∀ x ∈ ys, flatV x = true)) (h4 : H p = some (.lst [.int z])) (h5 : ∀ l' ys H', SameX p H H' → H l' = none → H' l' = some (.lst ys) → ys.length ≤ 144 → (∀ v ∈ ys, Thg H' l' v) → (∃ z', H' p = some (.lst [.int z'])) → Q (.ref l') H') : Isp_spoiled K vs H Q E
def sp_spoiled (K : PySem.W.Frag)  : Sp := fun vs H Q E => Isp_spoiled K vs H Q E
abbrev N_spoiled : List Str := ["_law_panes", "_law_purse_here", "_law_width", "_law_height", "_law_found", "_law_k", "_law_at", "_law_one", "_law_way", "_law_odd"]
theorem S_law_spoiled : FnScope N_spoiled ["_law_panes", "_law_purse_here", "_law_width", "_law_height"] (defScope s__law_spoiled) := ⟨rfl, rfl, rfl, by decide +kernel, rfl, by decide +kernel, by decide +kernel⟩
theorem stepS {H : Hp} {q q' : Addr} {o : HO} (h : H q = none) (h' : (upd H q o) q' = none) : Same H (upd H q o) ∧ (upd H q o) q = some o := ⟨Same.new h, upd_same⟩
/-- the list that is spoiled: at lf, its things ys -/
structure Spd (H0 Hc : Hp) (p lf : Addr) (ys : List V) : Prop where
  same : SameX p H0 Hc
  fresh : H0 lf = none
  ne : lf ≠ p
  lst : Hc lf = some (.lst ys)
  few : ys.length ≤ 144
  thg : ∀ v ∈ ys, Thg Hc lf v
  purse : ∃ z, Hc p = some (.lst [.int z])
theorem Spd.put {H0 Hc : Hp} {p lf : Addr} {ys ys' : List V} (S : Spd H0 Hc p lf ys) (hlen : ys'.length ≤ 144) (ht : ∀ v ∈ ys', Thg Hc lf v) : Spd H0 (upd Hc lf (.lst ys')) p lf ys' := by
  obtain ⟨z, hz⟩ := S.purse
  refine ⟨fun b o hb e => ?_, S.fresh, S.ne, upd_same, hlen, fun v hv => (ht v hv).keep hz (fun b o _ nb h => by rw [upd_ne nb]; exact h) (fun a _ n => n) ⟨_, S.lst⟩, z, by rw [upd_ne (Ne.symm S.ne)]; exact hz⟩
  rw [upd_ne (ne_of_none e S.fresh)]; exact S.same b o hb e
theorem Spd.to {H0 Hc Hd : Hp} {p lf : Addr} {ys : List V} (S : Spd H0 Hc p lf ys) (s : Same Hc Hd) : Spd H0 Hd p lf ys := by
  obtain ⟨z, hz⟩ := S.purse
  exact ⟨S.same.trans s.x, S.fresh, S.ne, s _ _ S.lst, S.few, fun v hv => (S.thg v hv).keep hz (fun b o _ _ h => s b o h) (fun a _ n => n) ⟨_, S.lst⟩, z, s _ _ hz⟩
theorem Spd.take {H0 Hc : Hp} {p lf : Addr} {ys : List V} {z' : Int} (S : Spd H0 Hc p lf ys) : Spd H0 (upd Hc p (.lst [.int z'])) p lf ys := by
  obtain ⟨z, hz⟩ := S.purse
  exact ⟨S.same.trans SameX.upd, S.fresh, S.ne, by rw [upd_ne S.ne]; exact S.lst, S.few, fun v hv => (S.thg v hv).keep hz (fun b o nb _ h => by rw [upd_ne nb]; exact h) (fun a _ n => n) ⟨_, S.lst⟩, z', upd_same⟩
theorem Spd.other {H0 Hc : Hp} {p lf l' : Addr} {ys ys' : List V} (S : Spd H0 Hc p lf ys) (hl : Hc l' = none) (hlen : ys'.length ≤ 144) (hm : ∀ v ∈ ys', v ∈ ys) : Spd H0 (upd Hc l' (.lst ys')) p l' ys' := by
  obtain ⟨z, hz⟩ := S.purse
  have np : p ≠ l' := ne_of_none hz hl
  have fr : H0 l' = none := by
    cases e : H0 l' with
    | none => rfl
    | some o => exact absurd (S.same l' o (Ne.symm np) e) (by rw [hl]; intro z; cases z)
  exact ⟨S.same.trans (SameX.new hl), fr, Ne.symm np, upd_same, hlen, fun v hv => (S.thg v (hm v hv)).keep hz (fun b o _ _ h => by rw [upd_ne (ne_of_none h hl)]; exact h) (fun a h _ => ne_of_none h hl) ⟨_, S.lst⟩, z, by rw [upd_ne np]; exact hz⟩
theorem Thg.samey {H H' : Hp} {l : Addr} {v : V} (h : Thg H l v) (s : Same H H') : Thg H' l v := by
  rcases h with h | ⟨a, xs, e, h1, h2, h3⟩ | ⟨a, e, h0, h1⟩
  · exact .inl h
  · exact .inr (.inl ⟨a, xs, e, s _ _ h1, h2, h3⟩)
  · exact .inr (.inr ⟨a, e, h0, s _ _ h1⟩)
theorem mem_setP {ys : List V} {j : Nat} {v : V} {P : V → Prop} (h : ∀ u ∈ ys, P u) (hv : P v) : ∀ u ∈ ys.set j v, P u := fun u hu => by
  rcases List.mem_or_eq_of_mem_set hu with hu | rfl
  · exact h u hu
  · exact hv
abbrev shp (l p lf : Addr) (w h : Int) (x5 : Option V) (at_ : Int) (one : V) (way : Int) (x9 : Option V) : St := [some (.ref l), some (.ref p), some (.int w), some (.int h), some (.ref lf), x5, some (.int at_), some one, some (.int way), x9]
def bodyS : List Stmt := forBody (nth (defBody s__law_spoiled) 1)
def SkA (H : Hp) (l p : Addr) (w h i : Int) (t : TS) : Prop := ∀ (D : Ends) (lf : Addr) (x5 x9 : Option V) (at_ way : Int) (one : V) (Hc : Hp),
  (way ≠ i → D.nx (shp l p lf w h x5 at_ one way x9) Hc → t D (shp l p lf w h x5 at_ one way x9) Hc) ∧
  (way = i → ∀ ys, Spd H Hc p lf ys → 0 ≤ at_ → at_ < ys.length → one ∈ ys → (∀ lf' ys' x9' H', Spd H H' p lf' ys' → D.nx (shp l p lf' w h x5 at_ one way x9') H') → t D (shp l p lf w h x5 at_ one way x9) Hc)
theorem ixN_of {n : Nat} {i : Int} (h0 : 0 ≤ i) (h1 : i < n) : ixN n i = some i.toNat := by
  unfold ixN
  rw [if_pos h0, if_pos h1]
theorem flat4 {a b c d : V} (ha : flatV a = true) (hb : flatV b = true) (hc : flatV c = true) (hd : flatV d = true) : ∀ x ∈ [a, b, c, d], flatV x = true := by
  intro x hx
  simp only [List.mem_cons, List.not_mem_nil, or_false] at hx
  rcases hx with rfl | rfl | rfl | rfl <;> assumption
def assV : Stmt → Expr
  | .Assign _ v _ => v
  | _ => .Constant .none 0 ⟨0, 0, 0, 0⟩
def ifB : Stmt → List Stmt
  | .If _ b _ _ => b
  | _ => []
def mkIf (st : Stmt) (od : Expr) : Stmt := match st with
  | .If c (.Assign tg _ p :: r) o q => .If c (.Assign tg od p :: r) o q
  | s => s
def odd : Expr := assV (nth (ifB (nth bodyS 4)) 0)
def oddT : TE := tLst (tCons (tC .non) (tCons (tC (.int 7)) (tCons (tLst (tCons (tC (.int 0)) (tCons (tC (.int 0)) (tCons (tC (.int 1)) (tCons (tC (.int 1)) tNil))))) (tCons (tTup (tCons (tC (.int 0)) (tCons (tC (.int 0)) (tCons (tC (.int 1)) tNil)))) (tCons (tTup (tCons (tC (.bl true)) (tCons (tC (.int 0)) (tCons (tC (.int 2)) (tCons (tC (.int 1)) tNil))))) (tCons (tTup (tCons (tC (.int 0)) (tCons (tC (.int 0)) (tCons (tC (.int 0)) (tCons (tC (.int 1)) tNil))))) (tCons (tTup (tCons (tUn (rU fun i => .int (-i)) (tC (.int 1))) (tCons (tC (.int 0)) (tCons (tC (.int 1)) (tCons (tC (.int 1)) tNil))))) (tCons (tTup (tCons (tC (.int 0)) (tCons (tC (.int 0)) (tCons (tC (.int 1)) (tCons (tC (.str "1")) tNil))))) tNil))))))))
def listE : Expr → List Expr
  | .List es _ => es
  | _ => []
def listP : Expr → Pos
  | .List _ p => p
  | _ => ⟨0, 0, 0, 0⟩
theorem odd_if : mkIf (nth bodyS 4) (.List (listE odd) (listP odd)) = nth bodyS 4 := rfl
structure PEw (X : Cx) (e : Expr) (t : TE) : Prop where
  h : PE X e t
structure PAw (X : Cx) (es : List Expr) (t : TA) : Prop where
  h : PA X es t
section
variable {X : Cx} {e : Expr} {es r : List Expr} {te : TE} {t : TA} {k : Nat} {p : Pos} {c : Const}
theorem sTup {env : Env} : starEach (.Tuple es k p :: r) env = (false, eval (.Tuple es k p) env) :: starEach r env := rfl
theorem sLst {env : Env} : starEach (.List es p :: r) env = (false, eval (.List es p) env) :: starEach r env := rfl
theorem sCon {env : Env} : starEach (.Constant c k p :: r) env = (false, eval (.Constant c k p) env) :: starEach r env := rfl
theorem sUn {o : UnaryOp} {env : Env} : starEach (.UnaryOp o e p :: r) env = (false, eval (.UnaryOp o e p) env) :: starEach r env := rfl
theorem w_nil : PAw X [] tNil := ⟨pa_nil⟩
theorem w_con (a : PEw X (.Constant c k p) te) (b : PAw X r t) : PAw X (.Constant c k p :: r) (tCons te t) := ⟨pa_cons a.h b.h sCon⟩
theorem w_tup (a : PEw X (.Tuple es k p) te) (b : PAw X r t) : PAw X (.Tuple es k p :: r) (tCons te t) := ⟨pa_cons a.h b.h sTup⟩
theorem w_lst (a : PEw X (.List es p) te) (b : PAw X r t) : PAw X (.List es p :: r) (tCons te t) := ⟨pa_cons a.h b.h sLst⟩
theorem w_un {o : UnaryOp} (a : PEw X (.UnaryOp o e p) te) (b : PAw X r t) : PAw X (.UnaryOp o e p :: r) (tCons te t) := ⟨pa_cons a.h b.h sUn⟩
theorem w_int {i : Int} : PEw X (.Constant (.int i) k p) (tC (.int i)) := ⟨pe_int⟩
theorem w_bl {b : Bool} : PEw X (.Constant (.bool b) k p) (tC (.bl b)) := ⟨pe_bl⟩
theorem w_non : PEw X (.Constant .none k p) (tC .non) := ⟨pe_non⟩
theorem w_str {x : Str} : PEw X (.Constant (.str x) k p) (tC (.str x)) := ⟨pe_str⟩
theorem w_neg (a : PEw X e te) : PEw X (.UnaryOp .USub e p) (tUn (rU fun i => .int (-i)) te) := ⟨pe_un un_neg a.h⟩
theorem w_T {k : Nat} (a : PAw X es t) : PEw X (.Tuple es k p) (tTup t) := ⟨pe_tup a.h⟩
theorem w_L (a : PAw X es t) : PEw X (.List es p) (tLst t) := ⟨pe_lst a.h⟩
end
theorem odd_w {X : Cx} : PEw X (.List (listE odd) (listP odd)) oddT := (w_L (w_con w_non (w_con w_int (w_lst (w_L (w_con w_int (w_con w_int (w_con w_int (w_con w_int w_nil))))) (w_tup (w_T (w_con w_int (w_con w_int (w_con w_int w_nil)))) (w_tup (w_T (w_con w_bl (w_con w_int (w_con w_int (w_con w_int w_nil))))) (w_tup (w_T (w_con w_int (w_con w_int (w_con w_int (w_con w_int w_nil))))) (w_tup (w_T (w_un (w_neg w_int) (w_con w_int (w_con w_int (w_con w_int w_nil))))) (w_tup (w_T (w_con w_int (w_con w_int (w_con w_int (w_con w_str w_nil))))) w_nil)))))))))
theorem ok_sw0g {f : Addr} {cdv : Value} {A : Around} {outer : List Env} {s : Shared} {H : Hp} {E : XK} (S : FnScope N_spoiled ["_law_panes", "_law_purse_here", "_law_width", "_law_height"] (defScope s__law_spoiled)) (hr : Room 1 (A.deeper (PyProof.Rows.envOfC "_law_spoiled" (defScope s__law_spoiled) s.heap.objs.size f cdv))) (T : Txt mg tk) (D__law_take : DefOk P w K mg base 1 "_law_take" ["_law_purse_here", "_law_many"] sp_take) (l p : Addr) (ww hh : Int) (des : List Expr) (dp : Pos) (hod : PEw (cxOf CX0 P w K mg base N_spoiled "_law_spoiled" (defScope s__law_spoiled) f cdv A outer s H E).nox (.List des dp) oddT) :
    ∃ t, PS (cxOf CX0 P w K mg base N_spoiled "_law_spoiled" (defScope s__law_spoiled) f cdv A outer s H E).nox (mkIf (nth bodyS 4) (.List des dp)) t ∧ SkA H l p ww hh 0 t := by
  refine ⟨_, (ps_if (pt_cmpR op_eq (pv 8) pe_int (nomark _)) (pss_cons (ps_set (i := 9) S.nd rfl (Or.inl rfl) hod.h)
      (pss_one (ps_asg (pe_ix (ix_listK (K := K)) (pv 9) (pe_fn D__law_take hr (pa_cons (pv 1) (pa_cons pe_int pa_nil))) (fun _ _ => rfl)) (pg_sub (pv 4) (pv 6) set_list)))) pss_nil), ?_⟩
  intro D lf x5 x9 at_ way one Hc
  refine ⟨fun hw nx => ⟨_, rfl, rfl, _, rfl, iteN (decIf.mpr hw) nx⟩, ?_⟩
  rintro rfl ys S0 a0 a1 hone nx
  refine ⟨_, rfl, rfl, _, rfl, iteP (decI.mpr rfl) ?_⟩
  refine ⟨lenOk 4, fun o1 h1 => ⟨lenOk 3, fun o2 h2 => ⟨lenOk 4, fun o3 h3 => ⟨lenOk 4, fun o4 h4 => ⟨_, rfl, lenOk 4, fun o5 h5 => ⟨lenOk 4, fun o6 h6 => ⟨lenOk 8, fun od hd => ?_⟩⟩⟩⟩⟩⟩⟩
  obtain ⟨s1, e1⟩ := stepS h1 h2
  obtain ⟨s2, e2⟩ := stepS h2 h3
  obtain ⟨s3, e3⟩ := stepS h3 h4
  obtain ⟨s4, e4⟩ := stepS h4 h5
  obtain ⟨s5, e5⟩ := stepS h5 h6
  obtain ⟨s6, e6⟩ := stepS h6 hd
  have g1 := s6 _ _ (s5 _ _ (s4 _ _ (s3 _ _ (s2 _ _ e1))))
  have g2 := s6 _ _ (s5 _ _ (s4 _ _ (s3 _ _ e2)))
  have g3 := s6 _ _ (s5 _ _ (s4 _ _ e3))
  have g4 := s6 _ _ (s5 _ _ e4)
  have g5 := s6 _ _ e5
  have S6 := S0.to (((((s1.trans s2).trans s3).trans s4).trans s5).trans s6)
  have nl : o1 ≠ lf := Ne.symm (ne_of_none S0.lst h1)
  have s7 := Same.new (o := .lst [.non, .int 7, .ref o1, .ref o2, .ref o3, .ref o4, .ref o5, .ref o6]) hd
  have S7 := S6.to s7
  obtain ⟨z, hz⟩ := S7.purse
  have T7 : ∀ v ∈ [V.non, V.int 7, V.ref o1, V.ref o2, V.ref o3, V.ref o4, V.ref o5, V.ref o6], Thg _ lf v := fun v hv => by
    refine Thg.samey (l := lf) ?_ s7
    simp only [List.mem_cons, List.not_mem_nil, or_false] at hv
    rcases hv with rfl | rfl | rfl | rfl | rfl | rfl | rfl | rfl
    · exact .inl (.inl rfl)
    · exact .inl (.inr ⟨7, rfl⟩)
    · exact .inr (.inr ⟨o1, rfl, nl, g1⟩)
    · exact .inr (.inl ⟨o2, _, rfl, g2, by decide, by intro x hx; simp only [List.mem_cons, List.not_mem_nil, or_false] at hx; rcases hx with rfl | rfl | rfl <;> rfl⟩)
    · exact .inr (.inl ⟨o3, _, rfl, g3, by decide, flat4 rfl rfl rfl rfl⟩)
    · exact .inr (.inl ⟨o4, _, rfl, g4, by decide, flat4 rfl rfl rfl rfl⟩)
    · exact .inr (.inl ⟨o5, _, rfl, g5, by decide, flat4 rfl rfl rfl rfl⟩)
    · exact .inr (.inl ⟨o6, _, rfl, e6, by decide, flat4 rfl rfl rfl rfl⟩)
  have ed := s7
  refine ⟨_, rfl, _, rfl, p, z, 8, rfl, hz, by decide, by decide, fun r z' r0 r1 => ?_⟩
  obtain ⟨v, hv, hm⟩ := atI_in (L := [V.non, V.int 7, V.ref o1, V.ref o2, V.ref o3, V.ref o4, V.ref o5, V.ref o6]) (i := r) r0 r1
  have nod : od ≠ p := Ne.symm (ne_of_none (S6.purse.choose_spec) hd)
  have S8 := S7.take (z' := z')
  refine ⟨od, _, r, v, rfl, rfl, SqL.of (by rw [upd_ne nod]; exact upd_same), hv, _, rfl, _, rfl, lf, ys, at_, at_.toNat, rfl, rfl, S8.lst, ixN_of a0 a1, nx lf _ _ _ (S8.put (by rw [List.length_set]; exact S0.few) (mem_setP S8.thg ?_))⟩
  exact (T7 v hm).keep hz (fun b o nb _ h => by rw [upd_ne nb]; exact h) (fun a _ n => n) ⟨_, S7.lst⟩
theorem ok_sw0 {f : Addr} {cdv : Value} {A : Around} {outer : List Env} {s : Shared} {H : Hp} {E : XK} (S : FnScope N_spoiled ["_law_panes", "_law_purse_here", "_law_width", "_law_height"] (defScope s__law_spoiled)) (hr : Room 1 (A.deeper (PyProof.Rows.envOfC "_law_spoiled" (defScope s__law_spoiled) s.heap.objs.size f cdv))) (T : Txt mg tk) (D__law_take : DefOk P w K mg base 1 "_law_take" ["_law_purse_here", "_law_many"] sp_take) (l p : Addr) (ww hh : Int) :
    ∃ t, PS (cxOf CX0 P w K mg base N_spoiled "_law_spoiled" (defScope s__law_spoiled) f cdv A outer s H E).nox (nth bodyS 4) t ∧ SkA H l p ww hh 0 t := by
  have g := ok_sw0g (f := f) (cdv := cdv) (outer := outer) (s := s) (H := H) (E := E) S hr T D__law_take l p ww hh (listE odd) (listP odd) odd_w
  rw [odd_if] at g
  exact g
theorem ok_sw1 {f : Addr} {cdv : Value} {A : Around} {outer : List Env} {s : Shared} {H : Hp} {E : XK} (S : FnScope N_spoiled ["_law_panes", "_law_purse_here", "_law_width", "_law_height"] (defScope s__law_spoiled)) (hr : Room 1 (A.deeper (PyProof.Rows.envOfC "_law_spoiled" (defScope s__law_spoiled) s.heap.objs.size f cdv))) (T : Txt mg tk) (l p : Addr) (ww hh : Int) :
    ∃ t, PS (cxOf CX0 P w K mg base N_spoiled "_law_spoiled" (defScope s__law_spoiled) f cdv A outer s H E).nox (nth bodyS 5) t ∧ SkA H l p ww hh 1 t := by
  refine ⟨_, (ps_if (pt_cmpR op_eq (pv 8) pe_int (nomark _)) (pss_one (ps_asg (pe_tup (pa_cons (pv 3) (pa_cons pe_int (pa_cons (pe_op op_add (pv 3) pe_int) (pa_cons pe_int pa_nil))))) (pg_sub (pv 4) (pv 6) set_list))) pss_nil), ?_⟩
  intro D lf x5 x9 at_ way one Hc
  refine ⟨fun hw nx => ⟨_, rfl, rfl, _, rfl, iteN (decIf.mpr hw) nx⟩, ?_⟩
  rintro rfl ys S0 a0 a1 hone nx
  refine ⟨_, rfl, rfl, _, rfl, iteP (decI.mpr rfl) ?_⟩
  refine ⟨_, rfl, _, rfl, _, _, rfl, rfl, lenOk 4, fun t ht => ?_⟩
  have s1 : Same Hc (upd Hc t (.tup [.int hh, .int 0, .int (hh + 1), .int 1])) := Same.new ht
  have S1 := S0.to s1
  exact ⟨_, rfl, _, rfl, lf, ys, at_, at_.toNat, rfl, rfl, S1.lst, ixN_of a0 a1, nx lf _ _ _ (S1.put (by rw [List.length_set]; exact S0.few) (mem_setP S1.thg (.inr (.inl ⟨t, _, rfl, upd_same, Nat.le_refl 4, flat4 rfl rfl rfl rfl⟩))))⟩
theorem ok_sw2 {f : Addr} {cdv : Value} {A : Around} {outer : List Env} {s : Shared} {H : Hp} {E : XK} (S : FnScope N_spoiled ["_law_panes", "_law_purse_here", "_law_width", "_law_height"] (defScope s__law_spoiled)) (hr : Room 1 (A.deeper (PyProof.Rows.envOfC "_law_spoiled" (defScope s__law_spoiled) s.heap.objs.size f cdv))) (T : Txt mg tk) (D__law_take : DefOk P w K mg base 1 "_law_take" ["_law_purse_here", "_law_many"] sp_take) (l p : Addr) (ww hh : Int) :
    ∃ t, PS (cxOf CX0 P w K mg base N_spoiled "_law_spoiled" (defScope s__law_spoiled) f cdv A outer s H E).nox (nth bodyS 6) t ∧ SkA H l p ww hh 2 t := by
  refine ⟨_, (ps_if (pt_cmpR op_eq (pv 8) pe_int (nomark _)) (pss_one (ps_asg (pe_ix (ix_listK (K := K)) (pv 4) (pe_fn D__law_take hr (pa_cons (pv 1) (pa_cons (pe_callB (call_len_seqK (K := K)) rfl T.z_len rfl (pa_cons (pv 4) pa_nil)) pa_nil))) (fun _ _ => rfl)) (pg_sub (pv 4) (pv 6) set_list))) pss_nil), ?_⟩
  intro D lf x5 x9 at_ way one Hc
  refine ⟨fun hw nx => ⟨_, rfl, rfl, _, rfl, iteN (decIf.mpr hw) nx⟩, ?_⟩
  rintro rfl ys S0 a0 a1 hone nx
  refine ⟨_, rfl, rfl, _, rfl, iteP (decI.mpr rfl) ?_⟩
  obtain ⟨z, hz⟩ := S0.purse
  have few := S0.few
  refine ⟨_, rfl, _, rfl, _, rfl, lf, ys, rfl, .inl (SqL.of S0.lst), p, z, _, rfl, hz, by first | lia | omega, by first | lia | omega, fun r z' r0 r1 => ?_⟩
  obtain ⟨v, hv, hm⟩ := atI_in (L := ys) (i := r) r0 r1
  have S1 := S0.take (z' := z')
  exact ⟨lf, ys, r, v, rfl, rfl, SqL.of S1.lst, hv, _, rfl, _, rfl, lf, ys, at_, at_.toNat, rfl, rfl, S1.lst, ixN_of a0 a1, nx lf _ _ _ (S1.put (by rw [List.length_set]; exact S0.few) (mem_setP S1.thg (S1.thg v hm)))⟩
theorem four_vs {xs : List V} (h : xs.length = 4) : ∃ u0 u1 u2 u3, xs = [u0, u1, u2, u3] := by
  exact len4 h
theorem isB_no {T' : String} (hne : T' ≠ "tuple") : isB T' "tuple" = false := by
  unfold isB
  rw [decide_eq_false hne]
  simp
theorem Thg.tuple {H : Hp} {l : Addr} {v : V} (h : Thg H l v) : (∃ T', tyS H v = some T' ∧ T' ≠ "tuple") ∨ ∃ a xs, v = .ref a ∧ H a = some (.tup xs) ∧ xs.length ≤ 4 ∧ ∀ x ∈ xs, flatV x = true := by
  rcases h with (rfl | ⟨i, rfl⟩) | h | ⟨a, rfl, _, h1⟩
  · exact .inl ⟨"NoneType", rfl, by decide⟩
  · exact .inl ⟨"int", rfl, by decide⟩
  · exact .inr h
  · exact .inl ⟨"list", ty_lst h1, by decide⟩
theorem ok_sw3 {f : Addr} {cdv : Value} {A : Around} {outer : List Env} {s : Shared} {H : Hp} {E : XK} (S : FnScope N_spoiled ["_law_panes", "_law_purse_here", "_law_width", "_law_height"] (defScope s__law_spoiled)) (hr : Room 1 (A.deeper (PyProof.Rows.envOfC "_law_spoiled" (defScope s__law_spoiled) s.heap.objs.size f cdv))) (T : Txt mg tk) (D__law_whole : DefOk P w K mg base 1 "_law_whole" ["_law_thing"] sp_whole) (l p : Addr) (ww hh : Int) :
    ∃ t, PS (cxOf CX0 P w K mg base N_spoiled "_law_spoiled" (defScope s__law_spoiled) f cdv A outer s H E).nox (nth bodyS 7) t ∧ SkA H l p ww hh 3 t := by
  refine ⟨_, (ps_if (PW.pt (pw_and (pt_cmpR op_eq (pv 8) pe_int (nomark _)) (pw_and (pt_val (pe_callB call_isin rfl T.z_isinstance rfl (pa_cons (pv 7) (pa_cons (pe_bltn (v := .ty "tuple") rfl T.z_tuple rfl rfl) pa_nil)))) (pw_and (pt_cmpR op_eq (pe_callB (call_len_seqK (K := K)) rfl T.z_len rfl (pa_cons (pv 7) pa_nil)) pe_int (nomark _)) (pw_and1 (pt_val (pe_fn D__law_whole hr (pa_cons (pe_ix (ix_tupK (K := K)) (pv 7) pe_int (fun _ _ => rfl)) pa_nil)))))))) (pss_one (ps_asg (pe_op op_catT (pe_slice (sl_tupK (K := K)) (pv 7) po_none (po_some pe_int)) (pe_tup (pa_cons (pe_op op_add (pe_ix (ix_tupK (K := K)) (pv 7) pe_int (fun _ _ => rfl)) pe_int) (pa_cons (pe_ix (ix_tupK (K := K)) (pv 7) pe_int (fun _ _ => rfl)) pa_nil)))) (pg_sub (pv 4) (pv 6) set_list))) pss_nil), ?_⟩
  intro D lf x5 x9 at_ way one Hc
  refine ⟨fun hw nx => ⟨_, rfl, rfl, _, rfl, iteN (decIf.mpr hw) (iteF nx)⟩, ?_⟩
  rintro rfl ys S0 a0 a1 hone nx
  refine ⟨_, rfl, rfl, _, rfl, iteP (decI.mpr rfl) ?_⟩
  rcases (S0.thg one hone).tuple with ⟨T', hT, hne⟩ | ⟨a, xs, rfl, ha, hl, hf⟩
  · exact ⟨_, rfl, _, T', "tuple", rfl, hT, .inr (.inr (.inl rfl)), _, rfl, iteN (isB_no hne) (iteF (nx lf ys _ _ S0))⟩
  · refine ⟨_, rfl, _, "tuple", "tuple", rfl, ty_tup ha, .inr (.inr (.inl rfl)), _, rfl, iteP isB_tt ?_⟩
    refine ⟨_, rfl, a, xs, rfl, .inr (SqT.of ha), rfl, _, rfl, ite3 (fun h => ?_) (fun h => iteF (nx lf ys _ _ S0))⟩
    have h4 : xs.length = 4 := by have := decI.mp h; first | lia | omega
    obtain ⟨v0, v1, v2, v3, rfl⟩ := four_vs h4
    have f0 := hf v0 (by simp)
    have f1 := hf v1 (by simp)
    have f2 := hf v2 (by simp)
    have f3 := hf v3 (by simp)
    refine ⟨_, rfl, a, _, _, _, rfl, rfl, SqT.of ha, at2, v2, rfl, flat_ty f2, _, rfl, ite3 (fun h2 => ?_) (fun h2 => nx lf ys _ _ S0)⟩
    obtain ⟨i, rfl⟩ := whole_int h2
    refine ⟨_, rfl, _, rfl, a, _, rfl, SqT.of ha, (fun z => absurd (show HT.sIx 4 4 (some 2) = 4 from z.2) (by decide)), fun t1 h1 => ?_⟩
    have s1 : Same Hc (upd Hc t1 (.tup [v0, v1])) := Same.new h1
    refine ⟨_, rfl, a, _, _, _, rfl, rfl, SqT.of (s1 _ _ ha), at2, _, _, rfl, rfl, _, rfl, a, _, _, _, rfl, rfl, SqT.of (s1 _ _ ha), at3, lenOk 2, fun t2 h2 => ?_⟩
    have s2 : Same (upd Hc t1 (.tup [v0, v1])) (upd (upd Hc t1 (.tup [v0, v1])) t2 (.tup [.int (i + 1), v3])) := Same.new h2
    refine ⟨t1, t2, [v0, v1], [.int (i + 1), v3], rfl, rfl, SqT.of (s2 _ _ upd_same), SqT.of upd_same, (fun z => by cases z), Nat.le_of_lt (small1000 (show (4 : Nat) ≤ 1000 from by decide)), (fun z => by cases z), fun _ t3 h3 => ?_⟩
    have s3 : Same (upd (upd Hc t1 (.tup [v0, v1])) t2 (.tup [.int (i + 1), v3])) (upd (upd (upd Hc t1 (.tup [v0, v1])) t2 (.tup [.int (i + 1), v3])) t3 (.tup ([v0, v1] ++ [.int (i + 1), v3]))) := Same.new h3
    have S3 := S0.to ((s1.trans s2).trans s3)
    exact ⟨_, rfl, _, rfl, lf, ys, at_, at_.toNat, rfl, rfl, S3.lst, ixN_of a0 a1, nx lf _ _ _ (S3.put (by rw [List.length_set]; exact S0.few) (mem_setP S3.thg (.inr (.inl ⟨t3, _, rfl, upd_same, Nat.le_refl 4, flat4 f0 f1 rfl f3⟩))))⟩
theorem ok_sw4 {f : Addr} {cdv : Value} {A : Around} {outer : List Env} {s : Shared} {H : Hp} {E : XK} (S : FnScope N_spoiled ["_law_panes", "_law_purse_here", "_law_width", "_law_height"] (defScope s__law_spoiled)) (hr : Room 1 (A.deeper (PyProof.Rows.envOfC "_law_spoiled" (defScope s__law_spoiled) s.heap.objs.size f cdv))) (T : Txt mg tk) (l p : Addr) (ww hh : Int) :
    ∃ t, PS (cxOf CX0 P w K mg base N_spoiled "_law_spoiled" (defScope s__law_spoiled) f cdv A outer s H E).nox (nth bodyS 8) t ∧ SkA H l p ww hh 4 t := by
  refine ⟨_, (ps_if (pt_cmpR op_eq (pv 8) pe_int (nomark _)) (pss_one (ps_expr (pe_bmK (K := K) PySem.F.plainAttrs_list PySem.F.slot_list_pop PySem.F.type_list_pop mt_popAt (pv 4) (pa_cons (pv 6) pa_nil)))) pss_nil), ?_⟩
  intro D lf x5 x9 at_ way one Hc
  refine ⟨fun hw nx => ⟨_, rfl, rfl, _, rfl, iteN (decIf.mpr hw) nx⟩, ?_⟩
  rintro rfl ys S0 a0 a1 hone nx
  refine ⟨_, rfl, rfl, _, rfl, iteP (decI.mpr rfl) ?_⟩
  have few := S0.few
  have hix : seqIndex? at_ ys.length = some at_.toNat := (ixN_seq (ixN_of a0 a1)).1
  have hjl : at_.toNat < ys.length := by first | lia | omega
  refine ⟨_, rfl, .inl ⟨rfl, _, SqL.of S0.lst⟩, _, rfl, lf, ys, at_, _, ys[at_.toNat], rfl, rfl, S0.lst, by first | lia | omega, by first | lia | omega, hix, by simp [hjl], ?_⟩
  exact nx lf _ _ _ (S0.put (Nat.le_trans (len_erase _ _) S0.few) fun v hv => S0.thg v (List.mem_of_mem_eraseIdx hv))
theorem ok_sw6 {f : Addr} {cdv : Value} {A : Around} {outer : List Env} {s : Shared} {H : Hp} {E : XK} (S : FnScope N_spoiled ["_law_panes", "_law_purse_here", "_law_width", "_law_height"] (defScope s__law_spoiled)) (hr : Room 1 (A.deeper (PyProof.Rows.envOfC "_law_spoiled" (defScope s__law_spoiled) s.heap.objs.size f cdv))) (T : Txt mg tk) (D__law_take : DefOk P w K mg base 1 "_law_take" ["_law_purse_here", "_law_many"] sp_take) (l p : Addr) (ww hh : Int) :
    ∃ t, PS (cxOf CX0 P w K mg base N_spoiled "_law_spoiled" (defScope s__law_spoiled) f cdv A outer s H E).nox (nth bodyS 9) t ∧ SkA H l p ww hh 6 t := by
  refine ⟨_, (ps_if (pt_cmpR op_eq (pv 8) pe_int (nomark _)) (pss_one (ps_set (i := 4) S.nd rfl (Or.inl rfl) (pe_slice (sl_listK' (K := K)) (pv 4) po_none (po_some (pe_fn D__law_take hr (pa_cons (pv 1) (pa_cons pe_int pa_nil))))))) pss_nil), ?_⟩
  intro D lf x5 x9 at_ way one Hc
  refine ⟨fun hw nx => ⟨_, rfl, rfl, _, rfl, iteN (decIf.mpr hw) nx⟩, ?_⟩
  rintro rfl ys S0 a0 a1 hone nx
  refine ⟨_, rfl, rfl, _, rfl, iteP (decI.mpr rfl) ?_⟩
  obtain ⟨z, hz⟩ := S0.purse
  refine ⟨_, rfl, _, rfl, p, z, 2, rfl, hz, by decide, by decide, fun r z' r0 r1 => ?_⟩
  have S1 := S0.take (z' := z')
  refine ⟨_, rfl, lf, ys, rfl, SqL.of S1.lst, fun l' hl' => ?_⟩
  exact nx l' _ _ _ (S1.other hl' (Nat.le_trans (cutV_length _ _ _) S0.few) fun v hv => by unfold cutV at hv; exact List.mem_of_mem_drop (List.mem_of_mem_take hv))
theorem ok_sw5 {f : Addr} {cdv : Value} {A : Around} {outer : List Env} {s : Shared} {H : Hp} {E : XK} (S : FnScope N_spoiled ["_law_panes", "_law_purse_here", "_law_width", "_law_height"] (defScope s__law_spoiled)) (hr : Room 1 (A.deeper (PyProof.Rows.envOfC "_law_spoiled" (defScope s__law_spoiled) s.heap.objs.size f cdv))) (T : Txt mg tk) (D__law_whole : DefOk P w K mg base 1 "_law_whole" ["_law_thing"] sp_whole) (l p : Addr) (ww hh : Int) :
    ∃ t, PS (cxOf CX0 P w K mg base N_spoiled "_law_spoiled" (defScope s__law_spoiled) f cdv A outer s H E).nox (nth bodyS 10) t ∧ SkA H l p ww hh 5 t := by
  refine ⟨_, (ps_if (PW.pt (pw_and (pt_cmpR op_eq (pv 8) pe_int (nomark _)) (pw_and (pt_val (pe_callB call_isin rfl T.z_isinstance rfl (pa_cons (pv 7) (pa_cons (pe_bltn (v := .ty "tuple") rfl T.z_tuple rfl rfl) pa_nil)))) (pw_and (pt_cmpR op_eq (pe_callB (call_len_seqK (K := K)) rfl T.z_len rfl (pa_cons (pv 7) pa_nil)) pe_int (nomark _)) (pw_and1 (pt_val (pe_fn D__law_whole hr (pa_cons (pe_ix (ix_tupK (K := K)) (pv 7) pe_int (fun _ _ => rfl)) pa_nil)))))))) (pss_one (ps_asg (pe_op op_catT (pe_slice (sl_tupK (K := K)) (pv 7) po_none (po_some pe_int)) (pe_tup (pa_cons (pe_op op_add (pe_ix (ix_tupK (K := K)) (pv 7) pe_int (fun _ _ => rfl)) pe_int) pa_nil))) (pg_sub (pv 4) (pv 6) set_list))) pss_nil), ?_⟩
  intro D lf x5 x9 at_ way one Hc
  refine ⟨fun hw nx => ⟨_, rfl, rfl, _, rfl, iteN (decIf.mpr hw) (iteF nx)⟩, ?_⟩
  rintro rfl ys S0 a0 a1 hone nx
  refine ⟨_, rfl, rfl, _, rfl, iteP (decI.mpr rfl) ?_⟩
  rcases (S0.thg one hone).tuple with ⟨T', hT, hne⟩ | ⟨a, xs, rfl, ha, hl, hf⟩
  · exact ⟨_, rfl, _, T', "tuple", rfl, hT, .inr (.inr (.inl rfl)), _, rfl, iteN (isB_no hne) (iteF (nx lf ys _ _ S0))⟩
  · refine ⟨_, rfl, _, "tuple", "tuple", rfl, ty_tup ha, .inr (.inr (.inl rfl)), _, rfl, iteP isB_tt ?_⟩
    refine ⟨_, rfl, a, xs, rfl, .inr (SqT.of ha), rfl, _, rfl, ite3 (fun h => ?_) (fun h => iteF (nx lf ys _ _ S0))⟩
    have h4 : xs.length = 4 := by have := decI.mp h; first | lia | omega
    obtain ⟨v0, v1, v2, v3, rfl⟩ := four_vs h4
    have f0 := hf v0 (by simp)
    have f1 := hf v1 (by simp)
    have f2 := hf v2 (by simp)
    have f3 := hf v3 (by simp)
    refine ⟨_, rfl, a, _, _, _, rfl, rfl, SqT.of ha, at3, v3, rfl, flat_ty f3, _, rfl, ite3 (fun h2 => ?_) (fun h2 => nx lf ys _ _ S0)⟩
    obtain ⟨i, rfl⟩ := whole_int h2
    refine ⟨_, rfl, _, rfl, a, _, rfl, SqT.of ha, (fun z => absurd (show HT.sIx 4 4 (some 3) = 4 from z.2) (by decide)), fun t1 h1 => ?_⟩
    have s1 : Same Hc (upd Hc t1 (.tup [v0, v1, v2])) := Same.new h1
    refine ⟨_, rfl, a, _, _, _, rfl, rfl, SqT.of (s1 _ _ ha), at3, _, _, rfl, rfl, lenOk 1, fun t2 h2 => ?_⟩
    have s2 : Same (upd Hc t1 (.tup [v0, v1, v2])) (upd (upd Hc t1 (.tup [v0, v1, v2])) t2 (.tup [.int (i + 1)])) := Same.new h2
    refine ⟨t1, t2, [v0, v1, v2], [.int (i + 1)], rfl, rfl, SqT.of (s2 _ _ upd_same), SqT.of upd_same, (fun z => by cases z), Nat.le_of_lt (small1000 (show (4 : Nat) ≤ 1000 from by decide)), (fun z => by cases z), fun _ t3 h3 => ?_⟩
    have s3 : Same (upd (upd Hc t1 (.tup [v0, v1, v2])) t2 (.tup [.int (i + 1)])) (upd (upd (upd Hc t1 (.tup [v0, v1, v2])) t2 (.tup [.int (i + 1)])) t3 (.tup ([v0, v1, v2] ++ [.int (i + 1)]))) := Same.new h3
    have S3 := S0.to ((s1.trans s2).trans s3)
    exact ⟨_, rfl, _, rfl, lf, ys, at_, at_.toNat, rfl, rfl, S3.lst, ixN_of a0 a1, nx lf _ _ _ (S3.put (by rw [List.length_set]; exact S0.few) (mem_setP S3.thg (.inr (.inl ⟨t3, _, rfl, upd_same, Nat.le_refl 4, flat4 f0 f1 f2 rfl⟩))))⟩
theorem ok_law_spoiled {f : Addr} {fd : FuncData} (F : Fun K "_law_spoiled" "_law_spoiled" s__law_spoiled f fd) (T : Txt mg tk) (D__law_take : DefOk P w K mg base 1 "_law_take" ["_law_purse_here", "_law_many"] sp_take) (D__law_whole : DefOk P w K mg base 1 "_law_whole" ["_law_thing"] sp_whole) : FnOk P w K mg base CX0 2 f fd ["_law_panes", "_law_purse_here", "_law_width", "_law_height"] (sp_spoiled K) := by
  have S := S_law_spoiled
  refine F.ok S (fun vs H Q E h => ?_) (fun cdv A outer s H vs Q E hr h => ?_)
  · obtain ⟨l, p, w, h, z, xs, rfl, _⟩ := h; rfl
  · obtain ⟨l, p, ww, hh, z, xs, rfl, hl, few, hxs, hp, q⟩ := h
    obtain ⟨t0, h0, k0⟩ := ok_sw0 (f := f) (cdv := cdv) (outer := outer) (s := s) (H := H) (E := E) S hr T D__law_take l p ww hh
    obtain ⟨t1, h1, k1⟩ := ok_sw1 (P := P) (w := w) (K := K) (base := base) (f := f) (cdv := cdv) (outer := outer) (s := s) (H := H) (E := E) S hr T l p ww hh
    obtain ⟨t2, h2, k2⟩ := ok_sw2 (f := f) (cdv := cdv) (outer := outer) (s := s) (H := H) (E := E) S hr T D__law_take l p ww hh
    obtain ⟨t3, h3, k3⟩ := ok_sw3 (f := f) (cdv := cdv) (outer := outer) (s := s) (H := H) (E := E) S hr T D__law_whole l p ww hh
    obtain ⟨t4, h4, k4⟩ := ok_sw4 (P := P) (w := w) (K := K) (base := base) (f := f) (cdv := cdv) (outer := outer) (s := s) (H := H) (E := E) S hr T l p ww hh
    obtain ⟨t6, h6, k6⟩ := ok_sw6 (f := f) (cdv := cdv) (outer := outer) (s := s) (H := H) (E := E) S hr T D__law_take l p ww hh
    obtain ⟨t5, h5, k5⟩ := ok_sw5 (f := f) (cdv := cdv) (outer := outer) (s := s) (H := H) (E := E) S hr T D__law_whole l p ww hh
    have hb : PSs (cxOf CX0 P w K mg base N_spoiled "_law_spoiled" (defScope s__law_spoiled) f cdv A outer s H E).nox (bodyS.drop 4) _ := pss_cons h0 (pss_cons h1 (pss_cons h2 (pss_cons h3 (pss_cons h4 (pss_cons h6 (pss_one h5))))))
    refine ⟨_, (pss_cons (ps_set (i := 4) S.nd rfl (Or.inl rfl) (pe_callTy (call_list_ofK (K := K)) rfl T.z_list rfl (pa_cons (pv 0) pa_nil)))
      (pss_cons (ps_for PassesOwn.never rfl (pi_range1 rfl T.z_range (pa_cons (pe_fn D__law_take hr (pa_cons (pv 1) (pa_cons pe_int pa_nil))) pa_nil)) (pg_name (i := 5) S.nd rfl (Or.inl rfl)) (pss_cons (ps_if (pt_cmpR (op_eqDK (K := K) hr) (pv 4) (pe_lst pa_nil) (nomark _)) (pss_one (ps_ret (pv 4))) pss_nil)
      (pss_cons (ps_set (i := 6) S.nd rfl (Or.inl rfl) (pe_fn D__law_take hr (pa_cons (pv 1) (pa_cons (pe_callB (call_len_seqK (K := K)) rfl T.z_len rfl (pa_cons (pv 4) pa_nil)) pa_nil))))
      (pss_cons (ps_set (i := 7) S.nd rfl (Or.inl rfl) (pe_ix (ix_listK (K := K)) (pv 4) (pv 6) (fun _ _ => rfl)))
      (pss_cons (ps_set (i := 8) S.nd rfl (Or.inl rfl) (pe_fn D__law_take hr (pa_cons (pv 1) (pa_cons pe_int pa_nil))))
      hb)))))
      (pss_one (ps_ret (pv 4))))), ?_⟩
    refine ⟨_, rfl, l, xs, rfl, .inl hl, fun lf hlf => ?_⟩
    have nf : lf ≠ p := Ne.symm (ne_of_none hp hlf)
    refine ⟨_, rfl, p, z, 3, rfl, by rw [upd_ne (Ne.symm nf)]; exact hp, by decide, by decide, fun n z1 n0 n1 => ?_⟩
    have S1 : SameX p H (upd (upd H lf (.lst xs)) p (.lst [.int z1])) := (SameX.new hlf).trans SameX.upd
    have F1 : (upd (upd H lf (.lst xs)) p (.lst [.int z1])) lf = some (.lst xs) := by rw [upd_ne nf]; exact upd_same
    have P1 : (upd (upd H lf (.lst xs)) p (.lst [.int z1])) p = some (.lst [.int z1]) := upd_same
    generalize upd (upd H lf (.lst xs)) p (.lst [.int z1]) = H1 at S1 F1 P1 ⊢
    have T1 : ∀ v ∈ xs, Thg H1 lf v := fun v hv => by
      obtain ⟨a, ys, rfl, h1, h2, h3⟩ := hxs v hv
      exact .inr (.inl ⟨a, ys, rfl, S1 a _ (ne_of h1 hp (by intro q; cases q)) h1, h2, h3⟩)
    refine ⟨n, rfl, by first | lia | omega, by first | lia | omega, for_range (lo := 0) (n := n.toNat) (fun i σ H' => ∃ lf ys x5 x6 x7 x8 x9, σ = [some (.ref l), some (.ref p), some (.int ww), some (.int hh), some (.ref lf), x5, x6, x7, x8, x9] ∧ Spd H H' p lf ys)
      ⟨lf, xs, _, _, _, _, _, rfl, S1, hlf, nf, F1, few, T1, _, P1⟩ ?_ ?_⟩
    · rintro i σ H2 hi ⟨lf, ys, x5, x6, x7, x8, x9, rfl, S2⟩
      refine ⟨_, rfl, lenOk 0, fun e he => ?_⟩
      have sE : Same H2 (upd H2 e (.lst [])) := Same.new he
      have eE : (upd H2 e (.lst [])) e = some (.lst []) := upd_same
      generalize upd H2 e (.lst []) = H3 at sE eE ⊢
      have S3 := S2.to sE
      obtain ⟨ds, hds, dds, dnil⟩ := thgs_dat (K := K) S3.thg
      have d1 : DIs K H3 (.lst ds) (.ref lf) := by rw [DIs]; exact ⟨lf, ys, rfl, SqL.of S3.lst, hds⟩
      have d2 : DIs K H3 (.lst .nil) (.ref e) := by rw [DIs]; exact ⟨e, [], rfl, SqL.of eE, by rw [DIss]⟩
      refine ⟨_, _, d1, d2, ⟨_, rfl⟩, ⟨_, rfl⟩, by rw [dep]; first | lia | omega, _, rfl, ite3 (fun hb => ?_) fun hb => ?_⟩
      · exact ⟨_, rfl, q lf ys H3 S3.same S3.fresh S3.lst S3.few S3.thg S3.purse⟩
      have ne : ys ≠ [] := fun e' => by
        rw [if_neg Bool.false_ne_true, deq, dnil, decide_eq_true e'] at hb
        cases hb
      have pos : 0 < ys.length := List.length_pos_iff.mpr ne
      have few2 := S3.few
      obtain ⟨z, hz⟩ := S3.purse
      refine ⟨_, rfl, _, rfl, lf, ys, rfl, .inl (SqL.of S3.lst), p, z, _, rfl, hz, by first | lia | omega, by first | lia | omega, fun at_ z2 a0 a1 => ?_⟩
      have S4 := S3.take (z' := z2)
      obtain ⟨one, hone, honem⟩ := atI_in (L := ys) a0 a1
      refine ⟨_, rfl, _, rfl, lf, ys, at_, one, rfl, rfl, SqL.of S4.lst, hone, ?_⟩
      refine ⟨_, rfl, p, z2, 7, rfl, upd_same, by decide, by decide, fun way z3 w0 w1 => ?_⟩
      have S5 := S4.take (z' := z3)
      have fin : ∀ lf' ys' x5' x6' x7' x8' x9' H', Spd H H' p lf' ys' → ∃ lf ys x5 x6 x7 x8 x9, ([some (.ref l), some (.ref p), some (.int ww), some (.int hh), some (.ref lf'), x5', x6', x7', x8', x9'] : St) = [some (.ref l), some (.ref p), some (.int ww), some (.int hh), some (.ref lf), x5, x6, x7, x8, x9] ∧ Spd H H' p lf ys :=
        fun lf' ys' x5' x6' x7' x8' x9' H' S' => ⟨lf', ys', x5', x6', x7', x8', x9', rfl, S'⟩
      rcases (show way = 0 ∨ way = 1 ∨ way = 2 ∨ way = 3 ∨ way = 4 ∨ way = 5 ∨ way = 6 by first | lia | omega) with rfl | rfl | rfl | rfl | rfl | rfl | rfl
      · refine (k0 _ _ _ _ _ _ _ _).2 rfl ys S5 a0 a1 honem fun lf' ys' x9' H' S' => ?_
        exact (k1 _ _ _ _ _ _ _ _).1 (by decide) ((k2 _ _ _ _ _ _ _ _).1 (by decide) ((k3 _ _ _ _ _ _ _ _).1 (by decide) ((k4 _ _ _ _ _ _ _ _).1 (by decide) ((k6 _ _ _ _ _ _ _ _).1 (by decide) ((k5 _ _ _ _ _ _ _ _).1 (by decide) (fin _ _ _ _ _ _ _ _ S'))))))
      · refine (k0 _ _ _ _ _ _ _ _).1 (by decide) ((k1 _ _ _ _ _ _ _ _).2 rfl ys S5 a0 a1 honem fun lf' ys' x9' H' S' => ?_)
        exact (k2 _ _ _ _ _ _ _ _).1 (by decide) ((k3 _ _ _ _ _ _ _ _).1 (by decide) ((k4 _ _ _ _ _ _ _ _).1 (by decide) ((k6 _ _ _ _ _ _ _ _).1 (by decide) ((k5 _ _ _ _ _ _ _ _).1 (by decide) (fin _ _ _ _ _ _ _ _ S')))))
      · refine (k0 _ _ _ _ _ _ _ _).1 (by decide) ((k1 _ _ _ _ _ _ _ _).1 (by decide) ((k2 _ _ _ _ _ _ _ _).2 rfl ys S5 a0 a1 honem fun lf' ys' x9' H' S' => ?_))
        exact (k3 _ _ _ _ _ _ _ _).1 (by decide) ((k4 _ _ _ _ _ _ _ _).1 (by decide) ((k6 _ _ _ _ _ _ _ _).1 (by decide) ((k5 _ _ _ _ _ _ _ _).1 (by decide) (fin _ _ _ _ _ _ _ _ S'))))
      · refine (k0 _ _ _ _ _ _ _ _).1 (by decide) ((k1 _ _ _ _ _ _ _ _).1 (by decide) ((k2 _ _ _ _ _ _ _ _).1 (by decide) ((k3 _ _ _ _ _ _ _ _).2 rfl ys S5 a0 a1 honem fun lf' ys' x9' H' S' => ?_)))
        exact (k4 _ _ _ _ _ _ _ _).1 (by decide) ((k6 _ _ _ _ _ _ _ _).1 (by decide) ((k5 _ _ _ _ _ _ _ _).1 (by decide) (fin _ _ _ _ _ _ _ _ S')))
      · refine (k0 _ _ _ _ _ _ _ _).1 (by decide) ((k1 _ _ _ _ _ _ _ _).1 (by decide) ((k2 _ _ _ _ _ _ _ _).1 (by decide) ((k3 _ _ _ _ _ _ _ _).1 (by decide) ((k4 _ _ _ _ _ _ _ _).2 rfl ys S5 a0 a1 honem fun lf' ys' x9' H' S' => ?_))))
        exact (k6 _ _ _ _ _ _ _ _).1 (by decide) ((k5 _ _ _ _ _ _ _ _).1 (by decide) (fin _ _ _ _ _ _ _ _ S'))
      · refine (k0 _ _ _ _ _ _ _ _).1 (by decide) ((k1 _ _ _ _ _ _ _ _).1 (by decide) ((k2 _ _ _ _ _ _ _ _).1 (by decide) ((k3 _ _ _ _ _ _ _ _).1 (by decide) ((k4 _ _ _ _ _ _ _ _).1 (by decide) ((k6 _ _ _ _ _ _ _ _).1 (by decide) ((k5 _ _ _ _ _ _ _ _).2 rfl ys S5 a0 a1 honem fun lf' ys' x9' H' S' => fin _ _ _ _ _ _ _ _ S'))))))
      · refine (k0 _ _ _ _ _ _ _ _).1 (by decide) ((k1 _ _ _ _ _ _ _ _).1 (by decide) ((k2 _ _ _ _ _ _ _ _).1 (by decide) ((k3 _ _ _ _ _ _ _ _).1 (by decide) ((k4 _ _ _ _ _ _ _ _).1 (by decide) ((k6 _ _ _ _ _ _ _ _).2 rfl ys S5 a0 a1 honem fun lf' ys' x9' H' S' => ?_)))))
        exact (k5 _ _ _ _ _ _ _ _).1 (by decide) (fin _ _ _ _ _ _ _ _ S')
    · rintro σ H2 ⟨lf, ys, x5, x6, x7, x8, x9, rfl, S2⟩
      exact ⟨_, rfl, q lf ys H2 S2.same S2.fresh S2.lst S2.few S2.thg S2.purse⟩
def KTs (G : Hp) (w h : Int) (xs : List V) (ts : List (Addr × Rc)) : Prop := xs = refs ts ∧ At G ts ∧ (∀ p ∈ rcs ts, p.In w h) ∧ ts.length ≤ 52
def KPane (G : Hp) (w h : Int) (xs : List V) (k : Nat) : Prop := xs.length ≤ 52 ∧ ∃ v, xs[k]? = some v ∧ (∀ (j : Nat) u, j < k → xs[j]? = some u → okV G w h u = true) ∧ okV G w h v = false
def KLap (G : Hp) (w h : Int) (xs : List V) (k : Nat) : Prop := ∃ ts u, KTs G w h xs ts ∧ ts[k]? = some u ∧ (rcs (ts.take k)).Pairwise Apart ∧ ∃ t ∈ ts.take k, ¬ Apart t.2 u.2
def KBare (G : Hp) (w h : Int) (xs : List V) (z : Int × Int) : Prop := ∃ ts, KTs G w h xs ts ∧ (rcs ts).Pairwise Apart ∧ (0 ≤ z.1 ∧ z.1 < h ∧ 0 ≤ z.2 ∧ z.2 < w) ∧ (∀ r c, 0 ≤ r → r < h → 0 ≤ c → c < w → lexlt (r, c) z → cvr ts r c) ∧ ¬ cvr ts z.1 z.2
def KAll (G : Hp) (w h : Int) (xs : List V) : Prop := ∃ ts, xs = refs ts ∧ At G ts ∧ Tiles w h (rcs ts) ∧ ts.length ≤ 52
theorem four_inj {a b c d a' b' c' d' : Int} (h : four a b c d = four a' b' c' d') : a = a' ∧ b = b' ∧ c = c' ∧ d = d' := by
  injection h with q1 q2
  injection q2 with q2 q3
  injection q3 with q3 q4
  injection q4 with q4 _
  exact ⟨V.int.inj q1, V.int.inj q2, V.int.inj q3, V.int.inj q4⟩
theorem at_uniq {G : Hp} : ∀ {ts us : List (Addr × Rc)}, refs ts = refs us → At G ts → At G us → ts = us
  | [], [], _, _, _ => rfl
  | [], _ :: _, h, _, _ => by cases h
  | _ :: _, [], h, _, _ => by cases h
  | t :: r, u :: q, h, ha, hb => by
    have h : V.ref t.1 :: refs r = V.ref u.1 :: refs q := h
    injection h with h1 h2
    have e1 : t.1 = u.1 := V.ref.inj h1
    have a1 := ha t List.mem_cons_self
    have b1 := hb u List.mem_cons_self
    rw [e1, b1] at a1
    injection a1 with a1
    injection a1 with a1
    obtain ⟨c1, c2, c3, c4⟩ := four_inj a1
    have e2 : t.2 = u.2 := (rc_ext c1 c2 c3 c4).symm
    have : t = u := Prod.ext e1 e2
    rw [this, at_uniq h2 (fun x hx => ha x (List.mem_cons_of_mem _ hx)) (fun x hx => hb x (List.mem_cons_of_mem _ hx))]
theorem KTs.uniq {G : Hp} {w h : Int} {xs : List V} {ts us : List (Addr × Rc)} (a : KTs G w h xs ts) (b : KTs G w h xs us) : ts = us := at_uniq (a.1.symm.trans b.1) a.2.1 b.2.1
theorem KTs.same {G G' : Hp} {w h : Int} {xs : List V} {ts : List (Addr × Rc)} (a : KTs G w h xs ts) (s : Same G G') : KTs G' w h xs ts := ⟨a.1, a.2.1.same s, a.2.2⟩
theorem KLap.same {G G' : Hp} {w h : Int} {xs : List V} {k : Nat} (a : KLap G w h xs k) (s : Same G G') : KLap G' w h xs k := let ⟨ts, u, b, c⟩ := a; ⟨ts, u, b.same s, c⟩
theorem KBare.same {G G' : Hp} {w h : Int} {xs : List V} {z : Int × Int} (a : KBare G w h xs z) (s : Same G G') : KBare G' w h xs z := let ⟨ts, b, c⟩ := a; ⟨ts, b.same s, c⟩
theorem KAll.same {G G' : Hp} {w h : Int} {xs : List V} (a : KAll G w h xs) (s : Same G G') : KAll G' w h xs := let ⟨ts, b, c, d⟩ := a; ⟨ts, b, c.same s, d⟩
theorem KPane.same {G G' : Hp} {w h : Int} {xs : List V} {k : Nat} (a : KPane G w h xs k) (s : Same G G') (g : ∀ x ∈ xs, Good G x) : KPane G' w h xs k := by
  obtain ⟨l, v, e, b, c⟩ := a
  refine ⟨l, v, e, fun j u hj hu => ?_, ?_⟩
  · rw [okV_same s (g u (List.mem_of_getElem? hu))]; exact b j u hj hu
  · rw [okV_same s (g v (List.mem_of_getElem? e))]; exact c
theorem KAll.ts {G : Hp} {w h : Int} {xs : List V} (a : KAll G w h xs) : ∃ ts, KTs G w h xs ts ∧ Tiles w h (rcs ts) := let ⟨ts, b, c, d, e⟩ := a; ⟨ts, ⟨b, c, d.ins, e⟩, d⟩
theorem pane_no {G : Hp} {w h : Int} {xs : List V} {k : Nat} {ts : List (Addr × Rc)} (a : KPane G w h xs k) (b : KTs G w h xs ts) : False := by
  obtain ⟨_, v, e, _, c⟩ := a
  obtain ⟨rfl, ha, hi, _⟩ := b
  obtain ⟨u, hu, rfl⟩ := refs_get e
  have hm := List.mem_of_getElem? hu
  obtain ⟨i1, i2, i3, i4, i5, i6⟩ := hi u.2 (List.mem_map.mpr ⟨u, hm, rfl⟩)
  rw [ok4 (ha u hm)] at c
  simp [i1, i2, i3, i4, i5, i6] at c
theorem pane_one {G : Hp} {w h : Int} {xs : List V} {k j : Nat} (a : KPane G w h xs k) (b : KPane G w h xs j) : k = j := by
  obtain ⟨_, v, e, b1, c⟩ := a
  obtain ⟨_, v', e', b1', c'⟩ := b
  rcases Nat.lt_trichotomy k j with q | q | q
  · rw [b1' k v q e] at c; cases c
  · exact q
  · rw [b1 j v' q e'] at c'; cases c'
theorem take_mem {α : Type} {ts : List α} {k : Nat} {t : α} (h : t ∈ ts.take k) : ∃ i, i < k ∧ ts[i]? = some t := by
  obtain ⟨i, hi, e⟩ := List.getElem_of_mem h
  have hk : i < k := by rw [List.length_take] at hi; first | lia | omega
  refine ⟨i, hk, ?_⟩
  rw [← e, List.getElem_take]
  exact List.getElem?_eq_getElem (by rw [List.length_take] at hi; first | lia | omega)
theorem apart_at {ts : List (Addr × Rc)} {i k : Nat} {t u : Addr × Rc} (h : (rcs ts).Pairwise Apart) (hik : i < k) (ht : ts[i]? = some t) (hu : ts[k]? = some u) : Apart t.2 u.2 := by
  obtain ⟨h1, e1⟩ := List.getElem?_eq_some_iff.mp ht
  obtain ⟨h2, e2⟩ := List.getElem?_eq_some_iff.mp hu
  have := List.pairwise_iff_getElem.mp h i k (by rw [List.length_map]; exact h1) (by rw [List.length_map]; exact h2) hik
  rw [List.getElem_map, List.getElem_map, e1, e2] at this
  exact this
theorem lap_no {G : Hp} {w h : Int} {xs : List V} {k : Nat} {ts : List (Addr × Rc)} (a : KLap G w h xs k) (b : KTs G w h xs ts) (p : (rcs ts).Pairwise Apart) : False := by
  obtain ⟨us, u, c, e, _, t, ht, na⟩ := a
  obtain rfl := c.uniq b
  obtain ⟨i, hi, et⟩ := take_mem ht
  exact na (apart_at p hi et e)
theorem lap_lt {G : Hp} {w h : Int} {xs : List V} {k j : Nat} (a : KLap G w h xs k) (b : KLap G w h xs j) (q : k < j) : False := by
  obtain ⟨us, u, c, e, _, t, ht, na⟩ := a
  obtain ⟨ts, u', c', _, p', _⟩ := b
  obtain rfl := c.uniq c'
  obtain ⟨i, hi, et⟩ := take_mem ht
  refine na (apart_at p' hi (ts := us.take j) ?_ ?_)
  · rw [List.getElem?_take, if_pos (by first | lia | omega)]; exact et
  · rw [List.getElem?_take, if_pos q]; exact e
theorem lap_one {G : Hp} {w h : Int} {xs : List V} {k j : Nat} (a : KLap G w h xs k) (b : KLap G w h xs j) : k = j := by
  rcases Nat.lt_trichotomy k j with q | q | q
  · exact (lap_lt a b q).elim
  · exact q
  · exact (lap_lt b a q).elim
theorem bare_no {G : Hp} {w h : Int} {xs : List V} {z : Int × Int} (a : KBare G w h xs z) (b : KAll G w h xs) : False := by
  obtain ⟨ts, c, _, d, _, e⟩ := a
  obtain ⟨us, c', til⟩ := b.ts
  obtain rfl := c.uniq c'
  obtain ⟨p, hp, hh⟩ := til.cov z.1 z.2 d.1 d.2.1 d.2.2.1 d.2.2.2
  obtain ⟨t, ht, rfl⟩ := List.mem_map.mp hp
  exact e ⟨t, ht, hh⟩
theorem bare_one {G : Hp} {w h : Int} {xs : List V} {z y : Int × Int} {ts : List (Addr × Rc)} {j : Nat} (gw : 0 ≤ w) (gh : 0 ≤ h) (a : KBare G w h xs z) (b : KTs G w h xs ts) (hj : (sqs ⟨0, 0, h, w⟩)[j]? = some y)
    (hb : ∀ (i : Nat) x, i < j → (sqs ⟨0, 0, h, w⟩)[i]? = some x → ∃ t ∈ ts, t.2.has x.1 x.2) (hn : ¬ ∃ t ∈ ts, t.2.has y.1 y.2) : y = z := by
  obtain ⟨us, c, _, d, e, f⟩ := a
  obtain rfl := c.uniq b
  obtain ⟨i, hi, hbi⟩ := first_ix gw gh d e
  rcases Nat.lt_trichotomy i j with q | q | q
  · exact (f (hb i z q hi)).elim
  · rw [q, hj] at hi; exact Option.some.inj hi
  · exact (hn (hbi j y q hj)).elim
/-- what is due of things for a width and a height: the word and the value -/
def DueK (G : Hp) (wv hv : V) (xs : List V) (k : Str) (v : V) (H1 : Hp) : Prop :=
  (k = "side" ∧ v = wv ∧ sideV wv = false) ∨ (k = "side" ∧ v = hv ∧ sideV wv = true ∧ sideV hv = false) ∨
  ∃ w h, wv = .int w ∧ hv = .int h ∧ (1 ≤ w ∧ w ≤ 12) ∧ (1 ≤ h ∧ h ≤ 12) ∧ ((k = "many" ∧ v = .int xs.length ∧ 52 < xs.length) ∨ (∃ n : Nat, k = "pane" ∧ v = .int n ∧ KPane G w h xs n) ∨
    (∃ n : Nat, k = "overlap" ∧ v = .int n ∧ KLap G w h xs n) ∨ ∃ q z, k = "bare" ∧ v = .ref q ∧ H1 q = some (.tup [.int z.1, .int z.2]) ∧ KBare G w h xs z)
def Outc (G : Hp) (wv hv : V) (xs : List V) (dv : V) (H1 : Hp) : Prop :=
  (dv = .non ∧ ∃ w h, wv = .int w ∧ hv = .int h ∧ (1 ≤ w ∧ w ≤ 12) ∧ (1 ≤ h ∧ h ≤ 12) ∧ KAll G w h xs) ∨ ∃ t k v, dv = .ref t ∧ H1 t = some (.tup [.str k, v]) ∧ DueK G wv hv xs k v H1
theorem due_of {K : PySem.W.Frag} {G : Hp} {Q : VK} {E : XK} {wv hv : V} {l : Addr} {xs : List V} (hl : SqL K G l xs) (hg : ∀ x ∈ xs, Good G x) (hn : xs.length ≤ 300) (tw : Ty G wv) (th : Ty G hv) (go : ∀ dv H1, Same G H1 → Outc G wv hv xs dv H1 → Q dv H1) : sp_due K [wv, hv, .ref l] G Q E := by
  refine ⟨wv, hv, l, xs, rfl, hl, hg, hn, tw, th, fun b t v H' s e q => go _ _ s (.inr ⟨t, _, v, rfl, e, .inl ⟨rfl, q, b⟩⟩), fun b c t v H' s e q => go _ _ s (.inr ⟨t, _, v, rfl, e, .inr (.inl ⟨rfl, q, b, c⟩)⟩), fun w h ew eh gw gh => ?_⟩
  refine ⟨fun b t v H' s e q => ?_, fun b k v hk hb hv t v' H' s e q => ?_, fun ts e1 e2 e3 e4 k u hu hp hx t v' H' s e q => ?_, fun ts e1 e2 e3 e4 hp z hz hb hn t v' H' s e q => ?_, fun ts e1 e2 e3 e4 H' s => ?_⟩
  · exact go _ _ s (.inr ⟨t, _, v, rfl, e, .inr (.inr ⟨w, h, ew, eh, gw, gh, .inl ⟨rfl, q, b⟩⟩)⟩)
  · exact go _ _ s (.inr ⟨t, _, v', rfl, e, .inr (.inr ⟨w, h, ew, eh, gw, gh, .inr (.inl ⟨k, rfl, q, b, v, hk, hb, hv⟩)⟩)⟩)
  · exact go _ _ s (.inr ⟨t, _, v', rfl, e, .inr (.inr ⟨w, h, ew, eh, gw, gh, .inr (.inr (.inl ⟨k, rfl, q, ts, u, ⟨e1, e2, e3, e4⟩, hu, hp, hx⟩))⟩)⟩)
  · obtain ⟨q1, q2, q3⟩ := q
    exact go _ _ s (.inr ⟨t, _, v', rfl, e, .inr (.inr ⟨w, h, ew, eh, gw, gh, .inr (.inr (.inr ⟨q1, z, rfl, q2, q3, ts, ⟨e1, e2, e3, e4⟩, hp, hz, hb, hn⟩))⟩)⟩)
  · exact go _ _ s (.inl ⟨rfl, w, h, ew, eh, gw, gh, ts, e1, e2, e3, e4⟩)
/-- the classes and the words of what is due -/
def KindC (cS cM cP cO cB C : Addr) (f k : Str) : Prop := (C = cS ∧ f = "side" ∧ k = "side") ∨ (C = cM ∧ f = "many" ∧ k = "many") ∨ (C = cP ∧ f = "place" ∧ k = "pane") ∨ (C = cO ∧ f = "place" ∧ k = "overlap") ∨ (C = cB ∧ f = "square" ∧ k = "bare")
def Mtch (cS cM cP cO cB : Addr) (H1 : Hp) (dv : V) (C : Addr) (fs : List (Str × V)) (H' : Hp) : Prop := ∃ t k v f v', dv = .ref t ∧ H1 t = some (.tup [.str k, v]) ∧ fs = [(f, v')] ∧ KindC cS cM cP cO cB C f k ∧
  ((v' = v ∧ flatV v = true) ∨ ∃ q q' y1 y2, v = .ref q ∧ v' = .ref q' ∧ H1 q = some (.tup [.int y1, .int y2]) ∧ H' q' = some (.tup [.int y1, .int y2]))
theorem side_true {w : Int} (g : 1 ≤ w ∧ w ≤ 12) : sideV (.int w) = true := by
  show (decide (1 ≤ w) && decide (w ≤ 12)) = true
  rw [decide_eq_true g.1, decide_eq_true g.2]; rfl
theorem rf_mono {H : Hp} {E E' : XK} {C : Addr} {P : List (Str × V) → Hp → Prop} (r : Rf H E C P) (h : ∀ v d H', E v d H' → E' v d H') : Rf H E' C P := fun x d fs H' a b c p => h _ _ _ (r x d fs H' a b c p)
/-- of what the panel is asked, just what is due comes -/
theorem panel_of {K : PySem.W.Frag} {C cS cM cP cO cB : Addr} {H1 H3 : Hp} {Q : VK} {wv hv dv : V} {a dx l : Addr} {xs : List V} (ha : H3 a = some (.ins C dx [])) (hl : SqL K H3 l xs) (hg : ∀ x ∈ xs, Good H3 x) (hn : xs.length ≤ 300) (tw : Ty H3 wv) (th : Ty H3 hv) (fw : flatV wv = true) (fh : flatV hv = true)
    (o : Outc H3 wv hv xs dv H1) {E : XK} (hE : ∀ v d H', XE H3 (Mtch cS cM cP cO cB H1 dv) v d H' → E v d H')
    (fin : ∀ w h ts' ls ld kvs H' ts, wv = .int w → hv = .int h → (1 ≤ w ∧ w ≤ 12) → (1 ≤ h ∧ h ≤ 12) → dv = .non → xs = refs ts → At H3 ts → Tiles w h (rcs ts) → ts.length ≤ 52 → SameX a H3 H' → H3 ls = none → ts'.Perm ts → PanelAt C H' a w h ts' dx ls ld kvs → Q .non H') :
    sp_Panel1 K C cS cM cP cO cB [.ref a, wv, hv, .ref l] H3 Q E := by
  refine ⟨a, dx, l, wv, hv, xs, rfl, ha, hl, hg, hn, tw, th, fun b => rf_mono (XE.rf ?_) hE, fun b c => rf_mono (XE.rf ?_) hE, fun w h ew eh gw gh => ?_⟩
  · rintro fs H' rfl
    rcases o with ⟨_, w, h, rfl, _, gw, _⟩ | ⟨t, k, v, rfl, ht, d⟩
    · rw [side_true gw] at b; cases b
    rcases d with ⟨rfl, rfl, _⟩ | ⟨rfl, rfl, d, _⟩ | ⟨w, h, rfl, _, gw, _⟩
    · exact ⟨t, _, _, _, _, rfl, ht, rfl, .inl ⟨rfl, rfl, rfl⟩, .inl ⟨rfl, fw⟩⟩
    · rw [d] at b; cases b
    · rw [side_true gw] at b; cases b
  · rintro fs H' rfl
    rcases o with ⟨_, w, h, _, rfl, _, gh, _⟩ | ⟨t, k, v, rfl, ht, d⟩
    · rw [side_true gh] at c; cases c
    rcases d with ⟨rfl, rfl, d⟩ | ⟨rfl, rfl, d, _⟩ | ⟨w, h, _, rfl, _, gh, _⟩
    · rw [d] at b; cases b
    · exact ⟨t, _, _, _, _, rfl, ht, rfl, .inl ⟨rfl, rfl, rfl⟩, .inl ⟨rfl, fh⟩⟩
    · rw [side_true gh] at c; cases c
  subst ew
  subst eh
  have o' : (dv = .non ∧ KAll H3 w h xs) ∨ ∃ t k v, dv = .ref t ∧ H1 t = some (.tup [.str k, v]) ∧ ((k = "many" ∧ v = .int xs.length ∧ 52 < xs.length) ∨ (∃ n : Nat, k = "pane" ∧ v = .int n ∧ KPane H3 w h xs n) ∨
      (∃ n : Nat, k = "overlap" ∧ v = .int n ∧ KLap H3 w h xs n) ∨ ∃ q z, k = "bare" ∧ v = .ref q ∧ H1 q = some (.tup [.int z.1, .int z.2]) ∧ KBare H3 w h xs z) := by
    rcases o with ⟨e, w', h', e1, e2, _, _, ka⟩ | ⟨t, k, v, e, ht, d⟩
    · cases e1; cases e2
      exact .inl ⟨e, ka⟩
    rcases d with ⟨_, _, d⟩ | ⟨_, _, _, d⟩ | ⟨w', h', e1, e2, _, _, d⟩
    · rw [side_true gw] at d; cases d
    · rw [side_true gh] at d; cases d
    · cases e1; cases e2
      exact .inr ⟨t, k, v, e, ht, d⟩
  have kl : KAll H3 w h xs → xs.length ≤ 52 := fun ⟨ts, e, _, _, f⟩ => by rw [e, List.length_map]; exact f
  have tl : ∀ {ts}, KTs H3 w h xs ts → xs.length ≤ 52 := fun ⟨e, _, _, f⟩ => by rw [e, List.length_map]; exact f
  have ll : ∀ {n}, KLap H3 w h xs n → xs.length ≤ 52 := fun ⟨ts, u, c, _⟩ => tl c
  have bl : ∀ {z}, KBare H3 w h xs z → xs.length ≤ 52 := fun ⟨ts, c, _⟩ => tl c
  refine ⟨⟨fun b => rf_mono (XE.rf ?_) hE, fun b k v hk hb hv => rf_mono (XE.rf ?_) hE, fun ts e1 e2 e3 e4 k u hu hp hx => rf_mono (XE.rf ?_) hE, fun ts e1 e2 e3 e4 hp j z hz hb hno => rf_mono (XE.rf ?_) hE⟩, fun ts e1 e2 e3 e4 ts' ls ld kvs H' sx nl pm pn => ?_⟩
  · rintro fs H' rfl
    rcases o' with ⟨_, ka⟩ | ⟨t, k, v, rfl, ht, ⟨rfl, rfl, _⟩ | ⟨n, rfl, rfl, kp⟩ | ⟨n, rfl, rfl, kp⟩ | ⟨q, z, rfl, rfl, hq, kp⟩⟩
    · exact absurd (kl ka) (by first | lia | omega)
    · exact ⟨t, _, _, _, _, rfl, ht, rfl, .inr (.inl ⟨rfl, rfl, rfl⟩), .inl ⟨rfl, rfl⟩⟩
    · exact absurd kp.1 (by first | lia | omega)
    · exact absurd (ll kp) (by first | lia | omega)
    · exact absurd (bl kp) (by first | lia | omega)
  · rintro fs H' rfl
    have kk : KPane H3 w h xs k := ⟨b, v, hk, hb, hv⟩
    rcases o' with ⟨_, ka⟩ | ⟨t, k', v', rfl, ht, ⟨rfl, rfl, c⟩ | ⟨n, rfl, rfl, kp⟩ | ⟨n, rfl, rfl, kp⟩ | ⟨q, z, rfl, rfl, hq, kp⟩⟩
    · obtain ⟨ts, c, _⟩ := ka.ts
      exact (pane_no kk c).elim
    · first | lia | omega
    · obtain rfl := pane_one kk kp
      exact ⟨t, _, _, _, _, rfl, ht, rfl, .inr (.inr (.inl ⟨rfl, rfl, rfl⟩)), .inl ⟨rfl, rfl⟩⟩
    · obtain ⟨ts, u, c, _⟩ := kp
      exact (pane_no kk c).elim
    · obtain ⟨ts, c, _⟩ := kp
      exact (pane_no kk c).elim
  · rintro fs H' rfl
    have kt : KTs H3 w h xs ts := ⟨e1, e2, e3, e4⟩
    have kk : KLap H3 w h xs k := ⟨ts, u, kt, hu, hp, hx⟩
    rcases o' with ⟨_, ka⟩ | ⟨t, k', v', rfl, ht, ⟨rfl, rfl, c⟩ | ⟨n, rfl, rfl, kp⟩ | ⟨n, rfl, rfl, kp⟩ | ⟨q, z, rfl, rfl, hq, kp⟩⟩
    · obtain ⟨us, c, til⟩ := ka.ts
      exact (lap_no kk c til.dis).elim
    · exact absurd (tl kt) (by first | lia | omega)
    · exact (pane_no kp kt).elim
    · obtain rfl := lap_one kk kp
      exact ⟨t, _, _, _, _, rfl, ht, rfl, .inr (.inr (.inr (.inl ⟨rfl, rfl, rfl⟩))), .inl ⟨rfl, rfl⟩⟩
    · obtain ⟨us, c, p, _⟩ := kp
      exact (lap_no kk c p).elim
  · rintro fs H' ⟨q', rfl, hq'⟩
    have kt : KTs H3 w h xs ts := ⟨e1, e2, e3, e4⟩
    rcases o' with ⟨_, ka⟩ | ⟨t, k', v', rfl, ht, ⟨rfl, rfl, c⟩ | ⟨n, rfl, rfl, kp⟩ | ⟨n, rfl, rfl, kp⟩ | ⟨q, z', rfl, rfl, hq, kp⟩⟩
    · obtain ⟨us, c, til⟩ := ka.ts
      obtain rfl := kt.uniq c
      obtain ⟨z1, z2, z3, z4⟩ := (mem_sqs (p := ⟨0, 0, h, w⟩) (r := z.1) (c := z.2) (by show (0 : Int) ≤ w; first | lia | omega) (by show (0 : Int) ≤ h; first | lia | omega)).mp (List.mem_of_getElem? hz)
      obtain ⟨p, hp', hh⟩ := til.cov z.1 z.2 z1 z2 z3 z4
      obtain ⟨t', ht', rfl⟩ := List.mem_map.mp hp'
      exact (hno ⟨t', ht', hh⟩).elim
    · exact absurd (tl kt) (by first | lia | omega)
    · exact (pane_no kp kt).elim
    · exact (lap_no kp kt hp).elim
    · obtain rfl := bare_one (by first | lia | omega) (by first | lia | omega) kp kt hz hb hno
      exact ⟨t, _, _, _, _, rfl, ht, rfl, .inr (.inr (.inr (.inr ⟨rfl, rfl, rfl⟩))), .inr ⟨q, q', _, _, rfl, rfl, hq, hq'⟩⟩
  · rcases o' with ⟨e, ka⟩ | ⟨t, k', v', rfl, ht, ⟨rfl, rfl, c⟩ | ⟨n, rfl, rfl, kp⟩ | ⟨n, rfl, rfl, kp⟩ | ⟨q, z', rfl, rfl, hq, kp⟩⟩
    · exact fin w h ts' ls ld kvs H' ts rfl rfl gw gh e e1 e2 e3 e4 sx nl pm pn
    · exact absurd (kl ⟨ts, e1, e2, e3, e4⟩) (by first | lia | omega)
    · exact (pane_no kp ⟨e1, e2, e3.ins, e4⟩).elim
    · exact (lap_no kp ⟨e1, e2, e3.ins, e4⟩ e3.dis).elim
    · exact (bare_no kp ⟨ts, e1, e2, e3, e4⟩).elim
theorem xfin {H H1 : Hp} {Q : VK} {x d : Addr} {o1 o2 : HO} {E1 : HO} (hx : H x = some E1) (hd : H d = none) : (upd (upd H d o1) x o2) x = some o2 ∧ (upd (upd H d o1) x o2) d = some o1 ∧ ∀ a o, a ≠ x → H a = some o → (upd (upd H d o1) x o2) a = some o :=
  ⟨upd_same, by rw [upd_ne (Ne.symm (ne_of_none hx hd)), upd_same], fun a o ne e => by rw [upd_ne ne, upd_ne (ne_of_none e hd)]; exact e⟩
theorem S_NoSide_init : FnScope ["self", "side"] ["self", "side"] (defScope s_NoSide_init) := ⟨rfl, rfl, rfl, by decide +kernel, rfl, by decide +kernel, by decide +kernel⟩
theorem ok_NoSide_init {f : Addr} {fd : FuncData} (F : Fun K "__init__" "NoSide.__init__" s_NoSide_init f fd) (R : RK mg K cS cM cP cO cB) : FnOk P w K mg base CX0 1 f fd ["self", "side"] (sp_x cS ["side"]) := by
  have S := S_NoSide_init
  refine F.ok S (fun vs H Q E h => ?_) (fun cdv A outer s H vs Q E hr h => ?_)
  · obtain ⟨x, ws, rfl, hl, _⟩ := h; rw [List.length_cons, hl]; rfl
  · obtain ⟨x, ws, rfl, hl, hx, q⟩ := h
    obtain ⟨v0, rfl⟩ := len1 hl
    refine ⟨_, (pss_one (ps_xfldK (K := K) (pv 0) (pv 1) rfl)), ?_⟩
    refine ⟨_, rfl, _, rfl, x, cS, rfl, R.cl_NoSide, R.n_NoSide, .inl ⟨hx, fun d hd => ?_⟩⟩
    obtain ⟨e1, e2, e3⟩ := xfin (H1 := H) (Q := Q) (o1 := ExcD d [("side", v0)]) (o2 := ExcO cS d x) hx hd
    exact q d _ hd e1 e2 e3
theorem S_TooMany_init : FnScope ["self", "many"] ["self", "many"] (defScope s_TooMany_init) := ⟨rfl, rfl, rfl, by decide +kernel, rfl, by decide +kernel, by decide +kernel⟩
theorem ok_TooMany_init {f : Addr} {fd : FuncData} (F : Fun K "__init__" "TooMany.__init__" s_TooMany_init f fd) (R : RK mg K cS cM cP cO cB) : FnOk P w K mg base CX0 1 f fd ["self", "many"] (sp_x cM ["many"]) := by
  have S := S_TooMany_init
  refine F.ok S (fun vs H Q E h => ?_) (fun cdv A outer s H vs Q E hr h => ?_)
  · obtain ⟨x, ws, rfl, hl, _⟩ := h; rw [List.length_cons, hl]; rfl
  · obtain ⟨x, ws, rfl, hl, hx, q⟩ := h
    obtain ⟨v0, rfl⟩ := len1 hl
    refine ⟨_, (pss_one (ps_xfldK (K := K) (pv 0) (pv 1) rfl)), ?_⟩
    refine ⟨_, rfl, _, rfl, x, cM, rfl, R.cl_TooMany, R.n_TooMany, .inl ⟨hx, fun d hd => ?_⟩⟩
    obtain ⟨e1, e2, e3⟩ := xfin (H1 := H) (Q := Q) (o1 := ExcD d [("many", v0)]) (o2 := ExcO cM d x) hx hd
    exact q d _ hd e1 e2 e3
theorem S_NoPane_init : FnScope ["self", "place"] ["self", "place"] (defScope s_NoPane_init) := ⟨rfl, rfl, rfl, by decide +kernel, rfl, by decide +kernel, by decide +kernel⟩
theorem ok_NoPane_init {f : Addr} {fd : FuncData} (F : Fun K "__init__" "NoPane.__init__" s_NoPane_init f fd) (R : RK mg K cS cM cP cO cB) : FnOk P w K mg base CX0 1 f fd ["self", "place"] (sp_x cP ["place"]) := by
  have S := S_NoPane_init
  refine F.ok S (fun vs H Q E h => ?_) (fun cdv A outer s H vs Q E hr h => ?_)
  · obtain ⟨x, ws, rfl, hl, _⟩ := h; rw [List.length_cons, hl]; rfl
  · obtain ⟨x, ws, rfl, hl, hx, q⟩ := h
    obtain ⟨v0, rfl⟩ := len1 hl
    refine ⟨_, (pss_one (ps_xfldK (K := K) (pv 0) (pv 1) rfl)), ?_⟩
    refine ⟨_, rfl, _, rfl, x, cP, rfl, R.cl_NoPane, R.n_NoPane, .inl ⟨hx, fun d hd => ?_⟩⟩
    obtain ⟨e1, e2, e3⟩ := xfin (H1 := H) (Q := Q) (o1 := ExcD d [("place", v0)]) (o2 := ExcO cP d x) hx hd
    exact q d _ hd e1 e2 e3
theorem S_Overlap_init : FnScope ["self", "place"] ["self", "place"] (defScope s_Overlap_init) := ⟨rfl, rfl, rfl, by decide +kernel, rfl, by decide +kernel, by decide +kernel⟩
theorem ok_Overlap_init {f : Addr} {fd : FuncData} (F : Fun K "__init__" "Overlap.__init__" s_Overlap_init f fd) (R : RK mg K cS cM cP cO cB) : FnOk P w K mg base CX0 1 f fd ["self", "place"] (sp_x cO ["place"]) := by
  have S := S_Overlap_init
  refine F.ok S (fun vs H Q E h => ?_) (fun cdv A outer s H vs Q E hr h => ?_)
  · obtain ⟨x, ws, rfl, hl, _⟩ := h; rw [List.length_cons, hl]; rfl
  · obtain ⟨x, ws, rfl, hl, hx, q⟩ := h
    obtain ⟨v0, rfl⟩ := len1 hl
    refine ⟨_, (pss_one (ps_xfldK (K := K) (pv 0) (pv 1) rfl)), ?_⟩
    refine ⟨_, rfl, _, rfl, x, cO, rfl, R.cl_Overlap, R.n_Overlap, .inl ⟨hx, fun d hd => ?_⟩⟩
    obtain ⟨e1, e2, e3⟩ := xfin (H1 := H) (Q := Q) (o1 := ExcD d [("place", v0)]) (o2 := ExcO cO d x) hx hd
    exact q d _ hd e1 e2 e3
theorem S_Bare_init : FnScope ["self", "square"] ["self", "square"] (defScope s_Bare_init) := ⟨rfl, rfl, rfl, by decide +kernel, rfl, by decide +kernel, by decide +kernel⟩
theorem ok_Bare_init {f : Addr} {fd : FuncData} (F : Fun K "__init__" "Bare.__init__" s_Bare_init f fd) (R : RK mg K cS cM cP cO cB) : FnOk P w K mg base CX0 1 f fd ["self", "square"] (sp_x cB ["square"]) := by
  have S := S_Bare_init
  refine F.ok S (fun vs H Q E h => ?_) (fun cdv A outer s H vs Q E hr h => ?_)
  · obtain ⟨x, ws, rfl, hl, _⟩ := h; rw [List.length_cons, hl]; rfl
  · obtain ⟨x, ws, rfl, hl, hx, q⟩ := h
    obtain ⟨v0, rfl⟩ := len1 hl
    refine ⟨_, (pss_one (ps_xfldK (K := K) (pv 0) (pv 1) rfl)), ?_⟩
    refine ⟨_, rfl, _, rfl, x, cB, rfl, R.cl_Bare, R.n_Bare, .inl ⟨hx, fun d hd => ?_⟩⟩
    obtain ⟨e1, e2, e3⟩ := xfin (H1 := H) (Q := Q) (o1 := ExcD d [("square", v0)]) (o2 := ExcO cB d x) hx hd
    exact q d _ hd e1 e2 e3
def lsL (us : List (Addr × Rc)) : List (Addr × List Int) := us.map fun t => (t.1, t.2.ls)
theorem lsL_refs (us : List (Addr × Rc)) : (lsL us).map (fun t => V.ref t.1) = refs us := by unfold lsL; rw [List.map_map]; rfl
theorem sr0 {us : List (Addr × Rc)} (h : us.length ≤ 52) : (lsL us).length < 64 := by unfold lsL; rw [List.length_map]; first | lia | omega
theorem sr1 {H : Hp} {acc : Addr} {us : List (Addr × Rc)} (hl : SqL K H acc (refs us)) : SqL K H acc ((lsL us).map fun t => V.ref t.1) := by rw [lsL_refs]; exact hl
theorem sr2 {H : Hp} {us : List (Addr × Rc)} (ha : At H us) : ∀ t ∈ lsL us, t.2.length = 3 + 1 ∧ H t.1 = some (.tup (t.2.map V.int)) := fun z hz => by
  obtain ⟨t, ht, rfl⟩ := List.mem_map.mp hz
  exact ⟨rfl, ha t ht⟩
theorem sr3 {us : List (Addr × Rc)} {w h : Int} (hin : ∀ p ∈ rcs us, p.In w h) (hw : w ≤ 12) (hh : h ≤ 12) : ∀ t ∈ lsL us, ∀ u ∈ lsL us, HT.lexLt t.2 u.2 = decide (key t.2 < key u.2) := fun z hz y hy => by
  obtain ⟨t, ht, rfl⟩ := List.mem_map.mp hz
  obtain ⟨u, hu', rfl⟩ := List.mem_map.mp hy
  exact key_lt (hin _ (List.mem_map.mpr ⟨t, ht, rfl⟩)) (hin _ (List.mem_map.mpr ⟨u, hu', rfl⟩)) hw hh hw hh
theorem sr4 {us : List (Addr × Rc)} {zs : List (Addr × List Int)} (hp : zs.Perm (lsL us)) (hs : (zs.map fun t => key t.2).Pairwise (· ≤ ·)) : ∃ us', us'.Perm us ∧ zs = lsL us' ∧ Srt (rcs us') := by
  obtain ⟨us', hp', rfl⟩ := perm_unmap hp rfl
  refine ⟨us', hp', rfl, ?_⟩
  unfold Srt
  rw [List.map_map] at hs ⊢
  exact hs
theorem decN (i : Int) : (!decide (V.int i = V.int i)) = false := by rw [decide_eq_true rfl]; rfl
theorem no_panes {w h : Int} {ls ld : Addr} : (flds w h ls ld).lookup ("panes" : Str) = none := flds_no _ _ _ _ (by decide +kernel) (by decide +kernel) (by decide +kernel) (by decide +kernel)
theorem neq_same {H : Hp} {us vs : List (Addr × Rc)} (ha : At H us) (hb : At H vs) (e : rcs us = rcs vs) (hl : ∃ l, H l = some (.lst (refs us))) : deq (.lst (rcsD (rcs us))) (.lst (rcsD (rcs vs))) = true := by
  rw [← e]
  obtain ⟨l, h⟩ := hl
  exact deq_refl (K := []) (H := H) _ (listD_is (SqL.of h) ha)
theorem isB_ll : isB "list" "list" = true := by decide
theorem PanelAt.put {C : Addr} {H : Hp} {a : Addr} {w h : Int} {ts : List (Addr × Rc)} {dx ls ld l : Addr} {kvs : List (List Key × V)} {xs ys : List V} (p : PanelAt C H a w h ts dx ls ld kvs) (hl : H l = some (.lst xs)) (n : ls ≠ l) : PanelAt C (upd H l (.lst ys)) a w h ts dx ls ld kvs :=
  ⟨by rw [upd_ne (ne_of p.ob hl (by intro z; cases z))]; exact p.ob, by rw [upd_ne n]; exact p.lst, by rw [upd_ne (ne_of p.dic hl (by intro z; cases z))]; exact p.dic, fun t ht => by rw [upd_ne (ne_of (p.ats t ht) hl (by intro z; cases z))]; exact p.ats t ht, p.til, p.few, p.srt, p.look, p.sw, p.sh⟩
theorem At.put {H : Hp} {l : Addr} {ts : List (Addr × Rc)} {xs ys : List V} (a : At H ts) (hl : H l = some (.lst xs)) : At (upd H l (.lst ys)) ts := fun t ht => by rw [upd_ne (ne_of (a t ht) hl (by intro z; cases z))]; exact a t ht
abbrev N_law : List Str := ["_law_script", "_law_purse_here", "_law_width", "_law_height", "_law_panes", "_law_k", "_law_due_here", "_law_handed", "_law_kept", "_law_panel", "_law_e", "_law_told"]
theorem S_law : FnScope N_law ["_law_script"] (defScope s_law) := ⟨rfl, rfl, rfl, by decide +kernel, rfl, by decide +kernel, by decide +kernel⟩
theorem ok_lawC {f : Addr} {cdv : Value} {A : Around} {outer : List Env} {s : Shared} {H : Hp} {E : XK} (S : FnScope N_law ["_law_script"] (defScope s_law)) (hr : Room 5 (A.deeper (PyProof.Rows.envOfC "law" (defScope s_law) s.heap.objs.size f cdv))) (T : Txt mg tk) (PC : PCls K C) (M_Panel_panes : MdOk P w K mg base 1 C "panes" ["self"] (sp_panes C)) :
    ∃ t, PSs (cxOf CX0 P w K mg base N_law "law" (defScope s_law) f cdv A outer s H E).nox ((defBody s_law).drop 17) t ∧
      ∀ (D : Ends) (l lh x dx ls ld : Addr) (ww h : Int) (ts ts' : List (Addr × Rc)) (kvs : List (List Key × V)) (x0 x1 x5 x6 x10 x11 : Option V) (H5 : Hp), (∀ H', D.rt (.bl true) H') → H5 l = some (.lst (refs ts)) → H5 lh = some (.lst (refs ts)) → lh ≠ l → lh ≠ ls → At H5 ts → Tiles ww h (rcs ts) → ts.length ≤ 52 →
        PanelAt C H5 x ww h ts' dx ls ld kvs → ts'.Perm ts → t D [x0, x1, some (.int ww), some (.int h), some (.ref l), x5, x6, some (.ref lh), some .non, some (.ref x), x10, x11] H5 := by
  refine ⟨_, (pss_cons (ps_if (PW.pt (pw_or (pt_cmpR op_notN (pv 8) pe_non (nomark _)) (pw_or (pt_cmpR op_ne (pe_fldK (K := K) (pv 9) rfl) (pv 2) (nomark _)) (pw_or1 (pt_cmpR op_ne (pe_fldK (K := K) (pv 9) rfl) (pv 3) (nomark _)))))) (pss_one (ps_ret pe_bl)) pss_nil)
      (pss_cons (ps_expr (pe_bm0K (K := K) PySem.F.plainAttrs_list PySem.F.slot_list_pop PySem.F.type_list_pop mt_pop (pv 7)))
      (pss_cons (ps_set (i := 11) S.nd rfl (Or.inl rfl) (pe_md0 M_Panel_panes hr (pv 9)))
      (pss_cons (ps_if (PW.pt (pw_or (pt_not (pt_val (pe_callB call_isin rfl T.z_isinstance rfl (pa_cons (pv 11) (pa_cons (pe_bltn (v := .ty "list") rfl T.z_list rfl rfl) pa_nil))))) (pw_or (pt_cmpR (op_neDK (K := K) hr) (pv 11) (pe_callB (call_sortedTK (K := K)) rfl T.z_sorted rfl (pa_cons (pv 4) pa_nil)) (nomark _)) (pw_or1 (pt_not (pt_val (pe_callB (call_allK (K := K)) rfl T.z_all rfl (pa_cons (pe_comp rfl (pi_listK (K := K) (pv 11)) (fun _ _ _ _ _ => (pg_name (i := 0) (show List.Nodup (["_law_one"] : List Str) from by decide +kernel) rfl (Or.inl rfl))) (fun _ _ _ _ _ => (pe_callB call_isin rfl T.z_isinstance rfl (pa_cons (pv 0) (pa_cons (pe_bltn (v := .ty "tuple") rfl T.z_tuple rfl rfl) pa_nil)))) (N := ["_law_one"]) (fr := [none])) pa_nil)))))))) (pss_one (ps_ret pe_bl)) pss_nil)
      (pss_cons (ps_expr (pe_bmK (K := K) PySem.F.plainAttrs_list PySem.F.slot_list_append PySem.F.type_list_append mt_append (pv 11) (pa_cons pe_non pa_nil)))
      (pss_one (ps_ret (pe_cmpR (op_eqDK (K := K) hr) (pe_md0 M_Panel_panes hr (pv 9)) (pe_callB (call_sortedTK (K := K)) rfl T.z_sorted rfl (pa_cons (pv 4) pa_nil)) (nomark _))))))))), ?_⟩
  intro D l lh x dx ls ld ww h ts ts' kvs x0 x1 x5 x6 x10 x11 H5 k hl hlh nll nls hat til few pn pm
  refine ⟨_, rfl, rfl, _, rfl, iteN (by rw [decide_eq_true rfl]; rfl) ?_⟩
  refine ⟨_, rfl, x, C, dx, _, _, rfl, pn.ob, PC.cl, PC.n_width, flds_w _ _ _ _, _, rfl, rfl, _, rfl, iteN (decN _) ?_⟩
  refine ⟨_, rfl, x, C, dx, _, _, rfl, pn.ob, PC.cl, PC.n_height, flds_h _ _ _ _, _, rfl, rfl, _, rfl, iteN (decN _) ?_⟩
  have gw := pn.sw
  have gh := pn.sh
  have pos : 0 < (refs ts).length := by
    obtain ⟨p, hp, _⟩ := til.cov 0 0 (by first | lia | omega) (by first | lia | omega) (by first | lia | omega) (by first | lia | omega)
    obtain ⟨t, ht, _⟩ := List.mem_map.mp hp
    rw [List.length_map]
    exact List.length_pos_of_mem ht
  refine ⟨_, rfl, .inl ⟨rfl, _, SqL.of hlh⟩, lh, _, (refs ts)[(refs ts).length - 1]'(by first | lia | omega), rfl, rfl, hlh, List.getElem?_eq_getElem _, ?_⟩
  have pn6 : PanelAt C (upd H5 lh (.lst (refs ts).dropLast)) x ww h ts' dx ls ld kvs := pn.put hlh (Ne.symm nls)
  have hl6 : (upd H5 lh (.lst (refs ts).dropLast)) l = some (.lst (refs ts)) := by rw [upd_ne (Ne.symm nll)]; exact hl
  have hat6 : At (upd H5 lh (.lst (refs ts).dropLast)) ts := hat.put hlh
  generalize upd H5 lh (.lst (refs ts).dropLast) = H6 at pn6 hl6 hat6 ⊢
  refine ⟨_, rfl, x, dx, _, rfl, pn6.ob, no_panes, x, dx, ls, ld, ww, h, ts', kvs, rfl, pn6, fun l4 hl4 => ?_⟩
  have s7 : Same H6 (upd H6 l4 (.lst (refs ts'))) := Same.new hl4
  have e7 : (upd H6 l4 (.lst (refs ts'))) l4 = some (.lst (refs ts')) := upd_same
  have nl4 : l ≠ l4 := ne_of_none hl6 hl4
  have ns4 : ls ≠ l4 := ne_of_none pn6.lst hl4
  generalize upd H6 l4 (.lst (refs ts')) = H7 at s7 e7 ⊢
  refine ⟨_, rfl, _, "list", "list", rfl, ty_lst e7, .inr (.inr (.inr (.inl rfl))), _, rfl, iteN (by rw [isB_ll]; rfl) ?_⟩
  refine ⟨_, rfl, _, rfl, l, lsL ts, 3, key, rfl, sr1 (SqL.of (s7 _ _ hl6)), sr0 few, sr2 (hat6.same s7), sr3 til.ins gw.2 gh.2, fun l5 zs hl5 hpz hsz => ?_⟩
  obtain ⟨us, pus, rfl, sus⟩ := sr4 hpz hsz
  rw [lsL_refs]
  have s8 : Same H7 (upd H7 l5 (.lst (refs us))) := Same.new hl5
  have e8 : (upd H7 l5 (.lst (refs us))) l5 = some (.lst (refs us)) := upd_same
  generalize upd H7 l5 (.lst (refs us)) = H8 at s8 e8 ⊢
  have S8 := s7.trans s8
  have eus : rcs ts' = rcs us := sorted_same pn.til.ins gw.2 gh.2 ((pm.map _).trans (pus.map _).symm) pn.srt sus
  have aus : At H8 us := At.perm (hat6.same S8) pus
  have a4 : At H8 ts' := pn6.ats.same S8
  have l4' := s8 _ _ e7
  refine ⟨_, _, listD_is (SqL.of l4') a4, listD_is (SqL.of e8) aus, ⟨_, rfl⟩, ⟨_, rfl⟩, listD_dep _, _, rfl, iteN (by rw [if_pos rfl, neq_same a4 aus eus ⟨l4, l4'⟩]; rfl) ?_⟩
  refine ⟨_, rfl, l4, rfl, ⟨_, SqL.of l4'⟩, fun acc hacc => comp_list (K := K) (a := l4) (ys := refs ts') (fun i zs σ H' => (∃ y, σ = [y]) ∧ Same H8 H' ∧ zs = (List.replicate i true).map V.bl) ⟨⟨none, rfl⟩, Same.new hacc, rfl⟩
    (fun i zs σ H' _ _ hp => SqL.of (hp.2.1 _ _ l4')) ?_ ?_⟩
  · rintro i y zs σ H' hx hi hl' hacc' ⟨⟨y0, rfl⟩, hs, rfl⟩
    obtain ⟨u, hu', rfl⟩ := refs_get hx
    refine ⟨_, rfl, _, "tuple", "tuple", rfl, ty_tup (hs _ _ (a4 u (List.mem_of_getElem? hu'))), .inr (.inr (.inl rfl)), cNx.mk (Nat.le_of_lt (small1000 (by rw [List.length_map]; have := pn.few; first | lia | omega))) hi hl' hacc' ⟨⟨_, rfl⟩, fun b o e => ?_, ?_⟩⟩
    · rw [upd_ne (ne_of_none e hacc)]; exact hs b o e
    · rw [isB_tt, List.replicate_succ', List.map_append]; rfl
  · rintro zs σ H9 hl' hacc' ⟨_, hs, rfl⟩
    refine ⟨acc, _, rfl, SqL.of hacc', rfl, _, rfl, iteN (by simp) ?_⟩
    have S9 := S8.trans hs
    have l49 := hs _ _ l4'
    refine ⟨_, rfl, .inl ⟨rfl, _, SqL.of l49⟩, l4, _, .non, rfl, rfl, l49, small1000 (by rw [List.length_map]; have := pn.few; first | lia | omega), ?_⟩
    have pn9 : PanelAt C (upd H9 l4 (.lst (refs ts' ++ [.non]))) x ww h ts' dx ls ld kvs := (pn6.same S9).put l49 ns4
    have hl9 : (upd H9 l4 (.lst (refs ts' ++ [.non]))) l = some (.lst (refs ts)) := by rw [upd_ne nl4]; exact S9 _ _ hl6
    have hat9 : At (upd H9 l4 (.lst (refs ts' ++ [.non]))) ts := (hat6.same S9).put l49
    generalize upd H9 l4 (.lst (refs ts' ++ [.non])) = HA at pn9 hl9 hat9 ⊢
    refine ⟨_, rfl, x, dx, _, rfl, pn9.ob, no_panes, x, dx, ls, ld, ww, h, ts', kvs, rfl, pn9, fun l6 hl6 => ?_⟩
    have sB : Same HA (upd HA l6 (.lst (refs ts'))) := Same.new hl6
    have eB : (upd HA l6 (.lst (refs ts'))) l6 = some (.lst (refs ts')) := upd_same
    generalize upd HA l6 (.lst (refs ts')) = HB at sB eB ⊢
    refine ⟨_, rfl, l, lsL ts, 3, key, rfl, sr1 (SqL.of (sB _ _ hl9)), sr0 few, sr2 (hat9.same sB), sr3 til.ins gw.2 gh.2, fun l7 zs hl7 hpz' hsz' => ?_⟩
    obtain ⟨us', pus', rfl, sus'⟩ := sr4 hpz' hsz'
    rw [lsL_refs]
    have sC : Same HB (upd HB l7 (.lst (refs us'))) := Same.new hl7
    have eC : (upd HB l7 (.lst (refs us'))) l7 = some (.lst (refs us')) := upd_same
    generalize upd HB l7 (.lst (refs us')) = HC at sC eC ⊢
    have eus' : rcs ts' = rcs us' := sorted_same pn.til.ins gw.2 gh.2 ((pm.map _).trans (pus'.map _).symm) pn.srt sus'
    have aC : At HC us' := At.perm (hat9.same (sB.trans sC)) pus'
    have aD : At HC ts' := pn9.ats.same (sB.trans sC)
    refine ⟨_, _, listD_is (SqL.of (sC _ _ eB)) aD, listD_is (SqL.of eC) aC, ⟨_, rfl⟩, ⟨_, rfl⟩, listD_dep _, ?_⟩
    rw [if_neg Bool.false_ne_true, neq_same aD aC eus' ⟨l6, sC _ _ eB⟩]
    exact k _
/-- the classes that the law names -/
structure GE (mg : Str → Option Value) (K : PySem.W.Frag) (cG cS cM cP cO cB : Addr) : Prop where
  g_GlassError : mg "GlassError" = some (.ref cG)
  x_GlassError : PySem.W.excIn K cG vErr "ValueError.__new__" = true
  m_NoSide : PySem.W.mroIn K cS (.ref cG) = some true
  m_TooMany : PySem.W.mroIn K cM (.ref cG) = some true
  m_NoPane : PySem.W.mroIn K cP (.ref cG) = some true
  m_Overlap : PySem.W.mroIn K cO (.ref cG) = some true
  m_Bare : PySem.W.mroIn K cB (.ref cG) = some true
theorem Outc.same {G G' : Hp} {wv hv dv : V} {xs : List V} {H1 : Hp} (o : Outc G wv hv xs dv H1) (s : Same G G') (g : ∀ x ∈ xs, Good G x) : Outc G' wv hv xs dv H1 := by
  rcases o with ⟨e, w, h, e1, e2, g1, g2, ka⟩ | ⟨t, k, v, e, ht, d⟩
  · exact .inl ⟨e, w, h, e1, e2, g1, g2, ka.same s⟩
  refine .inr ⟨t, k, v, e, ht, ?_⟩
  rcases d with d | d | ⟨w, h, e1, e2, g1, g2, d⟩
  · exact .inl d
  · exact .inr (.inl d)
  refine .inr (.inr ⟨w, h, e1, e2, g1, g2, ?_⟩)
  rcases d with d | ⟨n, a, b, c⟩ | ⟨n, a, b, c⟩ | ⟨q, z, a, b, c, d⟩
  · exact .inl d
  · exact .inr (.inl ⟨n, a, b, c.same s g⟩)
  · exact .inr (.inr (.inl ⟨n, a, b, c.same s⟩))
  · exact .inr (.inr (.inr ⟨q, z, a, b, c, d.same s⟩))
theorem flat_tyS {v : V} (h : flatV v = true) : ∃ T, ∀ H : Hp, tyS H v = some T := by cases v <;> first | exact ⟨_, fun _ => rfl⟩ | cases h
theorem lookup1 {f : Str} {v : V} : ([(f, v)] : List (Str × V)).lookup f = some v := by simp [List.lookup]
def pairD (x y : Int) : D := .tup (.cons (.at (.int x)) (.cons (.at (.int y)) .nil))
theorem pairD_is {H : Hp} {q : Addr} {x y : Int} (h : H q = some (.tup [.int x, .int y])) : DIs K H (pairD x y) (.ref q) := by
  rw [pairD, DIs]
  refine ⟨q, _, rfl, SqT.of h, ?_⟩
  rw [DIss]
  refine ⟨_, _, rfl, by rw [DIs]; exact ⟨rfl, rfl⟩, ?_⟩
  rw [DIss]
  exact ⟨_, _, rfl, by rw [DIs]; exact ⟨rfl, rfl⟩, by rw [DIss]⟩
theorem pairD_dep (x y : Int) : dep (pairD x y) = 1 := by simp [pairD, dep, deps]
theorem ok_lawB {f : Addr} {cdv : Value} {A : Around} {outer : List Env} {s : Shared} {H : Hp} {E : XK} {cG : Addr} (S : FnScope N_law ["_law_script"] (defScope s_law)) (hr : Room 5 (A.deeper (PyProof.Rows.envOfC "law" (defScope s_law) s.heap.objs.size f cdv))) (T : Txt mg tk) (PC : PCls K C) (R : GE mg K cG cS cM cP cO cB) (M_Panel_panes : MdOk P w K mg base 1 C "panes" ["self"] (sp_panes C))
    (K_Panel : MkOkX P w K mg base 4 "Panel" C ["self", "width", "height", "panes"] (sp_Panel1 K C cS cM cP cO cB)) (D__law_due : DefOk P w K mg base 3 "_law_due" ["_law_width", "_law_height", "_law_panes"] (sp_due K)) (D__law_kind : DefOk P w K mg base 1 "_law_kind" ["_law_e"] (sp_kind K cS cM cP cO cB))
    (D__law_flags : DefOk P w K mg base 1 "_law_flags" ["_law_e"] (sp_flags cS cM cP cO cB)) (D__law_same : DefOk P w K mg base 1 "_law_same" ["_law_one", "_law_other"] (sp_same K)) :
    ∃ t, PSs (cxOf CX0 P w K mg base N_law "law" (defScope s_law) f cdv A outer s H E).nox ((defBody s_law).drop 10) t ∧
      ∀ (D : Ends) (l : Addr) (wv hv : V) (xs : List V) (x0 x1 x5 : Option V) (HA : Hp), (∀ H', D.rt (.bl true) H') → HA l = some (.lst xs) → xs.length ≤ 300 → (∀ v ∈ xs, Thg HA l v) → flatV wv = true → flatV hv = true →
        t D [x0, x1, some wv, some hv, some (.ref l), x5, none, none, none, none, none, none] HA := by
  obtain ⟨tC, hC, kC⟩ := ok_lawC (f := f) (cdv := cdv) (outer := outer) (s := s) (H := H) (E := E) S hr T PC M_Panel_panes
  refine ⟨_, (pss_cons (ps_set (i := 6) S.nd rfl (Or.inl rfl) (pe_fn D__law_due hr (pa_cons (pv 2) (pa_cons (pv 3) (pa_cons (pv 4) pa_nil)))))
      (pss_cons (ps_set (i := 7) S.nd rfl (Or.inl rfl) (pe_callTy (call_list_ofK (K := K)) rfl T.z_list rfl (pa_cons (pv 4) pa_nil)))
      (pss_cons (ps_set (i := 8) S.nd rfl (Or.inl rfl) pe_non)
      (pss_cons (ps_set (i := 9) S.nd rfl (Or.inl rfl) pe_non)
      (pss_cons (ps_tryset (i := 9) (im := 10) S.nd rfl (Or.inl rfl) rfl rfl (fun _ => px_mk K_Panel hr (pa_cons (pv 2) (pa_cons (pv 3) (pa_cons (pv 7) pa_nil)))) rfl R.g_GlassError R.x_GlassError rfl rfl (fun _ => (pss_one (ps_set (i := 8) S.nd rfl (Or.inl rfl) (pv 10)))))
      (pss_cons (ps_if (pt_cmpR (op_neDK (K := K) hr) (pv 7) (pv 4) (nomark _)) (pss_one (ps_ret pe_bl)) pss_nil)
      (pss_cons (ps_if (pt_cmpR op_notN (pv 6) pe_non (nomark _)) (pss_one (ps_ret (pe_and (pe_cmpR op_notN (pv 8) pe_non (nomark _)) (pe_and (pe_fn D__law_flags hr (pa_cons (pv 8) pa_nil)) (pe_one (pe_fn D__law_same hr (pa_cons (pe_fn D__law_kind hr (pa_cons (pv 8) pa_nil)) (pa_cons (pv 6) pa_nil)))))))) pss_nil)
      hC))))))), ?_⟩
  intro D l wv hv xs x0 x1 x5 HA k hl few ht fw fh
  refine ⟨_, rfl, _, rfl, _, rfl, due_of (E := E0) (SqL.of hl) (fun x hx => (ht x hx).good) few (flat_ty fw) (flat_ty fh) fun dv H1 s1 oc => ?_⟩
  refine ⟨_, rfl, l, xs, rfl, .inl (SqL.of (s1 _ _ hl)), fun lh hlh => ?_⟩
  have nlh : lh ≠ l := Ne.symm (ne_of_none (s1 _ _ hl) hlh)
  have s2 : Same H1 (upd H1 lh (.lst xs)) := Same.new hlh
  have e2 : (upd H1 lh (.lst xs)) lh = some (.lst xs) := upd_same
  generalize upd H1 lh (.lst xs) = H2 at s2 e2 ⊢
  have S2 := s1.trans s2
  have eqs : ∀ {H4 : Hp}, Same H2 H4 → ∃ ds, DIs K H4 (.lst ds) (.ref lh) ∧ DIs K H4 (.lst ds) (.ref l) ∧ dep (.lst ds) ≤ 50 := fun {H4} s4 => by
    have t4 : ∀ v ∈ xs, Thg H4 l v := fun v hv => (ht v hv).samey (S2.trans s4)
    obtain ⟨ds, hds, dds, _⟩ := thgs_dat (K := K) t4
    exact ⟨ds, by rw [DIs]; exact ⟨lh, xs, rfl, SqL.of (s4 _ _ e2), hds⟩, by rw [DIs]; exact ⟨l, xs, rfl, SqL.of (s4 _ _ (S2 _ _ hl)), hds⟩, by rw [dep]; first | lia | omega⟩
  -- the panel, or what it is refused with
  refine ⟨fun v d H' => ∃ H3, Same H2 H3 ∧ XE H3 (Mtch cS cM cP cO cB H1 dv) v d H', ⟨_, rfl, _, rfl, _, rfl, fun x dx nx ndx nex => ?_⟩, ?_⟩
  · show sp_Panel1 K C cS cM cP cO cB [.ref x, wv, hv, .ref lh] _ _ _
    have s3 : Same H2 (upd (upd H2 dx (.own x)) x (.ins C dx [])) := fun b o e => by
      rw [upd_ne (ne_of_none e nx), upd_ne (ne_of_none e ndx)]; exact e
    have e3 : (upd (upd H2 dx (.own x)) x (.ins C dx [])) x = some (.ins C dx []) := upd_same
    generalize upd (upd H2 dx (.own x)) x (.ins C dx []) = H3 at s3 e3 ⊢
    have S3 := S2.trans s3
    have gd : ∀ y ∈ xs, Good H3 y := fun y hy => ((ht y hy).samey S3).good
    refine panel_of (H1 := H1) (dv := dv) e3 (SqL.of (s3 _ _ e2)) gd few (flat_ty fw) (flat_ty fh) fw fh (oc.same S3 (fun y hy => (ht y hy).good)) (fun v d H' h => ⟨H3, s3, h⟩) ?_
    rintro ww hh ts' ls ld kvs H' ts rfl rfl gw gh rfl rfl hat til hfew sx nls pm pn
    refine ⟨rfl, ?_⟩
    have s4 : Same H2 H' := fun b o e => sx b o (ne_of_none e nx) (s3 b o e)
    obtain ⟨ds, d1, d2, dd⟩ := eqs s4
    refine ⟨_, rfl, _, rfl, _, _, d1, d2, ⟨_, rfl⟩, ⟨_, rfl⟩, dd, _, rfl, iteN (by rw [if_pos rfl, deq_refl _ d1]; rfl) ?_⟩
    refine ⟨_, rfl, rfl, _, rfl, iteN (by rw [decide_eq_true rfl]; rfl) ?_⟩
    exact kC D l lh x dx ls ld ww hh ts ts' kvs _ _ _ _ _ _ H' k (s4 _ _ (S2 _ _ hl)) (s4 _ _ e2) nlh (ne_of_none (s3 _ _ e2) nls) (fun t ht => sx _ _ (ne_of (hat t ht) e3 (by intro z; cases z)) (hat t ht)) til hfew pn pm
  · rintro x C' d T0 T2 H' ⟨H3, s3, x', C2, dx, fs, ev, rfl, hx, s34, xr, m⟩ fl hT2 nT2
    obtain rfl : x = x' := Value.ref.inj ev
    obtain ⟨rfl, xr', s5⟩ := xr_on hx s34 xr fl hT2
    obtain ⟨t, k', v, fn, v', rfl, ht1, rfl, kc, mv⟩ := m
    have hmro : PySem.W.mroIn K C2 (.ref cG) = some true := by
      rcases kc with ⟨rfl, _⟩ | ⟨rfl, _⟩ | ⟨rfl, _⟩ | ⟨rfl, _⟩ | ⟨rfl, _⟩
      · exact R.m_NoSide
      · exact R.m_TooMany
      · exact R.m_NoPane
      · exact R.m_Overlap
      · exact R.m_Bare
    have hcl : C2 = cS ∨ C2 = cM ∨ C2 = cP ∨ C2 = cO ∨ C2 = cB := by
      rcases kc with ⟨h, _⟩ | ⟨h, _⟩ | ⟨h, _⟩ | ⟨h, _⟩ | ⟨h, _⟩
      · exact .inl h
      · exact .inr (.inl h)
      · exact .inr (.inr (.inl h))
      · exact .inr (.inr (.inr (.inl h)))
      · exact .inr (.inr (.inr (.inr h)))
    have mv' : (v' = v ∧ flatV v = true) ∨ ∃ q q' y1 y2, v = .ref q ∧ v' = .ref q' ∧ H1 q = some (.tup [.int y1, .int y2]) ∧ (thrown H' x C2 (some dx) T2) q' = some (.tup [.int y1, .int y2]) := by
      rcases mv with mv | ⟨q, q', y1, y2, e1, e2, h1, h2⟩
      · exact .inl mv
      · obtain ⟨_, T5, hxx⟩ := xr
        exact .inr ⟨q, q', y1, y2, e1, e2, h1, by rw [thrown_ne (ne_of h2 hxx (by intro z; cases z)) (ne_of_none h2 hT2)]; exact h2⟩
    obtain ⟨⟨dx', ed, nd, hd⟩, T3, hxT⟩ := xr'
    cases ed
    have S5 : Same H2 (thrown H' x C2 (some dx) T2) := s3.trans s5
    generalize thrown H' x C2 (some dx) T2 = H5 at mv' hd hxT S5 ⊢
    refine ⟨hmro, _, rfl, ?_⟩
    obtain ⟨ds, d1, d2, dd⟩ := eqs S5
    refine ⟨_, rfl, _, rfl, _, _, d1, d2, ⟨_, rfl⟩, ⟨_, rfl⟩, dd, _, rfl, iteN (by rw [if_pos rfl, deq_refl _ d1]; rfl) ?_⟩
    refine ⟨_, rfl, rfl, _, rfl, iteP (by rw [decide_eq_false (by intro z; cases z)]; rfl) ?_⟩
    refine ⟨_, rfl, rfl, _, rfl, iteP (by rw [decide_eq_false (by intro z; cases z)]; rfl) ?_⟩
    refine ⟨_, rfl, x, C2, rfl, .inl ⟨dx, _, .inr ⟨T3, hxT⟩, hd⟩, hcl, fun H6 s6 => ⟨_, rfl, iteP rfl ?_⟩⟩
    refine ⟨_, rfl, x, C2, dx, _, fn, k', v', rfl, .inr ⟨T3, s6 _ _ hxT⟩, s6 _ _ hd, lookup1, kc, fun t2 ht2 => ?_⟩
    have s7 : Same H6 (upd H6 t2 (.tup [.str k', v'])) := Same.new ht2
    have e7 : (upd H6 t2 (.tup [.str k', v'])) t2 = some (.tup [.str k', v']) := upd_same
    generalize upd H6 t2 (.tup [.str k', v']) = H7 at s7 e7 ⊢
    have S7 : Same H1 H7 := ((s2.trans S5).trans s6).trans s7
    have et := S7 _ _ ht1
    rcases mv' with ⟨rfl, fl'⟩ | ⟨q, q', y1, y2, rfl, rfl, h1, h2⟩
    · obtain ⟨T6, hT6⟩ := flat_tyS fl'
      exact ⟨_, rfl, t2, t, k', _, _, .at v', T6, rfl, e7, et, by rw [DIs]; exact ⟨rfl, fl'⟩, by rw [DIs]; exact ⟨rfl, fl'⟩, by rw [dep]; first | lia | omega, hT6 _, hT6 _, k _⟩
    · exact ⟨_, rfl, t2, t, k', _, _, pairD y1 y2, "tuple", rfl, e7, et, pairD_is ((s6.trans s7) _ _ h2), pairD_is (S7 _ _ h1), by rw [pairD_dep]; first | lia | omega, ty_tup ((s6.trans s7) _ _ h2), ty_tup (S7 _ _ h1), k _⟩
theorem Spd.of {H : Hp} {p l : Addr} {xs : List V} {z : Int} (hl : H l = some (.lst xs)) (few : xs.length ≤ 144) (ht : ∀ v ∈ xs, Thg H l v) (hp : H p = some (.lst [.int z])) (n : l ≠ p) : Spd (fun _ => none) H p l xs := ⟨fun b o _ e => (by cases e), rfl, n, hl, few, ht, z, hp⟩
def sevens : List V := [.int 0, .int 13, .int (-1), .bl true, .non, .str "3", .int (10 ^ (20 : Int).toNat)]
theorem sevens_flat {v : V} (h : v ∈ sevens) : flatV v = true := by
  unfold sevens at h
  simp only [List.mem_cons, List.not_mem_nil, or_false] at h
  rcases h with rfl | rfl | rfl | rfl | rfl | rfl | rfl <;> rfl
def TupF (H : Hp) (v : V) : Prop := ∃ a ys, v = .ref a ∧ H a = some (.tup ys) ∧ ys.length ≤ 4 ∧ ∀ x ∈ ys, flatV x = true
theorem TupF.put {H : Hp} {l : Addr} {xs ys : List V} {v : V} (h : TupF H v) (hl : H l = some (.lst xs)) : TupF (upd H l (.lst ys)) v := by
  obtain ⟨a, zs, e, h1, h2, h3⟩ := h
  exact ⟨a, zs, e, by rw [upd_ne (ne_of h1 hl (by intro z; cases z))]; exact h1, h2, h3⟩
theorem TupF.same {H H' : Hp} {v : V} (h : TupF H v) (s : Same H H') : TupF H' v := let ⟨a, zs, e, h1, h2, h3⟩ := h; ⟨a, zs, e, s _ _ h1, h2, h3⟩
theorem rep_mem {t v : V} {n : Nat} (h : v ∈ (List.replicate n [t]).flatten) : v = t := by
  obtain ⟨l, hl, hv⟩ := List.mem_flatten.mp h
  rw [(List.mem_replicate.mp hl).2] at hv
  exact List.mem_singleton.mp hv
theorem ok_law {f : Addr} {fd : FuncData} {cG : Addr} (F : Fun K "law" "law" s_law f fd) (T : Txt mg tk) (PC : PCls K C) (R : GE mg K cG cS cM cP cO cB) (M_Panel_panes : MdOk P w K mg base 1 C "panes" ["self"] (sp_panes C))
    (K_Panel : MkOkX P w K mg base 4 "Panel" C ["self", "width", "height", "panes"] (sp_Panel1 K C cS cM cP cO cB)) (D__law_due : DefOk P w K mg base 3 "_law_due" ["_law_width", "_law_height", "_law_panes"] (sp_due K)) (D__law_kind : DefOk P w K mg base 1 "_law_kind" ["_law_e"] (sp_kind K cS cM cP cO cB))
    (D__law_flags : DefOk P w K mg base 1 "_law_flags" ["_law_e"] (sp_flags cS cM cP cO cB)) (D__law_same : DefOk P w K mg base 1 "_law_same" ["_law_one", "_law_other"] (sp_same K))
    (D__law_purse : DefOk P w K mg base 1 "_law_purse" ["_law_script", "_law_k"] (sp_purse K)) (D__law_take : DefOk P w K mg base 1 "_law_take" ["_law_purse_here", "_law_many"] sp_take)
    (D__law_tiled : DefOk P w K mg base 2 "_law_tiled" ["_law_script", "_law_k", "_law_width", "_law_height"] (sp_tiled K)) (D__law_spoiled : DefOk P w K mg base 2 "_law_spoiled" ["_law_panes", "_law_purse_here", "_law_width", "_law_height"] (sp_spoiled K)) :
    FnOk P w K mg base CX0 6 f fd ["_law_script"] (sp_law K) := by
  have S := S_law
  refine F.ok S (fun vs H Q E h => ?_) (fun cdv A outer s H vs Q E hr h => ?_)
  · obtain ⟨a, ns, rfl, _⟩ := h; rfl
  · obtain ⟨a, ns, rfl, hS, hlen, k⟩ := h
    obtain ⟨tB, hB, kB⟩ := ok_lawB (f := f) (cdv := cdv) (outer := outer) (s := s) (H := H) (E := E) S hr T PC R M_Panel_panes K_Panel D__law_due D__law_kind D__law_flags D__law_same
    obtain ⟨t9, h9, k9⟩ : ∃ rd, PSs (cxOf CX0 P w K mg base N_law "law" (defScope s_law) f cdv A outer s H E).nox ((defBody s_law).drop 9) rd ∧ ∀ (l p : Addr) (wv hv : V) (xs : List V) (x0 x5 : Option V) (H7 : Hp), Spd (fun _ => none) H7 p l xs → flatV wv = true → flatV hv = true →
        rd { nx := fun _ H' => Q .non H', rt := Q } [x0, some (.ref p), some wv, some hv, some (.ref l), x5, none, none, none, none, none, none] H7 := by
      refine ⟨_, (pss_cons (ps_if (pt_cmpR op_eq (pe_fn D__law_take hr (pa_cons (pv 1) (pa_cons pe_int pa_nil))) pe_int (nomark _)) (pss_one (ps_set (i := 4) S.nd rfl (Or.inl rfl) (pe_op op_rep (pe_lst (pa_cons (pe_tup (pa_cons pe_int (pa_cons pe_int (pa_cons pe_int (pa_cons pe_int pa_nil))))) pa_nil)) (pe_op op_add pe_int (pe_fn D__law_take hr (pa_cons (pv 1) (pa_cons pe_int pa_nil))))))) pss_nil)
      hB), ?_⟩
      intro l p wv hv xs x0 x5 H7 S7 fw fh
      obtain ⟨z, hz⟩ := S7.purse
      refine ⟨_, rfl, p, z, 9, rfl, hz, by decide, by decide, fun c z8 c0 c1 => ?_⟩
      have S8 := S7.take (z' := z8)
      have p8 : (upd H7 p (.lst [.int z8])) p = some (.lst [.int z8]) := upd_same
      generalize upd H7 p (.lst [.int z8]) = H8 at S8 p8 ⊢
      refine ⟨rfl, _, rfl, ite3 (fun h => ?_) (fun h => ?_)⟩
      · refine ⟨lenOk 4, fun t ht => ⟨lenOk 1, fun o ho => ?_⟩⟩
        have st := Same.new (o := .tup (four 0 0 1 1)) ht
        have et : (upd H8 t (.tup (four 0 0 1 1))) t = some (.tup (four 0 0 1 1)) := upd_same
        have so := Same.new (o := .lst [.ref t]) ho
        have eo : (upd (upd H8 t (.tup (four 0 0 1 1))) o (.lst [.ref t])) o = some (.lst [.ref t]) := upd_same
        have et2 := so _ _ et
        have p9 := so _ _ (st _ _ p8)
        have npo : o ≠ p := Ne.symm (ne_of_none (st _ _ p8) ho)
        refine ⟨_, rfl, p, z8, 3, rfl, p9, by decide, by decide, fun r z9 r0 r1 => ⟨_, _, rfl, rfl, o, 53 + r, [.ref t], rfl, rfl, by rw [upd_ne npo]; exact eo, by first | lia | omega, by first | lia | omega, Nat.le_of_lt (small1000 (by rw [List.length_singleton]; first | lia | omega)), fun l' hl' => ?_⟩⟩
        have et3 : (upd (upd (upd H8 t (.tup (four 0 0 1 1))) o (.lst [.ref t])) p (.lst [.int z9])) t = some (.tup (four 0 0 1 1)) := by rw [upd_ne (ne_of et2 p9 (by intro z; cases z))]; exact et2
        refine kB _ l' wv hv _ _ _ _ _ (fun H' => k H') upd_same (by rw [len_rep, List.length_singleton]; first | lia | omega) (fun v hv => ?_) fw fh
        rw [rep_mem hv]
        exact .inr (.inl ⟨t, _, rfl, Same.new hl' _ _ et3, by decide, flat4 rfl rfl rfl rfl⟩)
      · exact kB _ l wv hv xs _ _ _ _ (fun H' => k H') S8.lst (by have := S8.few; first | lia | omega) S8.thg fw fh
    obtain ⟨t8, h8, k8⟩ : ∃ rd, PSs (cxOf CX0 P w K mg base N_law "law" (defScope s_law) f cdv A outer s H E).nox ((defBody s_law).drop 8) rd ∧ ∀ (l p : Addr) (wv hv : V) (xs : List V) (x0 x5 : Option V) (H7 : Hp), Spd (fun _ => none) H7 p l xs → flatV wv = true → flatV hv = true →
        rd { nx := fun _ H' => Q .non H', rt := Q } [x0, some (.ref p), some wv, some hv, some (.ref l), x5, none, none, none, none, none, none] H7 := by
      refine ⟨_, (pss_cons (ps_if (pt_cmpR op_eq (pe_fn D__law_take hr (pa_cons (pv 1) (pa_cons pe_int pa_nil))) pe_int (nomark _)) (pss_one (ps_set (i := 3) S.nd rfl (Or.inl rfl) (pe_ix (ix_listK (K := K)) (pe_lst (pa_cons pe_int (pa_cons pe_int (pa_cons (pe_un un_neg pe_int) (pa_cons pe_bl (pa_cons pe_non (pa_cons pe_str (pa_cons (pe_op op_pow pe_int pe_int) pa_nil)))))))) (pe_fn D__law_take hr (pa_cons (pv 1) (pa_cons pe_int pa_nil))) (fun _ _ => rfl)))) pss_nil)
      h9), ?_⟩
      intro l p wv hv xs x0 x5 H7 S7 fw fh
      obtain ⟨z, hz⟩ := S7.purse
      refine ⟨_, rfl, p, z, 9, rfl, hz, by decide, by decide, fun c z8 c0 c1 => ?_⟩
      have S8 := S7.take (z' := z8)
      have p8 : (upd H7 p (.lst [.int z8])) p = some (.lst [.int z8]) := upd_same
      generalize upd H7 p (.lst [.int z8]) = H8 at S8 p8 ⊢
      refine ⟨rfl, _, rfl, ite3 (fun h => ?_) (fun h => ?_)⟩
      · refine ⟨_, rfl, _, _, rfl, rfl, pow20, lenOk 7, fun o ho => ?_⟩
        have so : Same H8 (upd H8 o (.lst sevens)) := Same.new ho
        have eo : (upd H8 o (.lst sevens)) o = some (.lst sevens) := upd_same
        have npo : o ≠ p := Ne.symm (ne_of_none p8 ho)
        refine ⟨_, rfl, p, z8, 7, rfl, so _ _ p8, by decide, by decide, fun r z9 r0 r1 => ?_⟩
        obtain ⟨v, hv, hm⟩ := atI_in (L := sevens) (i := r) r0 r1
        exact ⟨o, sevens, r, v, rfl, rfl, SqL.of (by rw [upd_ne npo]; exact eo), hv, k9 l p wv v xs _ _ _ (S8.to so).take fw (sevens_flat hm)⟩
      · exact k9 l p wv hv xs _ _ _ S8 fw fh
    obtain ⟨t7, h7, k7⟩ : ∃ rd, PSs (cxOf CX0 P w K mg base N_law "law" (defScope s_law) f cdv A outer s H E).nox ((defBody s_law).drop 7) rd ∧ ∀ (l p : Addr) (wv hv : V) (xs : List V) (x0 x5 : Option V) (H7 : Hp), Spd (fun _ => none) H7 p l xs → flatV wv = true → flatV hv = true →
        rd { nx := fun _ H' => Q .non H', rt := Q } [x0, some (.ref p), some wv, some hv, some (.ref l), x5, none, none, none, none, none, none] H7 := by
      refine ⟨_, (pss_cons (ps_if (pt_cmpR op_eq (pe_fn D__law_take hr (pa_cons (pv 1) (pa_cons pe_int pa_nil))) pe_int (nomark _)) (pss_one (ps_set (i := 2) S.nd rfl (Or.inl rfl) (pe_ix (ix_listK (K := K)) (pe_lst (pa_cons pe_int (pa_cons pe_int (pa_cons (pe_un un_neg pe_int) (pa_cons pe_bl (pa_cons pe_non (pa_cons pe_str (pa_cons (pe_op op_pow pe_int pe_int) pa_nil)))))))) (pe_fn D__law_take hr (pa_cons (pv 1) (pa_cons pe_int pa_nil))) (fun _ _ => rfl)))) pss_nil)
      h8), ?_⟩
      intro l p wv hv xs x0 x5 H7 S7 fw fh
      obtain ⟨z, hz⟩ := S7.purse
      refine ⟨_, rfl, p, z, 9, rfl, hz, by decide, by decide, fun c z8 c0 c1 => ?_⟩
      have S8 := S7.take (z' := z8)
      have p8 : (upd H7 p (.lst [.int z8])) p = some (.lst [.int z8]) := upd_same
      generalize upd H7 p (.lst [.int z8]) = H8 at S8 p8 ⊢
      refine ⟨rfl, _, rfl, ite3 (fun h => ?_) (fun h => ?_)⟩
      · refine ⟨_, rfl, _, _, rfl, rfl, pow20, lenOk 7, fun o ho => ?_⟩
        have so : Same H8 (upd H8 o (.lst sevens)) := Same.new ho
        have eo : (upd H8 o (.lst sevens)) o = some (.lst sevens) := upd_same
        have npo : o ≠ p := Ne.symm (ne_of_none p8 ho)
        refine ⟨_, rfl, p, z8, 7, rfl, so _ _ p8, by decide, by decide, fun r z9 r0 r1 => ?_⟩
        obtain ⟨v, hat, hm⟩ := atI_in (L := sevens) (i := r) r0 r1
        exact ⟨o, sevens, r, v, rfl, rfl, SqL.of (by rw [upd_ne npo]; exact eo), hat, k8 l p v hv xs _ _ _ (S8.to so).take (sevens_flat hm) fh⟩
      · exact k8 l p wv hv xs _ _ _ S8 fw fh
    refine ⟨_, (pss_cons (ps_set (i := 1) S.nd rfl (Or.inl rfl) (pe_fn D__law_purse hr (pa_cons (pv 0) (pa_cons pe_int pa_nil))))
      (pss_cons (ps_set (i := 2) S.nd rfl (Or.inl rfl) (pe_op op_add pe_int (pe_fn D__law_take hr (pa_cons (pv 1) (pa_cons pe_int pa_nil)))))
      (pss_cons (ps_set (i := 3) S.nd rfl (Or.inl rfl) (pe_op op_add pe_int (pe_fn D__law_take hr (pa_cons (pv 1) (pa_cons pe_int pa_nil)))))
      (pss_cons (ps_set (i := 4) S.nd rfl (Or.inl rfl) (pe_fn D__law_tiled hr (pa_cons (pv 0) (pa_cons pe_int (pa_cons (pv 2) (pa_cons (pv 3) pa_nil))))))
      (pss_cons (ps_for PassesOwn.never rfl (pi_range1 rfl T.z_range (pa_cons (pe_callB (call_len_seqK (K := K)) rfl T.z_len rfl (pa_cons (pv 4) pa_nil)) pa_nil)) (pg_name (i := 5) S.nd rfl (Or.inl rfl)) (pss_one (ps_expr (pe_bmK (K := K) PySem.F.plainAttrs_list PySem.F.slot_list_insert PySem.F.type_list_insert mt_insert (pv 4) (pa_cons (pe_fn D__law_take hr (pa_cons (pe_fn D__law_purse hr (pa_cons (pv 0) (pa_cons (pv 5) pa_nil))) (pa_cons (pe_callB (call_len_seqK (K := K)) rfl T.z_len rfl (pa_cons (pv 4) pa_nil)) pa_nil))) (pa_cons (pe_bmK (K := K) PySem.F.plainAttrs_list PySem.F.slot_list_pop PySem.F.type_list_pop mt_popAt (pv 4) (pa_cons (pv 5) pa_nil)) pa_nil))))))
      (pss_cons (ps_set (i := 1) S.nd rfl (Or.inl rfl) (pe_fn D__law_purse hr (pa_cons (pv 0) (pa_cons pe_int pa_nil))))
      (pss_cons (ps_if (pt_cmpR op_gt (pe_fn D__law_take hr (pa_cons (pv 1) (pa_cons pe_int pa_nil))) pe_int (nomark _)) (pss_one (ps_set (i := 4) S.nd rfl (Or.inl rfl) (pe_fn D__law_spoiled hr (pa_cons (pv 4) (pa_cons (pv 1) (pa_cons (pv 2) (pa_cons (pv 3) pa_nil))))))) pss_nil)
      h7))))))), ?_⟩
    refine ⟨_, rfl, a, ns, 0, rfl, hS, by decide, by decide, fun p z hp => ?_⟩
    refine ⟨_, rfl, p, z, 12, rfl, upd_same, by decide, by decide, fun w0 z1 w00 w01 => ⟨_, _, rfl, rfl, ?_⟩⟩
    refine ⟨_, rfl, p, z1, 12, rfl, upd_same, by decide, by decide, fun h0 z2 h00 h01 => ⟨_, _, rfl, rfl, ?_⟩⟩
    have s1 : Same H (upd (upd (upd H p (.lst [.int z])) p (.lst [.int z1])) p (.lst [.int z2])) := fun b o e => by
      have n := ne_of_none e hp
      rw [upd_ne n, upd_ne n, upd_ne n]; exact e
    generalize upd (upd (upd H p (.lst [.int z])) p (.lst [.int z1])) p (.lst [.int z2]) = H1 at s1 ⊢
    refine ⟨_, rfl, _, rfl, _, rfl, a, ns, 5, 1 + w0, 1 + h0, rfl, s1.seq hS, by decide, by decide, ⟨by first | lia | omega, by first | lia | omega⟩, ⟨by first | lia | omega, by first | lia | omega⟩, fun lp ts H2 s2 nlp hlp hat few => ?_⟩
    refine ⟨_, rfl, lp, _, rfl, .inl (SqL.of hlp), _, rfl, by rw [List.length_map]; first | lia | omega, by rw [List.length_map]; first | lia | omega, for_range (lo := 0) (n := _) (fun i σ H' => (∃ x5, σ = [some (.ref a), some (.ref p), some (.int (1 + w0)), some (.int (1 + h0)), some (.ref lp), x5, none, none, none, none, none, none]) ∧ (∃ xs, H' lp = some (.lst xs) ∧ xs.length = ts.length ∧ ∀ v ∈ xs, TupF H' v) ∧ Same H1 H')
      ⟨⟨none, rfl⟩, ⟨refs ts, hlp, List.length_map _, fun v hv => ?_⟩, s2⟩ ?_ ?_⟩
    · obtain ⟨t, ht, rfl⟩ := List.mem_map.mp hv
      exact ⟨t.1, _, rfl, hat t ht, Nat.le_refl 4, flat4 rfl rfl rfl rfl⟩
    · rintro i σ H3 hi ⟨⟨x5, rfl⟩, ⟨xs, hx3, hxl, hT⟩, s3⟩
      have hi' : i < ts.length := by
        have : i < ((((refs ts).length : Nat) : Int)).toNat := hi
        rw [List.length_map] at this
        first | lia | omega
      refine ⟨_, rfl, .inl ⟨rfl, _, SqL.of hx3⟩, _, rfl, _, rfl, a, ns, 0 + (i : Int), rfl, (s1.trans s3).seq hS, by first | lia | omega, by first | lia | omega, fun pp z hpp => ?_⟩
      have npp : lp ≠ pp := ne_of_none hx3 hpp
      refine ⟨_, rfl, lp, _, rfl, .inl (SqL.of (by rw [upd_ne npp]; exact hx3)), pp, z, _, rfl, upd_same, by first | lia | omega, by first | lia | omega, fun r z' r0 r1 => ?_⟩
      have s4 : Same H3 (upd (upd H3 pp (.lst [.int z])) pp (.lst [.int z'])) := fun b o e => by
        have n := ne_of_none e hpp
        rw [upd_ne n, upd_ne n]; exact e
      generalize upd (upd H3 pp (.lst [.int z])) pp (.lst [.int z']) = H4 at s4 ⊢
      have hx4 := s4 _ _ hx3
      have hix : seqIndex? (0 + (i : Int)) xs.length = some i := by
        have := (ixN_seq (ixN_of (n := xs.length) (i := 0 + (i : Int)) (by first | lia | omega) (by first | lia | omega))).1
        rw [show (0 + (i : Int)).toNat = i by first | lia | omega] at this
        exact this
      have hil : i < xs.length := by first | lia | omega
      refine ⟨_, rfl, .inl ⟨rfl, _, SqL.of hx4⟩, _, rfl, lp, _, 0 + (i : Int), i, xs[i], rfl, rfl, hx4, by first | lia | omega, by first | lia | omega, hix, List.getElem?_eq_getElem hil, ?_⟩
      refine ⟨lp, _, r, xs[i], rfl, rfl, upd_same, r0, by first | lia | omega, small1000 (Nat.le_trans (len_erase _ _) (by first | lia | omega)), ?_⟩
      refine ⟨⟨_, rfl⟩, ⟨_, upd_same, ?_, fun v hv => TupF.put (TupF.put ?_ hx4) upd_same⟩, fun b o e => ?_⟩
      · rw [List.length_append, List.length_cons, List.length_take, List.length_drop, List.length_eraseIdx, if_pos hil]; first | lia | omega
      · rcases List.mem_append.mp hv with hv | hv
        · exact (hT v (List.mem_of_mem_eraseIdx (List.mem_of_mem_take hv))).same s4
        · rcases List.mem_cons.mp hv with rfl | hv
          · exact (hT _ (List.getElem_mem hil)).same s4
          · exact (hT v (List.mem_of_mem_eraseIdx (List.mem_of_mem_drop hv))).same s4
      · rw [upd_ne (ne_of_none e nlp), upd_ne (ne_of_none e nlp)]; exact s4 b o (s3 b o e)
    · rintro σ H3 ⟨⟨x5, rfl⟩, ⟨xs, hx3, hxl, hT⟩, s3⟩
      refine ⟨_, rfl, a, ns, 1, rfl, (s1.trans s3).seq hS, by decide, by decide, fun p5 z5 hp5 => ?_⟩
      have n5 : lp ≠ p5 := ne_of_none hx3 hp5
      refine ⟨_, rfl, p5, z5, 6, rfl, upd_same, by decide, by decide, fun c z6 c0 c1 => ?_⟩
      have s5 : Same H3 (upd (upd H3 p5 (.lst [.int z5])) p5 (.lst [.int z6])) := fun b o e => by
        have n := ne_of_none e hp5
        rw [upd_ne n, upd_ne n]; exact e
      have e5 : (upd (upd H3 p5 (.lst [.int z5])) p5 (.lst [.int z6])) p5 = some (.lst [.int z6]) := upd_same
      generalize upd (upd H3 p5 (.lst [.int z5])) p5 (.lst [.int z6]) = H5 at s5 e5 ⊢
      have hx5 := s5 _ _ hx3
      refine ⟨_, _, rfl, rfl, _, rfl, ite3 (fun h => ?_) (fun h => ?_)⟩
      · refine ⟨_, rfl, _, rfl, _, rfl, _, rfl, lp, p5, 1 + w0, 1 + h0, z6, xs, rfl, SqL.of hx5, by first | lia | omega, fun v hv => (hT v hv).same s5, e5, fun l' ys H' sx nl' hl' few' thg' pz' => ?_⟩
        obtain ⟨z', hz'⟩ := pz'
        exact k7 l' p5 _ _ ys _ _ H' (Spd.of hl' few' thg' hz' (Ne.symm (ne_of_none e5 nl'))) rfl rfl
      · exact k7 lp p5 _ _ xs _ _ H5 (Spd.of hx5 (by first | lia | omega) (fun v hv => .inr (.inl ((hT v hv).same s5))) e5 n5) rfl rfl
end
def clsAll (K : PySem.W.Frag) (cs : List Addr) (g : Addr) : Bool := cs.all (fun c => xclsB K c && (PySem.W.mroIn K c (.ref g) == some true) && (PySem.W.kitOne K (.ref c) (.type "ValueError") == some true)) &&
  (List.range 5).all fun i => (List.range 5).all fun j => PySem.W.kitOne K (.ref (cs.getD i 0)) (.ref (cs.getD j 0)) == some (j == i)
theorem clsAll_of {K : PySem.W.Frag} {cs : List Addr} {g : Addr} (hl : cs.length = 5) (h : clsAll K cs g = true) : (∀ i, i < 5 → XCls K (cs.getD i 0)) ∧ (∀ i j, i < 5 → j < 5 → PySem.W.kitOne K (.ref (cs.getD i 0)) (.ref (cs.getD j 0)) = some (j == i)) ∧
    (∀ i, i < 5 → PySem.W.mroIn K (cs.getD i 0) (.ref g) = some true) ∧ ∀ i, i < 5 → PySem.W.kitOne K (.ref (cs.getD i 0)) (.type "ValueError") = some true := by
  unfold clsAll at h
  rw [Bool.and_eq_true, List.all_eq_true, List.all_eq_true] at h
  obtain ⟨h1, h2⟩ := h
  have hm : ∀ i, i < 5 → cs.getD i 0 ∈ cs := fun i hi => by
    rw [List.getD_eq_getElem?_getD, List.getElem?_eq_getElem (show i < cs.length by first | lia | omega)]
    exact List.getElem_mem _
  refine ⟨fun i hi => ?_, fun i j hi hj => ?_, fun i hi => ?_, fun i hi => ?_⟩
  · have := h1 _ (hm i hi)
    simp only [Bool.and_eq_true] at this
    exact XCls.of this.1.1
  · have := h2 i (List.mem_range.mpr hi)
    rw [List.all_eq_true] at this
    exact beq_iff_eq.mp (this j (List.mem_range.mpr hj))
  · have := h1 _ (hm i hi)
    simp only [Bool.and_eq_true, beq_iff_eq] at this
    exact this.1.2
  · have := h1 _ (hm i hi)
    simp only [Bool.and_eq_true, beq_iff_eq] at this
    exact this.2
theorem all_mk {l : PySem.W.OpenLaw} {w : World} {K : PySem.W.Frag} {h : Heap} {mg : Str → Option Value} {fa : Addr} (X : K.In h) (G : h.Ns mainGlobals mg) (hfa : mg "law" = some (.ref fa))
    {cG : Addr} (aG : PySem.W.nsIn K mainGlobals "GlassError" = some (some (.ref cG))) (eG : PySem.W.excIn K cG vErr "ValueError.__new__" = true)
    {cS : Addr} (aC_cS : PySem.W.nsIn K mainGlobals "NoSide" = some (some (.ref cS))) (kC_cS : PySem.W.keepIn K (.ref cS) = true) (nC_cS : PySem.W.findIn K (.ref cS) "side" = some none)
    {f_cS : Addr} {od_cS an_cS : Option Addr} {sl_cS : Array (Option Value)} {oc_cS kV_cS dc_cS pm_cS cd_cS ct_cS : Value} (a_cS : PySem.W.findIn K (.ref cS) "__init__" = some (some (.ref f_cS))) (i_cS : PySem.W.isFn K (.ref f_cS) = true) (l_cS : K.lookup f_cS = some ⟨oc_cS, od_cS, .func (PySem.W.fnOf "__init__" "NoSide.__init__" (defArgs s_NoSide_init) (defBody s_NoSide_init) (defScope s_NoSide_init) .none kV_cS dc_cS pm_cS an_cS cd_cS ct_cS), sl_cS⟩) (cc_cS : PySem.W.codeIn K cd_cS "NoSide.__init__" = true) (k_cS : PySem.W.keepIn K (.ref f_cS) = true)
    (ei_cS : excInI K cS f_cS = true)
    {cM : Addr} (aC_cM : PySem.W.nsIn K mainGlobals "TooMany" = some (some (.ref cM))) (kC_cM : PySem.W.keepIn K (.ref cM) = true) (nC_cM : PySem.W.findIn K (.ref cM) "many" = some none)
    {f_cM : Addr} {od_cM an_cM : Option Addr} {sl_cM : Array (Option Value)} {oc_cM kV_cM dc_cM pm_cM cd_cM ct_cM : Value} (a_cM : PySem.W.findIn K (.ref cM) "__init__" = some (some (.ref f_cM))) (i_cM : PySem.W.isFn K (.ref f_cM) = true) (l_cM : K.lookup f_cM = some ⟨oc_cM, od_cM, .func (PySem.W.fnOf "__init__" "TooMany.__init__" (defArgs s_TooMany_init) (defBody s_TooMany_init) (defScope s_TooMany_init) .none kV_cM dc_cM pm_cM an_cM cd_cM ct_cM), sl_cM⟩) (cc_cM : PySem.W.codeIn K cd_cM "TooMany.__init__" = true) (k_cM : PySem.W.keepIn K (.ref f_cM) = true)
    (ei_cM : excInI K cM f_cM = true)
    {cP : Addr} (aC_cP : PySem.W.nsIn K mainGlobals "NoPane" = some (some (.ref cP))) (kC_cP : PySem.W.keepIn K (.ref cP) = true) (nC_cP : PySem.W.findIn K (.ref cP) "place" = some none)
    {f_cP : Addr} {od_cP an_cP : Option Addr} {sl_cP : Array (Option Value)} {oc_cP kV_cP dc_cP pm_cP cd_cP ct_cP : Value} (a_cP : PySem.W.findIn K (.ref cP) "__init__" = some (some (.ref f_cP))) (i_cP : PySem.W.isFn K (.ref f_cP) = true) (l_cP : K.lookup f_cP = some ⟨oc_cP, od_cP, .func (PySem.W.fnOf "__init__" "NoPane.__init__" (defArgs s_NoPane_init) (defBody s_NoPane_init) (defScope s_NoPane_init) .none kV_cP dc_cP pm_cP an_cP cd_cP ct_cP), sl_cP⟩) (cc_cP : PySem.W.codeIn K cd_cP "NoPane.__init__" = true) (k_cP : PySem.W.keepIn K (.ref f_cP) = true)
    (ei_cP : excInI K cP f_cP = true)
    {cO : Addr} (aC_cO : PySem.W.nsIn K mainGlobals "Overlap" = some (some (.ref cO))) (kC_cO : PySem.W.keepIn K (.ref cO) = true) (nC_cO : PySem.W.findIn K (.ref cO) "place" = some none)
    {f_cO : Addr} {od_cO an_cO : Option Addr} {sl_cO : Array (Option Value)} {oc_cO kV_cO dc_cO pm_cO cd_cO ct_cO : Value} (a_cO : PySem.W.findIn K (.ref cO) "__init__" = some (some (.ref f_cO))) (i_cO : PySem.W.isFn K (.ref f_cO) = true) (l_cO : K.lookup f_cO = some ⟨oc_cO, od_cO, .func (PySem.W.fnOf "__init__" "Overlap.__init__" (defArgs s_Overlap_init) (defBody s_Overlap_init) (defScope s_Overlap_init) .none kV_cO dc_cO pm_cO an_cO cd_cO ct_cO), sl_cO⟩) (cc_cO : PySem.W.codeIn K cd_cO "Overlap.__init__" = true) (k_cO : PySem.W.keepIn K (.ref f_cO) = true)
    (ei_cO : excInI K cO f_cO = true)
    {cB : Addr} (aC_cB : PySem.W.nsIn K mainGlobals "Bare" = some (some (.ref cB))) (kC_cB : PySem.W.keepIn K (.ref cB) = true) (nC_cB : PySem.W.findIn K (.ref cB) "square" = some none)
    {f_cB : Addr} {od_cB an_cB : Option Addr} {sl_cB : Array (Option Value)} {oc_cB kV_cB dc_cB pm_cB cd_cB ct_cB : Value} (a_cB : PySem.W.findIn K (.ref cB) "__init__" = some (some (.ref f_cB))) (i_cB : PySem.W.isFn K (.ref f_cB) = true) (l_cB : K.lookup f_cB = some ⟨oc_cB, od_cB, .func (PySem.W.fnOf "__init__" "Bare.__init__" (defArgs s_Bare_init) (defBody s_Bare_init) (defScope s_Bare_init) .none kV_cB dc_cB pm_cB an_cB cd_cB ct_cB), sl_cB⟩) (cc_cB : PySem.W.codeIn K cd_cB "Bare.__init__" = true) (k_cB : PySem.W.keepIn K (.ref f_cB) = true)
    (ei_cB : excInI K cB f_cB = true)
    {C : Addr} (aC : PySem.W.nsIn K mainGlobals "Panel" = some (some (.ref C)))
    (pg_C : PySem.W.plainGet K C Str.empty = true)
    (hd_C : PySem.W.hasDictIn K C = true)
    (po_C : PySem.W.plainOver K C = true)
    (sa_C : PySem.W.findIn K (.ref C) "__setattr__" = some (some (.builtin "object.__setattr__")))
    (mk_C : PySem.W.makesIn K C = true)
    (kc_C : PySem.W.keepIn K (.ref C) = true)
    (n_width : PySem.W.findIn K (.ref C) "width" = some none)
    (n_height : PySem.W.findIn K (.ref C) "height" = some none)
    (n_sorted_panes : PySem.W.findIn K (.ref C) "sorted_panes" = some none)
    (n_by_square : PySem.W.findIn K (.ref C) "by_square" = some none)
    {f0 : Addr} {od0 an0 : Option Addr} {sl0 : Array (Option Value)} {oc0 kV0 dc0 pm0 cd0 ct0 : Value} (a0 : PySem.W.nsIn K mainGlobals "is_whole" = some (some (.ref f0))) (l0 : K.lookup f0 = some ⟨oc0, od0, .func (PySem.W.fnOf "is_whole" "is_whole" (defArgs s_is_whole) (defBody s_is_whole) (defScope s_is_whole) .none kV0 dc0 pm0 an0 cd0 ct0), sl0⟩) (cc0 : PySem.W.codeIn K cd0 "is_whole" = true) (k0 : PySem.W.keepIn K (.ref f0) = true)
    {f1 : Addr} {od1 an1 : Option Addr} {sl1 : Array (Option Value)} {oc1 kV1 dc1 pm1 cd1 ct1 : Value} (a1 : PySem.W.nsIn K mainGlobals "is_side" = some (some (.ref f1))) (l1 : K.lookup f1 = some ⟨oc1, od1, .func (PySem.W.fnOf "is_side" "is_side" (defArgs s_is_side) (defBody s_is_side) (defScope s_is_side) .none kV1 dc1 pm1 an1 cd1 ct1), sl1⟩) (cc1 : PySem.W.codeIn K cd1 "is_side" = true) (k1 : PySem.W.keepIn K (.ref f1) = true)
    {f2 : Addr} {od2 an2 : Option Addr} {sl2 : Array (Option Value)} {oc2 kV2 dc2 pm2 cd2 ct2 : Value} (a2 : PySem.W.nsIn K mainGlobals "is_rectangle" = some (some (.ref f2))) (l2 : K.lookup f2 = some ⟨oc2, od2, .func (PySem.W.fnOf "is_rectangle" "is_rectangle" (defArgs s_is_rectangle) (defBody s_is_rectangle) (defScope s_is_rectangle) .none kV2 dc2 pm2 an2 cd2 ct2), sl2⟩) (cc2 : PySem.W.codeIn K cd2 "is_rectangle" = true) (k2 : PySem.W.keepIn K (.ref f2) = true)
    {f3 : Addr} {od3 an3 : Option Addr} {sl3 : Array (Option Value)} {oc3 kV3 dc3 pm3 cd3 ct3 : Value} (a3 : PySem.W.nsIn K mainGlobals "inside" = some (some (.ref f3))) (l3 : K.lookup f3 = some ⟨oc3, od3, .func (PySem.W.fnOf "inside" "inside" (defArgs s_inside) (defBody s_inside) (defScope s_inside) .none kV3 dc3 pm3 an3 cd3 ct3), sl3⟩) (cc3 : PySem.W.codeIn K cd3 "inside" = true) (k3 : PySem.W.keepIn K (.ref f3) = true)
    {f4 : Addr} {od4 an4 : Option Addr} {sl4 : Array (Option Value)} {oc4 kV4 dc4 pm4 cd4 ct4 : Value} (a4 : PySem.W.nsIn K mainGlobals "squares_of" = some (some (.ref f4))) (l4 : K.lookup f4 = some ⟨oc4, od4, .func (PySem.W.fnOf "squares_of" "squares_of" (defArgs s_squares_of) (defBody s_squares_of) (defScope s_squares_of) .none kV4 dc4 pm4 an4 cd4 ct4), sl4⟩) (cc4 : PySem.W.codeIn K cd4 "squares_of" = true) (k4 : PySem.W.keepIn K (.ref f4) = true)
    {f5 : Addr} {od5 an5 : Option Addr} {sl5 : Array (Option Value)} {oc5 kV5 dc5 pm5 cd5 ct5 : Value} (a5 : PySem.W.nsIn K mainGlobals "check_sides" = some (some (.ref f5))) (l5 : K.lookup f5 = some ⟨oc5, od5, .func (PySem.W.fnOf "check_sides" "check_sides" (defArgs s_check_sides) (defBody s_check_sides) (defScope s_check_sides) .none kV5 dc5 pm5 an5 cd5 ct5), sl5⟩) (cc5 : PySem.W.codeIn K cd5 "check_sides" = true) (k5 : PySem.W.keepIn K (.ref f5) = true)
    {f6 : Addr} {od6 an6 : Option Addr} {sl6 : Array (Option Value)} {oc6 kV6 dc6 pm6 cd6 ct6 : Value} (a6 : PySem.W.nsIn K mainGlobals "check_panes" = some (some (.ref f6))) (l6 : K.lookup f6 = some ⟨oc6, od6, .func (PySem.W.fnOf "check_panes" "check_panes" (defArgs s_check_panes) (defBody s_check_panes) (defScope s_check_panes) .none kV6 dc6 pm6 an6 cd6 ct6), sl6⟩) (cc6 : PySem.W.codeIn K cd6 "check_panes" = true) (k6 : PySem.W.keepIn K (.ref f6) = true)
    {f7 : Addr} {od7 an7 : Option Addr} {sl7 : Array (Option Value)} {oc7 kV7 dc7 pm7 cd7 ct7 : Value} (a7 : PySem.W.nsIn K mainGlobals "panes_by_square" = some (some (.ref f7))) (l7 : K.lookup f7 = some ⟨oc7, od7, .func (PySem.W.fnOf "panes_by_square" "panes_by_square" (defArgs s_panes_by_square) (defBody s_panes_by_square) (defScope s_panes_by_square) .none kV7 dc7 pm7 an7 cd7 ct7), sl7⟩) (cc7 : PySem.W.codeIn K cd7 "panes_by_square" = true) (k7 : PySem.W.keepIn K (.ref f7) = true)
    {f8 : Addr} {od8 an8 : Option Addr} {sl8 : Array (Option Value)} {oc8 kV8 dc8 pm8 cd8 ct8 : Value} (a8 : PySem.W.nsIn K mainGlobals "check_covered" = some (some (.ref f8))) (l8 : K.lookup f8 = some ⟨oc8, od8, .func (PySem.W.fnOf "check_covered" "check_covered" (defArgs s_check_covered) (defBody s_check_covered) (defScope s_check_covered) .none kV8 dc8 pm8 an8 cd8 ct8), sl8⟩) (cc8 : PySem.W.codeIn K cd8 "check_covered" = true) (k8 : PySem.W.keepIn K (.ref f8) = true)
    {f9 : Addr} {od9 an9 : Option Addr} {sl9 : Array (Option Value)} {oc9 kV9 dc9 pm9 cd9 ct9 : Value} (a9 : PySem.W.findIn K (.ref C) "__init__" = some (some (.ref f9))) (i9 : PySem.W.isFn K (.ref f9) = true) (l9 : K.lookup f9 = some ⟨oc9, od9, .func (PySem.W.fnOf "__init__" "Panel.__init__" (defArgs s_Panel_init) (defBody s_Panel_init) (defScope s_Panel_init) .none kV9 dc9 pm9 an9 cd9 ct9), sl9⟩) (cc9 : PySem.W.codeIn K cd9 "Panel.__init__" = true) (k9 : PySem.W.keepIn K (.ref f9) = true)
    {f10 : Addr} {od10 an10 : Option Addr} {sl10 : Array (Option Value)} {oc10 kV10 dc10 pm10 cd10 ct10 : Value} (a10 : PySem.W.findIn K (.ref C) "panes" = some (some (.ref f10))) (i10 : PySem.W.isFn K (.ref f10) = true) (l10 : K.lookup f10 = some ⟨oc10, od10, .func (PySem.W.fnOf "panes" "Panel.panes" (defArgs s_Panel_panes) (defBody s_Panel_panes) (defScope s_Panel_panes) .none kV10 dc10 pm10 an10 cd10 ct10), sl10⟩) (cc10 : PySem.W.codeIn K cd10 "Panel.panes" = true) (k10 : PySem.W.keepIn K (.ref f10) = true)
    {f11 : Addr} {od11 an11 : Option Addr} {sl11 : Array (Option Value)} {oc11 kV11 dc11 pm11 cd11 ct11 : Value} (a11 : PySem.W.nsIn K mainGlobals "_law_take" = some (some (.ref f11))) (l11 : K.lookup f11 = some ⟨oc11, od11, .func (PySem.W.fnOf "_law_take" "_law_take" (defArgs s__law_take) (defBody s__law_take) (defScope s__law_take) .none kV11 dc11 pm11 an11 cd11 ct11), sl11⟩) (cc11 : PySem.W.codeIn K cd11 "_law_take" = true) (k11 : PySem.W.keepIn K (.ref f11) = true)
    {f12 : Addr} {od12 an12 : Option Addr} {sl12 : Array (Option Value)} {oc12 kV12 dc12 pm12 cd12 ct12 : Value} (a12 : PySem.W.nsIn K mainGlobals "_law_purse" = some (some (.ref f12))) (l12 : K.lookup f12 = some ⟨oc12, od12, .func (PySem.W.fnOf "_law_purse" "_law_purse" (defArgs s__law_purse) (defBody s__law_purse) (defScope s__law_purse) .none kV12 dc12 pm12 an12 cd12 ct12), sl12⟩) (cc12 : PySem.W.codeIn K cd12 "_law_purse" = true) (k12 : PySem.W.keepIn K (.ref f12) = true)
    {f13 : Addr} {od13 an13 : Option Addr} {sl13 : Array (Option Value)} {oc13 kV13 dc13 pm13 cd13 ct13 : Value} (a13 : PySem.W.nsIn K mainGlobals "_law_tiled" = some (some (.ref f13))) (l13 : K.lookup f13 = some ⟨oc13, od13, .func (PySem.W.fnOf "_law_tiled" "_law_tiled" (defArgs s__law_tiled) (defBody s__law_tiled) (defScope s__law_tiled) .none kV13 dc13 pm13 an13 cd13 ct13), sl13⟩) (cc13 : PySem.W.codeIn K cd13 "_law_tiled" = true) (k13 : PySem.W.keepIn K (.ref f13) = true)
    {f14 : Addr} {od14 an14 : Option Addr} {sl14 : Array (Option Value)} {oc14 kV14 dc14 pm14 cd14 ct14 : Value} (a14 : PySem.W.nsIn K mainGlobals "_law_whole" = some (some (.ref f14))) (l14 : K.lookup f14 = some ⟨oc14, od14, .func (PySem.W.fnOf "_law_whole" "_law_whole" (defArgs s__law_whole) (defBody s__law_whole) (defScope s__law_whole) .none kV14 dc14 pm14 an14 cd14 ct14), sl14⟩) (cc14 : PySem.W.codeIn K cd14 "_law_whole" = true) (k14 : PySem.W.keepIn K (.ref f14) = true)
    {f15 : Addr} {od15 an15 : Option Addr} {sl15 : Array (Option Value)} {oc15 kV15 dc15 pm15 cd15 ct15 : Value} (a15 : PySem.W.nsIn K mainGlobals "_law_first_square" = some (some (.ref f15))) (l15 : K.lookup f15 = some ⟨oc15, od15, .func (PySem.W.fnOf "_law_first_square" "_law_first_square" (defArgs s__law_first_square) (defBody s__law_first_square) (defScope s__law_first_square) .none kV15 dc15 pm15 an15 cd15 ct15), sl15⟩) (cc15 : PySem.W.codeIn K cd15 "_law_first_square" = true) (k15 : PySem.W.keepIn K (.ref f15) = true)
    {f16 : Addr} {od16 an16 : Option Addr} {sl16 : Array (Option Value)} {oc16 kV16 dc16 pm16 cd16 ct16 : Value} (a16 : PySem.W.nsIn K mainGlobals "_law_pane" = some (some (.ref f16))) (l16 : K.lookup f16 = some ⟨oc16, od16, .func (PySem.W.fnOf "_law_pane" "_law_pane" (defArgs s__law_pane) (defBody s__law_pane) (defScope s__law_pane) .none kV16 dc16 pm16 an16 cd16 ct16), sl16⟩) (cc16 : PySem.W.codeIn K cd16 "_law_pane" = true) (k16 : PySem.W.keepIn K (.ref f16) = true)
    {f17 : Addr} {od17 an17 : Option Addr} {sl17 : Array (Option Value)} {oc17 kV17 dc17 pm17 cd17 ct17 : Value} (a17 : PySem.W.nsIn K mainGlobals "_law_apart" = some (some (.ref f17))) (l17 : K.lookup f17 = some ⟨oc17, od17, .func (PySem.W.fnOf "_law_apart" "_law_apart" (defArgs s__law_apart) (defBody s__law_apart) (defScope s__law_apart) .none kV17 dc17 pm17 an17 cd17 ct17), sl17⟩) (cc17 : PySem.W.codeIn K cd17 "_law_apart" = true) (k17 : PySem.W.keepIn K (.ref f17) = true)
    {f18 : Addr} {od18 an18 : Option Addr} {sl18 : Array (Option Value)} {oc18 kV18 dc18 pm18 cd18 ct18 : Value} (a18 : PySem.W.nsIn K mainGlobals "_law_due" = some (some (.ref f18))) (l18 : K.lookup f18 = some ⟨oc18, od18, .func (PySem.W.fnOf "_law_due" "_law_due" (defArgs s__law_due) (defBody s__law_due) (defScope s__law_due) .none kV18 dc18 pm18 an18 cd18 ct18), sl18⟩) (cc18 : PySem.W.codeIn K cd18 "_law_due" = true) (k18 : PySem.W.keepIn K (.ref f18) = true)
    {f19 : Addr} {od19 an19 : Option Addr} {sl19 : Array (Option Value)} {oc19 kV19 dc19 pm19 cd19 ct19 : Value} (a19 : PySem.W.nsIn K mainGlobals "_law_spoiled" = some (some (.ref f19))) (l19 : K.lookup f19 = some ⟨oc19, od19, .func (PySem.W.fnOf "_law_spoiled" "_law_spoiled" (defArgs s__law_spoiled) (defBody s__law_spoiled) (defScope s__law_spoiled) .none kV19 dc19 pm19 an19 cd19 ct19), sl19⟩) (cc19 : PySem.W.codeIn K cd19 "_law_spoiled" = true) (k19 : PySem.W.keepIn K (.ref f19) = true)
    {f20 : Addr} {od20 an20 : Option Addr} {sl20 : Array (Option Value)} {oc20 kV20 dc20 pm20 cd20 ct20 : Value} (a20 : PySem.W.nsIn K mainGlobals "_law_kind" = some (some (.ref f20))) (l20 : K.lookup f20 = some ⟨oc20, od20, .func (PySem.W.fnOf "_law_kind" "_law_kind" (defArgs s__law_kind) (defBody s__law_kind) (defScope s__law_kind) .none kV20 dc20 pm20 an20 cd20 ct20), sl20⟩) (cc20 : PySem.W.codeIn K cd20 "_law_kind" = true) (k20 : PySem.W.keepIn K (.ref f20) = true)
    {f21 : Addr} {od21 an21 : Option Addr} {sl21 : Array (Option Value)} {oc21 kV21 dc21 pm21 cd21 ct21 : Value} (a21 : PySem.W.nsIn K mainGlobals "_law_flags" = some (some (.ref f21))) (l21 : K.lookup f21 = some ⟨oc21, od21, .func (PySem.W.fnOf "_law_flags" "_law_flags" (defArgs s__law_flags) (defBody s__law_flags) (defScope s__law_flags) .none kV21 dc21 pm21 an21 cd21 ct21), sl21⟩) (cc21 : PySem.W.codeIn K cd21 "_law_flags" = true) (k21 : PySem.W.keepIn K (.ref f21) = true)
    {f22 : Addr} {od22 an22 : Option Addr} {sl22 : Array (Option Value)} {oc22 kV22 dc22 pm22 cd22 ct22 : Value} (a22 : PySem.W.nsIn K mainGlobals "_law_same" = some (some (.ref f22))) (l22 : K.lookup f22 = some ⟨oc22, od22, .func (PySem.W.fnOf "_law_same" "_law_same" (defArgs s__law_same) (defBody s__law_same) (defScope s__law_same) .none kV22 dc22 pm22 an22 cd22 ct22), sl22⟩) (cc22 : PySem.W.codeIn K cd22 "_law_same" = true) (k22 : PySem.W.keepIn K (.ref f22) = true)
    {f23 : Addr} {od23 an23 : Option Addr} {sl23 : Array (Option Value)} {oc23 kV23 dc23 pm23 cd23 ct23 : Value} (a23 : PySem.W.nsIn K mainGlobals "law" = some (some (.ref f23))) (l23 : K.lookup f23 = some ⟨oc23, od23, .func (PySem.W.fnOf "law" "law" (defArgs s_law) (defBody s_law) (defScope s_law) .none kV23 dc23 pm23 an23 cd23 ct23), sl23⟩) (cc23 : PySem.W.codeIn K cd23 "law" = true) (k23 : PySem.W.keepIn K (.ref f23) = true)
    (z0 : PySem.W.nsIn K mainGlobals "isinstance" = some none)
    (z1 : PySem.W.nsIn K mainGlobals "int" = some none)
    (z2 : PySem.W.nsIn K mainGlobals "bool" = some none)
    (z3 : PySem.W.nsIn K mainGlobals "tuple" = some none)
    (z4 : PySem.W.nsIn K mainGlobals "len" = some none)
    (z5 : PySem.W.nsIn K mainGlobals "all" = some none)
    (z6 : PySem.W.nsIn K mainGlobals "any" = some none)
    (z7 : PySem.W.nsIn K mainGlobals "range" = some none)
    (z8 : PySem.W.nsIn K mainGlobals "sorted" = some none)
    (z9 : PySem.W.nsIn K mainGlobals "min" = some none)
    (z10 : PySem.W.nsIn K mainGlobals "max" = some none)
    (z11 : PySem.W.nsIn K mainGlobals "list" = some none)
    (z12 : PySem.W.nsIn K mainGlobals "enumerate" = some none)
    (z13 : PySem.W.nsIn K mainGlobals "str" = some none)
    (z14 : PySem.W.nsIn K mainGlobals "ValueError" = some none)
    {tk0 : Tok} (g0 : PySem.W.nsIn K mainGlobals "LONGEST_SIDE" = some (some (.int 12 tk0))) {tk1 : Tok} (g1 : PySem.W.nsIn K mainGlobals "MOST_PANES" = some (some (.int 52 tk1)))
    (all : clsAll K [cS, cM, cP, cO, cB] cG = true)
    : ∃ fd : FuncData, (∀ (s : Shared) (v : Value), BindsTo s fd ⟨[v], []⟩ [("_law_script", v)]) ∧ ∀ base : Heap, K.In base → base.Ns mainGlobals mg → FnOk l.prog w K mg base CX0 6 fa fd ["_law_script"] (sp_law K) := by
  have e := hfa.symm.trans (PySem.W.mg_of X G a23)
  cases e
  have T : Txt mg (tk0, tk1) := ⟨PySem.W.mg_none_of X G z0, PySem.W.mg_none_of X G z1, PySem.W.mg_none_of X G z2, PySem.W.mg_none_of X G z3, PySem.W.mg_none_of X G z4, PySem.W.mg_none_of X G z5, PySem.W.mg_none_of X G z6, PySem.W.mg_none_of X G z7, PySem.W.mg_none_of X G z8, PySem.W.mg_none_of X G z9, PySem.W.mg_none_of X G z10, PySem.W.mg_none_of X G z11, PySem.W.mg_none_of X G z12, PySem.W.mg_none_of X G z13, PySem.W.mg_none_of X G z14, PySem.W.mg_of X G g0, PySem.W.mg_of X G g1⟩
  obtain ⟨q1, q2, q3, q4⟩ := clsAll_of rfl all
  have PC : PCls K C := ⟨⟨pg_C, hd_C, po_C, sa_C⟩, n_width, n_height, n_sorted_panes, n_by_square⟩
  have RK0 : RK mg K cS cM cP cO cB := ⟨PySem.W.mg_of X G aC_cS, PySem.W.mg_of X G aC_cM, PySem.W.mg_of X G aC_cP, PySem.W.mg_of X G aC_cO, PySem.W.mg_of X G aC_cB, q1 0 (by decide), nC_cS, q4 0 (by decide), q1 1 (by decide), nC_cM, q4 1 (by decide), q1 2 (by decide), nC_cP, q4 2 (by decide), q1 3 (by decide), nC_cO, q4 3 (by decide), q1 4 (by decide), nC_cB, q4 4 (by decide), q2 0 0 (by decide) (by decide), q2 0 1 (by decide) (by decide), q2 0 2 (by decide) (by decide), q2 0 3 (by decide) (by decide), q2 0 4 (by decide) (by decide), q2 1 0 (by decide) (by decide), q2 1 1 (by decide) (by decide), q2 1 2 (by decide) (by decide), q2 1 3 (by decide) (by decide), q2 1 4 (by decide) (by decide), q2 2 0 (by decide) (by decide), q2 2 1 (by decide) (by decide), q2 2 2 (by decide) (by decide), q2 2 3 (by decide) (by decide), q2 2 4 (by decide) (by decide), q2 3 0 (by decide) (by decide), q2 3 1 (by decide) (by decide), q2 3 2 (by decide) (by decide), q2 3 3 (by decide) (by decide), q2 3 4 (by decide) (by decide), q2 4 0 (by decide) (by decide), q2 4 1 (by decide) (by decide), q2 4 2 (by decide) (by decide), q2 4 3 (by decide) (by decide), q2 4 4 (by decide) (by decide)⟩
  have GE0 : GE mg K cG cS cM cP cO cB := ⟨PySem.W.mg_of X G aG, eG, q3 0 (by decide), q3 1 (by decide), q3 2 (by decide), q3 3 (by decide), q3 4 (by decide)⟩
  have F_cS := fun_mk (st := s_NoSide_init) l_cS cc_cS k_cS
  have b_cS := F_cS.binds (ps := ["self", "side"]) fun _ _ _ _ _ _ us hl => by obtain ⟨u0, u1, rfl⟩ := len2 hl; rfl
  have F_cM := fun_mk (st := s_TooMany_init) l_cM cc_cM k_cM
  have b_cM := F_cM.binds (ps := ["self", "many"]) fun _ _ _ _ _ _ us hl => by obtain ⟨u0, u1, rfl⟩ := len2 hl; rfl
  have F_cP := fun_mk (st := s_NoPane_init) l_cP cc_cP k_cP
  have b_cP := F_cP.binds (ps := ["self", "place"]) fun _ _ _ _ _ _ us hl => by obtain ⟨u0, u1, rfl⟩ := len2 hl; rfl
  have F_cO := fun_mk (st := s_Overlap_init) l_cO cc_cO k_cO
  have b_cO := F_cO.binds (ps := ["self", "place"]) fun _ _ _ _ _ _ us hl => by obtain ⟨u0, u1, rfl⟩ := len2 hl; rfl
  have F_cB := fun_mk (st := s_Bare_init) l_cB cc_cB k_cB
  have b_cB := F_cB.binds (ps := ["self", "square"]) fun _ _ _ _ _ _ us hl => by obtain ⟨u0, u1, rfl⟩ := len2 hl; rfl
  have F0 := fun_mk (st := s_is_whole) l0 cc0 k0
  have b0 := F0.binds (ps := ["thing"]) fun _ _ _ _ _ _ us hl => by obtain ⟨u0, rfl⟩ := len1 hl; rfl
  have F1 := fun_mk (st := s_is_side) l1 cc1 k1
  have b1 := F1.binds (ps := ["thing"]) fun _ _ _ _ _ _ us hl => by obtain ⟨u0, rfl⟩ := len1 hl; rfl
  have F2 := fun_mk (st := s_is_rectangle) l2 cc2 k2
  have b2 := F2.binds (ps := ["thing"]) fun _ _ _ _ _ _ us hl => by obtain ⟨u0, rfl⟩ := len1 hl; rfl
  have F3 := fun_mk (st := s_inside) l3 cc3 k3
  have b3 := F3.binds (ps := ["one", "other"]) fun _ _ _ _ _ _ us hl => by obtain ⟨u0, u1, rfl⟩ := len2 hl; rfl
  have F4 := fun_mk (st := s_squares_of) l4 cc4 k4
  have b4 := F4.binds (ps := ["rectangle"]) fun _ _ _ _ _ _ us hl => by obtain ⟨u0, rfl⟩ := len1 hl; rfl
  have F5 := fun_mk (st := s_check_sides) l5 cc5 k5
  have b5 := F5.binds (ps := ["width", "height"]) fun _ _ _ _ _ _ us hl => by obtain ⟨u0, u1, rfl⟩ := len2 hl; rfl
  have F6 := fun_mk (st := s_check_panes) l6 cc6 k6
  have b6 := F6.binds (ps := ["panes", "sheet"]) fun _ _ _ _ _ _ us hl => by obtain ⟨u0, u1, rfl⟩ := len2 hl; rfl
  have F7 := fun_mk (st := s_panes_by_square) l7 cc7 k7
  have b7 := F7.binds (ps := ["panes"]) fun _ _ _ _ _ _ us hl => by obtain ⟨u0, rfl⟩ := len1 hl; rfl
  have F8 := fun_mk (st := s_check_covered) l8 cc8 k8
  have b8 := F8.binds (ps := ["by_square", "sheet"]) fun _ _ _ _ _ _ us hl => by obtain ⟨u0, u1, rfl⟩ := len2 hl; rfl
  have F9 := fun_mk (st := s_Panel_init) l9 cc9 k9
  have b9 := F9.binds (ps := ["self", "width", "height", "panes"]) fun _ _ _ _ _ _ us hl => by obtain ⟨u0, u1, u2, u3, rfl⟩ := len4 hl; rfl
  have F10 := fun_mk (st := s_Panel_panes) l10 cc10 k10
  have b10 := F10.binds (ps := ["self"]) fun _ _ _ _ _ _ us hl => by obtain ⟨u0, rfl⟩ := len1 hl; rfl
  have F11 := fun_mk (st := s__law_take) l11 cc11 k11
  have b11 := F11.binds (ps := ["_law_purse_here", "_law_many"]) fun _ _ _ _ _ _ us hl => by obtain ⟨u0, u1, rfl⟩ := len2 hl; rfl
  have F12 := fun_mk (st := s__law_purse) l12 cc12 k12
  have b12 := F12.binds (ps := ["_law_script", "_law_k"]) fun _ _ _ _ _ _ us hl => by obtain ⟨u0, u1, rfl⟩ := len2 hl; rfl
  have F13 := fun_mk (st := s__law_tiled) l13 cc13 k13
  have b13 := F13.binds (ps := ["_law_script", "_law_k", "_law_width", "_law_height"]) fun _ _ _ _ _ _ us hl => by obtain ⟨u0, u1, u2, u3, rfl⟩ := len4 hl; rfl
  have F14 := fun_mk (st := s__law_whole) l14 cc14 k14
  have b14 := F14.binds (ps := ["_law_thing"]) fun _ _ _ _ _ _ us hl => by obtain ⟨u0, rfl⟩ := len1 hl; rfl
  have F15 := fun_mk (st := s__law_first_square) l15 cc15 k15
  have b15 := F15.binds (ps := ["_law_panes", "_law_width", "_law_height"]) fun _ _ _ _ _ _ us hl => by obtain ⟨u0, u1, u2, rfl⟩ := len3 hl; rfl
  have F16 := fun_mk (st := s__law_pane) l16 cc16 k16
  have b16 := F16.binds (ps := ["_law_thing", "_law_width", "_law_height"]) fun _ _ _ _ _ _ us hl => by obtain ⟨u0, u1, u2, rfl⟩ := len3 hl; rfl
  have F17 := fun_mk (st := s__law_apart) l17 cc17 k17
  have b17 := F17.binds (ps := ["_law_one", "_law_other"]) fun _ _ _ _ _ _ us hl => by obtain ⟨u0, u1, rfl⟩ := len2 hl; rfl
  have F18 := fun_mk (st := s__law_due) l18 cc18 k18
  have b18 := F18.binds (ps := ["_law_width", "_law_height", "_law_panes"]) fun _ _ _ _ _ _ us hl => by obtain ⟨u0, u1, u2, rfl⟩ := len3 hl; rfl
  have F19 := fun_mk (st := s__law_spoiled) l19 cc19 k19
  have b19 := F19.binds (ps := ["_law_panes", "_law_purse_here", "_law_width", "_law_height"]) fun _ _ _ _ _ _ us hl => by obtain ⟨u0, u1, u2, u3, rfl⟩ := len4 hl; rfl
  have F20 := fun_mk (st := s__law_kind) l20 cc20 k20
  have b20 := F20.binds (ps := ["_law_e"]) fun _ _ _ _ _ _ us hl => by obtain ⟨u0, rfl⟩ := len1 hl; rfl
  have F21 := fun_mk (st := s__law_flags) l21 cc21 k21
  have b21 := F21.binds (ps := ["_law_e"]) fun _ _ _ _ _ _ us hl => by obtain ⟨u0, rfl⟩ := len1 hl; rfl
  have F22 := fun_mk (st := s__law_same) l22 cc22 k22
  have b22 := F22.binds (ps := ["_law_one", "_law_other"]) fun _ _ _ _ _ _ us hl => by obtain ⟨u0, u1, rfl⟩ := len2 hl; rfl
  have F23 := fun_mk (st := s_law) l23 cc23 k23
  refine ⟨PySem.W.fnOf "law" "law" (defArgs s_law) (defBody s_law) (defScope s_law) .none kV23 dc23 pm23 an23 cd23 ct23, fun s v => .of_eq rfl, fun base _ _ => ?_⟩
  have W : EX l.prog w K mg base cS cM cP cO cB := ⟨⟨by decide, f_cS, _, ⟨q1 0 (by decide), ei_cS, kC_cS, i_cS⟩, ok_NoSide_init F_cS RK0, PySem.W.mg_of X G aC_cS, b_cS⟩, ⟨by decide, f_cM, _, ⟨q1 1 (by decide), ei_cM, kC_cM, i_cM⟩, ok_TooMany_init F_cM RK0, PySem.W.mg_of X G aC_cM, b_cM⟩, ⟨by decide, f_cP, _, ⟨q1 2 (by decide), ei_cP, kC_cP, i_cP⟩, ok_NoPane_init F_cP RK0, PySem.W.mg_of X G aC_cP, b_cP⟩, ⟨by decide, f_cO, _, ⟨q1 3 (by decide), ei_cO, kC_cO, i_cO⟩, ok_Overlap_init F_cO RK0, PySem.W.mg_of X G aC_cO, b_cO⟩, ⟨by decide, f_cB, _, ⟨q1 4 (by decide), ei_cB, kC_cB, i_cB⟩, ok_Bare_init F_cB RK0, PySem.W.mg_of X G aC_cB, b_cB⟩⟩
  have D_is_whole : DefOk l.prog w K mg base 1 "is_whole" ["thing"] sp_whole := ⟨_, _, ok_is_whole F0 T, PySem.W.mg_of X G a0, k0, b0⟩
  have D_is_side : DefOk l.prog w K mg base 2 "is_side" ["thing"] sp_side := ⟨_, _, ok_is_side F1 T D_is_whole, PySem.W.mg_of X G a1, k1, b1⟩
  have D_is_rectangle : DefOk l.prog w K mg base 2 "is_rectangle" ["thing"] sp_rect := ⟨_, _, ok_is_rectangle F2 T D_is_whole, PySem.W.mg_of X G a2, k2, b2⟩
  have D_inside : DefOk l.prog w K mg base 1 "inside" ["one", "other"] sp_inside := ⟨_, _, ok_inside F3, PySem.W.mg_of X G a3, k3, b3⟩
  have D_squares_of : DefOk l.prog w K mg base 1 "squares_of" ["rectangle"] sp_squares := ⟨_, _, ok_squares_of F4 T, PySem.W.mg_of X G a4, k4, b4⟩
  have D_check_sides : DefOkX l.prog w K mg base 3 "check_sides" ["width", "height"] (sp_sides1 cS) := ⟨_, _, ok_check_sides F5 W D_is_side, PySem.W.mg_of X G a5, k5, b5⟩
  have D_check_panes : DefOkX l.prog w K mg base 3 "check_panes" ["panes", "sheet"] (sp_panes1 K cM cP) := ⟨_, _, ok_check_panes F6 T W D_is_rectangle D_inside, PySem.W.mg_of X G a6, k6, b6⟩
  have D_panes_by_square : DefOkX l.prog w K mg base 3 "panes_by_square" ["panes"] (sp_square1 K cO) := ⟨_, _, ok_panes_by_square F7 T W D_squares_of, PySem.W.mg_of X G a7, k7, b7⟩
  have D_check_covered : DefOkX l.prog w K mg base 3 "check_covered" ["by_square", "sheet"] (sp_covered1 cB) := ⟨_, _, ok_check_covered F8 W D_squares_of, PySem.W.mg_of X G a8, k8, b8⟩
  have K_Panel : MkOkX l.prog w K mg base 4 "Panel" C ["self", "width", "height", "panes"] (sp_Panel1 K C cS cM cP cO cB) := ⟨_, _, ⟨mk_C, a9, i9, kc_C⟩, ok_Panel_init F9 T PC D_check_sides D_check_panes D_panes_by_square D_check_covered, PySem.W.mg_of X G aC, b9⟩
  have M_Panel_panes : MdOk l.prog w K mg base 1 C "panes" ["self"] (sp_panes C) := ⟨⟨pg_C, hd_C, po_C, sa_C⟩, _, _, ⟨a10, i10, k10⟩, ok_Panel_panes F10 T PC, b10⟩
  have D__law_take : DefOk l.prog w K mg base 1 "_law_take" ["_law_purse_here", "_law_many"] sp_take := ⟨_, _, ok_law_take F11, PySem.W.mg_of X G a11, k11, b11⟩
  have D__law_purse : DefOk l.prog w K mg base 1 "_law_purse" ["_law_script", "_law_k"] (sp_purse K) := ⟨_, _, ok_law_purse F12 T, PySem.W.mg_of X G a12, k12, b12⟩
  have D__law_tiled : DefOk l.prog w K mg base 2 "_law_tiled" ["_law_script", "_law_k", "_law_width", "_law_height"] (sp_tiled K) := ⟨_, _, ok_law_tiled F13 T D__law_purse D__law_take, PySem.W.mg_of X G a13, k13, b13⟩
  have D__law_whole : DefOk l.prog w K mg base 1 "_law_whole" ["_law_thing"] sp_whole := ⟨_, _, ok_law_whole F14 T, PySem.W.mg_of X G a14, k14, b14⟩
  have D__law_first_square : DefOk l.prog w K mg base 1 "_law_first_square" ["_law_panes", "_law_width", "_law_height"] (sp_first K) := ⟨_, _, ok_law_first_square F15 T, PySem.W.mg_of X G a15, k15, b15⟩
  have D__law_pane : DefOk l.prog w K mg base 2 "_law_pane" ["_law_thing", "_law_width", "_law_height"] sp_lpane := ⟨_, _, ok_law_pane F16 T D__law_whole, PySem.W.mg_of X G a16, k16, b16⟩
  have D__law_apart : DefOk l.prog w K mg base 1 "_law_apart" ["_law_one", "_law_other"] sp_lapart := ⟨_, _, ok_law_apart F17, PySem.W.mg_of X G a17, k17, b17⟩
  have D__law_due : DefOk l.prog w K mg base 3 "_law_due" ["_law_width", "_law_height", "_law_panes"] (sp_due K) := ⟨_, _, ok_law_due F18 T D__law_whole D__law_pane D__law_apart D__law_first_square, PySem.W.mg_of X G a18, k18, b18⟩
  have D__law_spoiled : DefOk l.prog w K mg base 2 "_law_spoiled" ["_law_panes", "_law_purse_here", "_law_width", "_law_height"] (sp_spoiled K) := ⟨_, _, ok_law_spoiled F19 T D__law_take D__law_whole, PySem.W.mg_of X G a19, k19, b19⟩
  have D__law_kind : DefOk l.prog w K mg base 1 "_law_kind" ["_law_e"] (sp_kind K cS cM cP cO cB) := ⟨_, _, ok_law_kind F20 T RK0, PySem.W.mg_of X G a20, k20, b20⟩
  have D__law_flags : DefOk l.prog w K mg base 1 "_law_flags" ["_law_e"] (sp_flags cS cM cP cO cB) := ⟨_, _, ok_law_flags F21 T RK0, PySem.W.mg_of X G a21, k21, b21⟩
  have D__law_same : DefOk l.prog w K mg base 1 "_law_same" ["_law_one", "_law_other"] (sp_same K) := ⟨_, _, ok_law_same F22 T, PySem.W.mg_of X G a22, k22, b22⟩
  exact ok_law F23 T PC GE0 M_Panel_panes K_Panel D__law_due D__law_kind D__law_flags D__law_same D__law_purse D__law_take D__law_tiled D__law_spoiled
theorem walk {l : PySem.W.OpenLaw} {q : Program} {loose : List Str} {XP : (Str → Option Value) → Heap → Prop} {YP : World → Heap → Prop} {d : DefRec} {K : Params → PySem.W.Frag} (hn : l.most = some 63) (hdf : d.params.defaults = [])
    (hY : ∀ (w : World) (h : Heap), YP w h → (K w.params).In h)
    (F : ∀ (w : World) (mg : Str → Option Value) (fa : Addr) (h : Heap), (K w.params).In h → h.Ns mainGlobals mg → mg d.name = some (.ref fa) →
      ∃ fd : FuncData, (∀ (s : Shared) (u : Value), BindsTo s fd ⟨[u], []⟩ [("_law_script", u)]) ∧ ∀ base : Heap, (K w.params).In base → base.Ns mainGlobals mg → FnOk l.prog w (K w.params) mg base CX0 6 fa fd ["_law_script"] (sp_law (K w.params))) :
    PySem.W.WalkO q loose XP YP l.row.toRowW d [] (fun f vs => PySem.call f vs) :=
  L2.walk_of (n := 63) (k := 6) (x := "_law_script") (CX := fun _ => CX0) (sp := fun w => sp_law (K w.params)) hn (by decide) hdf ⟨rfl, by decide, by decide⟩ hY F (fun _ _ a ns hl _ hS => ⟨a, ns, rfl, hS, hl, fun _ => rfl⟩) fun _ _ _ _ _ z => z
end K2
open PySem PySem.W PyProof.Rows
set_option maxRecDepth 100000 in
set_option maxHeartbeats 0 in
theorem PySem.Challenge.cw_glazebench_k02_panels_made_or_refused_holds : PySem.Challenge.rw_glazebench_k02_panels_made_or_refused.Holds := by
  w_on; o_law; k_head; (case hw => w_witness2)
  k_fill
  refine K2.walk (l := PySem.Challenge.rw_glazebench_k02_panels_made_or_refused) rfl rfl (fun w h Y => PySem.W.kIn_of Y) ?F
  case F =>
    intro w mg fa h KX G hmg
    refine' K2.all_mk KX G hmg ?my_aG ?my_eG ?my_aC_cS ?my_kC_cS ?my_nC_cS ?my_a_cS ?my_i_cS ?my_l_cS ?my_cc_cS ?my_k_cS ?my_ei_cS ?my_aC_cM ?my_kC_cM ?my_nC_cM ?my_a_cM ?my_i_cM ?my_l_cM ?my_cc_cM ?my_k_cM ?my_ei_cM ?my_aC_cP ?my_kC_cP ?my_nC_cP ?my_a_cP ?my_i_cP ?my_l_cP ?my_cc_cP ?my_k_cP ?my_ei_cP ?my_aC_cO ?my_kC_cO ?my_nC_cO ?my_a_cO ?my_i_cO ?my_l_cO ?my_cc_cO ?my_k_cO ?my_ei_cO ?my_aC_cB ?my_kC_cB ?my_nC_cB ?my_a_cB ?my_i_cB ?my_l_cB ?my_cc_cB ?my_k_cB ?my_ei_cB ?my_aC ?my_pg_C ?my_hd_C ?my_po_C ?my_sa_C ?my_mk_C ?my_kc_C ?my_n_width ?my_n_height ?my_n_sorted_panes ?my_n_by_square ?my_a0 ?my_l0 ?my_cc0 ?my_k0 ?my_a1 ?my_l1 ?my_cc1 ?my_k1 ?my_a2 ?my_l2 ?my_cc2 ?my_k2 ?my_a3 ?my_l3 ?my_cc3 ?my_k3 ?my_a4 ?my_l4 ?my_cc4 ?my_k4 ?my_a5 ?my_l5 ?my_cc5 ?my_k5 ?my_a6 ?my_l6 ?my_cc6 ?my_k6 ?my_a7 ?my_l7 ?my_cc7 ?my_k7 ?my_a8 ?my_l8 ?my_cc8 ?my_k8 ?my_a9 ?my_i9 ?my_l9 ?my_cc9 ?my_k9 ?my_a10 ?my_i10 ?my_l10 ?my_cc10 ?my_k10 ?my_a11 ?my_l11 ?my_cc11 ?my_k11 ?my_a12 ?my_l12 ?my_cc12 ?my_k12 ?my_a13 ?my_l13 ?my_cc13 ?my_k13 ?my_a14 ?my_l14 ?my_cc14 ?my_k14 ?my_a15 ?my_l15 ?my_cc15 ?my_k15 ?my_a16 ?my_l16 ?my_cc16 ?my_k16 ?my_a17 ?my_l17 ?my_cc17 ?my_k17 ?my_a18 ?my_l18 ?my_cc18 ?my_k18 ?my_a19 ?my_l19 ?my_cc19 ?my_k19 ?my_a20 ?my_l20 ?my_cc20 ?my_k20 ?my_a21 ?my_l21 ?my_cc21 ?my_k21 ?my_a22 ?my_l22 ?my_cc22 ?my_k22 ?my_a23 ?my_l23 ?my_cc23 ?my_k23 ?my_z0 ?my_z1 ?my_z2 ?my_z3 ?my_z4 ?my_z5 ?my_z6 ?my_z7 ?my_z8 ?my_z9 ?my_z10 ?my_z11 ?my_z12 ?my_z13 ?my_z14 ?my_g0 ?my_g1 ?my_all
    (case my_aG => k_is); (case my_aC_cS => k_is); (case my_kC_cS => k_is); (case my_nC_cS => k_is); (case my_a_cS => k_is); (case my_i_cS => k_is); (case my_l_cS => k_is); (case my_cc_cS => k_is)
    (case my_k_cS => k_is); (case my_aC_cM => k_is); (case my_kC_cM => k_is); (case my_nC_cM => k_is); (case my_a_cM => k_is); (case my_i_cM => k_is); (case my_l_cM => k_is); (case my_cc_cM => k_is)
    (case my_k_cM => k_is); (case my_aC_cP => k_is); (case my_kC_cP => k_is); (case my_nC_cP => k_is); (case my_a_cP => k_is); (case my_i_cP => k_is); (case my_l_cP => k_is); (case my_cc_cP => k_is)
    (case my_k_cP => k_is); (case my_aC_cO => k_is); (case my_kC_cO => k_is); (case my_nC_cO => k_is); (case my_a_cO => k_is); (case my_i_cO => k_is); (case my_l_cO => k_is); (case my_cc_cO => k_is)
    (case my_k_cO => k_is); (case my_aC_cB => k_is); (case my_kC_cB => k_is); (case my_nC_cB => k_is); (case my_a_cB => k_is); (case my_i_cB => k_is); (case my_l_cB => k_is); (case my_cc_cB => k_is)
    (case my_k_cB => k_is); (case my_aC => k_is); (case my_pg_C => k_is); (case my_hd_C => k_is); (case my_po_C => k_is); (case my_sa_C => k_is); (case my_mk_C => k_is); (case my_kc_C => k_is)
    (case my_n_width => k_is); (case my_n_height => k_is); (case my_n_sorted_panes => k_is); (case my_n_by_square => k_is); (case my_a0 => k_is); (case my_l0 => k_is); (case my_cc0 => k_is); (case my_k0 => k_is)
    (case my_a1 => k_is); (case my_l1 => k_is); (case my_cc1 => k_is); (case my_k1 => k_is); (case my_a2 => k_is); (case my_l2 => k_is); (case my_cc2 => k_is); (case my_k2 => k_is)
    (case my_a3 => k_is); (case my_l3 => k_is); (case my_cc3 => k_is); (case my_k3 => k_is); (case my_a4 => k_is); (case my_l4 => k_is); (case my_cc4 => k_is); (case my_k4 => k_is)
    (case my_a5 => k_is); (case my_l5 => k_is); (case my_cc5 => k_is); (case my_k5 => k_is); (case my_a6 => k_is); (case my_l6 => k_is); (case my_cc6 => k_is); (case my_k6 => k_is)
    (case my_a7 => k_is); (case my_l7 => k_is); (case my_cc7 => k_is); (case my_k7 => k_is); (case my_a8 => k_is); (case my_l8 => k_is); (case my_cc8 => k_is); (case my_k8 => k_is)
    (case my_a9 => k_is); (case my_i9 => k_is); (case my_l9 => k_is); (case my_cc9 => k_is); (case my_k9 => k_is); (case my_a10 => k_is); (case my_i10 => k_is); (case my_l10 => k_is)
    (case my_cc10 => k_is); (case my_k10 => k_is); (case my_a11 => k_is); (case my_l11 => k_is); (case my_cc11 => k_is); (case my_k11 => k_is); (case my_a12 => k_is); (case my_l12 => k_is)
    (case my_cc12 => k_is); (case my_k12 => k_is); (case my_a13 => k_is); (case my_l13 => k_is); (case my_cc13 => k_is); (case my_k13 => k_is); (case my_a14 => k_is); (case my_l14 => k_is)
    (case my_cc14 => k_is); (case my_k14 => k_is); (case my_a15 => k_is); (case my_l15 => k_is); (case my_cc15 => k_is); (case my_k15 => k_is); (case my_a16 => k_is); (case my_l16 => k_is)
    (case my_cc16 => k_is); (case my_k16 => k_is); (case my_a17 => k_is); (case my_l17 => k_is); (case my_cc17 => k_is); (case my_k17 => k_is); (case my_a18 => k_is); (case my_l18 => k_is)
    (case my_cc18 => k_is); (case my_k18 => k_is); (case my_a19 => k_is); (case my_l19 => k_is); (case my_cc19 => k_is); (case my_k19 => k_is); (case my_a20 => k_is); (case my_l20 => k_is)
    (case my_cc20 => k_is); (case my_k20 => k_is); (case my_a21 => k_is); (case my_l21 => k_is); (case my_cc21 => k_is); (case my_k21 => k_is); (case my_a22 => k_is); (case my_l22 => k_is)
    (case my_cc22 => k_is); (case my_k22 => k_is); (case my_a23 => k_is); (case my_l23 => k_is); (case my_cc23 => k_is); (case my_k23 => k_is); (case my_z0 => k_is); (case my_z1 => k_is)
    (case my_z2 => k_is); (case my_z3 => k_is); (case my_z4 => k_is); (case my_z5 => k_is); (case my_z6 => k_is); (case my_z7 => k_is); (case my_z8 => k_is); (case my_z9 => k_is)
    (case my_z10 => k_is); (case my_z11 => k_is); (case my_z12 => k_is); (case my_z13 => k_is); (case my_z14 => k_is); (case my_g0 => k_is); (case my_g1 => k_is); (case my_eG => kernel_rfl)
    (case my_ei_cS => kernel_rfl); (case my_ei_cM => kernel_rfl); (case my_ei_cP => kernel_rfl); (case my_ei_cO => kernel_rfl); (case my_ei_cB => kernel_rfl); (case my_all => kernel_rfl)
