import PyProof.Rows.All
import Wide.All
import OpenK.AllK
import Wide.FinOn
import Lean
import PyProof.EqAt
import PyProof.EqKinds
import PyProof.TupleCall
import PyProof.NeKinds
import PyProof.ExcAttrAll.ValueError
import PyProof.StationsW
import PyProof.PassesOwn
import PyProof.RulesAs
import PyProof.NsDelKeeps
import PyProof.CompMap
import PyProof.DictItems
import KE.KPairComp
import KE.KMinKey
import KE.KDictList
import KE.KDictOf
import KE.KEqDict
import PySem.Challenge.RW_glazebench_k51_table_of_worths
set_option Elab.async false
set_option linter.all false
set_option maxRecDepth 100000
namespace L2
open PySem PySem.Spec PyProof.Rows

/-- a key: an int or a str -/
abbrev Key := Sum Int Str
def keyIs : Key → Value → Bool
  | .inl k, v => Value.isInt k v
  | .inr x, v => Value.isStrOf x v
def keyH (w : World) : Key → Int
  | .inl k => hashInt k
  | .inr x => hashStr w x
theorem keyIs_shape : ∀ {k : Key} {v : Value}, keyIs k v = true → (∃ i t, k = Sum.inl i ∧ v = Value.int i t) ∨ (∃ x t, k = Sum.inr x ∧ v = Value.str x t)
  | .inl i, v, h => by
    obtain ⟨t, e⟩ := Value.isInt_shape (k := i) (v := v) h
    exact .inl ⟨i, t, rfl, e⟩
  | .inr x, v, h => by
    obtain ⟨t, e⟩ := Value.isStrOf_shape (x := x) (v := v) h
    exact .inr ⟨x, t, rfl, e⟩
theorem keyIs_int (i : Int) (t : Tok) : keyIs (.inl i) (.int i t) = true := by simp [keyIs, Value.isInt]
theorem keyIs_str (x : Str) (t : Tok) : keyIs (.inr x) (.str x t) = true := by simp [keyIs, Value.isStrOf]
theorem key_ll (a b : Int) : decide ((Sum.inl a : Key) = Sum.inl b) = (a == b) := by
  by_cases e : a = b
  · subst e; simp
  · have h : ¬ (Sum.inl a : Key) = Sum.inl b := fun q => e (Sum.inl.inj q)
    rw [decide_eq_false h]
    exact (beq_eq_false_iff_ne.mpr e).symm
theorem key_rr (a b : Str) : decide ((Sum.inr a : Key) = Sum.inr b) = decide (a = b) := by
  by_cases e : a = b
  · subst e; simp
  · have h : ¬ (Sum.inr a : Key) = Sum.inr b := fun q => e (Sum.inr.inj q)
    rw [decide_eq_false h, decide_eq_false e]
theorem key_lr (a : Int) (b : Str) : decide ((Sum.inl a : Key) = Sum.inr b) = false := decide_eq_false (fun q => nomatch q)
theorem key_rl (a : Str) (b : Int) : decide ((Sum.inr a : Key) = Sum.inl b) = false := decide_eq_false (fun q => nomatch q)

def mixKind (prog : Program) (w : World) : PySem.KeyKind prog w Key where
  is := keyIs
  hash := keyH w
  inj := fun v a b ha hb => by
    rcases keyIs_shape ha with ⟨i, t, rfl, rfl⟩ | ⟨x, t, rfl, rfl⟩
    · rcases keyIs_shape hb with ⟨j, u, rfl, e⟩ | ⟨y, u, rfl, e⟩
      · injection e with e1 _; rw [e1]
      · exact nomatch e
    · rcases keyIs_shape hb with ⟨j, u, rfl, e⟩ | ⟨y, u, rfl, e⟩
      · exact nomatch e
      · injection e with e1 _; rw [e1]
  byValue := fun k v h => by
    rcases keyIs_shape h with ⟨i, t, rfl, rfl⟩ | ⟨x, t, rfl, rfl⟩ <;> rfl
  pyHash := fun hv h => by
    rcases keyIs_shape hv with ⟨i, t, rfl, rfl⟩ | ⟨x, t, rfl, rfl⟩
    · exact wpAny_pyHash_int h
    · exact wpAny_pyHash_str h
  eqBool := fun hu hv h => by
    rcases keyIs_shape hu with ⟨i, t, rfl, rfl⟩ | ⟨x, t, rfl, rfl⟩
    · rcases keyIs_shape hv with ⟨j, u, rfl, rfl⟩ | ⟨y, u, rfl, rfl⟩
      · rw [key_ll] at h; exact wpAny_eqBool_int h
      · rw [key_lr] at h; exact SeqAt.EqAt.int_str i t y u _ _ _ _ h
    · rcases keyIs_shape hv with ⟨j, u, rfl, rfl⟩ | ⟨y, u, rfl, rfl⟩
      · rw [key_rl] at h; exact SeqAt.EqAt.str_int x t j u _ _ _ _ h
      · rw [key_rr] at h; exact wpAny_eqBool_str h
  «strs» := fun k x t v h => by
    rcases keyIs_shape h with ⟨i, u, rfl, e⟩ | ⟨y, u, rfl, e⟩
    · exact nomatch e
    · injection e with e1 _
      subst e1
      cases v <;> rfl

theorem mixKind_int (prog : Program) (w : World) (i : Int) (t : Tok) : (mixKind prog w).is (.inl i) (.int i t) = true := keyIs_int i t
theorem mixKind_str (prog : Program) (w : World) (x : Str) (t : Tok) : (mixKind prog w).is (.inr x) (.str x t) = true := keyIs_str x t
end L2

namespace L2
open PySem PySem.Spec PyProof.Rows

/-- a value, without the heap -/
inductive V where
  | non | bl (b : Bool) | int (i : Int) | str (x : Str) | byt (b : Array UInt8) | flt (b : UInt64) | ref (a : Addr) | ty (n : String)
  deriving DecidableEq

def RelV : V → Value → Prop
  | .non, u => u = Value.none
  | .bl b, u => u = Value.bool b
  | .int i, u => ∃ t, u = Value.int i t
  | .str x, u => ∃ t, u = Value.str x t
  | .byt b, u => ∃ t, u = Value.bytes b t
  | .flt b, u => ∃ t, u = Value.float b t
  | .ref a, u => u = Value.ref a
  | .ty n, u => u = Value.type n

abbrev Vals : List V → List Value → Prop := Paired RelV
theorem Vals.length {xs : List V} {us : List Value} (r : Vals xs us) : xs.length = us.length := Paired.length r
theorem Vals.get : ∀ {xs : List V} {us : List Value} {i : Nat} {x : V}, Vals xs us → xs[i]? = some x → ∃ u, us[i]? = some u ∧ RelV x u
  | _, _, _, _, .nil, e => by simp at e
  | _, _, 0, _, .cons r _, e => by simp at e; subst e; exact ⟨_, rfl, r⟩
  | _, _, i + 1, x, .cons _ t, e => by
    obtain ⟨u, h1, h2⟩ := Vals.get (i := i) (x := x) t (by simpa using e)
    exact ⟨u, by simpa using h1, h2⟩
theorem Vals.append : ∀ {xs ys : List V} {us ws : List Value}, Vals xs us → Vals ys ws → Vals (xs ++ ys) (us ++ ws)
  | _, _, _, _, .nil, s => s
  | _, _, _, _, .cons r t, s => .cons r (Vals.append t s)
theorem Vals.take : ∀ {xs : List V} {us : List Value} (n : Nat), Vals xs us → Vals (xs.take n) (us.take n)
  | _, _, 0, _ => .nil
  | _, _, _ + 1, .nil => .nil
  | _, _, n + 1, .cons r t => .cons r (Vals.take n t)
theorem Vals.drop : ∀ {xs : List V} {us : List Value} (n : Nat), Vals xs us → Vals (xs.drop n) (us.drop n)
  | _, _, 0, r => r
  | _, _, _ + 1, .nil => .nil
  | _, _, n + 1, .cons _ t => Vals.drop n t
def RelO : Option V → Option Value → Prop
  | some v, some u => RelV v u
  | none, none => True
  | _, _ => False
def KV {κ : Type} : List (κ × V) → List (κ × Value) → Prop := Paired fun (p : κ × V) (q : κ × Value) => p.1 = q.1 ∧ RelV p.2 q.2

/-- a key of a dict (00_mix): an int or a text -/
def kV : Key → V
  | .inl i => .int i
  | .inr x => .str x

/-- what stands at a tracked address -/
inductive HO where
  /-- a list -/
  | lst (xs : List V)
  /-- a tuple (never changes) -/
  | tup (xs : List V)
  /-- a dict whose keys are ints and texts; one whose keys are tuples of ints and texts (the empty one is both) -/
  | dK (kvs : List (Key × V)) | dT (kvs : List (List Key × V))
  /-- a set of ints: its members, its size -/
  | set (S : Int → Bool) (n : Nat)
  /-- an instance of the class at C, its dict at dx, its attributes -/
  | ins (C dx : Addr) (fs : List (Str × V))
  /-- the dict of the instance at x -/
  | own (x : Addr)
  /-- the dict of an exception -/
  | xd (fs : List (Str × V))
  /-- a bound method, f of x -/
  | met (f x : Addr)
  /-- a range object lo, lo + 1, .. below hi -/
  | rng (lo hi : Int)
  /-- a thing that is known to the object (the script; a dict while a loop walks it): read, never written while it is so -/
  | frz (o : Obj) (u : HO)
  /-- a code object's table -/
  | tbl (ps : Array Value)
  /-- any other thing, by what is true of its one object (a def of one's own: SetO a S n := HO.ext fun h => ..) -/
  | ext (φ : Heap → Prop)

abbrev Hp := Addr → Option HO
def upd (H : Hp) (a : Addr) (o : HO) : Hp := fun b => if b = a then some o else H b
theorem upd_same {H : Hp} {a : Addr} {o : HO} : upd H a o a = some o := by unfold upd; rw [if_pos rfl]
theorem upd_ne {H : Hp} {a b : Addr} {o : HO} (h : b ≠ a) : upd H a o b = H b := by unfold upd; rw [if_neg h]
/-- two objects of different content stand apart -/
theorem ne_of {H : Hp} {a b : Addr} {o u : HO} (h : H a = some o) (h' : H b = some u) (d : o ≠ u) : a ≠ b := by
  intro e; subst e; rw [h] at h'; exact d (Option.some.inj h')
theorem ne_of_none {H : Hp} {a b : Addr} {o : HO} (h : H a = some o) (h' : H b = none) : a ≠ b := by
  intro e; subst e; rw [h] at h'; cases h'

section
variable (P : Program) (w : World)
def ObjOk (H : Hp) (h : Heap) (a : Addr) : HO → Prop
  | .lst xs => xs.length ≤ sizeLine ∧ ∃ (its : List Value) (n : Nat), Vals xs its ∧ h.get? a = some { cls := .type "list", data := .seq its.toArray n }
  | .tup xs => xs.length ≤ sizeLine ∧ ∃ its : List Value, Vals xs its ∧ IsTup h a its.toArray
  | .dK kvs => kvs.length ≤ sizeLine ∧ (a == sysModules) = false ∧ ∃ vs, KV kvs vs ∧ h.DictOf (mixKind P w) a vs
  | .dT kvs => kvs.length ≤ sizeLine ∧ (a == sysModules) = false ∧ ∃ xs : List (List Key × Addr × Value),
      Paired (fun (p : List Key × V) (q : List Key × Addr × Value) => p.1 = q.1 ∧ H q.2.1 = some (.tup (p.1.map kV)) ∧ RelV p.2 q.2.2) kvs xs ∧
      ∃ o es ep, h.get? a = some o ∧ o.ExactDict ∧ o.data = .dict es ep ∧ es.toList = xs.map (entryOfKey (tupleKind (mixKind P w))) ∧ (xs.map (·.1)).Nodup
  | .set S n => h.SetOf (intKind P w) a S n
  | .ins C dx fs => H dx = some (.own a) ∧ fs.length ≤ 1000 ∧ dx ≠ a ∧ h.get? a = some (PySem.W.instObj C dx) ∧
      ∃ mA, h.Ns1 dx mA ∧ (∀ f, RelO (fs.lookup f) (mA f)) ∧ PySem.Within mA (fs.map (·.1))
  | .own _ => ∃ o, h.get? a = some o
  | .xd fs => ∃ mA, h.Ns1 a mA ∧ ∀ f, RelO (fs.lookup f) (mA f)
  | .rng lo hi => ∃ t u v, h.get? a = some { cls := .type "range", data := .fields #[.int lo t, .int hi u, .int 1 v] }
  | .frz o u => h.get? a = some o ∧ ObjOk H h a u
  | .tbl ps => h.get? a = some { cls := .none, data := .fields ps }
  | .met f x => h.get? a = some (PySem.W.methodObj (.ref f) (.ref x))
  | .ext φ => φ h ∧ (∃ o, h.get? a = some o) ∧ ∀ h1 h2 : Heap, φ h1 → (∀ o, h1.get? a = some o → h2.get? a = some o) → φ h2
/-- the abstract heap is held -/
def HOk (H : Hp) (h : Heap) : Prop := ∀ a o, H a = some o → ObjOk P w H h a o
end

section
variable {P : Program} {w : World} {H H' : Hp} {h h' : Heap} {a : Addr} {o : HO}
theorem ObjOk.lt (x : ObjOk P w H h a o) : a < h.objs.size := by
  cases o with
  | lst xs => obtain ⟨_, _, _, _, e⟩ := x; exact Heap.lt_size e
  | tup xs => obtain ⟨_, _, _, p⟩ := x; exact p.lt
  | dK kvs => obtain ⟨_, _, _, _, o, _, _, e, _⟩ := x; exact Heap.lt_size e
  | dT kvs => obtain ⟨_, _, _, _, o, _, _, e, _⟩ := x; exact Heap.lt_size e
  | set S n => obtain ⟨o, _, _, _, e, _⟩ := x; exact Heap.lt_size e
  | ins C dx fs => obtain ⟨_, _, _, e, _⟩ := x; exact Heap.lt_size e
  | own y => obtain ⟨_, e⟩ := x; exact Heap.lt_size e
  | xd fs => obtain ⟨_, ⟨_, _, _, e, _⟩, _⟩ := x; exact Heap.lt_size e
  | rng lo hi => obtain ⟨_, _, _, e⟩ := x; exact Heap.lt_size e
  | frz ob u => obtain ⟨e, _⟩ := x; exact Heap.lt_size e
  | tbl ps => exact Heap.lt_size (show h.get? a = some _ from x)
  | met f y => exact Heap.lt_size (show h.get? a = some _ from x)
  | ext φ => obtain ⟨_, ⟨_, e⟩, _⟩ := x; exact Heap.lt_size e
theorem Paired.mapP {α β : Type} {F G : α → β → Prop} : ∀ {l₁ : List α} {l₂ : List β}, Paired F l₁ l₂ → (∀ a b, F a b → G a b) → Paired G l₁ l₂
  | _, _, .nil, _ => .nil
  | _, _, .cons r t, f => .cons (f _ _ r) (Paired.mapP t f)
/-- what an object's description leans on: its own object, its own dict, the tuples -/
theorem ObjOk.stay (x : ObjOk P w H h a o) (k : ∀ b u, (b = a ∨ H b = some (.own a)) → h.get? b = some u → h'.get? b = some u)
    (ho : ∀ b, H b = some (.own a) → H' b = some (.own a)) (ht : ∀ b xs, H b = some (.tup xs) → H' b = some (.tup xs)) : ObjOk P w H' h' a o := by
  induction o with
  | lst xs => obtain ⟨z, its, n, r, e⟩ := x; exact ⟨z, its, n, r, k _ _ (.inl rfl) e⟩
  | tup xs => obtain ⟨z, its, r, ob, e, c⟩ := x; exact ⟨z, its, r, ob, k _ _ (.inl rfl) e, c⟩
  | dK kvs => obtain ⟨z, y, vs, r, ob, es, ep, e, c⟩ := x; exact ⟨z, y, vs, r, ob, es, ep, k _ _ (.inl rfl) e, c⟩
  | dT kvs =>
    obtain ⟨z, y, xs, r, ob, es, ep, e, c⟩ := x
    exact ⟨z, y, xs, Paired.mapP r fun p q z => ⟨z.1, ht _ _ z.2.1, z.2.2⟩, ob, es, ep, k _ _ (.inl rfl) e, c⟩
  | set S n => obtain ⟨ob, es, ep, t, e, c⟩ := x; exact ⟨ob, es, ep, t, k _ _ (.inl rfl) e, c⟩
  | ins C dx fs =>
    obtain ⟨d, z, ne, e, mA, ⟨od, es, ep, e2, c⟩, r⟩ := x
    exact ⟨ho _ d, z, ne, k _ _ (.inl rfl) e, mA, ⟨od, es, ep, k _ _ (.inr d) e2, c⟩, r⟩
  | own y => obtain ⟨ob, e⟩ := x; exact ⟨ob, k _ _ (.inl rfl) e⟩
  | xd fs => obtain ⟨mA, ⟨od, es, ep, e, c⟩, r⟩ := x; exact ⟨mA, ⟨od, es, ep, k _ _ (.inl rfl) e, c⟩, r⟩
  | rng lo hi => obtain ⟨t, u, v, e⟩ := x; exact ⟨t, u, v, k _ _ (.inl rfl) e⟩
  | frz ob u ih => obtain ⟨e, q⟩ := x; exact ⟨k _ _ (.inl rfl) e, ih q⟩
  | tbl ps =>
    have e : h.get? a = some { cls := .none, data := .fields ps } := x
    show h'.get? a = some { cls := .none, data := .fields ps }
    exact k a _ (.inl rfl) e
  | met f y =>
    have e : h.get? a = some (PySem.W.methodObj (.ref f) (.ref y)) := x
    show h'.get? a = some (PySem.W.methodObj (.ref f) (.ref y))
    exact k a _ (.inl rfl) e
  | ext φ => obtain ⟨p, ⟨o, e⟩, st⟩ := x; exact ⟨st _ _ p fun o q => k _ _ (.inl rfl) q, ⟨o, k _ _ (.inl rfl) e⟩, st⟩
theorem HOk.lt (x : HOk P w H h) (e : H a = some o) : a < h.objs.size := (x a o e).lt
theorem HOk.fresh (x : HOk P w H h) (e : h.objs.size ≤ a) : H a = none := by
  cases q : H a with
  | none => rfl
  | some u => exact absurd (Nat.lt_of_lt_of_le (x.lt q) e) (Nat.lt_irrefl _)
/-- every object of the heap is kept -/
theorem HOk.kept (x : HOk P w H h) (k : ∀ b u, h.get? b = some u → h'.get? b = some u) : HOk P w H h' := fun a o e =>
  (x a o e).stay (fun b u _ q => k b u q) (fun _ q => q) fun _ _ q => q
/-- a new object is laid and tracked -/
theorem HOk.laid (x : HOk P w H h) (k : ∀ b u, h.get? b = some u → h'.get? b = some u) (hp : h.objs.size ≤ a) (new : ObjOk P w (upd H a o) h' a o) : HOk P w (upd H a o) h' := fun b u e => by
  have hn := x.fresh hp
  by_cases hb : b = a
  · subst hb; rw [upd_same] at e; cases e; exact new
  · rw [upd_ne hb] at e
    exact (x b u e).stay (fun c v _ q => k c v q) (fun c q => by rw [upd_ne (ne_of_none q hn)]; exact q) fun c xs q => by rw [upd_ne (ne_of_none q hn)]; exact q
end

/-- what may be read as u: it is u, or a known u -/
def Rd (H : Hp) (a : Addr) (u : HO) : Prop := H a = some u ∨ ∃ o, H a = some (.frz o u)
theorem Rd.ok {P : Program} {w : World} {H : Hp} {h : Heap} {a : Addr} {u : HO} (r : Rd H a u) (x : HOk P w H h) : ObjOk P w H h a u := by
  rcases r with r | ⟨o, r⟩
  · exact x a u r
  · obtain ⟨_, q⟩ := x a _ r
    exact q
/-- what may be written -/
def Mut : Option HO → Prop
  | some (.lst _) => True
  | some (.dK _) => True
  | some (.dT _) => True
  | some (.set _ _) => True
  | some (.ins _ _ _) => True
  | some (.ext _) => True
  | _ => False
section
variable {P : Program} {w : World} {H : Hp} {h h' : Heap} {x e : Addr} {o' : HO}
/-- the object at e is changed: x itself, or the dict of the instance x -/
theorem HOk.write (ok : HOk P w H h) (mu : Mut (H x)) (he : e = x ∨ H e = some (.own x)) (k : ∀ b u, b ≠ e → h.get? b = some u → h'.get? b = some u) (heo : ∃ u, h'.get? e = some u)
    (new : ObjOk P w (upd H x o') h' x o') : HOk P w (upd H x o') h' := fun b u q => by
  have nown : ∀ c y, H c = some (.own y) → c ≠ x := fun c y r z => by subst z; rw [r] at mu; exact mu
  have ntup : ∀ c xs, H c = some (.tup xs) → c ≠ x := fun c xs r z => by subst z; rw [r] at mu; exact mu
  by_cases hb : b = x
  · subst hb; rw [upd_same] at q; cases q; exact new
  · rw [upd_ne hb] at q
    by_cases hbe : b = e
    · have q' : H b = some (.own x) := by
        rcases he with z | z
        · exact absurd (hbe.trans z) hb
        · rw [hbe]; exact z
      rw [q] at q'; cases q'
      obtain ⟨v, hv⟩ := heo
      exact ⟨v, by rw [hbe]; exact hv⟩
    · refine (ok b u q).stay (fun c v hc r => k c v ?_ r) (fun c r => by rw [upd_ne (nown c b r)]; exact r) fun c xs r => by rw [upd_ne (ntup c xs r)]; exact r
      rcases hc with rfl | hc
      · exact hbe
      · rintro rfl
        rcases he with z | z
        · exact nown c b hc z
        · rw [hc] at z; cases z; exact hb rfl
end

structure Un (fs ex : List Addr) (H H' : Hp) (h h' : Heap) : Prop where
  keep : ∀ b o, h.get? b = some o → H b = none → b ∉ fs → b ∉ ex → h'.get? b = some o
  slot : ∀ b o, h.get? b = some o → H b = none → b ∈ fs → b ∉ ex → ∃ sl, h'.get? b = some { o with slots := sl }
  free : ∀ b o, h.get? b = some o → H b = none → b ∉ ex → H' b = none
  there : ∀ b o, h.get? b = some o → b ∉ ex → ∃ o', h'.get? b = some o'
  tups : ∀ b xs, H b = some (.tup xs) → H' b = some (.tup xs)
  frzs : ∀ b o u, H b = some (.frz o u) → H' b = some (.frz o u)
  tbls : ∀ b ps, H b = some (.tbl ps) → ∃ more, H' b = some (.tbl (ps ++ more))
section
variable {fs fs' ex ex' : List Addr} {H H1 H2 : Hp} {h h1 h2 h' : Heap} {a x e : Addr} {o : HO}
theorem Un.any (u : Un fs ex H H1 h h1) {b : Addr} {ob : Obj} (q : h.get? b = some ob) (n : H b = none) (hx : b ∉ ex) : ∃ sl, h1.get? b = some { ob with slots := sl } := by
  by_cases hb : b ∈ fs
  · exact u.slot b ob q n hb hx
  · exact ⟨ob.slots, u.keep b ob q n hb hx⟩
theorem Un.kept (k : ∀ b u, h.get? b = some u → h'.get? b = some u) : Un fs ex H H h h' :=
  ⟨fun b ob q _ _ _ => k b ob q, fun b ob q _ _ _ => ⟨ob.slots, k b ob q⟩, fun _ _ _ n _ => n, fun b ob q _ => ⟨ob, k b ob q⟩, fun _ _ q => q, fun _ _ _ q => q, fun _ ps q => ⟨#[], by rw [q]; simp⟩⟩
theorem Un.refl : Un fs ex H H h h := Un.kept fun _ _ q => q
theorem Un.laid (k : ∀ b u, h.get? b = some u → h'.get? b = some u) (hp : h.objs.size ≤ a) (hn : H a = none) : Un fs ex H (upd H a o) h h' where
  keep := fun b u q _ _ _ => k b u q
  slot := fun b u q _ _ _ => ⟨u.slots, k b u q⟩
  free := fun b u q n _ => by rw [upd_ne (Nat.ne_of_lt (Nat.lt_of_lt_of_le (Heap.lt_size q) hp))]; exact n
  there := fun b u q _ => ⟨u, k b u q⟩
  tups := fun b xs q => by rw [upd_ne (ne_of_none q hn)]; exact q
  frzs := fun b u xs q => by rw [upd_ne (ne_of_none q hn)]; exact q
  tbls := fun b ps q => ⟨#[], by rw [upd_ne (ne_of_none q hn), q]; simp⟩
theorem Un.write (mu : Mut (H x)) (he : e = x ∨ H e = some (.own x)) (k : ∀ b u, b ≠ e → h.get? b = some u → h'.get? b = some u) (heo : ∃ u, h'.get? e = some u) : Un fs ex H (upd H x o) h h' := by
  have hx : ∀ b, H b = none → b ≠ x := fun b n z => by subst z; rw [n] at mu; exact mu
  have hb : ∀ b, H b = none → b ≠ e := fun b n z => by
    subst z
    rcases he with r | r
    · exact hx b n r
    · rw [n] at r; cases r
  have hm : ∀ b u, H b = some u → ¬ Mut (some u) → b ≠ x := fun b u q nm z => by subst z; rw [q] at mu; exact nm mu
  refine ⟨fun b u q n _ _ => k b u (hb b n) q, fun b u q n _ _ => ⟨u.slots, k b u (hb b n) q⟩, fun b u q n _ => by rw [upd_ne (hx b n)]; exact n, fun b u q _ => ?_,
    fun b xs q => by rw [upd_ne (hm b _ q fun z => z)]; exact q, fun b u xs q => by rw [upd_ne (hm b _ q fun z => z)]; exact q, fun b ps q => ⟨#[], by rw [upd_ne (hm b _ q fun z => z), q]; simp⟩⟩
  by_cases hbe : b = e
  · subst hbe; exact heo
  · exact ⟨u, k b u hbe q⟩
end

def trk (h : Heap) (H : Hp) : List Addr := (List.range h.objs.size).filter fun a => (H a).isSome
def hidT (h : Heap) (H : Hp) : Heap := PySem.W.hideAll h (trk h H)
theorem hidT_size (h : Heap) (H : Hp) : (hidT h H).objs.size = h.objs.size := PySem.W.hideAll_size _ _
theorem hidT_get {h : Heap} {H : Hp} {b : Addr} {o : Obj} (e : h.get? b = some o) (n : H b = none) : (hidT h H).get? b = some o :=
  PySem.W.hideAll_get _ e fun hm => by
    have q : (H b).isSome = true := (List.mem_filter.mp hm).2
    rw [n] at q; simp at q
theorem of_hidT {h : Heap} {H : Hp} {b : Addr} {o : Obj} (e : (hidT h H).get? b = some o) : h.get? b = some o ∧ H b = none := by
  have e' : h.get? b = some o := PySem.W.of_hideAll (trk h H) e
  refine ⟨e', ?_⟩
  cases q : H b with
  | none => rfl
  | some x =>
    have hm : b ∈ trk h H := List.mem_filter.mpr ⟨List.mem_range.mpr (Heap.lt_size e'), by simp [q]⟩
    have z : (hidT h H).get? b = none := PySem.W.hideAll_none (trk h H) hm
    rw [z] at e; cases e

def allNews (g h : Heap) (L : Addr) : List (Addr × Obj) := (List.range h.objs.size).filterMap fun a => if a = L ∨ (g.get? a).isSome = true then none else (h.get? a).map fun o => (a, o)
def rest (g h : Heap) (L d : Addr) : List (Addr × Obj) := (allNews g h L).filter fun p => decide (p.1 ≠ d)
end L2

namespace L2
open PySem PySem.Spec PyProof.Rows

/-- the module's facts, over the base: the heap at the law's entry without what is tracked there -/
structure Mod (K : PySem.W.Frag) (mg : Str → Option Value) (base : Heap) : Prop where
  kin : K.In base
  glob : base.Ns mainGlobals mg
  blt : ∃ mb, base.Ns builtinsNs mb ∧ ∀ x : Str, x ≠ "__name__" → mb x = bootBuiltins x
  nolimit : base.NoLimit

/-- the context: a def's body (or a comprehension's block) running. base: fixed through the whole law; s₀, H₀: the entry; outer: the frames whose slots others may change (a def's callers); stack: all frames that run;
   ex: iterators that were made ahead of the entry and are walked here (a comprehension's); fn: the names whose cells were made at the entry (a def: all; a comprehension's block: its own); calm: not within an except suite; pn: pins that every state bears; xe: what is wanted of an exception that leaves the code -/
structure Cx where
  prog : Program
  w : World
  K : PySem.W.Frag
  mg : Str → Option Value
  base : Heap
  A : Around
  N : List Str
  s₀ : Shared
  H₀ : Hp
  env : Env
  outer : List Env
  stack : List Env
  ex : List Addr
  fn : Str → Bool
  calm : Bool
  pn : List (Addr × Obj)
  xe : Value → Shared → Prop
/-- the callers' frames -/
def frs (l : List Env) : List Addr := l.filterMap (·.frame)
abbrev Cx.fs (X : Cx) : List Addr := frs X.outer

def Vis (sc : Scope) (x : Str) : Prop := sc.names.lookup x = some .local ∨ sc.names.lookup x = some .cell ∨ sc.names.lookup x = some .free
def Loc (sc : Scope) (x : Str) : Prop := sc.names.lookup x = some .local ∨ sc.names.lookup x = some .cell
def Look (env : Env) (h : Heap) (m : Str → Option Value) (x : Str) (u : Value) : Prop :=
  (env.kindOf x = some .local ∧ m x = some u) ∨ ((env.kindOf x = some .cell ∨ env.kindOf x = some .free) ∧ ∃ c, env.cells.lookup x = some c ∧ h.IsCell c (some u))

structure Cx.Ok (X : Cx) : Prop where
  mod : Mod X.K X.mg X.base
  kind : X.env.scope.kind = .function
  glob : X.env.globals = mainGlobals
  blt : X.env.builtins = builtinsNs
  above : X.s₀.heap.objs.size ≤ X.env.locals
  inj : ∀ x y c, X.env.cells.lookup x = some c → X.env.cells.lookup y = some c → x = y
  has : ∀ x, (X.env.kindOf x = some .cell ∨ X.env.kindOf x = some .free) → ∃ c, X.env.cells.lookup x = some c
  cab : ∀ x c, X.fn x = true → X.env.cells.lookup x = some c → X.s₀.heap.objs.size ≤ c
  hd : X.calm = true → X.A.handled = none
  frames : X.A.frames = some X.stack
  stk : X.stack = X.outer ∨ (X.stack = X.env :: X.outer ∧ X.env.frame = some X.env.locals)
  exf : ∀ b ∈ X.ex, b ≠ X.env.locals ∧ ∀ x c, X.env.cells.lookup x = some c → c ≠ b
  bs : ∀ b o, X.base.get? b = some o → X.s₀.heap.get? b = some o ∧ X.H₀ b = none
  bsz : X.base.objs.size ≤ X.s₀.heap.objs.size
  noex : ∀ b o, X.base.get? b = some o → b ∉ X.ex
  exfs : ∀ b ∈ X.ex, b ∉ X.fs
  funs : X.s₀.heap.FunFrames X.base X.outer
  frf : ∀ b ∈ X.fs, X.H₀ b = none

structure Inv (X : Cx) (pins : List (Addr × Obj)) (σ : List (Option V)) (H : Hp) (s : Shared) : Prop where
  ok : X.Ok
  os : s.os = X.s₀.os
  bare : AllBare s.gens
  base : Un X.fs X.ex X.H₀ H X.s₀.heap s.heap
  loc : ∃ m, s.heap.Ns X.env.locals m ∧ ∀ (i : Nat) (x : Str) (v : V), X.N[i]? = some x → σ[i]? = some (some v) → Vis X.env.scope x → ∃ u, RelV v u ∧ Look X.env s.heap m x u
  cell : ∀ x c, X.env.cells.lookup x = some c → ∃ v, s.heap.IsCell c v
  free : H X.env.locals = none
  freeC : ∀ x c, X.env.cells.lookup x = some c → H c = none
  pin : ∀ p ∈ X.pn ++ pins, s.heap.get? p.1 = some p.2 ∧ H p.1 = none ∧ p.1 ≠ X.env.locals ∧ p.1 ∉ X.fs ∧ ∀ v, p.2.data ≠ .cell v
  hok : HOk X.prog X.w H s.heap
  len : σ.length = X.N.length

section
variable {X : Cx} {pins : List (Addr × Obj)} {σ : List (Option V)} {H H' : Hp} {s : Shared} {h' : Heap}

theorem Cx.Ok.nofr (ok : X.Ok) {b : Addr} {o : Obj} (e : X.base.get? b = some o) : b ∉ X.fs := fun hb => by
  have := (ok.funs.mem hb).1
  rw [e] at this; cases this
theorem Inv.bs (I : Inv X pins σ H s) : ∀ b o, X.base.get? b = some o → s.heap.get? b = some o ∧ H b = none := fun b o e =>
  ⟨I.base.keep b o (I.ok.bs b o e).1 (I.ok.bs b o e).2 (I.ok.nofr e) (I.ok.noex b o e), I.base.free b o (I.ok.bs b o e).1 (I.ok.bs b o e).2 (I.ok.noex b o e)⟩
theorem Inv.bk (I : Inv X pins σ H s) : ∀ b o, X.base.get? b = some o → s.heap.get? b = some o := fun b o e => (I.bs b o e).1
theorem Inv.mod (I : Inv X pins σ H s) : Mod X.K X.mg X.base := I.ok.mod
theorem Inv.kIn (I : Inv X pins σ H s) : X.K.In s.heap := I.ok.mod.kin.keeps I.bk
theorem Inv.lt (I : Inv X pins σ H s) : X.env.locals < s.heap.objs.size := let ⟨_, hn, _⟩ := I.loc; hn.lt
theorem Inv.sz (I : Inv X pins σ H s) : X.s₀.heap.objs.size ≤ s.heap.objs.size := Nat.le_trans I.ok.above (Nat.le_of_lt I.lt)
theorem Inv.nofs (I : Inv X pins σ H s) {a : Addr} (h : s.heap.objs.size ≤ a) : a ∉ X.fs := fun hb => by
  obtain ⟨_, o, ho, _⟩ := I.ok.funs.mem hb
  exact absurd (Nat.lt_of_lt_of_le (Heap.lt_size ho) (Nat.le_trans I.sz h)) (Nat.lt_irrefl _)
theorem Inv.cne (I : Inv X pins σ H s) : ∀ x c, X.env.cells.lookup x = some c → c ≠ X.env.locals := fun x c e z => by
  obtain ⟨v, o, ho, hd⟩ := I.cell x c e
  obtain ⟨m, ⟨o', es, ep, ho', hd', _⟩, _⟩ := I.loc
  rw [z, ho'] at ho; cases ho; rw [hd'] at hd; cases hd
theorem Inv.funs (I : Inv X pins σ H s) : s.heap.FunFrames X.base X.outer := by
  have all : ∀ (l : List Env), (∀ b ∈ frs l, b ∈ X.fs) → X.s₀.heap.FunFrames X.base l → s.heap.FunFrames X.base l := by
    intro l
    induction l with
    | nil => intro _ _; trivial
    | cons env r ih =>
      intro hs hl
      obtain ⟨hk, ⟨L, o, hf, hn, ho, hd⟩, hr⟩ := hl
      have hL : L ∈ X.fs := hs L (by unfold frs; rw [List.filterMap_cons, hf]; exact List.mem_cons_self)
      obtain ⟨sl, e⟩ := I.base.slot L o ho (I.ok.frf L hL) hL fun z => I.ok.exfs L z hL
      exact ⟨hk, ⟨L, _, hf, hn, e, hd⟩, ih (fun b hb => hs b (by unfold frs; rw [List.filterMap_cons, hf]; exact List.mem_cons_of_mem _ hb)) hr⟩
  exact all X.outer (fun _ hb => hb) I.ok.funs

/-- the frames that run, for a call -/
theorem Inv.stack (I : Inv X pins σ H s) : s.heap.FunFrames X.base X.stack := by
  rcases I.ok.stk with e | ⟨e, hf⟩
  · rw [e]; exact I.funs
  · rw [e]
    obtain ⟨m, hn, _⟩ := I.loc
    refine .cons (by rw [I.ok.kind]; decide) hf hn ?_ I.funs
    exact Heap.get?_none_of_le (Nat.le_trans I.ok.bsz I.ok.above)
theorem Inv.stkSub (I : Inv X pins σ H s) : ∀ b ∈ frs X.stack, b ∈ X.env.locals :: X.fs := fun b hb => by
  rcases I.ok.stk with e | ⟨e, hf⟩
  · rw [e] at hb; exact List.mem_cons_of_mem _ hb
  · rw [e] at hb
    unfold frs at hb
    rw [List.filterMap_cons, hf] at hb
    exact hb
theorem Inv.stkFree (I : Inv X pins σ H s) : ∀ b ∈ frs X.stack, H b = none := fun b hb => by
  rcases List.mem_cons.mp (I.stkSub b hb) with e | hb
  · rw [e]; exact I.free
  · obtain ⟨_, o, ho, _⟩ := I.ok.funs.mem hb
    exact I.base.free b o ho (I.ok.frf b hb) fun z => I.ok.exfs b z hb

/-- THE STEP: the untracked objects but the frame and the records at ch are kept (the callers' frames up to slots), the frame's map is kept, the new abstract heap is held -/
theorem Inv.step {g' : Array GenState} {t' : Nat} {d' : Drawn} {ch : List Addr} (I : Inv X pins σ H s)
    (hch : ∀ b ∈ ch, (b ∈ X.ex ∨ X.s₀.heap.objs.size ≤ b) ∧ b ≠ X.env.locals ∧ (∀ x c, X.env.cells.lookup x = some c → c ≠ b) ∧ ∀ p ∈ X.pn ++ pins, p.1 ≠ b)
    (keep : ∀ b o, b ≠ X.env.locals → b ∉ X.fs → b ∉ ch → s.heap.get? b = some o → H b = none → h'.get? b = some o)
    (slot : ∀ b o, b ≠ X.env.locals → b ∈ X.fs → b ∉ ch → s.heap.get? b = some o → H b = none → ∃ sl, h'.get? b = some { o with slots := sl }) (free : ∀ b o, b ∉ ch → s.heap.get? b = some o → H b = none → H' b = none)
    (there : ∀ b o, b ∉ ch → s.heap.get? b = some o → ∃ o', h'.get? b = some o')
    (tups : ∀ b xs, H b = some (.tup xs) → H' b = some (.tup xs)) (frzs : ∀ b o u, H b = some (.frz o u) → H' b = some (.frz o u)) (tbls : ∀ b ps, H b = some (.tbl ps) → ∃ more, H' b = some (.tbl (ps ++ more)))
    (ns : ∀ m, s.heap.Ns X.env.locals m → h'.Ns X.env.locals m) (hok : HOk X.prog X.w H' h') (hg : AllBare g') :
    Inv X pins σ H' { s with heap := h', gens := g', drawn := d', toks := t' } := by
  have neL : ∀ b o, X.s₀.heap.get? b = some o → b ≠ X.env.locals := fun b o e => Nat.ne_of_lt (Nat.lt_of_lt_of_le (Heap.lt_size e) I.ok.above)
  have neC : ∀ b o, X.s₀.heap.get? b = some o → b ∉ X.ex → b ∉ ch := fun b o e hx hb => by
    rcases (hch b hb).1 with z | z
    · exact hx z
    · exact absurd (Nat.lt_of_lt_of_le (Heap.lt_size e) z) (Nat.lt_irrefl _)
  have cellK : ∀ x c, X.env.cells.lookup x = some c → ∀ v, s.heap.IsCell c v → h'.IsCell c v := fun x c e v ⟨o, ho, hd⟩ => by
    have nch : c ∉ ch := fun z => (hch c z).2.2.1 x c e rfl
    by_cases hc : c ∈ X.fs
    · obtain ⟨sl, q⟩ := slot c o (I.cne x c e) hc nch ho (I.freeC x c e)
      exact ⟨_, q, hd⟩
    · exact ⟨o, keep c o (I.cne x c e) hc nch ho (I.freeC x c e), hd⟩
  refine ⟨I.ok, I.os, hg, ⟨fun b o e n hb hx => ?_, fun b o e n hb hx => ?_, fun b o e n hx => ?_, fun b o e hx => ?_, fun b xs e => tups b xs (I.base.tups b xs e), fun b o xs e => frzs b o xs (I.base.frzs b o xs e), fun b ps e => ?_⟩, ?_, fun x c e => ?_, ?_, fun x c e => ?_, fun p hp => ?_, hok, I.len⟩
  · exact keep b o (neL b o e) hb (neC b o e hx) (I.base.keep b o e n hb hx) (I.base.free b o e n hx)
  · obtain ⟨sl, e1⟩ := I.base.slot b o e n hb hx
    obtain ⟨sl', e2⟩ := slot b _ (neL b o e) hb (neC b o e hx) e1 (I.base.free b o e n hx)
    exact ⟨sl', e2⟩
  · obtain ⟨o', e1⟩ := I.base.there b o e hx
    exact free b o' (neC b o e hx) e1 (I.base.free b o e n hx)
  · obtain ⟨o', e1⟩ := I.base.there b o e hx
    exact there b o' (neC b o e hx) e1
  · obtain ⟨m1, e1⟩ := I.base.tbls b ps e
    obtain ⟨m2, e2⟩ := tbls b _ e1
    exact ⟨m1 ++ m2, by rw [e2, Array.append_assoc]⟩
  · obtain ⟨m, hn, hl⟩ := I.loc
    refine ⟨m, ns m hn, fun i x v e1 e2 e3 => ?_⟩
    obtain ⟨u, r, l⟩ := hl i x v e1 e2 e3
    refine ⟨u, r, ?_⟩
    rcases l with l | ⟨k, c, e, z⟩
    · exact .inl l
    · exact .inr ⟨k, c, e, cellK x c e _ z⟩
  · obtain ⟨v, z⟩ := I.cell x c e
    exact ⟨v, cellK x c e v z⟩
  · obtain ⟨m, ⟨o, _, _, ho, _⟩, _⟩ := I.loc
    exact free _ o (fun z => (hch _ z).2.1 rfl) ho I.free
  · obtain ⟨v, o, ho, hd⟩ := I.cell x c e
    exact free c o (fun z => (hch c z).2.2.1 x c e rfl) ho (I.freeC x c e)
  · obtain ⟨e, n, ne, nf, d⟩ := I.pin p hp
    have nch : p.1 ∉ ch := fun z => (hch p.1 z).2.2.2 p hp rfl
    exact ⟨keep p.1 p.2 ne nf nch e n, free p.1 p.2 nch e n, ne, nf, d⟩
/-- .. where the frame's own object is kept too -/
theorem Inv.un {t' : Nat} (I : Inv X pins σ H s) (u : Un X.fs [] H H' s.heap h') (hok : HOk X.prog X.w H' h') : Inv X pins σ H' { s with heap := h', toks := t' } := by
  obtain ⟨m, ⟨o, es, ep, ho, r⟩, _⟩ := id I.loc
  obtain ⟨sl, hL⟩ := u.any ho I.free (by simp)
  exact I.step (g' := s.gens) (d' := s.drawn) (ch := []) (fun _ z => nomatch z) (fun b o _ hb _ e n => u.keep b o e n hb (by simp)) (fun b o _ hb _ e n => u.slot b o e n hb (by simp)) (fun b o _ e n => u.free b o e n (by simp)) (fun b o _ e => u.there b o e (by simp)) u.tups u.frzs u.tbls (fun m' hm => by
    obtain ⟨o', es', ep', ho', r'⟩ := hm
    rw [ho] at ho'; cases ho'
    exact ⟨_, es', ep', hL, r'⟩) hok I.bare
/-- behind a call (or a comprehension's block): the slots of this frame may have changed too, the records at ch may have turned -/
theorem Inv.call {g' : Array GenState} {t' : Nat} {d' : Drawn} {ch : List Addr} (I : Inv X pins σ H s) (u : Un (frs X.stack) ch H H' s.heap h') (hok : HOk X.prog X.w H' h') (hg : AllBare g')
    (hch : ∀ b ∈ ch, (b ∈ X.ex ∨ X.s₀.heap.objs.size ≤ b) ∧ b ≠ X.env.locals ∧ (∀ x c, X.env.cells.lookup x = some c → c ≠ b) ∧ ∀ p ∈ X.pn ++ pins, p.1 ≠ b) :
    Inv X pins σ H' { s with heap := h', gens := g', drawn := d', toks := t' } := by
  obtain ⟨m, ⟨o, es, ep, ho, r⟩, _⟩ := id I.loc
  obtain ⟨sl, hL⟩ := u.any ho I.free fun z => (hch _ z).2.1 rfl
  exact I.step (ch := ch) hch (fun b o hL hb hc e n => u.keep b o e n (fun z => (List.mem_cons.mp (I.stkSub b z)).elim hL hb) hc) (fun b o _ _ hc e n => u.any e n hc) (fun b o hc e n => u.free b o e n hc) (fun b o hc e => u.there b o e hc) u.tups u.frzs u.tbls (fun m' hm => by
    obtain ⟨o', es', ep', ho', r'⟩ := hm
    rw [ho] at ho'; cases ho'
    exact ⟨_, es', ep', hL, r'⟩) hok hg
/-- an untracked record of ours (an iterator) has turned -/
theorem Inv.turned {t' : Nat} {it : Addr} (I : Inv X pins σ H s) (k : ∀ b o, b ≠ it → s.heap.get? b = some o → h'.get? b = some o) (hn : H it = none) (hL : it ≠ X.env.locals)
    (h1 : it ∈ X.ex ∨ X.s₀.heap.objs.size ≤ it) (h2 : ∀ x c, X.env.cells.lookup x = some c → c ≠ it) (h3 : ∀ p ∈ X.pn ++ pins, p.1 ≠ it) : Inv X pins σ H { s with heap := h', toks := t' } := by
  have nit : ∀ b u, H b = some u → b ≠ it := fun b u e z => by rw [z, hn] at e; cases e
  refine I.step (g' := s.gens) (d' := s.drawn) (ch := [it]) (fun b hb => ?_) (fun b o _ _ hc e _ => k b o (fun z => hc (by simp [z])) e) (fun b o _ _ hc e _ => ⟨o.slots, k b o (fun z => hc (by simp [z])) e⟩) (fun _ _ _ _ n => n)
    (fun b o hc e => ⟨o, k b o (fun z => hc (by simp [z])) e⟩) (fun _ _ e => e) (fun _ _ _ e => e) (fun b ps e => ⟨#[], by rw [e]; simp⟩) (fun m hm => ?_) (fun b u e => ?_) I.bare
  · have e : b = it := by simpa using hb
    subst e
    exact ⟨h1, hL, h2, h3⟩
  · obtain ⟨o, es, ep, ho, r⟩ := hm
    exact ⟨o, es, ep, k _ o (Ne.symm hL) ho, r⟩
  · refine (I.hok b u e).stay (fun c v hc q => k c v ?_ q) (fun _ q => q) fun _ _ q => q
    rcases hc with z | z
    · rw [z]; exact nit b u e
    · exact nit c _ z
theorem Inv.tok (I : Inv X pins σ H s) (t : Nat) : Inv X pins σ H { s with toks := t } := I.un (h' := s.heap) (t' := t) Un.refl I.hok
/-- all objects kept -/
theorem Inv.kept {t' : Nat} (I : Inv X pins σ H s) (k : ∀ b u, s.heap.get? b = some u → h'.get? b = some u) : Inv X pins σ H { s with heap := h', toks := t' } := I.un (Un.kept k) (I.hok.kept k)
/-- a new object laid and tracked -/
theorem Inv.laid {a : Addr} {o : HO} {t' : Nat} (I : Inv X pins σ H s) (k : ∀ b u, s.heap.get? b = some u → h'.get? b = some u) (hp : s.heap.objs.size ≤ a) (new : ObjOk X.prog X.w (upd H a o) h' a o) :
    Inv X pins σ (upd H a o) { s with heap := h', toks := t' } := I.un (Un.laid k hp (I.hok.fresh hp)) (I.hok.laid k hp new)
/-- an object written -/
theorem Inv.write {x e : Addr} {o : HO} {t' : Nat} (I : Inv X pins σ H s) (mu : Mut (H x)) (he : e = x ∨ H e = some (.own x)) (k : ∀ b u, b ≠ e → s.heap.get? b = some u → h'.get? b = some u) (heo : ∃ u, h'.get? e = some u)
    (new : ObjOk X.prog X.w (upd H x o) h' x o) : Inv X pins σ (upd H x o) { s with heap := h', toks := t' } := I.un (Un.write mu he k heo) (I.hok.write mu he k heo new)
theorem Inv.pins_of {pins' : List (Addr × Obj)} (I : Inv X pins σ H s) (h : ∀ p ∈ pins', s.heap.get? p.1 = some p.2 ∧ H p.1 = none ∧ p.1 ≠ X.env.locals ∧ p.1 ∉ X.fs ∧ ∀ v, p.2.data ≠ .cell v) : Inv X pins' σ H s :=
  ⟨I.ok, I.os, I.bare, I.base, I.loc, I.cell, I.free, I.freeC, fun p hp => (List.mem_append.mp hp).elim (fun z => I.pin p (List.mem_append_left _ z)) (h p), I.hok, I.len⟩

theorem nodup_ix {N : List Str} (hN : N.Nodup) {i j : Nat} {x : Str} (a : N[i]? = some x) (b : N[j]? = some x) : i = j := by
  obtain ⟨h1, e1⟩ := List.getElem?_eq_some_iff.mp a
  obtain ⟨h2, e2⟩ := List.getElem?_eq_some_iff.mp b
  exact (List.getElem_inj hN).mp (e1.trans e2.symm)

/-- a name is stored; what changed -/
theorem store_ok2 {M : Model} {A : Around} {E : Value → Shared → Prop} {i : Nat} {x : Str} {v : V} {u : Value} {Q : Unit → Shared → Prop} (I : Inv X pins σ H s) (hN : X.N.Nodup) (hi : X.N[i]? = some x) (hx : Loc X.env.scope x) (r : RelV v u)
    (h : ∀ s', Inv X pins (σ.set i (some v)) H s' → (∃ a, Heap.SameBut a s.heap s'.heap ∧ (a = X.env.locals ∨ X.env.cells.lookup x = some a)) → Q () s') (hf : X.fn x = true ∨ X.env.scope.names.lookup x = some .local := by first | exact .inl rfl | exact .inr rfl | assumption) : wpAny M A (storeName X.env x u) Q E s := by
  obtain ⟨m, hn, hl⟩ := id I.loc
  have hcls : (X.env.scope.kind == .class || (X.env.scope.kind == .module && X.env.locals != X.env.globals)) = false := by rw [I.ok.kind]; rfl
  have hiσ : i < σ.length := by rw [I.len]; exact (List.getElem?_eq_some_iff.mp hi).1
  have cne := I.cne
  have tracked : ∀ {a : Addr} {h' : Heap}, (∃ o, s.heap.get? a = some o ∧ H a = none) → Heap.SameBut a s.heap h' → HOk X.prog X.w H h' := fun {a h'} ha hs b ob e => by
    obtain ⟨_, _, hfree⟩ := ha
    refine (I.hok b ob e).stay (fun c w' hc q => (hs.2 c ?_).trans q) (fun _ q => q) fun _ _ q => q
    rintro rfl
    rcases hc with rfl | hc
    · rw [hfree] at e; cases e
    · rw [hfree] at hc; cases hc
  rcases hx with hk | hk
  · refine wpAny_storeName_local hk hn (fun h' hn' hs => ?_) hcls
    obtain ⟨oL, _, _, hoL, _⟩ := id hn
    refine h _ ⟨I.ok, I.os, I.bare, ⟨fun b o e n hb hx => ?_, fun b o e n hb hx => ?_, I.base.free, fun b o e hx => ?_, I.base.tups, I.base.frzs, I.base.tbls⟩, ⟨_, hn', fun j y v' e1 e2 e3 => ?_⟩, fun y c e => ?_, I.free, I.freeC, fun p hp => ?_, tracked ⟨oL, hoL, I.free⟩ hs, by simpa using I.len⟩ ⟨_, hs, .inl rfl⟩
    · exact (hs.2 b (Nat.ne_of_lt (Nat.lt_of_lt_of_le (Heap.lt_size e) I.ok.above))).trans (I.base.keep b o e n hb hx)
    · obtain ⟨sl, e1⟩ := I.base.slot b o e n hb hx
      exact ⟨sl, (hs.2 b (Nat.ne_of_lt (Nat.lt_of_lt_of_le (Heap.lt_size e) I.ok.above))).trans e1⟩
    · obtain ⟨o', e1⟩ := I.base.there b o e hx
      exact ⟨o', (hs.2 b (Nat.ne_of_lt (Nat.lt_of_lt_of_le (Heap.lt_size e) I.ok.above))).trans e1⟩
    · by_cases hj : j = i
      · subst hj
        rw [hi] at e1; cases e1
        rw [List.getElem?_set_self hiσ] at e2
        cases e2
        exact ⟨u, r, .inl ⟨hk, by simp⟩⟩
      · rw [List.getElem?_set_ne (Ne.symm hj)] at e2
        obtain ⟨u', r', q⟩ := hl j y v' e1 e2 e3
        refine ⟨u', r', ?_⟩
        rcases q with ⟨k, e⟩ | ⟨k, c, e, z⟩
        · refine .inl ⟨k, ?_⟩
          have : y ≠ x := fun e => hj (nodup_ix hN e1 (e ▸ hi))
          simp [this, e]
        · exact .inr ⟨k, c, e, z.sameBut hs (cne y c e)⟩
    · obtain ⟨w', z⟩ := I.cell y c e
      exact ⟨w', z.sameBut hs (cne y c e)⟩
    · obtain ⟨e, n, ne, nf, d⟩ := I.pin p hp
      exact ⟨(hs.2 p.1 ne).trans e, n, ne, nf, d⟩
  · have hfn : X.fn x = true := by
      rcases hf with z | z
      · exact z
      · rw [z] at hk; cases hk
    obtain ⟨c, hc⟩ := I.ok.has x (.inl hk)
    obtain ⟨w', z⟩ := I.cell x c hc
    refine wpAny_storeName_cell I.ok.kind hk hc z (fun h' hc' hs => ?_)
    obtain ⟨oc, hoc, hocd⟩ := id z
    refine h { s with heap := h' } ⟨I.ok, I.os, I.bare, ⟨fun b o e n hb hx => ?_, fun b o e n hb hx => ?_, I.base.free, fun b o e hx => ?_, I.base.tups, I.base.frzs, I.base.tbls⟩, ⟨m, hn.sameBut hs (Ne.symm (cne x c hc)), fun j y v' e1 e2 e3 => ?_⟩, fun y c' e => ?_, I.free, I.freeC, fun p hp => ?_, tracked ⟨oc, hoc, I.freeC x c hc⟩ hs, by simpa using I.len⟩ ⟨c, hs, .inr hc⟩
    · exact (hs.2 b (Nat.ne_of_lt (Nat.lt_of_lt_of_le (Heap.lt_size e) (I.ok.cab x c hfn hc)))).trans (I.base.keep b o e n hb hx)
    · obtain ⟨sl, e1⟩ := I.base.slot b o e n hb hx
      exact ⟨sl, (hs.2 b (Nat.ne_of_lt (Nat.lt_of_lt_of_le (Heap.lt_size e) (I.ok.cab x c hfn hc)))).trans e1⟩
    · obtain ⟨o', e1⟩ := I.base.there b o e hx
      exact ⟨o', (hs.2 b (Nat.ne_of_lt (Nat.lt_of_lt_of_le (Heap.lt_size e) (I.ok.cab x c hfn hc)))).trans e1⟩
    · by_cases hj : j = i
      · subst hj
        rw [hi] at e1; cases e1
        rw [List.getElem?_set_self hiσ] at e2
        cases e2
        exact ⟨u, r, .inr ⟨.inl hk, c, hc, hc'⟩⟩
      · rw [List.getElem?_set_ne (Ne.symm hj)] at e2
        obtain ⟨u', r', q⟩ := hl j y v' e1 e2 e3
        refine ⟨u', r', ?_⟩
        rcases q with q | ⟨k, c', e, z'⟩
        · exact .inl q
        · refine .inr ⟨k, c', e, z'.sameBut hs ?_⟩
          rintro rfl
          exact hj (nodup_ix hN e1 (I.ok.inj _ _ _ e hc ▸ hi))
    · by_cases hcc : c' = c
      · subst hcc; exact ⟨_, hc'⟩
      · obtain ⟨w2, z2⟩ := I.cell y c' e
        exact ⟨w2, z2.sameBut hs hcc⟩
    · obtain ⟨e, n, ne, nf, d⟩ := I.pin p hp
      refine ⟨(hs.2 p.1 ?_).trans e, n, ne, nf, d⟩
      intro q
      rw [q, hoc] at e
      have q' : oc = p.2 := Option.some.inj e
      exact d w' (by rw [← q']; exact hocd)
theorem store_ok {M : Model} {A : Around} {E : Value → Shared → Prop} {i : Nat} {x : Str} {v : V} {u : Value} {Q : Unit → Shared → Prop} (I : Inv X pins σ H s) (hN : X.N.Nodup) (hi : X.N[i]? = some x) (hx : Loc X.env.scope x) (r : RelV v u)
    (h : ∀ s', Inv X pins (σ.set i (some v)) H s' → Q () s') (hf : X.fn x = true ∨ X.env.scope.names.lookup x = some .local := by first | exact .inl rfl | exact .inr rfl | assumption) : wpAny M A (storeName X.env x u) Q E s :=
  store_ok2 I hN hi hx r (fun s' I' _ => h s' I') hf
/-- behind a call or a block, the state as it is -/
theorem Inv.call' {s' : Shared} {ch : List Addr} (I : Inv X pins σ H s) (ho : s'.os = s.os) (u : Un (frs X.stack) ch H H' s.heap s'.heap) (hok : HOk X.prog X.w H' s'.heap) (hg : AllBare s'.gens)
    (hch : ∀ b ∈ ch, (b ∈ X.ex ∨ X.s₀.heap.objs.size ≤ b) ∧ b ≠ X.env.locals ∧ (∀ x c, X.env.cells.lookup x = some c → c ≠ b) ∧ ∀ p ∈ X.pn ++ pins, p.1 ≠ b) : Inv X pins σ H' s' := by
  obtain ⟨h', g', d', t', o'⟩ := s'
  have e : o' = s.os := ho
  subst e
  exact I.call (g' := g') (t' := t') (d' := d') u hok hg hch
end

/-- an exception: its class, its own dict's address (where it has one), the abstract heap behind it -/
abbrev XK := Value → Option Addr → Hp → Prop
abbrev St := List (Option V)
abbrev VK := V → Hp → Prop
/-- an expression's reading; a test's; an argument list's -/
abbrev TE := St → Hp → VK → Prop
abbrev TT := St → Hp → (Bool → Hp → Prop) → Prop
abbrev TA := St → Hp → (List V → Hp → Prop) → Prop
/-- what is wanted behind a statement -/
structure Ends where
  nx : St → Hp → Prop
  rt : VK
  bk : St → Hp → Prop := fun _ _ => False
  ct : St → Hp → Prop := fun _ _ => False
abbrev TS := Ends → St → Hp → Prop

def EP (X : Cx) (pins : List (Addr × Obj)) (σ : St) (Q : VK) (u : Value) (s' : Shared) : Prop := ∃ v H', Inv X pins σ H' s' ∧ RelV v u ∧ Q v H'
def TP (X : Cx) (pins : List (Addr × Obj)) (σ : St) (Q : Bool → Hp → Prop) (b : Bool) (s' : Shared) : Prop := ∃ H', Inv X pins σ H' s' ∧ Q b H'
def AP (X : Cx) (pins : List (Addr × Obj)) (σ : St) (Q : List V → Hp → Prop) (us : List Value) (s' : Shared) : Prop := ∃ vs H', Inv X pins σ H' s' ∧ Vals vs us ∧ Q vs H'
def SP (X : Cx) (pins : List (Addr × Obj)) (D : Ends) (f : Flow) (s' : Shared) : Prop :=
  match f with
  | .next => ∃ σ' H', Inv X pins σ' H' s' ∧ D.nx σ' H'
  | .brk => ∃ σ' H', Inv X pins σ' H' s' ∧ D.bk σ' H'
  | .cont => ∃ σ' H', Inv X pins σ' H' s' ∧ D.ct σ' H'
  | .ret u => ∃ v σ' H', Inv X pins σ' H' s' ∧ RelV v u ∧ D.rt v H'

def PE (X : Cx) (e : Expr) (t : TE) : Prop :=
  ∀ (pins : List (Addr × Obj)) (s : Shared) (σ : St) (H : Hp) (Q : VK), Inv X pins σ H s → t σ H Q → wpAny (model X.prog X.w) X.A (eval e X.env) (EP X pins σ Q) X.xe s
def PT (X : Cx) (e : Expr) (t : TT) : Prop :=
  ∀ (pins : List (Addr × Obj)) (s : Shared) (σ : St) (H : Hp) (Q : Bool → Hp → Prop), Inv X pins σ H s → t σ H Q → wpAny (model X.prog X.w) X.A (isTrue e X.env (eval e X.env)) (TP X pins σ Q) X.xe s
/-- a test whatever its 'whole' is (and, or) -/
def PW (X : Cx) (e : Expr) (t : TT) : Prop :=
  ∀ (whole : Sem Value) (pins : List (Addr × Obj)) (s : Shared) (σ : St) (H : Hp) (Q : Bool → Hp → Prop), Inv X pins σ H s → t σ H Q → wpAny (model X.prog X.w) X.A (isTrue e X.env whole) (TP X pins σ Q) X.xe s
theorem PW.pt {X : Cx} {e : Expr} {t : TT} (h : PW X e t) : PT X e t := h _
/-- an argument list (no star), from the left -/
def PA (X : Cx) (es : List Expr) (t : TA) : Prop :=
  ∀ (pos : Pos) (pins : List (Addr × Obj)) (s : Shared) (σ : St) (H : Hp) (Q : List V → Hp → Prop), Inv X pins σ H s → t σ H Q → wpAny (model X.prog X.w) X.A (spliced (backTo pos (starEach es X.env))) (AP X pins σ Q) X.xe s
def PS (X : Cx) (st : Stmt) (t : TS) : Prop :=
  ∀ (pins : List (Addr × Obj)) (s : Shared) (σ : St) (H : Hp) (D : Ends), Inv X pins σ H s → t D σ H → wpAny (model X.prog X.w) X.A (exec st X.env) (SP X pins D) X.xe s
def PSs (X : Cx) (st : List Stmt) (t : TS) : Prop :=
  ∀ (pins : List (Addr × Obj)) (s : Shared) (σ : St) (H : Hp) (D : Ends), Inv X pins σ H s → t D σ H → wpAny (model X.prog X.w) X.A (execs st X.env) (SP X pins D) X.xe s
/-- weaken the end -/
theorem thn {α : Type} {t : Sem α} {Q Q' : α → Shared → Prop} {M : Model} {A : Around} {E : Value → Shared → Prop} {s : Shared} (h : wpAny M A t Q E s) (hQ : ∀ a s, Q a s → Q' a s) : wpAny M A t Q' E s := wpAny_mono h hQ fun _ _ x => x
end L2

namespace L2
open PySem PySem.Spec PyProof.Rows
section
variable {X : Cx}

def tVar (i : Nat) : TE := fun σ H Q => ∃ v, σ[i]? = some (some v) ∧ Q v H
def tC (v : V) : TE := fun _ H Q => Q v H
theorem pe_var {i : Nat} {x : Str} {pos : Pos} (hN : X.N[i]? = some x) (hv : Vis X.env.scope x) (hd : (x == ("__debug__" : Str)) = false := by decide) (hcd : (x == ("__classdict__" : Str)) = false := by decide) : PE X (.Name x pos) (tVar i) := by
  intro pins s σ H Q I h
  obtain ⟨v, e, h⟩ := h
  obtain ⟨m, hn, hl⟩ := I.loc
  obtain ⟨u, r, l⟩ := hl i x v hN e hv
  have fin : EP X pins σ Q u s := ⟨v, H, I, r, h⟩
  rcases l with ⟨hk, hm⟩ | ⟨hk, c, hc, hcell⟩
  · exact wpAny_Name (wpAny_loadName_local I.ok.kind hk hn hm fin) hd
  · rcases hk with hk | hk
    · exact wpAny_Name (wpAny_loadName_cell I.ok.kind hk hc hcell fin) hd
    · exact wpAny_Name (wpAny_loadName_free I.ok.kind hk hc hcell fin hcd) hd
theorem pe_int {i j pos} : PE X (.Constant (.int i) j pos) (tC (.int i)) := fun _ _ _ H _ I h => wpAny_Constant_int ⟨.int i, H, I.tok _, ⟨_, rfl⟩, h⟩
theorem pe_bl {b j pos} : PE X (.Constant (.bool b) j pos) (tC (.bl b)) := fun _ _ _ H _ I h => Constant_bool ⟨.bl b, H, I, rfl, h⟩
theorem pe_non {j pos} : PE X (.Constant .none j pos) (tC .non) := fun _ _ _ H _ I h => Constant_none ⟨.non, H, I, rfl, h⟩
/-- a global name of the def -/
def Gl (X : Cx) (x : Str) : Prop := X.env.kindOf x = some .globalImplicit
theorem ld_glob {E : Value → Shared → Prop} {pins : List (Addr × Obj)} {s : Shared} {σ : St} {H : Hp} {x : Str} {u : Value} {pos : Pos} {Q : Value → Shared → Prop} (I : Inv X pins σ H s) (hg : Gl X x) (hm : X.mg x = some u) (h : Q u s)
    (hd : (x == ("__debug__" : Str)) = false := by decide) : wpAny (model X.prog X.w) X.A (eval (.Name x pos) X.env) Q E s :=
  Calls.Name_function_global I.ok.kind hg (Calls.loadGlobal_global (by rw [I.ok.glob]; exact I.mod.glob.keeps I.bk) hm h) hd
theorem ld_blt {E : Value → Shared → Prop} {pins : List (Addr × Obj)} {s : Shared} {σ : St} {H : Hp} {x : Str} {u : Value} {pos : Pos} {Q : Value → Shared → Prop} (I : Inv X pins σ H s) (hg : Gl X x) (hm : X.mg x = none) (hv : bootBuiltins x = some u) (h : Q u s)
    (hn : x ≠ "__name__" := by decide) (hd : (x == ("__debug__" : Str)) = false := by decide) : wpAny (model X.prog X.w) X.A (eval (.Name x pos) X.env) Q E s := by
  obtain ⟨mb, h1, h2⟩ := I.mod.blt
  exact Calls.Name_function_global I.ok.kind hg (Calls.loadGlobal_builtin (by rw [I.ok.glob]; exact I.mod.glob.keeps I.bk) hm (by rw [I.ok.blt]; exact h1.keeps I.bk) ((h2 x hn).trans hv) h) hd
/-- a module's constant, a class, a function, as a value -/
theorem pe_glob {x : Str} {v : V} {u : Value} {pos : Pos} (hg : Gl X x) (hm : X.mg x = some u) (r : RelV v u) (hd : (x == ("__debug__" : Str)) = false := by decide) : PE X (.Name x pos) (tC v) :=
  fun _ _ _ H _ I h => ld_glob I hg hm ⟨v, H, I, r, h⟩ hd
theorem pe_bltn {x : Str} {v : V} {u : Value} {pos : Pos} (hg : Gl X x) (hm : X.mg x = none) (hv : bootBuiltins x = some u) (r : RelV v u) (hn : x ≠ "__name__" := by decide) (hd : (x == ("__debug__" : Str)) = false := by decide) : PE X (.Name x pos) (tC v) :=
  fun _ _ _ H _ I h => ld_blt I hg hm hv ⟨v, H, I, r, h⟩ hn hd

variable {a b : Expr} {ta tb : TE} {pos : Pos}
def PC (X : Cx) (op : CmpOp) (a b : Expr) (t : TE) : Prop :=
  ∀ (pins : List (Addr × Obj)) (s : Shared) (σ : St) (H : Hp) (Q : VK), Inv X pins σ H s → t σ H Q →
    wpAny (model X.prog X.w) X.A (eval a X.env) (fun v s₁ => wpAny (model X.prog X.w) X.A (eval b X.env) (fun u s₂ => wpAny (model X.prog X.w) X.A (compareOp op v u) (EP X pins σ Q) X.xe s₂) X.xe s₁) X.xe s
theorem nobehind (b : Expr) {op : CmpOp} (h : op ≠ .In) (h2 : op ≠ .NotIn) : behindInMarks op b = false := by
  have e1 : (op == CmpOp.In) = false := by cases op <;> first | rfl | exact absurd rfl h
  have e2 : (op == CmpOp.NotIn) = false := by cases op <;> first | rfl | exact absurd rfl h2
  cases b <;> simp [behindInMarks, e1, e2]
/-- a comparison as a value, as a test -/
def tB (t : TE) : TT := fun σ H Q => t σ H fun x H1 => ∃ c, x = .bl c ∧ Q c H1
theorem pt_cmp {op : CmpOp} {t : TE} (h : PC X op a b t) (h1 : behindInMarks op b = false := by first | exact nobehind _ (by decide) (by decide) | rfl) : PT X (.Compare a [op] [b] pos) (tB t) := by
  intro pins s σ H Q I hw
  refine wpAny_isTrue_Compare1 (thn (h pins s σ H _ I hw) fun v s1 h1 => thn h1 fun u s2 h2 => thn h2 fun c s3 ⟨x, H1, I1, r1, q1⟩ => ?_) h1
  obtain ⟨d, rfl, q⟩ := q1
  cases r1
  exact wpAny_truthy_bool ⟨H1, I1, q⟩
/-- an expression whose value is a bool, as a test -/
theorem pt_val {e : Expr} {t : TE} (h : PE X e t) (he : ∀ whole, isTrue e X.env whole = (do let v ← whole; standAt e.pos; holding [v] (truthy v)) := by intro _; rfl) : PT X e (tB t) := by
  intro pins s σ H Q I hw
  refine isTrue_plain (thn (h pins s σ H _ I hw) fun v s1 ⟨x, H1, I1, r1, q1⟩ => ?_) (he _)
  obtain ⟨d, rfl, q⟩ := q1
  cases r1
  exact wpAny_truthy_bool ⟨H1, I1, q⟩

variable {tA tB' : TT} {rest : List Expr}
def tAnd (t u : TT) : TT := fun σ H Q => t σ H fun c H1 => if c = true then u σ H1 Q else Q false H1
def tOr (t u : TT) : TT := fun σ H Q => t σ H fun c H1 => if c = true then Q true H1 else u σ H1 Q
def tNot (t : TT) : TT := fun σ H Q => t σ H fun c H1 => Q (!c) H1
theorem pw_and1 (ha : PT X a tA) : PW X (.BoolOp .And [a] pos) tA := by
  intro wh pins s σ H Q I h
  refine isTrue_and (thn (ha pins s σ H Q I h) fun c s1 e => ?_)
  cases c with
  | true => exact isTrue_and_nil e
  | false => exact e
theorem pw_or1 (ha : PT X a tA) : PW X (.BoolOp .Or [a] pos) tA := by
  intro wh pins s σ H Q I h
  refine isTrue_or (thn (ha pins s σ H Q I h) fun c s1 e => ?_)
  cases c with
  | false => exact isTrue_or_nil e
  | true => exact e
theorem pw_and (ha : PT X a tA) (hb : PW X (.BoolOp .And (b :: rest) pos) tB') : PW X (.BoolOp .And (a :: b :: rest) pos) (tAnd tA tB') := by
  intro wh pins s σ H Q I h
  refine isTrue_and (thn (ha pins s σ H _ I h) fun c s1 ⟨H1, I1, q1⟩ => ?_)
  cases c with
  | true => exact hb wh pins s1 σ H1 Q I1 q1
  | false => exact ⟨H1, I1, q1⟩
theorem pw_or (ha : PT X a tA) (hb : PW X (.BoolOp .Or (b :: rest) pos) tB') : PW X (.BoolOp .Or (a :: b :: rest) pos) (tOr tA tB') := by
  intro wh pins s σ H Q I h
  refine isTrue_or (thn (ha pins s σ H _ I h) fun c s1 ⟨H1, I1, q1⟩ => ?_)
  cases c with
  | true => exact ⟨H1, I1, q1⟩
  | false => exact hb wh pins s1 σ H1 Q I1 q1
theorem pt_not (ha : PT X a tA) : PT X (.UnaryOp .Not a pos) (tNot tA) := by
  intro pins s σ H Q I h
  exact isTrue_not (ha pins s σ H (fun c H1 => Q (!c) H1) I h)
/-- .. as values (bools) -/
def tAndV (ta tb : TE) : TE := fun σ H Q => ta σ H fun x H1 => ∃ c, x = .bl c ∧ if c = true then tb σ H1 Q else Q (.bl false) H1
def tOrV (ta tb : TE) : TE := fun σ H Q => ta σ H fun x H1 => ∃ c, x = .bl c ∧ if c = true then Q (.bl true) H1 else tb σ H1 Q
def tNotV (ta : TE) : TE := fun σ H Q => ta σ H fun x H1 => ∃ c, x = .bl c ∧ Q (.bl (!c)) H1
theorem pe_one {op} {t : TE} (h : PE X a t) : PE X (.BoolOp op [a] pos) t := fun pins s σ H Q I hw => BoolOp_one (h pins s σ H Q I hw)
theorem pe_and (ha : PE X a ta) (hb : PE X (.BoolOp .And (b :: rest) pos) tb) : PE X (.BoolOp .And (a :: b :: rest) pos) (tAndV ta tb) := by
  intro pins s σ H Q I h
  refine BoolOp_and (thn (ha pins s σ H _ I h) fun v s1 ⟨x, H1, I1, r1, q1⟩ => ?_)
  obtain ⟨c, rfl, q1⟩ := q1
  cases r1
  refine wpAny_truthy_bool ?_
  cases c with
  | true => exact hb pins s1 σ H1 Q I1 q1
  | false => exact ⟨.bl false, H1, I1, rfl, q1⟩
theorem pe_or (ha : PE X a ta) (hb : PE X (.BoolOp .Or (b :: rest) pos) tb) : PE X (.BoolOp .Or (a :: b :: rest) pos) (tOrV ta tb) := by
  intro pins s σ H Q I h
  refine BoolOp_or (thn (ha pins s σ H _ I h) fun v s1 ⟨x, H1, I1, r1, q1⟩ => ?_)
  obtain ⟨c, rfl, q1⟩ := q1
  cases r1
  refine wpAny_truthy_bool ?_
  cases c with
  | false => exact hb pins s1 σ H1 Q I1 q1
  | true => exact ⟨.bl true, H1, I1, rfl, q1⟩
theorem pe_not (ha : PE X a ta) : PE X (.UnaryOp .Not a pos) (tNotV ta) := by
  intro pins s σ H Q I h
  refine UnaryOp_ (thn (ha pins s σ H _ I h) fun v s1 ⟨x, H1, I1, r1, q1⟩ => ?_)
  obtain ⟨c, rfl, q1⟩ := q1
  cases r1
  exact not_of (wpAny_truthy_bool ⟨.bl (!c), H1, I1, rfl, q1⟩)
end
end L2

namespace L2
open PySem PySem.Spec PyProof.Rows

def SqL (K : PySem.W.Frag) (H : Hp) (a : Addr) (xs : List V) : Prop :=
  Rd H a (.lst xs) ∨
    ∃ (o : Obj) (its : Array Value) (n : Nat), K.lookup a = some o ∧ o.cls = .type "list" ∧ o.dict = none ∧ o.data = .seq its n ∧ its.size ≤ sizeLine ∧ Vals xs its.toList
def SqT (K : PySem.W.Frag) (H : Hp) (a : Addr) (xs : List V) : Prop :=
  Rd H a (.tup xs) ∨
    ∃ (o : Obj) (its : Array Value) (n : Nat), K.lookup a = some o ∧ o.cls = .type "tuple" ∧ o.data = .seq its n ∧ its.size ≤ sizeLine ∧ Vals xs its.toList
def absV : Value → Option V
  | .none => some .non
  | .bool b => some (.bl b)
  | .int i _ => some (.int i)
  | .str x _ => some (.str x)
  | .bytes b _ => some (.byt b)
  | .float b _ => some (.flt b)
  | .ref a => some (.ref a)
  | .type n => some (.ty n)
  | _ => none
theorem RelV.abs {x : V} {u : Value} (r : RelV x u) : absV u = some x := by
  cases x with
  | non => cases r; rfl
  | bl _ => cases r; rfl
  | int _ => obtain ⟨t, rfl⟩ := r; rfl
  | str _ => obtain ⟨t, rfl⟩ := r; rfl
  | byt _ => obtain ⟨t, rfl⟩ := r; rfl
  | flt _ => obtain ⟨t, rfl⟩ := r; rfl
  | ref _ => cases r; rfl
  | ty _ => cases r; rfl
theorem RelV.inj {x y : V} {u : Value} (r : RelV x u) (q : RelV y u) : x = y := Option.some.inj (r.abs.symm.trans q.abs)
theorem Vals.inj : ∀ {xs ys : List V} {us : List Value}, Vals xs us → Vals ys us → xs = ys
  | _, _, _, .nil, .nil => rfl
  | _, _, _, .cons r t, .cons r' t' => by rw [r.inj r', Vals.inj t t']
section
variable {X : Cx} {pins : List (Addr × Obj)} {σ : St} {H : Hp} {s : Shared} {a : Addr} {xs ys : List V}
theorem SqL.of {K : PySem.W.Frag} (h : H a = some (.lst xs)) : SqL K H a xs := .inl (.inl h)
theorem SqT.of {K : PySem.W.Frag} (h : H a = some (.tup xs)) : SqT K H a xs := .inl (.inl h)
theorem Inv.list (I : Inv X pins σ H s) (h : SqL X.K H a xs) : ∃ its : List Value, Vals xs its ∧ PlainL s.heap a its.toArray ∧ xs.length ≤ sizeLine := by
  rcases h with h | ⟨o, its, n, hk, hc, hd, hs, hz, r⟩
  · obtain ⟨z, its, n, r, e⟩ := h.ok I.hok
    exact ⟨its, r, ⟨_, n, e, rfl, rfl, rfl⟩, z⟩
  · refine ⟨its.toList, r, ⟨o, n, I.kIn a o hk, hc, hd, by simpa using hs⟩, ?_⟩
    have e := r.length
    simp only [Array.length_toList] at e
    first | lia | omega
theorem Inv.tuple (I : Inv X pins σ H s) (h : SqT X.K H a xs) : ∃ its : List Value, Vals xs its ∧ IsTup s.heap a its.toArray ∧ xs.length ≤ sizeLine := by
  rcases h with h | ⟨o, its, n, hk, hc, hs, hz, r⟩
  · obtain ⟨z, its, r, p⟩ := h.ok I.hok
    exact ⟨its, r, p, z⟩
  · refine ⟨its.toList, r, ⟨o, I.kIn a o hk, hc, n, by simpa using hs⟩, ?_⟩
    have e := r.length
    simp only [Array.length_toList] at e
    first | lia | omega
theorem Inv.list_inj (I : Inv X pins σ H s) (h : SqL X.K H a xs) (h' : SqL X.K H a ys) : xs = ys := by
  obtain ⟨its, r, ⟨o, n, e, _, _, d⟩, _⟩ := I.list h
  obtain ⟨its', r', ⟨o', n', e', _, _, d'⟩, _⟩ := I.list h'
  rw [e] at e'; cases e'
  rw [d] at d'
  injection d' with d1 _
  have : its = its' := by simpa using congrArg Array.toList d1
  subst this
  exact r.inj r'
theorem Inv.tuple_inj (I : Inv X pins σ H s) (h : SqT X.K H a xs) (h' : SqT X.K H a ys) : xs = ys := by
  obtain ⟨its, r, ⟨o, e, _, n, d⟩, _⟩ := I.tuple h
  obtain ⟨its', r', ⟨o', e', _, n', d'⟩, _⟩ := I.tuple h'
  rw [e] at e'; cases e'
  rw [d] at d'
  injection d' with d1 _
  have : its = its' := by simpa using congrArg Array.toList d1
  subst this
  exact r.inj r'
end

abbrev Cx.wish (X : Cx) (E : Value → Shared → Prop) : Cx := { X with xe := E }
/-- no exception leaves -/
abbrev Cx.nox (X : Cx) : Cx := X.wish fun _ _ => False
theorem Cx.Ok.wish {X : Cx} (ok : X.Ok) (E : Value → Shared → Prop) : (X.wish E).Ok :=
  ⟨ok.mod, ok.kind, ok.glob, ok.blt, ok.above, ok.inj, ok.has, ok.cab, ok.hd, ok.frames, ok.stk, ok.exf, ok.bs, ok.bsz, ok.noex, ok.exfs, ok.funs, ok.frf⟩
theorem Cx.Ok.unwish {X : Cx} {E : Value → Shared → Prop} (ok : (X.wish E).Ok) : X.Ok :=
  ⟨ok.mod, ok.kind, ok.glob, ok.blt, ok.above, ok.inj, ok.has, ok.cab, ok.hd, ok.frames, ok.stk, ok.exf, ok.bs, ok.bsz, ok.noex, ok.exfs, ok.funs, ok.frf⟩
section
variable {X : Cx} {pins : List (Addr × Obj)} {σ : St} {H : Hp} {s : Shared} {E : Value → Shared → Prop}
theorem Inv.wish (I : Inv X pins σ H s) (E : Value → Shared → Prop) : Inv (X.wish E) pins σ H s := ⟨I.ok.wish E, I.os, I.bare, I.base, I.loc, I.cell, I.free, I.freeC, I.pin, I.hok, I.len⟩
theorem Inv.unwish (I : Inv (X.wish E) pins σ H s) : Inv X pins σ H s := ⟨I.ok.unwish, I.os, I.bare, I.base, I.loc, I.cell, I.free, I.freeC, I.pin, I.hok, I.len⟩
theorem SP.unwish {D : Ends} {f : Flow} {s' : Shared} (h : SP (X.wish E) pins D f s') : SP X pins D f s' := by
  cases f with
  | next => obtain ⟨σ', H', I, q⟩ := h; exact ⟨σ', H', I.unwish, q⟩
  | brk => obtain ⟨σ', H', I, q⟩ := h; exact ⟨σ', H', I.unwish, q⟩
  | cont => obtain ⟨σ', H', I, q⟩ := h; exact ⟨σ', H', I.unwish, q⟩
  | ret u => obtain ⟨v, σ', H', I, r, q⟩ := h; exact ⟨v, σ', H', I.unwish, r, q⟩
theorem PSs.nox {st : List Stmt} {t : TS} (h : PSs X.nox st t) : PSs X st t := fun pins s σ H D I hw =>
  wpAny_mono (h pins s σ H D (I.wish _) hw) (fun _ _ q => q.unwish) fun _ _ z => False.elim z
end

section
variable {X : Cx} {st : Stmt} {rest : List Stmt} {t u : TS} {e : Expr} {te : TE} {pos : Pos}
def tNext : TS := fun D σ H => D.nx σ H
def tSeq (t u : TS) : TS := fun D σ H => t { D with nx := u D } σ H
theorem pss_nil : PSs X [] tNext := fun _ _ σ H _ I h => wpAny_execs_nil ⟨σ, H, I, h⟩
theorem pss_cons (h1 : PS X st t) (h2 : PSs X rest u) : PSs X (st :: rest) (tSeq t u) := by
  intro pins s σ H D I h
  refine wpAny_execs_cons (thn (h1 pins s σ H { D with nx := u D } I h) fun f s1 q => ?_)
  cases f with
  | next =>
    obtain ⟨σ', H', I', q⟩ := q
    exact h2 pins s1 σ' H' D I' q
  | ret v => exact q
  | brk => exact q
  | cont => exact q
theorem pss_one (h1 : PS X st t) : PSs X [st] t := by
  intro pins s σ H D I h
  refine wpAny_execs_cons (thn (h1 pins s σ H D I h) fun f s1 q => ?_)
  cases f with
  | next => exact wpAny_execs_nil q
  | ret v => exact q
  | brk => exact q
  | cont => exact q
/-- in a def's body nothing is shown -/
theorem Inv.quiet {pins : List (Addr × Obj)} {σ : St} {H : Hp} {s : Shared} (I : Inv X pins σ H s) : interactive X.env = false := by simp [interactive, I.ok.kind]
/-- an expression whose value is dropped -/
def tDrop (te : TE) : TS := fun D σ H => te σ H fun _ H1 => D.nx σ H1
theorem ps_expr (he : PE X e te) (hs : swapsWith e none pos.line X.env = pure false := by rfl) : PS X (.Expr e pos) (tDrop te) := by
  intro pins s σ H D I h
  exact wpAny_Expr_any (thn (he pins s σ H _ I h) fun v s1 ⟨x, H1, I1, r1, q1⟩ => ⟨σ, H1, I1, q1⟩) I.quiet hs
def tRet (te : TE) : TS := fun D σ H => te σ H D.rt
theorem ps_ret (he : PE X e te) : PS X (.Return (some e) pos) (tRet te) := by
  intro pins s σ H D I h
  exact wpAny_Return_some (thn (he pins s σ H _ I h) fun v s1 ⟨x, H1, I1, r1, q1⟩ => ⟨x, σ, H1, I1, r1, q1⟩)
def tIfS (c : TT) (t u : TS) : TS := fun D σ H => c σ H fun b H1 => if b = true then t D σ H1 else u D σ H1
theorem ps_if {c : Expr} {a b : List Stmt} {tc : TT} (hc : PT X c tc) (ha : PSs X a t) (hb : PSs X b u) : PS X (.If c a b pos) (tIfS tc t u) := by
  intro pins s σ H D I h
  refine wpAny_If (thn (hc pins s σ H _ I h) fun d s1 ⟨H1, I1, q1⟩ => ?_)
  cases d with
  | true => exact ha pins s1 σ H1 D I1 q1
  | false => exact hb pins s1 σ H1 D I1 q1
/-- code that the proof never comes to -/
def tNever : TS := fun _ _ _ => False
theorem ps_never : PS X st tNever := fun _ _ _ _ _ _ h => h.elim
end

abbrev TG := V → St → Hp → (St → Hp → Prop) → Prop
abbrev TGs := List V → St → Hp → (St → Hp → Prop) → Prop
def PG (X : Cx) (target : Expr) (t : TG) : Prop :=
  ∀ (pins : List (Addr × Obj)) (s : Shared) (σ : St) (H : Hp) (v : V) (u : Value) (Q : St → Hp → Prop), Inv X pins σ H s → RelV v u → t v σ H Q →
    wpAny (model X.prog X.w) X.A (assign target X.env u) (fun _ s' => ∃ σ' H', Inv X pins σ' H' s' ∧ Q σ' H') X.xe s
/-- several targets, one after another -/
def PGs (X : Cx) (ts : List Expr) (t : TGs) : Prop :=
  ∀ (pins : List (Addr × Obj)) (s : Shared) (σ : St) (H : Hp) (vs : List V) (us : List Value) (Q : St → Hp → Prop), Inv X pins σ H s → Vals vs us → t vs σ H Q →
    wpAny (model X.prog X.w) X.A (assignInOrder ((assignEach ts X.env).map (·.2)) us) (fun _ s' => ∃ σ' H', Inv X pins σ' H' s' ∧ Q σ' H') X.xe s
section
variable {X : Cx} {pos : Pos}
def gName (i : Nat) : TG := fun v σ H Q => Q (σ.set i (some v)) H
theorem pg_name {i : Nat} {x : Str} (hN : X.N.Nodup) (hi : X.N[i]? = some x) (hx : Loc X.env.scope x) (hf : X.fn x = true ∨ X.env.scope.names.lookup x = some .local := by first | exact .inl rfl | exact .inr rfl | assumption) : PG X (.Name x pos) (gName i) := by
  intro pins s σ H v u Q I r h
  exact wpAny_assign_Name (store_ok I hN hi hx r (fun s' I' => ⟨_, H, I', h⟩) hf)
def gNil : TGs := fun vs σ H Q => vs = [] ∧ Q σ H
def gCons (t : TG) (u : TGs) : TGs := fun vs σ H Q => ∃ v r, vs = v :: r ∧ t v σ H fun σ' H' => u r σ' H' Q
theorem pgs_nil : PGs X [] gNil := by
  intro pins s σ H vs us Q I r h
  obtain ⟨e, h⟩ := h
  subst e
  cases r
  exact assignInOrder_nil ⟨σ, H, I, h⟩
theorem pgs_cons {e : Expr} {es : List Expr} {t : TG} {u : TGs} (h1 : PG X e t) (h2 : PGs X es u)
    (hs : (assignEach (e :: es) X.env).map (·.2) = assign e X.env :: (assignEach es X.env).map (·.2) := by rfl) : PGs X (e :: es) (gCons t u) := by
  intro pins s σ H vs us Q I r h
  obtain ⟨v, vr, e1, h⟩ := h
  subst e1
  cases r with
  | cons r rr =>
    rw [hs]
    refine assignInOrder_cons (thn (h1 pins s σ H _ _ _ I r h) fun _ s1 ⟨σ1, H1, I1, q1⟩ => ?_)
    exact h2 pins s1 σ1 H1 _ _ Q I1 rr q1
/-- (a, b, ..) = a tuple of that length -/
def gTup (K : PySem.W.Frag) (n : Nat) (t : TGs) : TG := fun v σ H Q => ∃ a xs, v = .ref a ∧ SqT K H a xs ∧ xs.length = n ∧ t xs σ H Q
theorem pg_tup {es : List Expr} {k : Nat} {t : TGs} {n : Nat} (hc : X.calm = true) (h : PGs X es t)
    (hn : (assignEach es X.env).length = n := by rfl) (hst : (assignEach es X.env).findIdx? (·.1) = none := by rfl) : PG X (.Tuple es k pos) (gTup X.K n t) := by
  intro pins s σ H v u Q I r hw
  obtain ⟨a, xs, e1, hq, hl, hw⟩ := hw
  subst e1
  cases r
  obtain ⟨its, rv, ht, hz⟩ := I.tuple hq
  refine assign_Tuple_tuple (I.ok.hd hc) ht (by simp [hn, ← hl, rv.length]) hst fun h' hx => ?_
  have I1 : Inv X pins σ H { s with heap := h' } := I.kept (t' := s.toks) fun b o e => hx b o (Nat.ne_of_lt (Heap.lt_size e)) e
  exact h pins _ σ H xs _ Q I1 (by simpa using rv) hw
/-- target = value -/
def tAsg (te : TE) (g : TG) : TS := fun D σ H => te σ H fun x H1 => g x σ H1 D.nx
/-- name = value -/
theorem ps_set {i : Nat} {x : Str} {e : Expr} {te : TE} {pos' : Pos} (hN : X.N.Nodup) (hi : X.N[i]? = some x) (hx : Loc X.env.scope x) (he : PE X e te) (hs : swapsWith e (some (.Name x pos')) pos.line X.env = pure false := by rfl) (hf : X.fn x = true ∨ X.env.scope.names.lookup x = some .local := by first | exact .inl rfl | exact .inr rfl | assumption) :
    PS X (.Assign [.Name x pos'] e pos) (tAsg te (gName i)) := by
  intro pins s σ H D I h
  refine wpAny_Assign_Name (thn (he pins s σ H _ I h) fun v s1 ⟨y, H1, I1, r1, q1⟩ => ?_) hs
  exact store_ok I1 hN hi hx r1 (fun s2 I2 => ⟨_, H1, I2, q1⟩) hf
end

section
variable {X : Cx} {pos : Pos}
end

/-- at turn i: it yields x (the heap may grow), or it stops -/
structure It where
  go : Nat → Hp → Prop
  yld : Nat → Hp → V → Hp → Prop
  stop : Nat → Hp → Prop
/-- the iterator's own objects may turn: they are not the frame's, not pinned, younger than the entry (or a comprehension's own) -/
def FpOk (X : Cx) (pins : List (Addr × Obj)) (H : Hp) (b : Addr) : Prop :=
  H b = none ∧ b ≠ X.env.locals ∧ b ∉ X.fs ∧ (b ∈ X.ex ∨ X.s₀.heap.objs.size ≤ b) ∧ (∀ x c, X.env.cells.lookup x = some c → c ≠ b) ∧ ∀ p ∈ X.pn ++ pins, p.1 ≠ b
theorem Inv.fpOk {X : Cx} {pins : List (Addr × Obj)} {σ : St} {H H' : Hp} {s : Shared} {b : Addr} (I : Inv X pins σ H s) (hb : s.heap.objs.size ≤ b) (hn : H' b = none) : FpOk X pins H' b := by
  refine ⟨hn, Nat.ne_of_gt (Nat.lt_of_lt_of_le I.lt hb), I.nofs hb, .inr (Nat.le_trans I.sz hb), fun x c e z => ?_, fun p hp z => ?_⟩
  · obtain ⟨v, q⟩ := I.cell x c e
    exact absurd (Nat.lt_of_lt_of_le q.lt (by rw [z]; exact hb)) (Nat.lt_irrefl _)
  · exact absurd (Nat.lt_of_lt_of_le (Heap.lt_size (I.pin p hp).1) (by rw [z]; exact hb)) (Nat.lt_irrefl _)
structure Turn (P : Program) (w : World) (K : PySem.W.Frag) (tg : Expr) (J : It) (fp : List Addr) (it : Addr) (tn : Nat → Heap → Prop) : Prop where
  mem : it ∈ fp
  obj : ∀ i h, tn i h → ∀ b ∈ fp, ∃ o, h.get? b = some o ∧ ∀ v, o.data ≠ .cell v
  keep : ∀ i h h', tn i h → (∀ b ∈ fp, ∀ o, h.get? b = some o → h'.get? b = some o) → tn i h'
  item : ∀ (X : Cx), X.prog = P → X.w = w → X.K = K → X.calm = true → ∀ (i : Nat) (pins : List (Addr × Obj)) (s : Shared) (σ : St) (H : Hp) (E : Value → Shared → Prop), Inv X pins σ H s → (∀ b ∈ fp, FpOk X pins H b) → tn i s.heap → J.go i H →
    wpAny (model P w) X.A (pyNext (.ref it)) (fun r s1 => ∃ u, r = some u ∧
      wpAny (model P w) X.A (letOwnedTupleGo tg (.ref it) u) (fun _ s2 => ∃ x H', Inv X pins σ H' s2 ∧ RelV x u ∧ J.yld i H x H' ∧ tn (i + 1) s2.heap ∧ ∀ b ∈ fp, H' b = none) E s1) E s
  done : ∀ (X : Cx), X.prog = P → X.w = w → X.K = K → X.calm = true → ∀ (i : Nat) (pins : List (Addr × Obj)) (s : Shared) (σ : St) (H : Hp) (E : Value → Shared → Prop), Inv X pins σ H s → (∀ b ∈ fp, FpOk X pins H b) → tn i s.heap → J.stop i H →
    wpAny (model P w) X.A (pyNext (.ref it)) (fun r s1 => r = none ∧ Inv X pins σ H s1) E s
  self : ∀ (A : Around) (i : Nat) (s : Shared) (Q : Value → Shared → Prop) (E : Value → Shared → Prop), tn i s.heap → Q (.ref it) s → wpAny (model P w) A (pyIter (.ref it)) Q E s
abbrev TI := St → Hp → (It → Hp → Prop) → Prop
/-- an iterator has come -/
def PIE (X : Cx) (pins : List (Addr × Obj)) (σ : St) (tg : Expr) (R : It → Hp → Prop) (itv : Value) (s2 : Shared) : Prop :=
  ∃ (it : Addr) (fp : List Addr) (tn : Nat → Heap → Prop) (J : It) (H' : Hp), itv = .ref it ∧ Inv X pins σ H' s2 ∧ Turn X.prog X.w X.K tg J fp it tn ∧ tn 0 s2.heap ∧ (∀ b ∈ fp, FpOk X pins H' b) ∧ R J H'
def PI (X : Cx) (tg iter : Expr) (wi : TI) : Prop :=
  ∀ (pins : List (Addr × Obj)) (s : Shared) (σ : St) (H : Hp) (R : It → Hp → Prop), Inv X pins σ H s → wi σ H R →
    wpAny (model X.prog X.w) X.A (eval iter X.env) (fun v s1 => wpAny (model X.prog X.w) X.A (pyIter v) (PIE X pins σ tg R) X.xe s1) X.xe s

/-- the step ahead of the store is nothing for an iterator that keeps no tuple -/
theorem go_of {M : Model} {A : Around} {E : Value → Shared → Prop} {s : Shared} {tg : Expr} {it : Addr} {u : Value} {o : Obj} {n : String} {vs : Array Value} {Q : Unit → Shared → Prop} (ho : s.heap.get? it = some o) (hc : o.cls = .type n) (hd : o.data = .fields vs)
    (hn : ["enumerate", "zip", "dict_itemiterator", "dict_reverseitemiterator", "odict_iterator", "itertools.zip_longest", "itertools.pairwise"].contains n = false) (hQ : Q () s) : wpAny M A (letOwnedTupleGo tg (.ref it) u) Q E s := by
  unfold letOwnedTupleGo
  cases tg <;> first
    | exact wpAny_pure hQ
    | (cases u <;> first
        | exact wpAny_pure hQ
        | (refine wpAny_bind (wpAny_load ho ?_)
           rw [hc, hd]
           show wpAny M A (if (["enumerate", "zip", "dict_itemiterator", "dict_reverseitemiterator", "odict_iterator", "itertools.zip_longest", "itertools.pairwise"].contains n && vs[0]? == some (rawInt _)) = true then _ else _) Q E s
           rw [if_neg (by intro h; rw [hn, Bool.false_and] at h; cases h)]
           exact wpAny_pure hQ))

/-- the list at a, as it stands at each turn (a loop may append to it) -/
def Itl (K : PySem.W.Frag) (a : Addr) : It :=
  ⟨fun i H => ∃ xs x, SqL K H a xs ∧ xs[i]? = some x, fun i H x H' => H' = H ∧ ∀ xs, SqL K H a xs → xs[i]? = some x, fun i H => ∃ xs, SqL K H a xs ∧ xs.length ≤ i⟩
def Itt (K : PySem.W.Frag) (a : Addr) : It :=
  ⟨fun i H => ∃ xs x, SqT K H a xs ∧ xs[i]? = some x, fun i H x H' => H' = H ∧ ∀ xs, SqT K H a xs → xs[i]? = some x, fun i H => ∃ xs, SqT K H a xs ∧ xs.length ≤ i⟩
/-- lo, lo + 1, .. (n of them) -/
def Itr (lo : Int) (n : Nat) : It := ⟨fun i _ => i < n, fun i H x H' => H' = H ∧ x = .int (lo + i), fun i _ => n ≤ i⟩
theorem turn_list {P : Program} {w : World} {K : PySem.W.Frag} {tg : Expr} (a it : Addr) : Turn P w K tg (Itl K a) [it] it (fun i h => h.IsListIter it a i) where
  mem := by simp
  obj := fun i h st b hb => by
    have e : b = it := by simpa using hb
    subst e
    obtain ⟨o, e, c, d⟩ := st
    exact ⟨o, e, fun v z => by rw [d] at z; cases z⟩
  keep := fun i h h' st k => st.at fun o e => k it (by simp) o e
  item := by
    intro X hP hw hK hc i pins s σ H E I hf st hg
    subst hP hw hK
    obtain ⟨xs, x, hq, hx⟩ := hg
    obtain ⟨its, rv, p, hz⟩ := I.list hq
    obtain ⟨u, hu, ru⟩ := rv.get hx
    obtain ⟨f0, f1, f2, f3, f4, f5⟩ := hf it (by simp)
    refine wpAny_pyNext_list_item st p.isList (x := u) (by simpa using hu) fun h' st' sb => ?_
    have I1 : Inv X pins σ H { s with heap := h' } := I.turned (t' := s.toks) (fun b o hb e => (sb.2 b hb).trans e) f0 f1 f3 f4 f5
    obtain ⟨o, e, c, d⟩ := id st'
    exact ⟨u, rfl, go_of (s := { s with heap := h' }) e c d (by decide) ⟨x, H, I1, ru, ⟨rfl, fun ys hy => by rw [I.list_inj hy hq]; exact hx⟩, st', fun b hb => (hf b hb).1⟩⟩
  done := by
    intro X hP hw hK hc i pins s σ H E I hf st hg
    subst hP hw hK
    obtain ⟨xs, hq, hx⟩ := hg
    obtain ⟨its, rv, p, hz⟩ := I.list hq
    obtain ⟨f0, f1, f2, f3, f4, f5⟩ := hf it (by simp)
    have hl := rv.length
    exact wpAny_pyNext_list_end (I.ok.hd hc) st p.isList (by simp; first | lia | omega) fun h' eb => ⟨rfl, I.turned (t' := s.toks) (fun b o hb e => eb b o hb e) f0 f1 f3 f4 f5⟩
  self := fun _ _ _ _ _ st h => wpAny_pyIter_listiter st h
theorem turn_tuple {P : Program} {w : World} {K : PySem.W.Frag} {tg : Expr} (a it : Addr) : Turn P w K tg (Itt K a) [it] it (fun i h => h.IsTupleIter it a i) where
  mem := by simp
  obj := fun i h st b hb => by
    have e : b = it := by simpa using hb
    subst e
    obtain ⟨o, e, c, d⟩ := st
    exact ⟨o, e, fun v z => by rw [d] at z; cases z⟩
  keep := fun i h h' st k => st.at fun o e => k it (by simp) o e
  item := by
    intro X hP hw hK hc i pins s σ H E I hf st hg
    subst hP hw hK
    obtain ⟨xs, x, hq, hx⟩ := hg
    obtain ⟨its, rv, p, hz⟩ := I.tuple hq
    obtain ⟨u, hu, ru⟩ := rv.get hx
    obtain ⟨f0, f1, f2, f3, f4, f5⟩ := hf it (by simp)
    refine wpAny_pyNext_tuple_item st (show s.heap.IsTuple a its.toArray from p) (x := u) (by simpa using hu) fun h' st' sb => ?_
    have I1 : Inv X pins σ H { s with heap := h' } := I.turned (t' := s.toks) (fun b o hb e => (sb.2 b hb).trans e) f0 f1 f3 f4 f5
    obtain ⟨o, e, c, d⟩ := id st'
    exact ⟨u, rfl, go_of (s := { s with heap := h' }) e c d (by decide) ⟨x, H, I1, ru, ⟨rfl, fun ys hy => by rw [I.tuple_inj hy hq]; exact hx⟩, st', fun b hb => (hf b hb).1⟩⟩
  done := by
    intro X hP hw hK hc i pins s σ H E I hf st hg
    subst hP hw hK
    obtain ⟨xs, hq, hx⟩ := hg
    obtain ⟨its, rv, p, hz⟩ := I.tuple hq
    obtain ⟨f0, f1, f2, f3, f4, f5⟩ := hf it (by simp)
    have hl := rv.length
    exact wpAny_pyNext_tuple_end (I.ok.hd hc) st (show s.heap.IsTuple a its.toArray from p) (by simp; first | lia | omega) fun h' eb => ⟨rfl, I.turned (t' := s.toks) (fun b o hb e => eb b o hb e) f0 f1 f3 f4 f5⟩
  self := fun _ _ _ _ _ st h => wpAny_pyIter_tupleiter st h
theorem turn_range {P : Program} {w : World} {K : PySem.W.Frag} {tg : Expr} (it : Addr) (lo : Int) (n : Nat) : Turn P w K tg (Itr lo n) [it] it (fun i h => IsRangeIter h it (lo + (i : Nat) * 1) ((n : Int) - (i : Nat)) 1) where
  mem := by simp
  obj := fun i h st b hb => by
    have e : b = it := by simpa using hb
    subst e
    exact ⟨_, st, fun v z => by
      have z' : Data.fields _ = Data.cell v := z
      cases z'⟩
  keep := fun i h h' st k => k it (by simp) _ st
  item := by
    intro X hP hw hK hc i pins s σ H E I hf st hg
    subst hP hw hK
    obtain ⟨f0, f1, f2, f3, f4, f5⟩ := hf it (by simp)
    have W := Walks.range (prog := X.prog) (w := X.w) (I.ok.hd hc) it lo 1 n
    refine W.item i s _ _ hg st fun v h' tk hv st' kk => ?_
    obtain ⟨t, rfl⟩ := hv
    have I1 : Inv X pins σ H { s with heap := h', toks := tk } := I.turned (fun b o hb e => kk b o (by simpa using hb) e) f0 f1 f3 f4 f5
    refine ⟨_, rfl, go_of (s := { s with heap := h', toks := tk }) (n := "range_iterator") st' rfl rfl (by decide) ⟨.int (lo + i), H, I1, ⟨t, ?_⟩, ⟨rfl, rfl⟩, st', fun b hb => (hf b hb).1⟩⟩
    rw [Int.mul_one]
  done := by
    intro X hP hw hK hc i pins s σ H E I hf st hg
    subst hP hw hK
    obtain ⟨f0, f1, f2, f3, f4, f5⟩ := hf it (by simp)
    exact wpAny_pyNext_range_end (I.ok.hd hc) st (by have : n ≤ i := hg; first | lia | omega) fun h' eb => ⟨rfl, I.turned (t' := s.toks) (fun b o hb e => eb b o hb e) f0 f1 f3 f4 f5⟩
  self := fun _ _ _ _ _ st h => wpAny_pyIter_rangeiter st h
end L2

namespace L2
open PySem PySem.Spec PyProof.Rows
section
variable {X : Cx} {tg : Expr}
def iList (K : PySem.W.Frag) (tl : TE) : TI := fun σ H R => tl σ H fun x H1 => ∃ a, x = .ref a ∧ (∃ xs, SqL K H1 a xs) ∧ R (Itl K a) H1
def iTup (K : PySem.W.Frag) (tl : TE) : TI := fun σ H R => tl σ H fun x H1 => ∃ a, x = .ref a ∧ (∃ xs, SqT K H1 a xs) ∧ R (Itt K a) H1
theorem pi_list {l : Expr} {tl : TE} (hl : PE X l tl) : PI X tg l (iList X.K tl) := by
  intro pins s σ H R I h
  refine thn (hl pins s σ H _ I h) fun v s1 ⟨x, H1, I1, r1, q1⟩ => ?_
  obtain ⟨a, e, ⟨xs, hq⟩, q⟩ := q1
  subst e
  cases r1
  obtain ⟨its, rv, p, hz⟩ := I1.list hq
  refine wpAny_pyIter_list p.isList ?_
  refine ⟨s1.heap.objs.size, [s1.heap.objs.size], _, _, H1, rfl, I1.kept (t' := s1.toks) fun b o e => Heap.get?_push_of_some _ e, turn_list a _, ⟨_, Heap.get?_push_size _ rfl, rfl, rfl⟩, fun b hb => ?_, q⟩
  have e : b = s1.heap.objs.size := by simpa using hb
  subst e
  exact I1.fpOk (Nat.le_refl _) (I1.hok.fresh (Nat.le_refl _))
theorem pi_tup {l : Expr} {tl : TE} (hl : PE X l tl) : PI X tg l (iTup X.K tl) := by
  intro pins s σ H R I h
  refine thn (hl pins s σ H _ I h) fun v s1 ⟨x, H1, I1, r1, q1⟩ => ?_
  obtain ⟨a, e, ⟨xs, hq⟩, q⟩ := q1
  subst e
  cases r1
  obtain ⟨its, rv, p, hz⟩ := I1.tuple hq
  refine wpAny_pyIter_tuple (show s1.heap.IsTuple a its.toArray from p) ?_
  refine ⟨s1.heap.objs.size, [s1.heap.objs.size], _, _, H1, rfl, I1.kept (t' := s1.toks) fun b o e => Heap.get?_push_of_some _ e, turn_tuple a _, ⟨_, Heap.get?_push_size _ rfl, rfl, rfl⟩, fun b hb => ?_, q⟩
  have e : b = s1.heap.objs.size := by simpa using hb
  subst e
  exact I1.fpOk (Nat.le_refl _) (I1.hok.fresh (Nat.le_refl _))
/-- a range object just made, walked -/
theorem range_it {pins : List (Addr × Obj)} {σ : St} {H : Hp} {s : Shared} {R : It → Hp → Prop} {E : Value → Shared → Prop} {lo hi : Int} {t u v : Tok} {tk : Nat} (I : Inv X pins σ H s) (h1 : -(2 ^ 62) ≤ lo) (h2 : lo < 2 ^ 62) (h3 : -(2 ^ 62) ≤ hi) (h4 : hi < 2 ^ 62)
    (q : R (Itr lo (hi - lo).toNat) H) : wpAny (model X.prog X.w) X.A (pyIter (.ref s.heap.objs.size)) (PIE X pins σ tg R) E { s with heap := s.heap.push { cls := .type "range", data := .fields #[.int lo t, .int hi u, .int 1 v] }, toks := tk } := by
  refine wpAny_pyIter_range (IsRange.new ..) (small_one h1 h2 h3 h4) ?_
  have I1 : Inv X pins σ H { s with heap := s.heap.push { cls := .type "range", data := .fields #[.int lo t, .int hi u, .int 1 v] }, toks := tk } := I.kept fun b o e => Heap.get?_push_of_some _ e
  refine ⟨(s.heap.push { cls := .type "range", data := .fields #[.int lo t, .int hi u, .int 1 v] }).objs.size, [(s.heap.push { cls := .type "range", data := .fields #[.int lo t, .int hi u, .int 1 v] }).objs.size], _, _, H, rfl,
    I1.kept (t' := tk) fun b o e => Heap.get?_push_of_some _ e, turn_range _ lo (hi - lo).toNat, ?_, fun b hb => ?_, q⟩
  · have e1 : lo + ((0 : Nat) : Int) * 1 = lo := by simp
    have e2 : (((hi - lo).toNat : Nat) : Int) - ((0 : Nat) : Int) = Builtin.Range.rangeSize lo hi 1 := by rw [rangeSize_one]; split <;> first | lia | omega
    show IsRangeIter _ _ (lo + ((0 : Nat) : Int) * 1) ((((hi - lo).toNat : Nat) : Int) - ((0 : Nat) : Int)) 1
    rw [e1, e2]
    exact Heap.get?_push_size _ rfl
  · have e : b = (s.heap.push { cls := .type "range", data := .fields #[.int lo t, .int hi u, .int 1 v] }).objs.size := by simpa using hb
    subst e
    exact I1.fpOk (Nat.le_refl _) (I1.hok.fresh (Nat.le_refl _))
def iRng1 (ta : TA) : TI := fun σ H R => ta σ H fun vs H1 => ∃ j : Int, vs = [.int j] ∧ -(2 ^ 62) ≤ j ∧ j < 2 ^ 62 ∧ R (Itr 0 j.toNat) H1
def iRng2 (ta : TA) : TI := fun σ H R => ta σ H fun vs H1 => ∃ i j : Int, vs = [.int i, .int j] ∧ (-(2 ^ 62) ≤ i ∧ i < 2 ^ 62 ∧ -(2 ^ 62) ≤ j ∧ j < 2 ^ 62) ∧ R (Itr i (j - i).toNat) H1
theorem pi_range1 {a : Expr} {ta : TA} {p pos : Pos} (hg : Gl X "range") (hm : X.mg "range" = none) (ha : PA X [a] ta) (hs : starEach [a] X.env = [(false, eval a X.env)] := by rfl) : PI X tg (.Call (.Name "range" p) [a] [] pos) (iRng1 ta) := by
  intro pins s σ H R I h
  refine Call_ (ld_blt I hg hm boot_range (PyProof.Rows.callWith_type1 (thn (ha pos pins s σ H _ I h) fun us s1 ⟨vs, H1, I1, r1, q1⟩ => ?_) hs rfl))
  obtain ⟨j, e, q1, q2, q⟩ := q1
  subst e
  cases r1 with
  | cons r rr =>
    cases rr
    obtain ⟨t, rfl⟩ := r
    exact call_range_1 (range_it I1 (by first | lia | omega) (by first | lia | omega) q1 q2 (by simpa using q))
theorem pi_range2 {a b : Expr} {ta : TA} {p pos : Pos} (hg : Gl X "range") (hm : X.mg "range" = none) (ha : PA X [a, b] ta) (hs : starEach [a, b] X.env = [(false, eval a X.env), (false, eval b X.env)] := by rfl) (hs2 : starEach [b] X.env = [(false, eval b X.env)] := by rfl) :
    PI X tg (.Call (.Name "range" p) [a, b] [] pos) (iRng2 ta) := by
  intro pins s σ H R I h
  refine Call_ (ld_blt I hg hm boot_range (PyProof.Rows.callWith_type1 (thn (ha pos pins s σ H _ I h) fun us s1 ⟨vs, H1, I1, r1, q1⟩ => ?_) (by rw [hs, hs2]) (by rw [hs2]; rfl)))
  obtain ⟨i, j, e, ⟨q1, q2, q3, q4⟩, q⟩ := q1
  subst e
  cases r1 with
  | cons r rr =>
    cases rr with
    | cons r' rr =>
      cases rr
      obtain ⟨t, rfl⟩ := r
      obtain ⟨t', rfl⟩ := r'
      exact call_range_2 (range_it I1 q1 q2 q3 q4 q)

/-- W: the invariant by the turn and a measure; N: what the body is to reach -/
def tFor (wi : TI) (g : TG) (tb : TS) : TS := fun D σ H => wi σ H fun J H1 => ∃ W : Nat → Nat → St → Hp → Prop, (∃ m, W 0 m σ H1) ∧ ∀ i m σ H, W i m σ H →
  (J.stop i H ∧ D.nx σ H) ∨ (J.go i H ∧ ∃ N : St → Hp → Prop, (∀ σ' H', N σ' H' → ∃ m', m' < m ∧ W (i + 1) m' σ' H') ∧ ∀ x H', J.yld i H x H' → g x σ H' fun σ2 H2 => tb { D with nx := N, ct := N, bk := D.nx } σ2 H2)
/-- the records at fp as they stand -/
def pinsAt (fp : List Addr) (h : Heap) : List (Addr × Obj) := fp.filterMap fun b => (h.get? b).map fun o => (b, o)
theorem mem_pinsAt {fp : List Addr} {h : Heap} {b : Addr} {o : Obj} (hb : b ∈ fp) (e : h.get? b = some o) : (b, o) ∈ pinsAt fp h := List.mem_filterMap.mpr ⟨b, hb, by rw [e]; rfl⟩
theorem of_pinsAt {fp : List Addr} {h : Heap} {p : Addr × Obj} (hp : p ∈ pinsAt fp h) : p.1 ∈ fp ∧ h.get? p.1 = some p.2 := by
  obtain ⟨b, hb, e⟩ := List.mem_filterMap.mp hp
  cases q : h.get? b with
  | none => rw [q] at e; cases e
  | some o =>
    rw [q] at e
    have e' : (b, o) = p := Option.some.inj e
    subst e'
    exact ⟨hb, q⟩
theorem Inv.pinned {pins : List (Addr × Obj)} {σ : St} {H : Hp} {s : Shared} {fp : List Addr} (I : Inv X pins σ H s) (hf : ∀ b ∈ fp, FpOk X pins H b) (ho : ∀ b ∈ fp, ∃ o, s.heap.get? b = some o ∧ ∀ v, o.data ≠ .cell v) : Inv X (pins ++ pinsAt fp s.heap) σ H s :=
  I.pins_of fun p hp => (List.mem_append.mp hp).elim (fun z => I.pin p (List.mem_append_right _ z)) fun z => by
    obtain ⟨hb, e⟩ := of_pinsAt z
    obtain ⟨f0, f1, f2, _⟩ := hf p.1 hb
    obtain ⟨o, e', d⟩ := ho p.1 hb
    rw [e] at e'; cases e'
    exact ⟨e, f0, f1, f2, d⟩
theorem Inv.unpinned {pins pl : List (Addr × Obj)} {σ : St} {H : Hp} {s : Shared} (I : Inv X (pins ++ pl) σ H s) : Inv X pins σ H s := I.pins_of fun p hp => I.pin p (List.mem_append_right _ (List.mem_append_left _ hp))
theorem ps_for {iter : Expr} {body : List Stmt} {wi : TI} {g : TG} {tb : TS} {pos : Pos} (hp : PassesOwn (model X.prog X.w) X.A X.env X.xe) (hc : X.calm = true) (hi : PI X tg iter wi) (hg : PG X tg g) (hb : PSs X body tb)
    (hs : ∀ x, foldedSetIterable iter X.env x = pure x := by intro _; rfl) : PS X (.For tg iter body [] pos) (tFor wi g tb) := by
  intro pins s σ H D I h
  refine wpAny_For (thn (hi pins s σ H _ I h) fun v s1 h1 => thn h1 fun itv s2 h2 => ?_) hs
  obtain ⟨it, fp, tn, J, H2, e, I2, T, st2, f2, W, ⟨m0, w0⟩, turn⟩ := h2
  subst e
  -- what stays true of the iterator's objects through the loop
  have stat : ∀ {H' : Hp}, (∀ b ∈ fp, H' b = none) → ∀ b ∈ fp, FpOk X pins H' b := fun hn b hb => ⟨hn b hb, (f2 b hb).2⟩
  refine codeAny_forLoop_any (fun n s' => ∃ i σ' H', Inv X pins σ' H' s' ∧ tn i s'.heap ∧ (∀ b ∈ fp, H' b = none) ∧ W i n σ' H') ?_ m0 ⟨0, σ, H2, I2, st2, fun b hb => (f2 b hb).1, w0⟩
  rintro n s3 ⟨i, σ3, H3, I3, st3, fr3, w3⟩
  rcases turn i n σ3 H3 w3 with ⟨stop, qn⟩ | ⟨go, N, hN, step⟩
  · refine wpAny_passesOwn hp (thn (T.done X rfl rfl rfl hc i pins s3 σ3 H3 X.xe I3 (stat fr3) st3 stop) fun r s4 ⟨hr, I4⟩ => ?_)
    subst hr
    exact wpAny_execs_nil ⟨σ3, H3, I4, qn⟩
  · refine wpAny_passesOwn hp (thn (T.item X rfl rfl rfl hc i pins s3 σ3 H3 X.xe I3 (stat fr3) st3 go) fun r s4 ⟨u, hr, h4⟩ => ?_)
    subst hr
    refine wpAny_passesOwn hp (thn h4 fun _ s5 ⟨x, H5, I5, r5, y5, st5, fr5⟩ => ?_)
    have I5' := I5.pinned (stat fr5) (T.obj _ _ st5)
    refine wpAny_passesOwn hp (thn (hg _ s5 σ3 H5 x u _ I5' r5 (step x H5 y5)) fun _ s6 ⟨σ6, H6, I6, q6⟩ => ?_)
    refine wpAny_passesOwn hp (thn (hb _ s6 σ6 H6 _ I6 q6) fun f s7 q7 => ?_)
    have again : ∀ {σ7 : St} {H7 : Hp}, Inv X (pins ++ pinsAt fp s5.heap) σ7 H7 s7 → N σ7 H7 → ∃ m, m < n ∧ ∃ i σ' H', Inv X pins σ' H' s7 ∧ tn i s7.heap ∧ (∀ b ∈ fp, H' b = none) ∧ W i m σ' H' := fun {σ7 H7} I7 n7 => by
      obtain ⟨m', hm, w7⟩ := hN σ7 H7 n7
      refine ⟨m', hm, i + 1, σ7, H7, I7.unpinned, T.keep _ _ _ st5 fun b hb o e => (I7.pin (b, o) (List.mem_append_right _ (List.mem_append_right _ (mem_pinsAt hb e)))).1, fun b hb => ?_, w7⟩
      obtain ⟨o, e, d⟩ := T.obj _ _ st5 b hb
      exact (I7.pin (b, o) (List.mem_append_right _ (List.mem_append_right _ (mem_pinsAt hb e)))).2.1
    cases f with
    | next => obtain ⟨σ7, H7, I7, n7⟩ := q7; exact again I7 n7
    | cont => obtain ⟨σ7, H7, I7, n7⟩ := q7; exact again I7 n7
    | brk => obtain ⟨σ7, H7, I7, q7⟩ := q7; exact ⟨σ7, H7, I7.unpinned, q7⟩
    | ret v => obtain ⟨x7, σ7, H7, I7, r7, q7⟩ := q7; exact ⟨x7, σ7, H7, I7.unpinned, r7, q7⟩
end

/-- over a list that the body leaves as it is -/
theorem for_list {K : PySem.W.Frag} {a : Addr} {xs : List V} {g : TG} {tb : TS} {D : Ends} {σ : St} {H : Hp} (Pv : Nat → St → Hp → Prop) (h0 : Pv 0 σ H) (hl : ∀ i σ H, i ≤ xs.length → Pv i σ H → SqL K H a xs)
    (hs : ∀ i x σ H, xs[i]? = some x → Pv i σ H → g x σ H fun σ2 H2 => tb { D with nx := Pv (i + 1), ct := Pv (i + 1), bk := D.nx } σ2 H2) (hd : ∀ σ H, Pv xs.length σ H → D.nx σ H) :
    ∃ W : Nat → Nat → St → Hp → Prop, (∃ m, W 0 m σ H) ∧ ∀ i m σ H, W i m σ H →
      ((Itl K a).stop i H ∧ D.nx σ H) ∨ ((Itl K a).go i H ∧ ∃ N : St → Hp → Prop, (∀ σ' H', N σ' H' → ∃ m', m' < m ∧ W (i + 1) m' σ' H') ∧ ∀ x H', (Itl K a).yld i H x H' → g x σ H' fun σ2 H2 => tb { D with nx := N, ct := N, bk := D.nx } σ2 H2) := by
  refine ⟨fun i m σ H => m = xs.length - i ∧ i ≤ xs.length ∧ Pv i σ H, ⟨xs.length, by simp, Nat.zero_le _, h0⟩, ?_⟩
  rintro i m σ H ⟨rfl, hi, p⟩
  have q := hl i σ H hi p
  by_cases hlt : i < xs.length
  · refine .inr ⟨⟨xs, xs[i], q, by simp [hlt]⟩, Pv (i + 1), fun σ' H' p' => ⟨xs.length - (i + 1), by first | lia | omega, rfl, hlt, p'⟩, fun x H' y => ?_⟩
    obtain ⟨e, y⟩ := y
    subst e
    exact hs i x σ _ (y xs q) p
  · have e : i = xs.length := by first | lia | omega
    subst e
    exact .inl ⟨⟨xs, q, Nat.le_refl _⟩, hd σ H p⟩
theorem for_tup {K : PySem.W.Frag} {a : Addr} {xs : List V} {g : TG} {tb : TS} {D : Ends} {σ : St} {H : Hp} (Pv : Nat → St → Hp → Prop) (h0 : Pv 0 σ H) (hl : ∀ i σ H, i ≤ xs.length → Pv i σ H → SqT K H a xs)
    (hs : ∀ i x σ H, xs[i]? = some x → Pv i σ H → g x σ H fun σ2 H2 => tb { D with nx := Pv (i + 1), ct := Pv (i + 1), bk := D.nx } σ2 H2) (hd : ∀ σ H, Pv xs.length σ H → D.nx σ H) :
    ∃ W : Nat → Nat → St → Hp → Prop, (∃ m, W 0 m σ H) ∧ ∀ i m σ H, W i m σ H →
      ((Itt K a).stop i H ∧ D.nx σ H) ∨ ((Itt K a).go i H ∧ ∃ N : St → Hp → Prop, (∀ σ' H', N σ' H' → ∃ m', m' < m ∧ W (i + 1) m' σ' H') ∧ ∀ x H', (Itt K a).yld i H x H' → g x σ H' fun σ2 H2 => tb { D with nx := N, ct := N, bk := D.nx } σ2 H2) := by
  refine ⟨fun i m σ H => m = xs.length - i ∧ i ≤ xs.length ∧ Pv i σ H, ⟨xs.length, by simp, Nat.zero_le _, h0⟩, ?_⟩
  rintro i m σ H ⟨rfl, hi, p⟩
  have q := hl i σ H hi p
  by_cases hlt : i < xs.length
  · refine .inr ⟨⟨xs, xs[i], q, by simp [hlt]⟩, Pv (i + 1), fun σ' H' p' => ⟨xs.length - (i + 1), by first | lia | omega, rfl, hlt, p'⟩, fun x H' y => ?_⟩
    obtain ⟨e, y⟩ := y
    subst e
    exact hs i x σ _ (y xs q) p
  · have e : i = xs.length := by first | lia | omega
    subst e
    exact .inl ⟨⟨xs, q, Nat.le_refl _⟩, hd σ H p⟩
theorem for_range {lo : Int} {n : Nat} {g : TG} {tb : TS} {D : Ends} {σ : St} {H : Hp} (Pv : Nat → St → Hp → Prop) (h0 : Pv 0 σ H)
    (hs : ∀ i σ H, i < n → Pv i σ H → g (.int (lo + i)) σ H fun σ2 H2 => tb { D with nx := Pv (i + 1), ct := Pv (i + 1), bk := D.nx } σ2 H2) (hd : ∀ σ H, Pv n σ H → D.nx σ H) :
    ∃ W : Nat → Nat → St → Hp → Prop, (∃ m, W 0 m σ H) ∧ ∀ i m σ H, W i m σ H →
      ((Itr lo n).stop i H ∧ D.nx σ H) ∨ ((Itr lo n).go i H ∧ ∃ N : St → Hp → Prop, (∀ σ' H', N σ' H' → ∃ m', m' < m ∧ W (i + 1) m' σ' H') ∧ ∀ x H', (Itr lo n).yld i H x H' → g x σ H' fun σ2 H2 => tb { D with nx := N, ct := N, bk := D.nx } σ2 H2) := by
  refine ⟨fun i m σ H => m = n - i ∧ i ≤ n ∧ Pv i σ H, ⟨n, by simp, Nat.zero_le _, h0⟩, ?_⟩
  rintro i m σ H ⟨rfl, hi, p⟩
  by_cases hlt : i < n
  · refine .inr ⟨hlt, Pv (i + 1), fun σ' H' p' => ⟨n - (i + 1), by first | lia | omega, rfl, hlt, p'⟩, fun x H' y => ?_⟩
    obtain ⟨e, y⟩ := y
    subst e y
    exact hs i σ _ hlt p
  · have e : i = n := by first | lia | omega
    subst e
    exact .inl ⟨Nat.le_refl _, hd σ H p⟩
end L2

namespace L2
open PySem PySem.Spec PyProof.Rows

abbrev R2 := V → V → Hp → VK → Prop
/-- a two-place operation on values: f is binaryOp op, inplaceOp op or compareOp op -/
def OpR (X : Cx) (f : Value → Value → Sem Value) (r : R2) : Prop :=
  ∀ (pins : List (Addr × Obj)) (s : Shared) (σ : St) (H : Hp) (x y : V) (v u : Value) (Q : VK), Inv X pins σ H s → RelV x v → RelV y u → r x y H Q →
    wpAny (model X.prog X.w) X.A (f v u) (EP X pins σ Q) X.xe s
/-- a call of a value that is known (a builtin, a type) with values -/
def CallR (X : Cx) (f : Value) (r : List V → Hp → VK → Prop) : Prop :=
  ∀ (pins : List (Addr × Obj)) (s : Shared) (σ : St) (H : Hp) (xs : List V) (us : List Value) (Q : VK), Inv X pins σ H s → Vals xs us → r xs H Q →
    wpAny (model X.prog X.w) X.A (call f us) (EP X pins σ Q) X.xe s
def tOp (r : R2) (ta tb : TE) : TE := fun σ H Q => ta σ H fun x H1 => tb σ H1 fun y H2 => r x y H2 Q
/-- ints in, under C, and a value out -/
def rI (C : Int → Int → Prop) (g : Int → Int → V) : R2 := fun x y H Q => ∃ i j, x = .int i ∧ y = .int j ∧ C i j ∧ Q (g i j) H
def rI0 (g : Int → Int → V) : R2 := fun x y H Q => ∃ i j, x = .int i ∧ y = .int j ∧ Q (g i j) H
section
variable {X : Cx} {a b c : Expr} {ta tb tc : TE} {pos : Pos}

theorem binT (ha : PE X a ta) (hb : PE X b tb) {pins : List (Addr × Obj)} {s : Shared} {σ : St} {H : Hp} {R : V → V → Hp → Prop} (I : Inv X pins σ H s)
    (h : ta σ H fun x H1 => tb σ H1 fun y H2 => R x y H2) {Q : Value → Shared → Prop} {f : Value → Value → Sem Value}
    (hf : ∀ v u s2 x y H2, Inv X pins σ H2 s2 → RelV x v → RelV y u → R x y H2 → wpAny (model X.prog X.w) X.A (f v u) Q X.xe s2) :
    wpAny (model X.prog X.w) X.A (eval a X.env) (fun v s₁ => wpAny (model X.prog X.w) X.A (eval b X.env) (fun u s₂ => wpAny (model X.prog X.w) X.A (f v u) Q X.xe s₂) X.xe s₁) X.xe s := by
  refine thn (ha pins s σ H _ I h) fun v s1 ⟨x, H1, I1, r1, q1⟩ => ?_
  refine thn (hb pins s1 σ H1 _ I1 q1) fun u s2 ⟨y, H2, I2, r2, q2⟩ => ?_
  exact hf v u s2 x y H2 I2 r1 r2 q2

theorem pe_op {op : Operator} {r : R2} (ho : OpR X (binaryOp op) r) (ha : PE X a ta) (hb : PE X b tb) : PE X (.BinOp a op b pos) (tOp r ta tb) := by
  intro pins s σ H Q I h
  exact wpAny_BinOp (binT ha hb I h fun v u s2 x y H2 I2 rx ry q => ho pins s2 σ H2 x y v u Q I2 rx ry q)
theorem opI {f : Value → Value → Sem Value} {C : Int → Int → Prop} {g : Int → Int → Int}
    (rule : ∀ (i j : Int) (t u : Tok) (s : Shared) (Q : Value → Shared → Prop) (E : Value → Shared → Prop), C i j → Q (.int (g i j) s.toks) { s with toks := s.toks + 1 } → wpAny (model X.prog X.w) X.A (f (.int i t) (.int j u)) Q E s) :
    OpR X f (rI C fun i j => .int (g i j)) := by
  intro pins s σ H x y v u Q I rx ry h
  obtain ⟨i, j, rfl, rfl, hc, q⟩ := h
  obtain ⟨t, rfl⟩ := rx
  obtain ⟨t', rfl⟩ := ry
  exact rule i j t t' s _ _ hc ⟨.int (g i j), H, I.tok _, ⟨_, rfl⟩, q⟩
theorem opI0 {f : Value → Value → Sem Value} {g : Int → Int → Int}
    (rule : ∀ (i j : Int) (t u : Tok) (s : Shared) (Q : Value → Shared → Prop) (E : Value → Shared → Prop), Q (.int (g i j) s.toks) { s with toks := s.toks + 1 } → wpAny (model X.prog X.w) X.A (f (.int i t) (.int j u)) Q E s) :
    OpR X f (rI0 fun i j => .int (g i j)) := by
  intro pins s σ H x y v u Q I rx ry h
  obtain ⟨i, j, rfl, rfl, q⟩ := h
  obtain ⟨t, rfl⟩ := rx
  obtain ⟨t', rfl⟩ := ry
  exact rule i j t t' s _ _ ⟨.int (g i j), H, I.tok _, ⟨_, rfl⟩, q⟩
theorem opB0 {f : Value → Value → Sem Value} {g : Int → Int → Bool}
    (rule : ∀ (i j : Int) (t u : Tok) (s : Shared) (Q : Value → Shared → Prop) (E : Value → Shared → Prop), Q (.bool (g i j)) s → wpAny (model X.prog X.w) X.A (f (.int i t) (.int j u)) Q E s) :
    OpR X f (rI0 fun i j => .bl (g i j)) := by
  intro pins s σ H x y v u Q I rx ry h
  obtain ⟨i, j, rfl, rfl, q⟩ := h
  obtain ⟨t, rfl⟩ := rx
  obtain ⟨t', rfl⟩ := ry
  exact rule i j t t' s _ _ ⟨.bl (g i j), H, I, rfl, q⟩

def CPow (i j : Int) : Prop := 0 ≤ j ∧ j ≤ 1000000 ∧ i.natAbs < 2 ^ 64
theorem op_add : OpR X (binaryOp .Add) (rI0 fun i j => .int (i + j)) := opI0 fun _ _ _ _ _ _ _ q => add_int q
theorem op_sub : OpR X (binaryOp .Sub) (rI0 fun i j => .int (i - j)) := opI0 fun _ _ _ _ _ _ _ q => sub_int q
/-- % by a positive divisor of any size -/
theorem op_mod : OpR X (binaryOp .Mod) (rI (fun _ j => 0 < j) fun i j => .int (i % j)) := opI fun i j _ _ _ _ _ hc q => by
  have h1 : (0 : Int) < j := hc
  exact mod_int' (by first | lia | omega) (by rw [Int.fmod_eq_emod_of_nonneg i (by first | lia | omega)]; exact q)
theorem op_pow : OpR X (binaryOp .Pow) (rI CPow fun i j => .int (i ^ j.toNat)) := opI fun _ _ _ _ _ _ _ hc q => pow_int_small hc.1 hc.2.1 hc.2.2 q
end

/-- the scalars that == tells apart as data does -/
def scal : V → V → Bool
  | .non, .non => true | .non, .int _ => true | .int _, .non => true | .non, .bl _ => true | .bl _, .non => true | .non, .str _ => true | .str _, .non => true
  | .int _, .int _ => true | .bl _, .bl _ => true | .str _, .str _ => true | .byt _, .byt _ => true
  | .int _, .str _ => true | .str _, .int _ => true | .bl _, .str _ => true | .str _, .bl _ => true
  | _, _ => false
def rEq : R2 := fun x y H Q => scal x y = true ∧ Q (.bl (decide (x = y))) H
def rNe : R2 := fun x y H Q => scal x y = true ∧ Q (.bl (!decide (x = y))) H

theorem dec_int {i j : Int} : decide (V.int i = V.int j) = (i == j) := by
  rw [Bool.eq_iff_iff]
  simp
theorem dec_bl {i j : Bool} : decide (V.bl i = V.bl j) = (i == j) := by
  rw [Bool.eq_iff_iff]
  simp
theorem dec_str {i j : Str} : decide (V.str i = V.str j) = (i == j) := by
  rw [Bool.eq_iff_iff]
  simp
theorem dec_byt {i j : Array UInt8} : decide (V.byt i = V.byt j) = (i.toList == j.toList) := by
  rw [Bool.eq_iff_iff]
  cases i
  cases j
  simp

section
variable {X : Cx} {a b c : Expr} {ta tb tc : TE} {pos : Pos}
theorem fin_bl {pins : List (Addr × Obj)} {σ : St} {H : Hp} {s : Shared} {Q : VK} {k k' : Bool} (I : Inv X pins σ H s) (q : Q (.bl k) H) (e : k = k') : EP X pins σ Q (.bool k') s := by
  subst e
  exact ⟨.bl k, H, I, rfl, q⟩
theorem op_eq : OpR X (compareOp .Eq) rEq := by
  intro pins s σ H x y v u Q I rx ry h
  obtain ⟨hs, q⟩ := h
  cases x with
  | non =>
    cases rx
    cases y with
    | non => cases ry; exact PySem.EqNone.eq_none_none (fin_bl I q (by simp))
    | bl j => cases ry; exact PySem.EqNone.eq_none_bool (fin_bl I q (by simp))
    | int j => obtain ⟨t', rfl⟩ := ry; exact PySem.EqNone.eq_none_int (fin_bl I q (by simp))
    | str j => obtain ⟨t', rfl⟩ := ry; exact PySem.EqNone.eq_none_str (fin_bl I q (by simp))
    | _ => exact absurd (show false = true from hs) Bool.false_ne_true
  | bl i =>
    cases rx
    cases y with
    | non => cases ry; exact PySem.EqNone.eq_bool_none (fin_bl I q (by simp))
    | bl j => cases ry; exact eq_bool (fin_bl I q dec_bl)
    | str j => obtain ⟨t', rfl⟩ := ry; exact PySem.EqMixed.eq_bool_str (fin_bl I q (by simp))
    | _ => exact absurd (show false = true from hs) Bool.false_ne_true
  | int i =>
    obtain ⟨t, rfl⟩ := rx
    cases y with
    | non => cases ry; exact PySem.EqNone.eq_int_none (fin_bl I q (by simp))
    | int j => obtain ⟨t', rfl⟩ := ry; exact eq_int (fin_bl I q dec_int)
    | str j => obtain ⟨t', rfl⟩ := ry; exact PySem.EqMixed.eq_int_str (fin_bl I q (by simp))
    | _ => exact absurd (show false = true from hs) Bool.false_ne_true
  | str i =>
    obtain ⟨t, rfl⟩ := rx
    cases y with
    | non => cases ry; exact PySem.EqNone.eq_str_none (fin_bl I q (by simp))
    | bl j => cases ry; exact PySem.EqMixed.eq_str_bool (fin_bl I q (by simp))
    | int j => obtain ⟨t', rfl⟩ := ry; exact PySem.EqMixed.eq_str_int (fin_bl I q (by simp))
    | str j => obtain ⟨t', rfl⟩ := ry; exact eq_str (fin_bl I q dec_str)
    | _ => exact absurd (show false = true from hs) Bool.false_ne_true
  | byt i =>
    obtain ⟨t, rfl⟩ := rx
    cases y with
    | byt j => obtain ⟨t', rfl⟩ := ry; exact PySem.W.eq_bytes (fin_bl I q dec_byt)
    | _ => exact absurd (show false = true from hs) Bool.false_ne_true
  | _ => cases y <;> exact absurd (show false = true from hs) Bool.false_ne_true
theorem op_ne : OpR X (compareOp .NotEq) rNe := by
  intro pins s σ H x y v u Q I rx ry h
  obtain ⟨hs, q⟩ := h
  cases x with
  | non =>
    cases rx
    cases y with
    | non => cases ry; exact PySem.EqNone.ne_none_none (fin_bl I q (by simp))
    | bl j => cases ry; exact PySem.EqNone.ne_none_bool (fin_bl I q (by simp))
    | int j => obtain ⟨t', rfl⟩ := ry; exact PySem.EqNone.ne_none_int (fin_bl I q (by simp))
    | str j => obtain ⟨t', rfl⟩ := ry; exact PySem.EqNone.ne_none_str (fin_bl I q (by simp))
    | _ => exact absurd (show false = true from hs) Bool.false_ne_true
  | bl i =>
    cases rx
    cases y with
    | non => cases ry; exact PySem.EqNone.ne_bool_none (fin_bl I q (by simp))
    | bl j => cases ry; exact ne_bool (fin_bl I q (congrArg not dec_bl))
    | str j => obtain ⟨t', rfl⟩ := ry; exact PySem.EqMixed.ne_bool_str (fin_bl I q (by simp))
    | _ => exact absurd (show false = true from hs) Bool.false_ne_true
  | int i =>
    obtain ⟨t, rfl⟩ := rx
    cases y with
    | non => cases ry; exact PySem.EqNone.ne_int_none (fin_bl I q (by simp))
    | int j => obtain ⟨t', rfl⟩ := ry; exact ne_int (fin_bl I q (congrArg not dec_int))
    | str j => obtain ⟨t', rfl⟩ := ry; exact PySem.EqMixed.ne_int_str (fin_bl I q (by simp))
    | _ => exact absurd (show false = true from hs) Bool.false_ne_true
  | str i =>
    obtain ⟨t, rfl⟩ := rx
    cases y with
    | non => cases ry; exact PySem.EqNone.ne_str_none (fin_bl I q (by simp))
    | bl j => cases ry; exact PySem.EqMixed.ne_str_bool (fin_bl I q (by simp))
    | int j => obtain ⟨t', rfl⟩ := ry; exact PySem.EqMixed.ne_str_int (fin_bl I q (by simp))
    | str j => obtain ⟨t', rfl⟩ := ry; exact ne_str (fin_bl I q (congrArg not dec_str))
    | _ => exact absurd (show false = true from hs) Bool.false_ne_true
  | byt i =>
    obtain ⟨t, rfl⟩ := rx
    cases y with
    | byt j => obtain ⟨t', rfl⟩ := ry; exact PySem.W.ne_bytes (fin_bl I q (congrArg not dec_byt))
    | _ => exact absurd (show false = true from hs) Bool.false_ne_true
  | _ => cases y <;> exact absurd (show false = true from hs) Bool.false_ne_true

theorem op_lt : OpR X (compareOp .Lt) (rI0 fun i j => .bl (decide (i < j))) := opB0 fun _ _ _ _ _ _ _ q => lt_int q
theorem op_le : OpR X (compareOp .LtE) (rI0 fun i j => .bl (decide (i ≤ j))) := opB0 fun _ _ _ _ _ _ _ q => le_int q
theorem op_gt : OpR X (compareOp .Gt) (rI0 fun i j => .bl (decide (j < i))) := opB0 fun _ _ _ _ _ _ _ q => gt_int q
theorem nomark (b : Expr) {op : CmpOp} (h : op ≠ .In := by decide) (h2 : op ≠ .NotIn := by decide) : behindInMarks op b = false := by
  have e1 : (op == CmpOp.In) = false := by cases op <;> first | rfl | exact absurd rfl h
  have e2 : (op == CmpOp.NotIn) = false := by cases op <;> first | rfl | exact absurd rfl h2
  cases b <;> simp [behindInMarks, e1, e2]
/-- a comparison as a value; hm: nomark b, or (for in, not in) by with_unfolding_all rfl -/
theorem pe_cmpR {op : CmpOp} {r : R2} (ho : OpR X (compareOp op) r) (ha : PE X a ta) (hb : PE X b tb) (hm : behindInMarks op b = false) : PE X (.Compare a [op] [b] pos) (tOp r ta tb) := by
  intro pins s σ H Q I h
  exact wpAny_Compare1 (binT ha hb I h fun v u s2 x y H2 I2 rx ry q => ho pins s2 σ H2 x y v u Q I2 rx ry q) hm
/-- a reading of a value as a test -/
def tTest (t : TE) : TT := fun σ H Q => t σ H fun x H' => ∃ k, x = .bl k ∧ Q k H'
theorem pt_cmpR {op : CmpOp} {r : R2} (ho : OpR X (compareOp op) r) (ha : PE X a ta) (hb : PE X b tb) (hm : behindInMarks op b = false) : PT X (.Compare a [op] [b] pos) (tTest (tOp r ta tb)) := by
  intro pins s σ H Q I h
  refine wpAny_isTrue_Compare1 (thn (ha pins s σ H _ I h) fun v s1 ⟨x, H1, I1, r1, q1⟩ => thn (hb pins s1 σ H1 _ I1 q1) fun u s2 ⟨y, H2, I2, r2, q2⟩ =>
    thn (ho pins s2 σ H2 x y v u _ I2 r1 r2 q2) fun c s3 ⟨z, H3, I3, r3, k, e, q3⟩ => ?_) hm
  subst e
  cases r3
  exact wpAny_truthy_bool ⟨H3, I3, q3⟩
/-- a op1 b op2 c -/
def tChain (r r' : R2) (ta tb tc : TE) : TE := fun σ H Q => ta σ H fun x H1 => tb σ H1 fun y H2 => r x y H2 fun z H3 => ∃ k, z = .bl k ∧
  (if k = true then tc σ H3 fun w' H4 => r' y w' H4 Q else Q (.bl false) H3)
theorem pe_chain {op op' : CmpOp} {r r' : R2} (ho : OpR X (compareOp op) r) (ho' : OpR X (compareOp op') r') (ha : PE X a ta) (hb : PE X b tb) (hc : PE X c tc)
    (hm : lastMarks [op, op'] [b, c] = false := by with_unfolding_all rfl) : PE X (.Compare a [op, op'] [b, c] pos) (tChain r r' ta tb tc) := by
  intro pins s σ H Q I h
  refine Compare_chain (thn (ha pins s σ H _ I h) fun v s1 ⟨x, H1, I1, r1, q1⟩ => chain_link (thn (hb pins s1 σ H1 _ I1 q1) fun u s2 ⟨y, H2, I2, r2, q2⟩ =>
    thn (ho pins s2 σ H2 x y v u _ I2 r1 r2 q2) fun d s3 ⟨z, H3, I3, r3, k, e, q3⟩ => ?_)) hm
  subst e
  cases r3
  refine wpAny_truthy_bool ?_
  cases k with
  | false => exact ite_ff ⟨.bl false, H3, I3, rfl, q3⟩
  | true => exact ite_tt (chain_last (thn (hc pins s3 σ H3 _ I3 q3) fun w' s4 ⟨z', H4, I4, r4, q4⟩ => ho' pins s4 σ H4 y z' u w' Q I4 r2 r4 q4))
theorem line63 : (sizeLine : Nat) < 2 ^ 63 := by rw [sizeLine_eq]; decide
theorem vals1 {x : V} {us : List Value} (r : Vals [x] us) : ∃ u, us = [u] ∧ RelV x u := by
  cases r with
  | cons r1 r2 => cases r2; exact ⟨_, rfl, r1⟩
theorem vals2 {x y : V} {us : List Value} (r : Vals [x, y] us) : ∃ u w', us = [u, w'] ∧ RelV x u ∧ RelV y w' := by
  cases r with
  | cons r1 r2 =>
    cases r2 with
    | cons r3 r4 => cases r4; exact ⟨_, _, rfl, r1, r3⟩
end
end L2

namespace L2
open PySem PySem.Spec PyProof.Rows

structure ObjM (h : Heap) (x dx C : Addr) (mA : Str → Option Value) : Prop where
  obj : h.get? x = some (PySem.W.instObj C dx)
  ns : h.Ns1 dx mA
  ne : dx ≠ x

theorem lookIn_ns {h : Heap} {dx : Addr} {mA : Str → Option Value} (n : h.Ns1 dx mA) : ∃ od, h.get? dx = some od ∧ ∀ name, PySem.W.lookIn name od = some (mA name) := by
  obtain ⟨o, es, ep, ho, hd, hk, _, hm⟩ := n
  refine ⟨o, ho, fun name => ?_⟩
  have e := hm name
  unfold nsFind findBy at e
  rw [← Array.find?_toList] at e
  unfold PySem.W.lookIn
  rw [hd]
  dsimp only
  split
  · rename_i y q
    rw [q] at e
    exact congrArg some e
  · rename_i q
    rw [q] at e
    have a : es.toList.any (·.refKey) = false := by
      rw [List.any_eq_false]
      intro y hy
      obtain ⟨z, t, hkey⟩ := hk y (Array.mem_toList_iff.mp hy)
      simp [DictEntry.refKey, hkey]
    have a' : ¬ es.toList.any (·.refKey) = true := by rw [a]; exact Bool.false_ne_true
    rw [if_neg a']
    exact congrArg some e

theorem ObjM.look {h : Heap} {x dx C : Addr} {mA : Str → Option Value} (I : ObjM h x dx C mA) : ∃ od, PySem.W.InstAt h x (PySem.W.instObj C dx) C (some od) ∧ ∀ name, PySem.W.lookIn name od = some (mA name) :=
  let ⟨od, ho, hl⟩ := lookIn_ns I.ns
  ⟨od, ⟨I.obj, rfl, rfl, ho⟩, hl⟩

section
variable {prog : Program} {w : World} {A : Around} {E : Value → Shared → Prop} {s : Shared} {K : PySem.W.Frag} {x dx C f : Addr} {mA : Str → Option Value} {name : Str} {v : Value}

end

theorem RelO.some_of {v : V} {o : Option Value} (r : RelO (some v) o) : ∃ u, o = some u ∧ RelV v u := by
  cases o with
  | none => exact (show False from r).elim
  | some u => exact ⟨u, rfl, r⟩
section
variable {P : Program} {w : World} {H H' : Hp} {h h' : Heap} {a C dx : Addr} {fs fs' : List (Str × V)}
theorem ins_get (hok : HOk P w H h) (e : H a = some (.ins C dx fs)) : ∃ mA, ObjM h a dx C mA ∧ (∀ f, RelO (fs.lookup f) (mA f)) ∧ PySem.Within mA (fs.map (·.1)) ∧ fs.length ≤ 1000 ∧ H dx = some (.own a) := by
  obtain ⟨d, z, ne, ob, mA, n, r, q⟩ := (show ObjOk P w H h a (.ins C dx fs) from hok a _ e)
  exact ⟨mA, ⟨ob, n, ne⟩, r, q, z, d⟩
end

structure Cls (K : PySem.W.Frag) (C : Addr) : Prop where
  pg : PySem.W.plainGet K C Str.empty = true
  hd : PySem.W.hasDictIn K C = true
  po : PySem.W.plainOver K C = true
  sa : PySem.W.findIn K (.ref C) "__setattr__" = some (some (.builtin "object.__setattr__"))
theorem Cls.get {K : PySem.W.Frag} {C : Addr} (c : Cls K C) (f : Str) : PySem.W.plainGet K C f = true := c.pg
section
variable {X : Cx} {pins : List (Addr × Obj)} {σ : St} {H : Hp} {s : Shared} {a C dx : Addr} {fs : List (Str × V)} {f : Str} {v : V} {A : Around} {E : Value → Shared → Prop}

end

section
variable {X : Cx} {o e value : Expr} {f : Str} {pos pos' tpos : Pos} {ta tv : TE}
end

section
variable {X : Cx} {pins : List (Addr × Obj)} {σ : St} {H : Hp} {s : Shared} {A : Around} {E : Value → Shared → Prop} {Q : Value → Shared → Prop} {c : Value} {b : Bool}
/-- the type of a value, as the fragment's deciders take it; for an instance its class -/
inductive TyOf (K : PySem.W.Frag) (H : Hp) : V → Value → Prop where
  | non : TyOf K H .non (.type "NoneType")
  | bl (x : Bool) : TyOf K H (.bl x) (.type "bool")
  | int (i : Int) : TyOf K H (.int i) (.type "int")
  | str (x : Str) : TyOf K H (.str x) (.type "str")
  | flt (x : UInt64) : TyOf K H (.flt x) (.type "float")
  | lst {a : Addr} {xs : List V} (e : H a = some (.lst xs)) : TyOf K H (.ref a) (.type "list")
  | frz {a : Addr} {o : Obj} {xs : List V} (e : H a = some (.frz o (.lst xs))) : TyOf K H (.ref a) (.type "list")
  | tup {a : Addr} {xs : List V} (e : H a = some (.tup xs)) : TyOf K H (.ref a) (.type "tuple")
  | dK {a : Addr} {kvs : List (Key × V)} (e : H a = some (.dK kvs)) : TyOf K H (.ref a) (.type "dict")
  | dT {a : Addr} {kvs : List (List Key × V)} (e : H a = some (.dT kvs)) : TyOf K H (.ref a) (.type "dict")
  | ins {a C dx : Addr} {fs : List (Str × V)} (e : H a = some (.ins C dx fs)) (cl : Cls K C) (ha : PySem.W.findIn K (.ref C) "__class__" = some (some (.builtin "object.__class__")))
      (hn : PySem.W.specialIn K (.builtin "object.__class__") "__get__" = some (some (.builtin "getset_descriptor.__get__"))) (htk : PySem.W.takesIn K (.builtin "object.__class__") = some true)
      (hm : PySem.W.mroIn K C (.type "object") = some true) : TyOf K H (.ref a) (.ref C)
/-- isinstance(x, c) for one class c, a built-in or an own one: kitOne's answer -/
theorem isinst_ok {x : V} {u t : Value} (I : Inv X pins σ H s) (rx : RelV x u) (ty : TyOf X.K H x t) (e : PySem.W.kitOne X.K t c = some b) (h : ∀ tk, Q (.bool b) { s with toks := tk }) :
    wpAny (model X.prog X.w) A (call (.builtin "isinstance") [u, c]) Q E s := by
  cases ty with
  | non => cases (show u = Value.none from rx); exact PySem.W.kia_one PySem.W.kitx_none I.kIn True.intro e (fun z => nomatch z) h
  | bl y => cases (show u = Value.bool y from rx); exact PySem.W.kia_one PySem.W.kitx_bool I.kIn True.intro e (fun z => nomatch z) h
  | int i => obtain ⟨t, q⟩ := (show ∃ t, u = Value.int i t from rx); cases q; exact PySem.W.kia_one PySem.W.kitx_int I.kIn True.intro e (fun z => nomatch z) h
  | str y => obtain ⟨t, q⟩ := (show ∃ t, u = Value.str y t from rx); cases q; exact PySem.W.kia_one PySem.W.kitx_str I.kIn True.intro e (fun z => nomatch z) h
  | flt y => obtain ⟨t, q⟩ := (show ∃ t, u = Value.float y t from rx); cases q; exact PySem.W.kia_one PySem.W.kitx_float I.kIn True.intro e (fun z => nomatch z) h
  | @lst a xs ea =>
    cases (show u = Value.ref a from rx)
    obtain ⟨_, _, n, _, h1⟩ := (show ObjOk X.prog X.w H s.heap a (.lst xs) from I.hok a _ ea)
    exact PySem.W.kia_one PySem.W.kitx_list I.kIn ⟨_, h1, rfl⟩ e (fun z => nomatch z) h
  | @frz a ob xs ea =>
    cases (show u = Value.ref a from rx)
    obtain ⟨_, _, _, n, _, h1⟩ := (show ObjOk X.prog X.w H s.heap a (.frz ob (.lst xs)) from I.hok a _ ea)
    exact PySem.W.kia_one PySem.W.kitx_list I.kIn ⟨_, h1, rfl⟩ e (fun z => nomatch z) h
  | @tup a xs ea =>
    cases (show u = Value.ref a from rx)
    obtain ⟨_, _, _, p⟩ := (show ObjOk X.prog X.w H s.heap a (.tup xs) from I.hok a _ ea)
    obtain ⟨o, h1, h2, _⟩ := p
    exact PySem.W.kia_one PySem.W.kitx_tuple I.kIn ⟨o, h1, h2⟩ e (fun z => nomatch z) h
  | @dK a kvs ea =>
    cases (show u = Value.ref a from rx)
    obtain ⟨_, _, vs, _, p⟩ := (show ObjOk X.prog X.w H s.heap a (.dK kvs) from I.hok a _ ea)
    obtain ⟨o, es, ep, h1, h2, _⟩ := p
    exact PySem.W.kia_one PySem.W.kitx_dict I.kIn ⟨o, h1, h2.1⟩ e (fun z => nomatch z) h
  | @dT a kvs ea =>
    cases (show u = Value.ref a from rx)
    obtain ⟨_, _, xs, _, o, es, ep, h1, h2, _⟩ := (show ObjOk X.prog X.w H s.heap a (.dT kvs) from I.hok a _ ea)
    exact PySem.W.kia_one PySem.W.kitx_dict I.kIn ⟨o, h1, h2.1⟩ e (fun z => nomatch z) h
  | @ins a C dx fs ea cl ha hn htk hm =>
    cases (show u = Value.ref a from rx)
    obtain ⟨mA, O, _⟩ := ins_get I.hok ea
    obtain ⟨od, J, _⟩ := O.look
    exact PySem.W.kia_one (PySem.W.kitx_own (cl.get _) cl.hd ha hn htk hm) I.kIn J e (fun z => nomatch z) h
end
end L2

namespace L2
open PySem PySem.Spec PyProof.Rows

structure Room (k : Nat) (A : Around) : Prop where
  hd : A.handled = none
  dp : A.depth + 3 * k + 5 < recursionLimit
  un : A.units + 16 * k + 200 < cLine
theorem Room.mono {j k : Nat} {A : Around} (r : Room k A) (h : j ≤ k) : Room j A := ⟨r.hd, by have := r.dp; first | lia | omega, by have := r.un; first | lia | omega⟩
theorem Room.deeper {k : Nat} {A : Around} (r : Room (k + 1) A) (env : Env) : Room k (A.deeper env) :=
  ⟨r.hd, by have := r.dp; show A.depth + 1 + 3 * k + 5 < _; first | lia | omega, by have := r.un; show A.units + 3 + 16 * k + 200 < _; first | lia | omega⟩
theorem Room.depth {k : Nat} {A : Around} (r : Room k A) : A.depth < recursionLimit := by have := r.dp; first | lia | omega
theorem Room.units {k : Nat} {A : Around} (r : Room k A) : A.units + 64 < cLine := by have := r.un; first | lia | omega
theorem Room.units0 {k : Nat} {A : Around} (r : Room k A) : A.units < cLine := by have := r.un; first | lia | omega

def tNil : TA := fun _ H Q => Q [] H
def tCons (ta : TE) (tr : TA) : TA := fun σ H Q => ta σ H fun x H1 => tr σ H1 fun xs H2 => Q (x :: xs) H2
section
variable {X : Cx} {e : Expr} {es : List Expr} {te : TE} {t : TA} {pos : Pos}
theorem pa_nil : PA X [] tNil := fun _ _ _ _ H Q I h => Calls.spliced_nil ⟨[], H, I, .nil, h⟩
theorem pa_cons (ha : PE X e te) (hr : PA X es t) (hs : starEach (e :: es) X.env = (false, eval e X.env) :: starEach es X.env := by rfl) : PA X (e :: es) (tCons te t) := by
  intro pos pins s σ H Q I h
  rw [hs]
  show wpAny _ _ (spliced ((false, eval e X.env) :: backTo pos (starEach es X.env))) _ _ s
  refine Calls.spliced_cons (thn (ha pins s σ H _ I h) fun u s1 ⟨x, H1, I1, r1, q1⟩ => ?_)
  exact thn (hr pos pins s1 σ H1 _ I1 q1) fun us s2 ⟨xs, H2, I2, r2, q2⟩ => ⟨x :: xs, H2, I2, .cons r1 r2, q2⟩

/-- a tuple, a list of written items -/
def tTup (t : TA) : TE := fun σ H Q => t σ H fun xs H1 => xs.length ≤ sizeLine ∧ ∀ p, H1 p = none → Q (.ref p) (upd H1 p (.tup xs))
def tLst (t : TA) : TE := fun σ H Q => t σ H fun xs H1 => xs.length ≤ sizeLine ∧ ∀ p, H1 p = none → Q (.ref p) (upd H1 p (.lst xs))
theorem pe_tup {x1} (h : PA X es t) : PE X (.Tuple es x1 pos) (tTup t) := by
  intro pins s σ H Q I hq
  refine wpAny_Tuple_spliced (thn (h pos pins s σ H _ I hq) fun us s1 ⟨xs, H1, I1, r, z, q⟩ => ⟨by rw [← r.length]; exact z, ?_⟩)
  have hf : H1 s1.heap.objs.size = none := I1.hok.fresh (Nat.le_refl _)
  refine ⟨.ref s1.heap.objs.size, upd H1 s1.heap.objs.size (.tup xs), I1.laid (t' := s1.toks) (fun b u e => Heap.get?_push_of_some _ e) (Nat.le_refl _) ?_, rfl, q _ hf⟩
  exact ⟨z, us, r, ⟨_, Heap.get?_push_size _ rfl, rfl, _, rfl⟩⟩
theorem pe_lst (h : PA X es t) : PE X (.List es pos) (tLst t) := by
  intro pins s σ H Q I hq
  refine wpAny_List_spliced (thn (h pos pins s σ H _ I hq) fun us s1 ⟨xs, H1, I1, r, z, q⟩ => ⟨by rw [← r.length]; exact z, ?_⟩)
  have hf : H1 s1.heap.objs.size = none := I1.hok.fresh (Nat.le_refl _)
  refine ⟨.ref s1.heap.objs.size, upd H1 s1.heap.objs.size (.lst xs), I1.laid (t' := s1.toks) (fun b u e => Heap.get?_push_of_some _ e) (Nat.le_refl _) ?_, rfl, q _ hf⟩
  exact ⟨z, us, 0, r, Heap.get?_push_size _ rfl⟩
end

/-- a def's promise: the bound arguments in the parameters' order, the heap, the wanted end, the wanted exception -/
abbrev Sp := List V → Hp → VK → XK → Prop
/-- how an exception lies behind a call (file 08 gives it): the callers' frames, abstract heap and state ahead of the call, the wish, the exception, the state -/
abbrev CXT := List Env → Hp → Shared → XK → Value → Shared → Prop

/-- the state at a call -/
structure Env0 (P : Program) (w : World) (K : PySem.W.Frag) (mg : Str → Option Value) (base : Heap) (A : Around) (outer : List Env) (s : Shared) (H : Hp) : Prop where
  frames : A.frames = some outer
  mod : Mod K mg base
  bs : ∀ b o, base.get? b = some o → s.heap.get? b = some o ∧ H b = none
  bsz : base.objs.size ≤ s.heap.objs.size
  funs : s.heap.FunFrames base outer
  frf : ∀ b ∈ frs outer, H b = none
  hok : HOk P w H s.heap
  bare : AllBare s.gens
/-- a call's end -/
def CE (outer : List Env) (P : Program) (w : World) (H : Hp) (s : Shared) (Q : VK) (u : Value) (s' : Shared) : Prop :=
  ∃ v H', s'.os = s.os ∧ AllBare s'.gens ∧ Un (frs outer) [] H H' s.heap s'.heap ∧ HOk P w H' s'.heap ∧ RelV v u ∧ Q v H'
def CR (CX : CXT) (outer : List Env) (P : Program) (w : World) (H : Hp) (s : Shared) (Q : VK) (E : XK) (r : Result) (s' : Shared) : Prop :=
  match r with
  | .ok (.ret u) => CE outer P w H s Q u s'
  | .ok _ => False
  | .error e => CX outer H s E e s'
structure FnOk (P : Program) (w : World) (K : PySem.W.Frag) (mg : Str → Option Value) (base : Heap) (CX : CXT) (k : Nat) (f : Addr) (fd : FuncData) (ps : List Str) (sp : Sp) : Prop where
  len : ∀ vs H Q E, sp vs H Q E → vs.length = ps.length
  run : ∀ (A : Around) (outer : List Env) (s : Shared) (H : Hp) (args : Args) (us : List Value) (vs : List V) (Q : VK) (E : XK), Room k A → Env0 P w K mg base A outer s H → BindsTo s fd args (ps.zip us) → Vals vs us → sp vs H Q E →
    codeAny (model P w) A (.call (.ref f) args) (CR CX outer P w H s Q E) s
section
variable {X : Cx} {pins : List (Addr × Obj)} {σ : St} {H : Hp} {s s' : Shared}
/-- from a body: what a callee wants -/
theorem Inv.env0 (I : Inv X pins σ H s) : Env0 X.prog X.w X.K X.mg X.base X.A X.stack s H :=
  ⟨I.ok.frames, I.ok.mod, I.bs, Nat.le_trans I.ok.bsz I.sz, I.stack, I.stkFree, I.hok, I.bare⟩
/-- behind a call -/
theorem Inv.after {Q : VK} {u : Value} (I : Inv X pins σ H s) (h : CE X.stack X.prog X.w H s Q u s') : EP X pins σ Q u s' := by
  obtain ⟨v, H', os, bare, un, hok, r, q⟩ := h
  obtain ⟨hh, g, d, t, os'⟩ := s'
  obtain rfl : os' = s.os := os
  exact ⟨v, H', I.call (h' := hh) (g' := g) (d' := d) (t' := t) (ch := []) un hok bare (fun b z => absurd z (by simp)), r, q⟩
end

/-- f(..): the written arguments, then the defaults dvs; E: what is wanted of an exception -/
def tCall (sp : Sp) (dvs : List V) (E : XK) (t : TA) : TE := fun σ H Q => t σ H fun vs H1 => sp (vs ++ dvs) H1 Q E
/-- how the parameters are bound: us the positional arguments, kw the keywords' values by name, ds the defaults that fill up -/
def Binds (K : PySem.W.Frag) (fd : FuncData) (ps : List Str) (ds : List Value) : Prop :=
  ∀ (s : Shared) (us : List Value), K.In s.heap → (us ++ ds).length = ps.length → BindsTo s fd ⟨us, []⟩ (ps.zip (us ++ ds))
/-- every parameter is given -/
theorem Binds.all {K : PySem.W.Frag} {fd : FuncData} {ps : List Str} (h : ∀ us : List Value, us.length = ps.length → bindArgs fd ⟨us, []⟩ = pure (ps.zip us)) : Binds K fd ps [] := fun s us _ hl => by
  rw [List.append_nil] at hl ⊢
  exact .of_eq (h us hl)

/-- an exception of a callee reaches what this body wants of exceptions -/
def Passes (CX : CXT) (X : Cx) (E : XK) : Prop := ∀ (pins : List (Addr × Obj)) (σ : St) (H : Hp) (s : Shared) (e : Value) (s' : Shared), Inv X pins σ H s → CX X.stack H s E e s' → X.xe e s'

section
variable {X : Cx} {CX : CXT} {k : Nat} {f C : Addr} {fd : FuncData} {ps : List Str} {sp : Sp} {dvs : List V} {ds : List Value} {E : XK} {x m : Str} {p pos apos : Pos} {e o : Expr} {es : List Expr} {ta : TE} {t : TA}

/-- the callee runs -/
theorem run_fn {pins : List (Addr × Obj)} {σ : St} {H : Hp} {s : Shared} {Q : VK} {us : List Value} {vs : List V} (F : FnOk X.prog X.w X.K X.mg X.base CX k f fd ps sp) (hr : Room k X.A) (hb : Binds X.K fd ps ds) (hd : Vals dvs ds) (hx : Passes CX X E)
    (I : Inv X pins σ H s) (r : Vals vs us) (h : sp (vs ++ dvs) H Q E) : wpAny (model X.prog X.w) X.A (call (.ref f) us) (EP X pins σ Q) X.xe s := by
  have r2 : Vals (vs ++ dvs) (us ++ ds) := r.append hd
  have hl : (us ++ ds).length = ps.length := by rw [← r2.length]; exact F.len _ _ _ _ h
  refine wpAny_call (codeAny_mono (F.run X.A X.stack s H ⟨us, []⟩ (us ++ ds) (vs ++ dvs) Q E hr I.env0 (hb s us I.kIn hl) r2 h) fun r s' hq => ?_)
  cases r with
  | error e => exact hx pins σ H s e s' I hq
  | ok fl =>
    cases fl with
    | ret u => exact I.after hq
    | next => exact False.elim hq
    | brk => exact False.elim hq
    | cont => exact False.elim hq

theorem pe_call (F : FnOk X.prog X.w X.K X.mg X.base CX k f fd ps sp) (hr : Room k X.A) (hg : Gl X x) (hm : X.mg x = some (.ref f)) (hk : PySem.W.keepIn X.K (.ref f) = true) (hb : Binds X.K fd ps ds) (hd : Vals dvs ds) (hx : Passes CX X E)
    (ha : PA X (e :: es) t) (hdb : (x == ("__debug__" : Str)) = false := by decide) (he : starEach (e :: es) X.env = (false, eval e X.env) :: starEach es X.env := by rfl) (hpl : (backTo pos (starEach es X.env)).any (·.1) = false := by rfl) :
    PE X (.Call (.Name x p) (e :: es) [] pos) (tCall sp dvs E t) := by
  intro pins s σ H Q I h
  refine wpAny_Call_Name_kw (ld_glob I hg hm ?_ hdb)
  refine PySem.W.callWith_K (h₀ := X.base) I.ok.mod.kin hk (thn (ha pos pins s σ H _ I h) fun us s1 ⟨vs, H1, I1, r, q⟩ => ⟨I1.kIn, ?_⟩) he hpl
  exact run_fn F hr hb hd hx I1 r q
end

section
variable {X : Cx} {CX : CXT} {k : Nat} {f C : Addr} {fd : FuncData} {ps ks : List Str} {sp : Sp} {E : XK} {x m : Str} {p pos apos kpos : Pos} {e o : Expr} {es : List Expr} {kws : List Keyword} {te ta : TE} {t tk : TA} {nm : Option Str}
variable {g : List Value → List Value → List Value} {gV : List V → List V → List V}
end

/-- names: the parameters first -/
structure FnScope (N P : List Str) (sc : Scope) : Prop where
  kind : sc.kind = .function
  co : sc.isCoroutine = false
  gen : sc.isGenerator = false
  nd : N.Nodup
  pre : N.take P.length = P
  par : ∀ x ∈ P, sc.names.lookup x = some .local ∨ sc.names.lookup x = some .cell
  nofree : ∀ y ∈ sc.names, y.2 ≠ .free

theorem bindL_out {kindOf : Str → Option NameKind} {x : Str} : ∀ {binds : List (Str × Value)} {m : Str → Option Value}, (∀ v, (x, v) ∉ binds) → bindL kindOf binds m x = m x
  | [], _, _ => rfl
  | (n, v) :: r, m, h => by
    unfold bindL
    rw [bindL_out fun w hw => h w (List.mem_cons_of_mem _ hw)]
    split
    · have : x ≠ n := by rintro rfl; exact h v List.mem_cons_self
      simp [this]
    · rfl
theorem bindC_out {kindOf : Str → Option NameKind} {x : Str} : ∀ {binds : List (Str × Value)} {m : Str → Option Value}, (∀ v, (x, v) ∉ binds) → bindC kindOf binds m x = m x
  | [], _, _ => rfl
  | (n, v) :: r, m, h => by
    unfold bindC
    rw [bindC_out fun w hw => h w (List.mem_cons_of_mem _ hw)]
    split
    · rfl
    · have : x ≠ n := by rintro rfl; exact h v List.mem_cons_self
      simp [this]
theorem bindL_get {kindOf : Str → Option NameKind} {x : Str} {v : Value} : ∀ {P : List Str} {vs : List Value} {i : Nat} {m : Str → Option Value}, P.Nodup → P[i]? = some x → vs[i]? = some v → kindOf x = some .local →
    bindL kindOf (P.zip vs) m x = some v
  | [], _, _, _, _, h, _, _ => by simp at h
  | _ :: _, [], _, _, _, _, h, _ => by simp at h
  | p :: P, w :: vs, 0, m, nd, h1, h2, hk => by
    simp at h1 h2; subst h1; subst h2
    show bindL kindOf ((p, w) :: P.zip vs) m p = _
    unfold bindL
    rw [bindL_out fun v hv => (List.nodup_cons.mp nd).1 (List.of_mem_zip hv).1, if_pos hk]
    simp
  | p :: P, w :: vs, i + 1, m, nd, h1, h2, hk => by
    show bindL kindOf ((p, w) :: P.zip vs) m x = _
    unfold bindL
    exact bindL_get (i := i) (List.nodup_cons.mp nd).2 (by simpa using h1) (by simpa using h2) hk
theorem bindC_get {kindOf : Str → Option NameKind} {x : Str} {v : Value} : ∀ {P : List Str} {vs : List Value} {i : Nat} {m : Str → Option Value}, P.Nodup → P[i]? = some x → vs[i]? = some v → kindOf x ≠ some .local →
    bindC kindOf (P.zip vs) m x = some v
  | [], _, _, _, _, h, _, _ => by simp at h
  | _ :: _, [], _, _, _, _, h, _ => by simp at h
  | p :: P, w :: vs, 0, m, nd, h1, h2, hk => by
    simp at h1 h2; subst h1; subst h2
    show bindC kindOf ((p, w) :: P.zip vs) m p = _
    unfold bindC
    rw [bindC_out fun v hv => (List.nodup_cons.mp nd).1 (List.of_mem_zip hv).1, if_neg hk]
    simp
  | p :: P, w :: vs, i + 1, m, nd, h1, h2, hk => by
    show bindC kindOf ((p, w) :: P.zip vs) m x = _
    unfold bindC
    exact bindC_get (i := i) (List.nodup_cons.mp nd).2 (by simpa using h1) (by simpa using h2) hk

/-- the names' values at the entry -/
def start (N : List Str) (vs : List V) : St := vs.map some ++ List.replicate (N.length - vs.length) none

/-- the context of a def's body, at its entry; an exception leaves the frame, then lies as CX says -/
def cxOf (CX : CXT) (P : Program) (w : World) (K : PySem.W.Frag) (mg : Str → Option Value) (base : Heap) (N : List Str) (qual : Str) (scope : Scope) (f : Addr) (cd : Value) (A : Around) (outer : List Env) (s : Shared) (H : Hp) (E : XK) : Cx where
  prog := P
  w := w
  K := K
  mg := mg
  base := base
  A := A.deeper (envOfC qual scope s.heap.objs.size f cd)
  N := N
  s₀ := s
  H₀ := H
  env := envOfC qual scope s.heap.objs.size f cd
  outer := outer
  stack := envOfC qual scope s.heap.objs.size f cd :: outer
  ex := []
  calm := true
  fn := fun _ => true
  pn := []
  xe := fun e s' => wpAny (model P w) (A.deeper (envOfC qual scope s.heap.objs.size f cd)) (leaving (envOfC qual scope s.heap.objs.size f cd) e) (fun _ s'' => CX outer H s E e s'') (fun e' s'' => CX outer H s E e' s'') s'

theorem cell_has {sc : Scope} {n : Nat} {x : Str} (h : sc.names.lookup x = some .cell) : ∃ c, (cellsFrom n sc.names []).lookup x = some c := by
  have q := PySem.W.cellsFrom_some sc.names n [] (.inl h)
  exact Option.isSome_iff_exists.mp q

theorem inv_start {CX : CXT} {P : Program} {w : World} {K : PySem.W.Frag} {mg : Str → Option Value} {base : Heap} {N ps : List Str} {qual : Str} {scope : Scope} {f : Addr} {cd : Value} {A : Around} {outer : List Env} {s s1 : Shared} {H : Hp} {E : XK} {us : List Value} {vs : List V}
    (S : FnScope N ps scope) (hd : A.handled = none) (e0 : Env0 P w K mg base A outer s H) (hl : vs.length = ps.length) (r : Vals vs us)
    (x : InCallC s s.heap.objs.size (bindL (envOfC qual scope s.heap.objs.size f cd).kindOf (ps.zip us) fun _ => none) (cellsFrom (s.heap.objs.size + 1) scope.names []) (bindC (envOfC qual scope s.heap.objs.size f cd).kindOf (ps.zip us) fun _ => none) s1) :
    Inv (cxOf CX P w K mg base N qual scope f cd A outer s H E) [] (start N vs) H s1 := by
  have hpl : ps.length ≤ N.length := by have := congrArg List.length S.pre; rw [List.length_take] at this; first | lia | omega
  obtain ⟨h1, tk, rfl, hk⟩ := x.done
  have noA : ∀ b : Addr, b ∉ (cxOf CX P w K mg base N qual scope f cd A outer s H E).ex := fun b z => absurd (show b ∈ ([] : List Addr) from z) (by simp)
  refine ⟨⟨e0.mod, S.kind, rfl, rfl, Nat.le_refl _, fun y z c h1 h2 => ?_, fun y hy => ?_, fun y c _ h => ?_, fun _ => hd, Around.frames_deeper e0.frames, .inr ⟨rfl, rfl⟩, fun b z => absurd z (noA b), e0.bs, e0.bsz, fun b _ _ => noA b, fun b z => absurd z (noA b), e0.funs, e0.frf⟩,
    rfl, e0.bare, Un.kept hk, ⟨_, x.toInCall.ns, fun i y v h1 h2 h3 => ?_⟩, fun y c h => ⟨_, x.cell y c h⟩, e0.hok.fresh (Nat.le_refl _), fun y c h => ?_, fun p hp => absurd (show p ∈ ([] : List (Addr × Obj)) from hp) (by simp), e0.hok.kept hk, ?_⟩
  · exact name_of_addr x.apart (PySem.mem_of_lookup h1) (PySem.mem_of_lookup h2)
  · have hy : scope.names.lookup y = some .cell ∨ scope.names.lookup y = some .free := hy
    rcases hy with hy | hy
    · exact cell_has hy
    · exact absurd rfl (S.nofree _ (PySem.mem_of_lookup hy))
  · exact Nat.le_of_lt (x.above y c (PySem.mem_of_lookup h))
  · have hi : i < vs.length := by
      unfold start at h2
      by_cases hi : i < vs.length
      · exact hi
      · rw [List.getElem?_append_right (by simpa using hi)] at h2
        rw [List.getElem?_replicate] at h2
        split at h2 <;> cases h2
    have ha : vs[i]? = some v := by
      unfold start at h2
      rw [List.getElem?_append_left (by simpa using hi), List.getElem?_map] at h2
      cases e : vs[i]? with
      | none => rw [e] at h2; cases h2
      | some a => rw [e] at h2; cases h2; rfl
    obtain ⟨u, hu, rv⟩ := r.get ha
    have hp : ps[i]? = some y := by
      rw [← S.pre, List.getElem?_take_of_lt (by first | lia | omega)]; exact h1
    have ndP : ps.Nodup := by rw [← S.pre]; exact S.nd.sublist (List.take_sublist _ _)
    refine ⟨u, rv, ?_⟩
    rcases S.par y (List.mem_of_getElem? hp) with k | k
    · exact .inl ⟨k, bindL_get ndP hp hu k⟩
    · obtain ⟨c, e⟩ := cell_has (n := s.heap.objs.size + 1) k
      refine .inr ⟨.inl k, c, e, ?_⟩
      have q := x.cell y c e
      rw [bindC_get ndP hp hu (by show scope.names.lookup y ≠ _; rw [k]; decide)] at q
      exact q
  · exact e0.hok.fresh (Nat.le_of_lt (x.above y c (PySem.mem_of_lookup h)))
  · unfold start
    show _ = N.length
    rw [List.length_append, List.length_map, List.length_replicate]
    first | lia | omega

/-- THE RULE: a def (or a method) of the text, by its body. The body's reading t is chosen for each entry; it is run at the parameters' values -/
theorem fn_of {CX : CXT} {P : Program} {w : World} {K : PySem.W.Frag} {mg : Str → Option Value} {base : Heap} {k : Nat} {f : Addr} {name qual : Str} {params : Arguments} {body : List Stmt} {scope : Scope} {dV kV doc pm cdv ct oc : Value} {an od : Option Addr}
    {osl : Array (Option Value)} {N ps : List Str} {sp : Sp} (lk : K.lookup f = some ⟨oc, od, .func (PySem.W.fnOf name qual params body scope dV kV doc pm an cdv ct), osl⟩) (hcd : PySem.W.codeIn K cdv qual = true) (S : FnScope N ps scope)
    (len : ∀ vs H Q E, sp vs H Q E → vs.length = ps.length)
    (hbody : ∀ (A : Around) (outer : List Env) (s : Shared) (H : Hp) (vs : List V) (Q : VK) (E : XK), Room k (A.deeper (envOfC qual scope s.heap.objs.size f cdv)) → sp vs H Q E →
      ∃ t, PSs (cxOf CX P w K mg base N qual scope f cdv A outer s H E) body t ∧ t { nx := fun _ H' => Q .non H', rt := Q } (start N vs) H) :
    FnOk P w K mg base CX (k + 1) f (PySem.W.fnOf name qual params body scope dV kV doc pm an cdv ct) ps sp := by
  refine ⟨len, fun A outer s H args us vs Q E hr e0 hb r hsp => ?_⟩
  have hl := len _ _ _ _ hsp
  have KX : K.In s.heap := e0.mod.kin.keeps fun b o e => (e0.bs b o e).1
  have lim : s.heap.NoLimit := e0.mod.nolimit.keeps fun b o e => (e0.bs b o e).1
  have hkind : ∀ y ∈ ps.zip us, scope.names.lookup y.1 = some .local ∨ (scope.names.lookup y.1 = some .cell ∧ ((cellsFrom (s.heap.objs.size + 1) scope.names []).lookup y.1).isSome = true) := fun ⟨n, v⟩ hy => by
    rcases S.par n (List.of_mem_zip hy).1 with q | q
    · exact .inl q
    · exact .inr ⟨q, PySem.W.cellsFrom_some _ _ _ (.inl q)⟩
  refine codeAny_call_function hr.depth (KX _ _ lk) rfl S.co S.gen rfl (PySem.W.codeRec_of KX hcd) (hb _ _ _ _ ?_)
  refine wpAny_newFunctionEnv_cells S.kind hkind fun env he s1 x => ?_
  subst he
  refine ⟨lim.keeps x.toInCall.keep, codeAny_func ?_⟩
  obtain ⟨t, ht, hq⟩ := hbody A outer s H vs Q E (hr.deeper _) hsp
  have I : Inv (cxOf CX P w K mg base N qual scope f cdv A outer s H E) [] (start N vs) H s1 := inv_start S hr.hd e0 hl r x
  refine wpAny_mono (ht [] s1 (start N vs) H _ I hq) (fun fl s' hs => ?_) fun e s' hs => hs
  have fin : ∀ {σ' : St} {H' : Hp} {v : V} {u : Value}, Inv (cxOf CX P w K mg base N qual scope f cdv A outer s H E) [] σ' H' s' → RelV v u → Q v H' → CE outer P w H s Q u s' :=
    fun {σ' H' v u} J rv q => ⟨v, H', J.os, J.bare, J.base, J.hok, rv, q⟩
  cases fl with
  | ret u =>
    obtain ⟨v, σ', H', J, rv, q⟩ := hs
    exact fin J rv q
  | next =>
    obtain ⟨σ', H', J, q⟩ := hs
    exact fin (v := V.non) (u := Value.none) J rfl q
  | brk =>
    obtain ⟨_, _, _, q⟩ := hs
    exact False.elim q
  | cont =>
    obtain ⟨_, _, _, q⟩ := hs
    exact False.elim q
end L2

namespace L2
open PySem PySem.Spec PyProof.Rows
section
variable {X : Cx} {x : Str} {p pos : Pos} {e : Expr} {es : List Expr} {t : TA} {id T : String} {r : List V → Hp → VK → Prop}

def tCB (r : List V → Hp → VK → Prop) (t : TA) : TE := fun σ H Q => t σ H fun vs H1 => r vs H1 Q
/-- f(e, ..), f a built-in function -/
theorem pe_callB (hc : CallR X (.builtin id) r) (hg : Gl X x) (hm : X.mg x = none) (hv : bootBuiltins x = some (.builtin id)) (ha : PA X (e :: es) t) (hn : x ≠ "__name__" := by decide) (hdb : (x == ("__debug__" : Str)) = false := by decide)
    (he : starEach (e :: es) X.env = (false, eval e X.env) :: starEach es X.env := by rfl) (hpl : (backTo pos (starEach es X.env)).any (·.1) = false := by rfl) : PE X (.Call (.Name x p) (e :: es) [] pos) (tCB r t) := by
  intro pins s σ H Q I h
  refine wpAny_Call_Name_kw (ld_blt I hg hm hv ?_ hn hdb)
  exact PyProof.Rows.callWith_builtin1 (thn (ha pos pins s σ H _ I h) fun us s1 ⟨vs, H1, I1, r1, q1⟩ => hc pins s1 σ H1 vs us Q I1 r1 q1) he hpl
/-- T(e, ..), T a built-in type -/
theorem pe_callTy (hc : CallR X (.type T) r) (hg : Gl X x) (hm : X.mg x = none) (hv : bootBuiltins x = some (.type T)) (ha : PA X (e :: es) t) (hn : x ≠ "__name__" := by decide) (hdb : (x == ("__debug__" : Str)) = false := by decide)
    (he : starEach (e :: es) X.env = (false, eval e X.env) :: starEach es X.env := by rfl) (hpl : (backTo pos (starEach es X.env)).any (·.1) = false := by rfl) : PE X (.Call (.Name x p) (e :: es) [] pos) (tCB r t) := by
  intro pins s σ H Q I h
  refine wpAny_Call_Name_kw (ld_blt I hg hm hv ?_ hn hdb)
  exact PyProof.Rows.callWith_type1 (thn (ha pos pins s σ H _ I h) fun us s1 ⟨vs, H1, I1, r1, q1⟩ => hc pins s1 σ H1 vs us Q I1 r1 q1) he hpl
end
end L2

namespace HT
open PySem PyProof.Rows

section
open PySem.SeqAt
open PySem.AutoSeq1 (wpAny_loadPart')
open PySem.MeetsSeq PySem.MeetsSeq2 PySem.MeetsSeq3

end

section
variable {prog : Program} {w : World} {A : Around} {E : Value → Shared → Prop} {s : Shared}

/-- a slice's bound as a place among n (d where it is left out) -/
def sIx (n d : Nat) : Option Int → Nat
  | none => d
  | some v => if v < 0 then (v + (n : Int)).toNat else min v.toNat n
theorem sIx_le (n d : Nat) (hd : d ≤ n) (o : Option Int) : sIx n d o ≤ n := by
  cases o with
  | none => exact hd
  | some v =>
    show (if v < 0 then (v + (n : Int)).toNat else min v.toNat n) ≤ n
    by_cases hv : v < 0
    · rw [if_pos hv]; first | lia | omega
    · rw [if_neg hv]; exact Nat.min_le_right _ _
theorem clip_eq (v : Int) (n d : Nat) : (if v < 0 then max (v + (n : Int)) 0 else min v (n : Int)) = ((sIx n d (some v) : Nat) : Int) := by
  show (if v < 0 then max (v + (n : Int)) 0 else min v (n : Int)) = (((if v < 0 then (v + (n : Int)).toNat else min v.toNat n) : Nat) : Int)
  by_cases hv : v < 0
  · simp only [if_pos hv]; first | lia | omega
  · simp only [if_neg hv]; first | lia | omega
theorem adjust_gen (lo hi : Option Int) (n : Nat) : Builtin.Slice.sliceAdjust lo hi 1 (n : Int) = (((sIx n 0 lo : Nat) : Int), ((sIx n n hi : Nat) : Int)) := by
  have h1 : ¬ ((1 : Int) < 0) := by first | lia | omega
  unfold Builtin.Slice.sliceAdjust
  simp only [h1, if_false]
  refine Prod.ext ?_ ?_
  · cases lo with
    | none => rfl
    | some v => exact clip_eq v n 0
  · cases hi with
    | none => rfl
    | some v => exact clip_eq v n n
theorem places_gen (i j : Nat) : Builtin.Slice.slicePlaces (i : Int) (j : Int) 1 = j - i := by
  unfold Builtin.Slice.slicePlaces
  have h1 : (1 : Int) > 0 := by first | lia | omega
  simp only [h1, if_true, Int.ediv_one]
  split <;> first | lia | omega
theorem slicePart_ {v : Value} {o : Option Int} {Q : Option Int → Shared → Prop} (p : IsPart v o) (h : Q o s) : wpAny (model prog w) A (Builtin.Slice.slicePartIndex v) Q E s := by
  cases p with
  | none => exact slicePart_none h
  | int i t => exact slicePart_int h
theorem sliceApplied_gen {sl : Addr} {vl vu : Value} {lo hi : Option Int} {n : Nat} {Q : Int × Int × Nat → Shared → Prop} (hs : s.heap.IsSliceOf sl vl vu .none) (pl : IsPart vl lo) (pu : IsPart vu hi)
    (h : Q (((sIx n 0 lo : Nat) : Int), 1, sIx n n hi - sIx n 0 lo) s) : wpAny (model prog w) A (Builtin.Slice.sliceApplied (.ref sl) (pure (n : Int))) Q E s := by
  obtain ⟨os, hos, hcs, hds⟩ := id hs
  unfold Builtin.Slice.sliceApplied Builtin.Slice.sliceFields
  refine wpAny_bind (wpAny_bind (wpAny_field hos hds (x := vl) rfl (wpAny_bind (wpAny_field hos hds (x := vu) rfl (wpAny_bind (wpAny_field hos hds (x := .none) rfl (wpAny_pure ?_)))))))
  refine wpAny_bind (slicePart_none ?_)
  show wpAny _ _ (if ((1 : Int) == 0) = true then _ else _) _ _ s
  rw [if_neg (by decide)]
  refine wpAny_bind (slicePart_ pl (wpAny_bind (slicePart_ pu (wpAny_bind (wpAny_pure ?_)))))
  show wpAny _ _ (match Builtin.Slice.sliceAdjust lo hi 1 (n : Int) with | (lo, hi) => pure (lo, (1 : Int), Builtin.Slice.slicePlaces lo hi 1)) _ _ s
  rw [adjust_gen lo hi n]
  show wpAny _ _ (pure (((sIx n 0 lo : Nat) : Int), (1 : Int), Builtin.Slice.slicePlaces ((sIx n 0 lo : Nat) : Int) ((sIx n n hi : Nat) : Int) 1)) _ _ s
  rw [places_gen]
  exact wpAny_pure h
theorem pick_gen (xs : Array Value) (i k : Nat) : ((List.range k).filterMap fun (m : Nat) => xs[((i : Int) + (m : Int) * 1).toNat]?).toArray = ((xs.toList.drop i).take k).toArray := by
  have e : (fun (m : Nat) => xs[((i : Int) + (m : Int) * 1).toNat]?) = fun m => xs[i + m]? := by
    funext m
    have : ((i : Int) + (m : Int) * 1).toNat = i + m := by first | lia | omega
    rw [this]
  rw [e]
  have := pick_run xs i k
  rw [List.filterMap_map] at this
  have e2 : ((fun x => xs[x]?) ∘ fun x => i + x) = fun m => xs[i + m]? := rfl
  rw [e2] at this
  rw [this]

theorem getItem_tuple_cut {t sl : Addr} {items : Array Value} {vl vu : Value} {lo hi : Option Int} {Q : Value → Shared → Prop} (ht : IsTup s.heap t items) (hs : s.heap.IsSliceOf sl vl vu .none) (pl : IsPart vl lo) (pu : IsPart vu hi)
    (hw : ¬ (sIx items.size 0 lo = 0 ∧ sIx items.size items.size hi = items.size))
    (h : Q (.ref s.heap.objs.size) { s with heap := s.heap.push { cls := .type "tuple", data := .seq ((items.toList.drop (sIx items.size 0 lo)).take (sIx items.size items.size hi - sIx items.size 0 lo)).toArray } })
    (hsz : items.size ≤ sizeLine) : wpAny (model prog w) A (getItem (.ref t) (.ref sl)) Q E s := by
  have htake : sizeOk (.seq ((items.toList.drop (sIx items.size 0 lo)).take (sIx items.size items.size hi - sIx items.size 0 lo)).toArray) := by
    show ((items.toList.drop (sIx items.size 0 lo)).take (sIx items.size items.size hi - sIx items.size 0 lo)).toArray.size ≤ sizeLine
    rw [List.size_toArray, List.length_take, List.length_drop, Array.length_toList]
    first | lia | omega
  have hj : sIx items.size items.size hi ≤ items.size := sIx_le _ _ (Nat.le_refl _) hi
  obtain ⟨os, hos, hcs, hds⟩ := id hs
  have hTs : s.TypeIs (.ref sl) "slice" := ⟨os, hos, hcs⟩
  unfold getItem
  try with_reducible refine wpAny_holding ?_
  first | refine wpAny_bind (wpAny_pure ?_) | skip
  refine wpAny_bind (wpAny_sequenceKey ht.typeIs (by decide) ?_)
  refine wpAny_bind (wpAny_callSpecial?_slot (name := Str.ofString "__getitem__") ht.typeIs PyProof.Rows.slot_tuple_getitem
    (wpAny_call_entry PyProof.Rows.slot_tuple_getitem ht.typeIs entry_tuple_getitem ?_ (args_tuple_getitem _ _)))
  show wpAny _ _ (Builtin.Tuple.tupleItemsOf (.ref t) >>= _) _ _ s
  refine wpAny_bind (tupleItemsOf_ ht ?_)
  refine wpAny_bind (wpAny_typeOf hTs ?_)
  rw [if_pos (by decide)]
  refine wpAny_bind (sliceApplied_gen hs pl pu ?_)
  have hno : ¬ ((((sIx items.size 0 lo : Nat) : Int) == 0 && (1 : Int) == 1 && (sIx items.size items.size hi - sIx items.size 0 lo) == items.size) = true) := by
    intro q
    rw [Bool.and_eq_true, Bool.and_eq_true] at q
    have q1 : ((sIx items.size 0 lo : Nat) : Int) = 0 := eq_of_beq q.1.1
    have q2 : sIx items.size items.size hi - sIx items.size 0 lo = items.size := eq_of_beq q.2
    exact hw ⟨by first | lia | omega, by first | lia | omega⟩
  show wpAny _ _ (if (((sIx items.size 0 lo : Nat) : Int) == 0 && (1 : Int) == 1 && (sIx items.size items.size hi - sIx items.size 0 lo) == items.size) = true then _ else _) _ _ s
  rw [if_neg hno, pick_gen]
  first
    | exact wpAny_bind (m := Builtin.Tuple.tupleExact _) (wpAny_newObj_type (wpAny_pure ⟨_, rfl, wpAny_pure h⟩) htake)
    | exact wpAny_bind (m := Builtin.Tuple.tupleExact _) (wpAny_newObj_type (wpAny_bind (wpAny_pure (wpAny_pure ⟨_, rfl, wpAny_pure h⟩))) htake)
    | exact wpAny_bind (wpAny_bind (m := Builtin.Tuple.tupleExact _) (wpAny_newObj_type (wpAny_pure (wpAny_pure ⟨_, rfl, wpAny_pure h⟩)) htake))
    | exact wpAny_bind (wpAny_bind (m := Builtin.Tuple.tupleExact _) (wpAny_newObj_type (wpAny_pure ⟨_, rfl, wpAny_pure h⟩) htake))
end
end HT

namespace L2
open PySem PySem.Spec PyProof.Rows

abbrev TO := St → Hp → (Option Int → Hp → Prop) → Prop
/-- a slice's part (left out, or an int) -/
def PO (X : Cx) (e : Option Expr) (t : TO) : Prop :=
  ∀ (pins : List (Addr × Obj)) (s : Shared) (σ : St) (H : Hp) (Q : Option Int → Hp → Prop), Inv X pins σ H s → t σ H Q →
    wpAny (model X.prog X.w) X.A (evalPart e X.env) (fun u s' => ∃ o H', Inv X pins σ H' s' ∧ IsPart u o ∧ Q o H') X.xe s
def tNoPart : TO := fun _ H Q => Q none H
def tPart (t : TE) : TO := fun σ H Q => t σ H fun x H1 => ∃ i, x = .int i ∧ Q (some i) H1

theorem intsAre_of {ns : List Int} : ∀ {us : List Value}, Vals (ns.map V.int) us → IntsAre us ns := by
  induction ns with
  | nil => intro us r; rw [List.map_nil] at r; cases r; exact .nil
  | cons n ns ih =>
    intro us r
    rw [List.map_cons] at r
    cases r with
    | cons r1 r2 =>
      obtain ⟨t, e⟩ := r1
      subst e
      exact .cons n t (ih r2)

section
variable {X : Cx} {e : Expr} {te : TE} {lo hi : Option Expr} {tl th : TO} {pos p2 : Pos}

theorem po_none : PO X none tNoPart := by
  intro pins s σ H Q I h
  rw [evalPart_none]
  exact wpAny_pure ⟨none, H, I, .none, h⟩
theorem po_some (h : PE X e te) : PO X (some e) (tPart te) := by
  intro pins s σ H Q I hw
  rw [evalPart_some]
  refine thn (h pins s σ H _ I hw) fun u s1 ⟨x, H1, I1, r1, q1⟩ => ?_
  obtain ⟨i, rfl, q⟩ := q1
  obtain ⟨t, rfl⟩ := r1
  exact ⟨some i, H1, I1, .int i t, q⟩

/-- what a slice of a value is, by values: the slice object stands at sl -/
def SlR (X : Cx) (r : V → Option Int → Option Int → Hp → VK → Prop) : Prop :=
  ∀ (pins : List (Addr × Obj)) (s : Shared) (σ : St) (H : Hp) (x : V) (v vl vu : Value) (lo hi : Option Int) (sl : Addr) (Q : VK), Inv X pins σ H s → RelV x v → s.heap.IsSliceOf sl vl vu .none → IsPart vl lo → IsPart vu hi → r x lo hi H Q →
    ∃ T id, typeLookup (.type T) "__getitem__" = pure (some (.builtin id)) ∧ s.TypeIs v T ∧ wpAny (model X.prog X.w) X.A (getItem v (.ref sl)) (EP X pins σ Q) X.xe s
def tSl (r : V → Option Int → Option Int → Hp → VK → Prop) (te : TE) (tl th : TO) : TE := fun σ H Q => te σ H fun x H1 => tl σ H1 fun l H2 => th σ H2 fun u H3 => r x l u H3 Q
/-- a[lo:hi], any a -/
theorem pe_slice {r : V → Option Int → Option Int → Hp → VK → Prop} (hr : SlR X r) (he : PE X e te) (hl : PO X lo tl) (hu : PO X hi th) : PE X (.Subscript e (.Slice lo hi none p2) pos) (tSl r te tl th) := by
  intro pins s σ H Q I h
  refine Subscript_ (thn (he pins s σ H _ I h) fun v s1 ⟨x, H1, I1, r1, q1⟩ => ?_)
  refine wpAny_Slice (thn (hl pins s1 σ H1 _ I1 q1) fun vl s2 ⟨l, H2, I2, pl, q2⟩ => thn (hu pins s2 σ H2 _ I2 q2) fun vu s3 ⟨u, H3, I3, pu, q3⟩ => ?_)
  rw [evalPart_none]
  refine wpAny_pure ?_
  have I4 : Inv X pins σ H3 { s3 with heap := s3.heap.push { cls := .type "slice", data := .fields #[vl, vu, .none] } } := I3.kept (t' := s3.toks) fun b ob q => Heap.get?_push_of_some _ q
  obtain ⟨T, id, hT, ht, hg⟩ := hr pins { s3 with heap := s3.heap.push { cls := .type "slice", data := .fields #[vl, vu, .none] } } σ H3 x v vl vu l u s3.heap.objs.size Q I4 r1 (Heap.IsSliceOf.new ..) pl pu q3
  show wpAny (model X.prog X.w) X.A (subscriptTail e (.Slice lo hi none p2) v (.ref s3.heap.objs.size)) (EP X pins σ Q) X.xe { s3 with heap := s3.heap.push { cls := .type "slice", data := .fields #[vl, vu, .none] } }
  exact tail_any (ops := [.ref s3.heap.objs.size, v]) ht hT hg (by with_unfolding_all rfl)

/-- the items of xs[lo:hi] -/
def cutV (xs : List V) (lo hi : Option Int) : List V := (xs.drop (HT.sIx xs.length 0 lo)).take (HT.sIx xs.length xs.length hi - HT.sIx xs.length 0 lo)
theorem cutV_length (xs : List V) (lo hi : Option Int) : (cutV xs lo hi).length ≤ xs.length := by
  unfold cutV
  rw [List.length_take, List.length_drop]
  first | lia | omega
/-- t[lo:hi], not the whole of it (the whole would be t itself) -/
def rSlT (K : PySem.W.Frag) : V → Option Int → Option Int → Hp → VK → Prop := fun x lo hi H Q => ∃ a xs, x = .ref a ∧ SqT K H a xs ∧
  ¬ (HT.sIx xs.length 0 lo = 0 ∧ HT.sIx xs.length xs.length hi = xs.length) ∧ ∀ p, H p = none → Q (.ref p) (upd H p (.tup (cutV xs lo hi)))
theorem sl_tup : SlR X (rSlT X.K) := by
  intro pins s σ H x v vl vu lo hi sl Q I rx hs pl pu h
  obtain ⟨a, xs, rfl, hx, hw, q⟩ := h
  cases rx
  obtain ⟨its, r, ht, hz⟩ := I.tuple hx
  have hlen : its.toArray.size = xs.length := by rw [List.size_toArray]; exact r.length.symm
  refine ⟨"tuple", _, PyProof.Rows.slot_tuple_getitem.lookup, ht.typeIs, ?_⟩
  refine HT.getItem_tuple_cut ht hs pl pu (by rw [hlen]; exact hw) ?_ (by rw [hlen]; exact hz)
  rw [hlen]
  refine ⟨.ref s.heap.objs.size, _, I.laid (t' := s.toks) (o := .tup (cutV xs lo hi)) (fun b ob q => Heap.get?_push_of_some _ q) (Nat.le_refl _) ?_, rfl, q _ (I.hok.fresh (Nat.le_refl _))⟩
  exact ⟨Nat.le_trans (cutV_length xs lo hi) hz, _, (r.drop (HT.sIx xs.length 0 lo)).take (HT.sIx xs.length xs.length hi - HT.sIx xs.length 0 lo), IsTup.new _ _⟩

end
end L2

namespace L2
open PySem PySem.Spec PyProof.Rows

/-- the place that an index of any sign means -/
def ixN (n : Nat) (i : Int) : Option Nat := if 0 ≤ i then (if i < n then some i.toNat else none) else if -(n : Int) ≤ i then some (i + n).toNat else none
def atI {α : Type} (xs : List α) (i : Int) : Option α := (ixN xs.length i).bind fun j => xs[j]?
theorem ixN_seq {n : Nat} {i : Int} {j : Nat} (h : ixN n i = some j) : seqIndex? i n = some j ∧ j < n ∧ -(n : Int) ≤ i ∧ i < n := by
  unfold ixN at h
  by_cases h0 : 0 ≤ i
  · rw [if_pos h0] at h
    by_cases h1 : i < n
    · rw [if_pos h1] at h
      have e : i.toNat = j := Option.some.inj h
      exact ⟨by rw [seqIndex_of h0 h1, e], by first | lia | omega, by first | lia | omega, h1⟩
    · rw [if_neg h1] at h; cases h
  · rw [if_neg h0] at h
    by_cases h1 : -(n : Int) ≤ i
    · rw [if_pos h1] at h
      have e : (i + n).toNat = j := Option.some.inj h
      exact ⟨by rw [seqIndex_neg (by first | lia | omega) h1, e], by first | lia | omega, h1, by first | lia | omega⟩
    · rw [if_neg h1] at h; cases h
theorem atI_get {α : Type} {xs : List α} {i : Int} {v : α} (h : atI xs i = some v) : ∃ j, seqIndex? i xs.length = some j ∧ xs[j]? = some v ∧ j < xs.length ∧ -(xs.length : Int) ≤ i ∧ i < xs.length := by
  unfold atI at h
  cases e : ixN xs.length i with
  | none => rw [e] at h; cases h
  | some j =>
    rw [e] at h
    obtain ⟨h1, h2, h3, h4⟩ := ixN_seq e
    exact ⟨j, h1, h, h2, h3, h4⟩
theorem atI_nat {α : Type} {xs : List α} {j : Nat} {v : α} (h : xs[j]? = some v) : atI xs (j : Int) = some v := by
  have hj : j < xs.length := (List.getElem?_eq_some_iff.mp h).1
  have e : ixN xs.length (j : Int) = some j := by
    unfold ixN
    rw [if_pos (by first | lia | omega), if_pos (by first | lia | omega)]; simp
  unfold atI; rw [e]; exact h
/-- what stands as an index of a plain subscript -/
def PlainIx (b : Expr) : Prop := ∀ o i, subscripted b false o i = operate [o, i] (getItem o i)
/-- a subscript by values -/
def IxR (X : Cx) (r : R2) : Prop :=
  ∀ (value slice : Expr) (pins : List (Addr × Obj)) (s : Shared) (σ : St) (H : Hp) (x y : V) (v u : Value) (Q : VK), Inv X pins σ H s → RelV x v → RelV y u → r x y H Q →
    subscripted slice false v u = operate [v, u] (getItem v u) → wpAny (model X.prog X.w) X.A (subscriptTail value slice v u) (EP X pins σ Q) X.xe s
/-- a call of a builtin's method by values: the receiver, the arguments -/
def MtR (X : Cx) (id : String) (r : V → List V → Hp → VK → Prop) : Prop :=
  ∀ (pins : List (Addr × Obj)) (s : Shared) (σ : St) (H : Hp) (x : V) (xs : List V) (v : Value) (us : List Value) (Q : VK), Inv X pins σ H s → RelV x v → Vals xs us → r x xs H Q →
    wpAny (model X.prog X.w) X.A (call (.builtin id) (v :: us)) (EP X pins σ Q) X.xe s
section
variable {X : Cx} {a b : Expr} {ta tb : TE} {pos : Pos}
/-- a[b] -/
theorem pe_ix {r : R2} (hr : IxR X r) (ha : PE X a ta) (hb : PE X b tb) (hs : PlainIx b) : PE X (.Subscript a b pos) (tOp r ta tb) := by
  intro pins s σ H Q I h
  exact Subscript_ (binT ha hb I h fun v u s2 x y H2 I2 rx ry q => hr a b pins s2 σ H2 x y v u Q I2 rx ry q (hs _ _))

def rIxL (K : PySem.W.Frag) : R2 := fun x y H Q => ∃ p xs i v, x = .ref p ∧ y = .int i ∧ SqL K H p xs ∧ atI xs i = some v ∧ Q v H
def rIxT (K : PySem.W.Frag) : R2 := fun x y H Q => ∃ p xs i v, x = .ref p ∧ y = .int i ∧ SqT K H p xs ∧ atI xs i = some v ∧ Q v H
theorem ix_list : IxR X (rIxL X.K) := by
  intro value slice pins s σ H x y v u Q I rx ry h hs
  obtain ⟨p, xs, i, z, rfl, rfl, hq, he, q⟩ := h
  cases rx
  obtain ⟨t, rfl⟩ := ry
  obtain ⟨its, r, pl, hz⟩ := I.list hq
  obtain ⟨j, h1, h2, h3, h4, h5⟩ := atI_get he
  obtain ⟨w, ew, rw'⟩ := r.get h2
  have hl := r.length
  have hn := line63
  have fin : EP X pins σ Q w s := ⟨z, H, I, rw', q⟩
  by_cases h0 : 0 ≤ i
  · have hj : i.toNat = j := by
      rw [seqIndex_of h0 h5] at h1
      exact Option.some.inj h1
    exact item_listR pl.isList h0 (by first | lia | omega) (by rw [hj]; simpa using ew) fin hs
  · have hj : (i + (its.toArray.size : Int)).toNat = j := by
      rw [seqIndex_neg (by first | lia | omega) h4] at h1
      rw [List.size_toArray, ← hl]
      exact Option.some.inj h1
    exact subscriptTail_builtinR (x := w) pl.isList.typeIs slot_list_getitem.lookup
      (wpAny_getItem_list_neg (Q := fun r s' => r = w ∧ EP X pins σ Q r s') pl.isList (by first | lia | omega) (by rw [List.size_toArray] <;> first | lia | omega) (by first | lia | omega) (by rw [hj]; simpa using ew) ⟨rfl, fin⟩) hs
theorem ix_tup : IxR X (rIxT X.K) := by
  intro value slice pins s σ H x y v u Q I rx ry h hs
  obtain ⟨p, xs, i, z, rfl, rfl, hq, he, q⟩ := h
  cases rx
  obtain ⟨t, rfl⟩ := ry
  obtain ⟨its, r, pl, hz⟩ := I.tuple hq
  obtain ⟨j, h1, h2, h3, h4, h5⟩ := atI_get he
  obtain ⟨w, ew, rw'⟩ := r.get h2
  have hl := r.length
  have hn := line63
  have fin : EP X pins σ Q w s := ⟨z, H, I, rw', q⟩
  exact subscriptTail_builtinR (x := w) pl.typeIs slot_tuple_getitem.lookup
    (getItem_tuple (j := j) (Q := fun r s' => r = w ∧ EP X pins σ Q r s') pl (by first | lia | omega) (by first | lia | omega) (by rw [List.size_toArray, ← hl]; exact h1) (by simpa using ew) ⟨rfl, fin⟩) hs
theorem slice_bounds (lo hi : Option Int) (n : Nat) : (sliceBounds lo hi none n).1 = ((HT.sIx n 0 lo : Nat) : Int) ∧ (sliceBounds lo hi none n).2.1 = ((HT.sIx n n hi : Nat) : Int) ∧ (sliceBounds lo hi none n).2.2 = 1 := by
  refine ⟨?_, ?_, rfl⟩
  · cases lo with
    | none => simp [sliceBounds, HT.sIx]
    | some i =>
      simp only [sliceBounds, HT.sIx, Option.getD_none, show (1 : Int) > 0 by decide, if_true]
      by_cases h : i < 0
      · simp only [h, if_true] <;> first | lia | omega
      · simp only [h, if_false] <;> first | lia | omega
  · cases hi with
    | none => simp [sliceBounds, HT.sIx]
    | some i =>
      simp only [sliceBounds, HT.sIx, Option.getD_none, show (1 : Int) > 0 by decide, if_true]
      by_cases h : i < 0
      · simp only [h, if_true] <;> first | lia | omega
      · simp only [h, if_false] <;> first | lia | omega
theorem slicePick_cut (its : List Value) (lo hi : Option Int) : slicePick its.toArray lo hi none = ((its.drop (HT.sIx its.length 0 lo)).take (HT.sIx its.length its.length hi - HT.sIx its.length 0 lo)).toArray := by
  obtain ⟨h1, h2, h3⟩ := slice_bounds lo hi its.toArray.size
  unfold slicePick
  rw [h1, h2, h3]
  simp only [sliceRange_one, pick_run, List.size_toArray] <;> rfl
/-- xs[lo:hi] of a list: a new list -/
def rSlL (K : PySem.W.Frag) : V → Option Int → Option Int → Hp → VK → Prop := fun x lo hi H Q => ∃ a xs, x = .ref a ∧ SqL K H a xs ∧ ∀ p, H p = none → Q (.ref p) (upd H p (.lst (cutV xs lo hi)))
theorem sl_list : SlR X (rSlL X.K) := by
  intro pins s σ H x v vl vu lo hi sl Q I rx hs pl pu h
  obtain ⟨a, xs, rfl, hx, q⟩ := h
  cases rx
  obtain ⟨its, r, ht, hz⟩ := I.list hx
  have hlen := r.length
  refine ⟨"list", _, slot_list_getitem.lookup, ht.isList.typeIs, ?_⟩
  refine wpAny_getItem_list_slice ht.isList hs pl pu .none (by simp) ?_ (by rw [List.size_toArray] <;> first | lia | omega)
  rw [slicePick_cut, ← hlen]
  refine ⟨.ref s.heap.objs.size, _, I.laid (t' := s.toks) (o := .lst (cutV xs lo hi)) (fun b ob q => Heap.get?_push_of_some _ q) (Nat.le_refl _) ?_, rfl, q _ (I.hok.fresh (Nat.le_refl _))⟩
  exact ⟨Nat.le_trans (cutV_length xs lo hi) hz, _, 0, (r.drop (HT.sIx xs.length 0 lo)).take (HT.sIx xs.length xs.length hi - HT.sIx xs.length 0 lo), Heap.get?_push_size _ rfl⟩

def flatV : V → Bool
  | .non => true
  | .bl _ => true
  | .int _ => true
  | .str _ => true
  | _ => false
/-- == of flat values -/
def eqV : V → V → Bool
  | .non, .non => true
  | .bl a, .bl b => a == b
  | .bl a, .int b => (if a then 1 else 0) == b
  | .int a, .bl b => a == (if b then 1 else 0)
  | .int a, .int b => a == b
  | .str a, .str b => a == b
  | _, _ => false
theorem eqAt_V {A : Around} {s : Shared} {y x : V} {u v : Value} (ry : RelV y u) (rx : RelV x v) (fy : flatV y = true) (fx : flatV x = true) : SeqAt.EqAt A s u v (eqV y x) := by
  cases y with
  | non =>
    cases ry
    cases x with
    | non => cases rx; exact SeqAt.EqAt.same _
    | bl b => cases rx; exact SeqAt.EqAt.none_bool b
    | int b => obtain ⟨t, rfl⟩ := rx; exact SeqAt.EqAt.none_int b t
    | str b => obtain ⟨t, rfl⟩ := rx; exact SeqAt.EqAt.none_str b t
    | _ => exact absurd (show false = true from fx) Bool.false_ne_true
  | bl a =>
    cases ry
    cases x with
    | non => cases rx; exact SeqAt.EqAt.bool_none a
    | bl b => cases rx; exact SeqAt.EqAt.bool_bool a b
    | int b => obtain ⟨t, rfl⟩ := rx; exact SeqAt.EqAt.bool_int a b t
    | str b => obtain ⟨t, rfl⟩ := rx; exact SeqAt.EqAt.bool_str a b t
    | _ => exact absurd (show false = true from fx) Bool.false_ne_true
  | int a =>
    obtain ⟨t', rfl⟩ := ry
    cases x with
    | non => cases rx; exact SeqAt.EqAt.int_none a t'
    | bl b => cases rx; exact SeqAt.EqAt.int_bool a t' b
    | int b => obtain ⟨t, rfl⟩ := rx; exact SeqAt.EqAt.int_int a t' b t
    | str b => obtain ⟨t, rfl⟩ := rx; exact SeqAt.EqAt.int_str a t' b t
    | _ => exact absurd (show false = true from fx) Bool.false_ne_true
  | str a =>
    obtain ⟨t', rfl⟩ := ry
    cases x with
    | non => cases rx; exact SeqAt.EqAt.str_none a t'
    | bl b => cases rx; exact SeqAt.EqAt.str_bool a t' b
    | int b => obtain ⟨t, rfl⟩ := rx; exact SeqAt.EqAt.str_int a t' b t
    | str b => obtain ⟨t, rfl⟩ := rx; exact SeqAt.EqAt.str_str a t' b t
    | _ => exact absurd (show false = true from fx) Bool.false_ne_true
  | _ => exact absurd (show false = true from fy) Bool.false_ne_true
theorem call_len_seq : CallR X (.builtin "len") (fun xs H Q => ∃ p ys, xs = [.ref p] ∧ (SqL X.K H p ys ∨ SqT X.K H p ys) ∧ Q (.int ys.length) H) := by
  intro pins s σ H xs us Q I r h
  obtain ⟨p, ys, rfl, hq, q⟩ := h
  obtain ⟨u, rfl, rx⟩ := vals1 r
  cases rx
  have hn := line63
  rcases hq with hq | hq
  · obtain ⟨its, r', pl, hz⟩ := I.list hq
    have hlen := r'.length
    exact Calls.call_len_list pl.isList (by simp only [List.size_toArray] <;> first | lia | omega) ⟨.int ys.length, H, I.tok _, ⟨s.toks + 1, by rw [List.size_toArray, hlen]⟩, q⟩
  · obtain ⟨its, r', pl, hz⟩ := I.tuple hq
    have hlen := r'.length
    exact len_tuple pl (by simp only [List.size_toArray] <;> first | lia | omega) ⟨.int ys.length, H, I.tok _, ⟨s.toks + 1, by rw [List.size_toArray, hlen]⟩, q⟩
theorem call_list_of : CallR X (.type "list") (fun xs H Q => ∃ p ys, xs = [.ref p] ∧ (SqL X.K H p ys ∨ SqT X.K H p ys) ∧ ∀ l, H l = none → Q (.ref l) (upd H l (.lst ys))) := by
  intro pins s σ H xs us Q I r h
  obtain ⟨p, ys, rfl, hq, q⟩ := h
  obtain ⟨u, rfl, rx⟩ := vals1 r
  cases rx
  have fin : ∀ (its : List Value), Vals ys its → ys.length ≤ sizeLine → ∀ (h' : Heap) (c' : Nat), (∀ b o', s.heap.get? b = some o' → h'.get? b = some o') →
      h'.get? s.heap.objs.size = some { cls := .type "list", dict := none, data := .seq its.toArray c', slots := #[] } → EP X pins σ Q (.ref s.heap.objs.size) { s with heap := h' } := fun its r' hz h' c' kp e =>
    ⟨.ref s.heap.objs.size, _, I.laid (t' := s.toks) kp (Nat.le_refl _) (show ObjOk X.prog X.w _ h' _ (.lst ys) from ⟨hz, its, c', r', e⟩), rfl, q _ (I.hok.fresh (Nat.le_refl _))⟩
  rcases hq with hq | hq
  · obtain ⟨its, r', pl, hz⟩ := I.list hq
    have hlen := r'.length
    obtain ⟨o, ho, hc, n, hd⟩ := pl.isList
    exact call_list_seq p (.inl rfl) ho hc hd (fun h' c' kp e => fin its r' hz h' c' kp e) (by simp only [List.size_toArray] <;> first | lia | omega)
  · obtain ⟨its, r', pl, hz⟩ := I.tuple hq
    have hlen := r'.length
    obtain ⟨o, ho, hc, n, hd⟩ := pl
    exact call_list_seq p (.inr rfl) ho hc hd (fun h' c' kp e => fin its r' hz h' c' kp e) (by simp only [List.size_toArray] <;> first | lia | omega)
/-- the value is of that builtin type -/
def tyV (K : PySem.W.Frag) (T : String) (x : V) (H : Hp) : Prop := match x with
  | .str _ => T = "str"
  | .int _ => T = "int"
  | .ref p => (T = "list" ∧ ∃ xs, SqL K H p xs) ∨ (T = "tuple" ∧ ∃ o, K.lookup p = some o ∧ o.cls = .type "tuple" ∧ o.dict = none) ∨
      (T = "dict" ∧ ((∃ kvs, H p = some (.dK kvs)) ∨ ∃ kvs, H p = some (.dT kvs))) ∨ (T = "set" ∧ ∃ S n, H p = some (.set S n))
  | _ => False
theorem tyV_is {pins : List (Addr × Obj)} {σ : St} {H : Hp} {s : Shared} {T : String} {x : V} {v : Value} (I : Inv X pins σ H s) (r : RelV x v) (ty : tyV X.K T x H) :
    s.TypeIs v T ∧ ∀ a, v = .ref a → ∃ ob, s.heap.get? a = some ob ∧ ob.dict = none := by
  cases x with
  | str z =>
    obtain ⟨t, rfl⟩ := r
    cases (show T = "str" from ty)
    exact ⟨typeIs_str s z t, fun _ e => nomatch e⟩
  | int i =>
    obtain ⟨t, rfl⟩ := r
    cases (show T = "int" from ty)
    exact ⟨typeIs_int s i t, fun _ e => nomatch e⟩
  | ref p =>
    cases r
    rcases ty with ⟨rfl, xs, hq⟩ | ⟨rfl, o, hk, hc, hd⟩ | ⟨rfl, hk⟩ | ⟨rfl, S, n, hk⟩
    · obtain ⟨its, _, pl, _⟩ := I.list hq
      refine ⟨pl.isList.typeIs, fun a e => ?_⟩
      cases e
      obtain ⟨o, n, e, c, hd, _⟩ := pl
      exact ⟨o, e, hd⟩
    · refine ⟨⟨o, I.kIn p o hk, hc⟩, fun a e => ?_⟩
      cases e
      exact ⟨o, I.kIn _ o hk, hd⟩
    · have z : ∃ o, s.heap.get? p = some o ∧ o.ExactDict := by
        rcases hk with ⟨kvs, hk⟩ | ⟨kvs, hk⟩
        · obtain ⟨_, _, _, _, o, _, _, e, ex, _⟩ := I.hok p _ hk
          exact ⟨o, e, ex⟩
        · obtain ⟨_, _, _, _, o, _, _, e, ex, _⟩ := I.hok p _ hk
          exact ⟨o, e, ex⟩
      obtain ⟨o, e, ex⟩ := z
      refine ⟨⟨o, e, ex.1⟩, fun a e2 => ?_⟩
      cases e2
      exact ⟨o, e, ex.2.1⟩
    · obtain ⟨o, _, _, _, e, ex, _⟩ := I.hok p _ hk
      refine ⟨⟨o, e, ex.1⟩, fun a e2 => ?_⟩
      cases e2
      exact ⟨o, e, ex.2.1⟩
  | _ => exact False.elim ty
def tBM0 (K : PySem.W.Frag) (T : String) (r : V → List V → Hp → VK → Prop) (to : TE) : TE := fun σ H Q => to σ H fun x H1 => tyV K T x H1 ∧ r x [] H1 Q
variable {o e : Expr} {es : List Expr} {to : TE} {t : TA} {name : Str} {apos cpos : Pos} {T id : String} {r : V → List V → Hp → VK → Prop}
theorem pe_bm0 (pa : PlainAttrs T) (slot : Slot T name id) (hty : typeOf (.builtin id) = pure (.type "method_descriptor")) (hm : MtR X id r) (ho : PE X o to)
    (hbase : attributeBase o name X.env (eval o X.env) = eval o X.env := by rfl) (hline : (apos.endLine == cpos.line) = true := by rfl) : PE X (.Call (.Attribute o name apos) [] [] cpos) (tBM0 X.K T r to) := by
  intro pins s σ H Q I h
  refine wpAny_Call_method0_late hbase hline (thn (ho pins s σ H _ I h) fun v s1 ⟨x, H1, I1, r1, ty, q1⟩ => ?_)
  obtain ⟨h1, h2⟩ := tyV_is I1 r1 ty
  exact ⟨T, id, pa, slot, hty, h1, h2, Calls.callWith_builtin rfl (PySem.evalArgs_none (hm pins s1 σ H1 x [] v [] Q I1 r1 .nil q1))⟩
/- xs.append(e), list.index on a module's tuple .. are MtR facts of 06m -/
end
end L2

namespace L2
open PySem PySem.Spec PyProof.Rows

def MtM (X : Cx) (id : String) (r : V → List V → Hp → VK → Prop) : Prop :=
  ∀ (pins : List (Addr × Obj)) (s : Shared) (σ : St) (H : Hp) (x : V) (xs : List V) (v : Value) (us : List Value) (Q : VK), Inv X pins σ H s → RelV x v → Vals xs us → r x xs H Q →
    wpAny (model X.prog X.w) X.A (call (.builtin id) (v :: us)) (EP X pins σ Q) X.xe s

theorem Vals.one : ∀ {x : V} {us : List Value}, Vals [x] us → ∃ u, us = [u] ∧ RelV x u
  | _, _, .cons r .nil => ⟨_, rfl, r⟩
section
variable {X : Cx} {pins : List (Addr × Obj)} {σ : St} {H : Hp} {s : Shared} {l b : Addr} {xs ys zs : List V}

theorem Inv.lset {its its' : List Value} {n : Nat} {f : Array Value → Array Value} {t' : Nat} (I : Inv X pins σ H s) (hH : H l = some (.lst xs))
    (e : s.heap.get? l = some { cls := .type "list", data := .seq its.toArray n }) (hf : f its.toArray = its'.toArray) (hv : Vals ys its') (hz : ys.length ≤ sizeLine) :
    Inv X pins σ (upd H l (.lst ys)) { s with heap := s.heap.update l (Obj.mapSeq f), toks := t' } := by
  have q := PySem.IsL.update e f
  rw [hf] at q
  refine I.write (x := l) (e := l) (by rw [hH]; exact trivial) (.inl rfl) (fun b' u hb hu => (Heap.get?_update_other s.heap (Obj.mapSeq f) (Ne.symm hb)).trans hu) ⟨_, q⟩ ?_
  exact ⟨hz, its', _, hv, q⟩
theorem Inv.lnew {its : List Value} {t' : Nat} (I : Inv X pins σ H s) (hv : Vals ys its) (hz : ys.length ≤ sizeLine) :
    Inv X pins σ (upd H s.heap.objs.size (.lst ys)) { s with heap := s.heap.push { cls := .type "list", data := .seq its.toArray }, toks := t' } :=
  I.laid (fun _ _ q => Heap.get?_push_of_some _ q) (Nat.le_refl _) ⟨hz, its, 0, hv, Heap.get?_push_size _ rfl⟩
theorem Inv.fresh (I : Inv X pins σ H s) : H s.heap.objs.size = none := I.hok.fresh (Nat.le_refl _)
theorem Inv.lstM (I : Inv X pins σ H s) (hH : H l = some (.lst xs)) : xs.length ≤ sizeLine ∧ ∃ (its : List Value) (n : Nat), Vals xs its ∧ xs.length = its.length ∧ s.heap.get? l = some { cls := .type "list", data := .seq its.toArray n } := by
  obtain ⟨z, its, n, r, e⟩ := I.hok l _ hH
  exact ⟨z, its, n, r, r.length, e⟩

end

section
variable {X : Cx}

def rAppend : V → List V → Hp → VK → Prop := fun x vs H Q => ∃ l xs y, x = .ref l ∧ vs = [y] ∧ H l = some (.lst xs) ∧ xs.length < sizeLine ∧ Q .non (upd H l (.lst (xs ++ [y])))
theorem mt_append : MtM X "list.append" rAppend := by
  intro pins s σ H x vs v us Q I rx rv h
  obtain ⟨l, xs, y, rfl, rfl, hH, hz, q⟩ := h
  cases rx
  obtain ⟨u, rfl, ru⟩ := rv.one
  obtain ⟨z, its, n, r, hl, e⟩ := I.lstM hH
  refine call_meets F.slot_list_append ⟨_, e, rfl⟩ F.entry_list_append (F.args_list_append_2 _ _) (PySem.list_append l its.toArray n u (by rw [List.size_toArray]; first | lia | omega)) ⟨e, ?_⟩
  refine ⟨.non, _, I.lset (its' := its ++ [u]) hH e (by simp) (r.append (.cons ru .nil)) ?_, rfl, q⟩
  rw [List.length_append, List.length_singleton]
  first | lia | omega

def rCat : R2 := fun x y H Q => ∃ l b xs zs, x = .ref l ∧ y = .ref b ∧ H l = some (.lst xs) ∧ H b = some (.lst zs) ∧ xs.length + zs.length ≤ sizeLine ∧ ∀ p, H p = none → Q (.ref p) (upd H p (.lst (xs ++ zs)))
theorem op_cat : OpR X (binaryOp .Add) rCat := by
  intro pins s σ H x y v u Q I rx ry h
  obtain ⟨l, b, xs, zs, rfl, rfl, hH, hB, hz, q⟩ := h
  cases rx
  cases ry
  obtain ⟨z, its, n, r, hl, e⟩ := I.lstM hH
  obtain ⟨z2, its2, n2, r2, hl2, e2⟩ := I.lstM hB
  refine PySem.P.add_list e e2 ?_ (by rw [List.size_toArray, List.size_toArray]; first | lia | omega)
  have ea : its.toArray ++ its2.toArray = (its ++ its2).toArray := by simp
  rw [ea]
  exact ⟨.ref _, _, I.lnew (t' := s.toks) (r.append r2) (by rw [List.length_append]; first | lia | omega), rfl, q _ I.fresh⟩
end

section
variable {prog : Program} {w : World} {A : Around} {E : Value → Shared → Prop} {s : Shared}
end

section
variable {X : Cx}
end
end L2

namespace Att
open PySem PySem.W PySem.Calls PyProof.Rows

theorem ints_of_wellAll {P : Params} {h : Heap} : ∀ (ns : List Int) (vs : List Value), WellAll P h vs (ns.map WData.int) → IntsAre vs ns := by
  intro ns
  induction ns with
  | nil =>
    intro vs w
    rw [List.map_nil] at w
    cases w
    exact .nil
  | cons n ns ih =>
    intro vs w
    rw [List.map_cons] at w
    cases w with
    | cons a b =>
      cases a
      exact .cons _ _ (ih _ b)

theorem script_of {l : OpenLaw} {n : Nat} (hn : l.most = some n) {P : Params} {h : Heap} {args : List WData} {vals : List Value}
    (hpre : l.row.toRowW.claim.pre args = true) (hwl : WellAll P h vals args) :
    ∃ a vs ns, vals = [Value.ref a] ∧ args = [WData.list (ns.map WData.int)] ∧ h.get? a = some { cls := .type "list", data := .seq vs.toArray } ∧ IntsAre vs ns ∧ ns.length ≤ n := by
  have hsh : WShape.hasAll [] args [.list .int] = true := (pre_splitW hpre).1
  have hc : l.pre.holds [] { args := args } = true := (pre_splitW hpre).2
  obtain ⟨d, r, rfl, h1, h2⟩ := hasAllW_cons hsh
  obtain rfl := hasAllW_nil h2
  obtain ⟨xs, rfl, h3⟩ := hasW_list h1
  obtain ⟨ns, rfl⟩ := items_int h3
  have hlen : ns.length ≤ n := by
    unfold OpenLaw.pre at hc
    have h4 : (WTm.not (.lt (.lit (.int (n : Int))) (.len (.arg 0)))).holds [] { args := [.list (ns.map .int)] } = true := by
      have h4 := (holds_andW hc).1
      rw [hn] at h4
      exact h4
    have h5 := condW_of h4 (w_not (w_lt w_lit (w_len_list (w_arg rfl))))
    rw [List.length_map] at h5
    refine Nat.le_of_not_lt fun q => ?_
    have q' : (n : Int) < ((ns.length : Nat) : Int) := by first | lia | omega
    first
      | (rw [decide_eq_true q'] at h5; exact absurd h5 (by decide))
      | (simp at h5; first | lia | omega)
  cases hwl with
  | cons w1 w2 =>
    cases w2
    cases w1 with
    | list ho hall => exact ⟨_, _, ns, rfl, rfl, ho, ints_of_wellAll ns _ hall, hlen⟩

theorem post_true (l : OpenLaw) (args : List WData) : l.row.toRowW.claim.post args (.bool true) args = true :=
  postW_of (r := l.row.toRowW) (X := (true == true))
    (show WShape.has [] (.bool true) .bool = true by first | rfl | decide | simp [WShape.has, WShape.arms, WShape.armsAll])
    (show (WTm.eq .res (.lit (.bool true))).value [] { args := args, res := some (.bool true), after := args } = some (.bool (true == true)) from w_eq_bool (w_res rfl) w_lit) rfl

/-- the same from a codeAny of the CALL (for a layer whose function contracts speak of calls) -/
theorem attach_call {l : OpenLaw} {n : Nat} {q : Program} {loose : List Str} {XP : (Str → Option Value) → Heap → Prop} {YP : World → Heap → Prop} {d : DefRec}
    (hn : l.most = some n) (hdf : d.params.defaults = [])
    (call : ∀ (w : World) (s₀ s₁ : Shared) (mg mb : Str → Option Value) (fa : Addr) (o : Obj) (pm cd doc : Value) (a : Addr) (vs : List Value) (ns : List Int),
      Ground q loose [] XP w s₀ mg mb s₁.heap → YP w s₁.heap →
      s₁.heap.get? fa = some o → o.data = .func (docDef d.name d.params d.body d.scope pm cd doc) → s₁.heap.CodeRec cd d.name → mg d.name = some (.ref fa) →
      s₁.heap.get? a = some { cls := .type "list", data := .seq vs.toArray } → IntsAre vs ns → ns.length ≤ n → s₁.gens = #[] →
      codeAny (model l.prog w) callerA (.call (.ref fa) ⟨[.ref a], []⟩) (fun r s' => r = .ok (.ret (.bool true)) ∧ OldK s₁.heap s'.heap ∧ s'.os = s₁.os ∧ AllBare s'.gens) s₁) :
    WalkO q loose XP YP l.row.toRowW d [] (fun f vs => PySem.call f vs) := by
  intro w s₀ s₁ mg mb G Y fa o pm cd doc dV kV ho hd hcd hD hmg hg args vals as hpre hlay hrd hwl hlo
  obtain rfl : dV = .none := Dflts.none hD hdf
  obtain rfl : kV = .none := Dflts.noKw hD
  obtain ⟨a, vs, ns, rfl, rfl, hobj, hints, hlen⟩ := script_of hn hpre hwl
  refine enter_call (codeAny_mono (call w s₀ s₁ mg mb fa o pm cd doc a vs ns G Y ho (fd_plain hd) hcd hmg hobj hints hlen hg) fun r s' hq => ?_)
  obtain ⟨rfl, h2, h3, h4⟩ := hq
  exact ⟨.inl ⟨.bool true, .bool true, [], rfl, fun _ => rfl, .bool true, post_true l _, fun _ => ⟨List.Pairwise.nil, fun _ hm => (nomatch hm)⟩⟩, h2, h3, h4⟩

section
variable {prog : Program} {w : World} {A : Around} {E : Value → Shared → Prop} {s : Shared} {K : Frag}

end
end Att

namespace L2
open PySem PySem.Spec PyProof.Rows

theorem vals_ints : ∀ {vs : List Value} {ns : List Int}, IntsAre vs ns → Vals (ns.map V.int) vs
  | _, _, .nil => .nil
  | _, _, .cons n t h => .cons ⟨t, rfl⟩ (vals_ints h)

/-- nothing is tracked but the script, known to the object (or it is an object of the module) -/
def Only (H : Hp) : Prop := ∀ b, H b = none ∨ ∃ o xs, H b = some (.frz o (.lst xs))

/-- THE HEAD: the law's promise, at the heap behind the top. F, the promise of the law's def, may use that base is part of the heap (so K.In base, base.Ns mainGlobals mg stand in Mod) -/
theorem law_call {P : Program} {w : World} {K : PySem.W.Frag} {mg mb : Str → Option Value} {CX : CXT} {k : Nat} {fa a : Addr} {fd : FuncData} {x : Str} {sp : Sp} {s₁ : Shared} {vs : List Value} {ns : List Int}
    (KX : K.In s₁.heap) (hns : s₁.heap.Ns mainGlobals mg) (hb : s₁.heap.Ns builtinsNs mb) (hbb : ∀ x : Str, x ≠ "__name__" → mb x = bootBuiltins x) (hlim : s₁.heap.NoLimit) (hg : s₁.gens = #[])
    (ha : s₁.heap.get? a = some { cls := .type "list", data := .seq vs.toArray }) (hi : IntsAre vs ns) (hl : ns.length ≤ sizeLine) (hr : Room k callerA)
    (F : ∀ base : Heap, K.In base → base.Ns mainGlobals mg → FnOk P w K mg base CX k fa fd [x] sp) (hbind : ∀ (s : Shared) (u : Value), BindsTo s fd ⟨[u], []⟩ [(x, u)])
    (hsp : ∀ H : Hp, Only H → SqL K H a (ns.map V.int) → sp [.ref a] H (fun v _ => v = .bl true) fun _ _ _ => False)
    (hCX : ∀ H e s', CX [] H s₁ (fun _ _ _ => False) e s' → False) :
    codeAny (model P w) callerA (.call (.ref fa) ⟨[.ref a], []⟩) (fun r s' => r = .ok (.ret (.bool true)) ∧ OldK s₁.heap s'.heap ∧ s'.os = s₁.os ∧ AllBare s'.gens) s₁ := by
  have rv := vals_ints hi
  have lenV := hi.length
  -- from an abstract heap in which nothing but the script may be tracked
  have core : ∀ H : Hp, Only H → SqL K H a (ns.map V.int) → HOk P w H s₁.heap → (∀ b, H b ≠ none → b = a) → (H a ≠ none → K.lookup a = none) →
      codeAny (model P w) callerA (.call (.ref fa) ⟨[.ref a], []⟩) (fun r s' => r = .ok (.ret (.bool true)) ∧ OldK s₁.heap s'.heap ∧ s'.os = s₁.os ∧ AllBare s'.gens) s₁ := by
    intro H hO hS hok hA hK
    have base_of : ∀ {b : Addr} {o : Obj}, s₁.heap.get? b = some o → H b = none → (hidT s₁.heap H).get? b = some o := fun e n => hidT_get e n
    have noA : ∀ {b : Addr} {o : Obj} {es : Array DictEntry} {ep : Nat}, s₁.heap.get? b = some o → o.data = .dict es ep → H b = none := fun {b o es ep} e d => by
      cases q : H b with
      | none => rfl
      | some u =>
        have e' : b = a := hA b (by rw [q]; simp)
        subst e'
        rw [ha] at e; cases e
        have d' : Data.seq vs.toArray _ = Data.dict es ep := d
        cases d'
    have nsK : ∀ {b : Addr} {m : Str → Option Value}, s₁.heap.Ns b m → (hidT s₁.heap H).Ns b m := fun {b m} ⟨o, es, ep, e, d, r⟩ => ⟨o, es, ep, base_of e (noA e d), d, r⟩
    have hKb : K.In (hidT s₁.heap H) := fun b o e => base_of (KX b o e) (by
      cases q : H b with
      | none => rfl
      | some u =>
        have e' : b = a := hA b (by rw [q]; simp)
        subst e'
        rw [hK (by rw [q]; simp)] at e; cases e)
    have hM : Mod K mg (hidT s₁.heap H) := ⟨hKb, nsK hns, ⟨mb, nsK hb, hbb⟩, let ⟨mc, h1, h2⟩ := hlim; ⟨mc, nsK h1, h2⟩⟩
    have e0 : Env0 P w K mg (hidT s₁.heap H) callerA [] s₁ H := ⟨rfl, hM, fun b o e => of_hidT e, Nat.le_of_eq (hidT_size _ _), trivial, fun b hb => absurd (show b ∈ ([] : List Addr) from hb) (by simp), hok, .of_eq hg⟩
    refine codeAny_mono ((F _ hKb (nsK hns)).run callerA [] s₁ H ⟨[.ref a], []⟩ [.ref a] [.ref a] _ _ hr e0 (hbind s₁ (.ref a)) (.cons rfl .nil) (hsp H hO hS)) fun r s' h => ?_
    cases r with
    | error e => exact (hCX H e s' h).elim
    | ok fl =>
      cases fl with
      | next => exact False.elim h
      | brk => exact False.elim h
      | cont => exact False.elim h
      | ret u =>
        obtain ⟨v, H', os, bare, un, hok', r', q⟩ := h
        have q' : v = .bl true := q
        subst q'
        obtain rfl : u = Value.bool true := r'
        refine ⟨rfl, OldK.of_keep fun b o e => ?_, os, bare⟩
        cases q : H b with
        | none => exact un.keep b o e q (by intro z; exact absurd (show b ∈ ([] : List Addr) from z) (by simp)) (by simp)
        | some u =>
          rcases hO b with z | ⟨ob, xs, z⟩
          · rw [q] at z; cases z
          · have z2 := un.frzs b ob _ z
            obtain ⟨e1, _⟩ := hok b _ z
            obtain ⟨e2, _⟩ := hok' b _ z2
            rw [e] at e1; cases e1
            exact e2
  cases hk : K.lookup a with
  | some o =>
    -- the script is one of the module's own objects
    have e := KX a o hk
    rw [ha] at e
    cases e
    refine core (fun _ => none) (fun _ => .inl rfl) (.inr ⟨_, vs.toArray, _, hk, rfl, rfl, rfl, by rw [List.size_toArray, lenV]; exact hl, by simpa using rv⟩) (fun b u z => by have z' : (none : Option HO) = some u := z; cases z') (fun b z => absurd rfl z) fun z => absurd rfl z
  | none =>
    refine core (fun b => if b = a then some (.frz { cls := .type "list", data := .seq vs.toArray } (.lst (ns.map V.int))) else none) (fun b => ?_) (.inl (.inr ⟨{ cls := .type "list", data := .seq vs.toArray }, if_pos rfl⟩)) (fun b u z => ?_) (fun b z => ?_) fun _ => hk
    · by_cases hb : b = a
      · exact .inr ⟨_, _, if_pos hb⟩
      · exact .inl (if_neg hb)
    · by_cases hb : b = a
      · have z' := (if_pos hb).symm.trans z
        cases z'
        subst hb
        exact ⟨ha, by rw [List.length_map]; exact hl, vs, _, rv, ha⟩
      · have z' := (if_neg hb).symm.trans z
        cases z'
    · by_cases hb : b = a
      · exact hb
      · exact absurd (if_neg hb) z
end L2

namespace L2
open PySem PySem.Spec PyProof.Rows

abbrev KOf {K : PySem.W.Frag} {h : Heap} (_ : K.In h) : PySem.W.Frag := K

/-- the goal that k_head leaves (case hc), from the law's promise. F gives the function object fd (K's own) once, then the promise over every base -/
theorem walk_of {l : PySem.W.OpenLaw} {n k : Nat} {q : Program} {loose : List Str} {XP : (Str → Option Value) → Heap → Prop} {YP : World → Heap → Prop} {d : DefRec} {K : Params → PySem.W.Frag} {CX : World → CXT} {sp : World → Sp} {x : Str}
    (hn : l.most = some n) (hn2 : n ≤ sizeLine) (hdf : d.params.defaults = []) (hr : Room k callerA)
    (hY : ∀ (w : World) (h : Heap), YP w h → (K w.params).In h)
    (F : ∀ (w : World) (mg : Str → Option Value) (fa : Addr) (h : Heap), (K w.params).In h → h.Ns mainGlobals mg → mg d.name = some (.ref fa) →
      ∃ fd : FuncData, (∀ (s : Shared) (u : Value), BindsTo s fd ⟨[u], []⟩ [(x, u)]) ∧
        ∀ base : Heap, (K w.params).In base → base.Ns mainGlobals mg → FnOk l.prog w (K w.params) mg base (CX w) k fa fd [x] (sp w))
    (hsp : ∀ (w : World) (H : Hp) (a : Addr) (ns : List Int), ns.length ≤ n → Only H → SqL (K w.params) H a (ns.map V.int) → sp w [.ref a] H (fun v _ => v = .bl true) fun _ _ _ => False)
    (hCX : ∀ (w : World) (H : Hp) (s : Shared) (e : Value) (s' : Shared), CX w [] H s (fun _ _ _ => False) e s' → False) :
    PySem.W.WalkO q loose XP YP l.row.toRowW d [] (fun f vs => PySem.call f vs) := by
  refine Att.attach_call hn hdf fun w s₀ s₁ mg mb fa o pm cd doc a vs ns G Y ho hd hcd hmg hobj hints hlen hg => ?_
  have KX := hY w _ Y
  obtain ⟨fd, hb, hF⟩ := F w mg fa _ KX G.T.g hmg
  exact law_call KX G.T.g G.T.b G.T.builtins G.T.nolimit hg hobj hints (Nat.le_trans hlen hn2) hr hF hb (fun H hO hS => hsp w H a ns hlen hO hS) fun H e s' => hCX w H s₁ e s'
end L2

/- THE LAST THEOREM (shape; LID, My.* are yours):
   My.Adr: a structure of the addresses that your layer names (classes, functions); My.Txt K t: a structure (Prop) of the equations over K;
   My.txt_mk : {K} {implicit addresses ..} (e1 : nsIn K mainGlobals "law" = some (some (.ref f))) (e2 : K.lookup f = some ⟨oc, od, .func (fnOf "law" "law" params body scope dV kV doc pm an cdv ct), sl⟩) (e3 : codeIn K cdv "law" = true) .. : ∃ t, My.Txt K t

set_option maxRecDepth 100000 in
set_option maxHeartbeats 0 in
theorem PySem.Challenge.cw_LID_holds : PySem.Challenge.rw_LID.Holds := by
  w_on; o_law; k_head; (case hw => w_witness2)
  k_fill
  refine L2.walk_of (l := PySem.Challenge.rw_LID) (n := 63) (k := 40) (x := "script") (CX := fun w => ..) (sp := fun _ => My.sp_law) rfl (by decide) rfl ⟨rfl, by decide, by decide⟩ (fun w h Y => PySem.W.kIn_of Y) ?F ?S ?C
  case F =>
    intro w mg fa h KX G hmg
    have T : ∃ t, My.Txt (L2.KOf KX) t := by
      dsimp only [L2.KOf]                          -- K must stand as «<heap const> w.params» for k_is
      refine' My.txt_mk ?e1 ?e2 ?e3 ..
      (case e1 => PySem.W.k_is)                    -- in the order: a name -> its address -> its object -> its parts
      (case e2 => PySem.W.k_is)
      ..
    obtain ⟨t, T⟩ := T
    have e0 := hmg.symm.trans (PySem.W.mg_of KX G T.law)
    cases e0                                       -- fa is the law's own address
    exact ⟨_, fun s u => .of_eq rfl, fun base kb nb => My.law_fn T kb nb⟩     -- if «.of_eq rfl» comes too early: refine' ⟨_, ?b, fun base kb nb => My.law_fn T kb nb⟩; exact fun s u => .of_eq rfl
  case S => exact fun w H a ns hl hO hS => ..
  case C => exact ..
(the tactic k_is has no namespace: write k_is) -/

namespace L2
open PySem PySem.Spec PyProof.Rows

def defArgs (s : Stmt) : Arguments := match s with
  | .FunctionDef _ a _ _ _ _ _ _ _ _ => a
  | _ => { posonlyargs := [], args := [], vararg := none, kwonlyargs := [], kw_defaults := [], kwarg := none, defaults := [] }
def defBody (s : Stmt) : List Stmt := match s with
  | .FunctionDef _ _ b _ _ _ _ _ _ _ => b
  | _ => []
def defScope (s : Stmt) : Scope := match s with
  | .FunctionDef _ _ _ _ _ _ sc _ _ _ => sc
  | _ => { kind := .function, names := [], isGenerator := false, isCoroutine := false }

abbrev CX0 : CXT := fun _ _ _ _ _ _ => False
abbrev E0 : XK := fun _ _ _ => False
theorem pass0 {X : Cx} : Passes CX0 X E0 := fun _ _ _ _ _ _ _ h => h.elim

structure Fun (K : PySem.W.Frag) (x qual : Str) (st : Stmt) (f : Addr) (fd : FuncData) : Prop where
  ex : ∃ (oc : Value) (od : Option Addr) (kV doc pm : Value) (an : Option Addr) (cdv ct : Value) (osl : Array (Option Value)),
    fd = PySem.W.fnOf x qual (defArgs st) (defBody st) (defScope st) .none kV doc pm an cdv ct ∧ K.lookup f = some ⟨oc, od, .func fd, osl⟩ ∧ PySem.W.codeIn K cdv qual = true
  kp : PySem.W.keepIn K (.ref f) = true
section
variable {P : Program} {w : World} {K : PySem.W.Frag} {mg : Str → Option Value} {base : Heap}
/-- THE RULE for a def: its body as a term of rules, and the reading of that term -/
theorem Fun.ok {x qual : Str} {st : Stmt} {f : Addr} {fd : FuncData} {N ps : List Str} {k : Nat} {sp : Sp} (F : Fun K x qual st f fd) (S : FnScope N ps (defScope st)) (len : ∀ vs H Q E, sp vs H Q E → vs.length = ps.length)
    (hbody : ∀ (cdv : Value) (A : Around) (outer : List Env) (s : Shared) (H : Hp) (vs : List V) (Q : VK) (E : XK), Room k (A.deeper (envOfC qual (defScope st) s.heap.objs.size f cdv)) → sp vs H Q E →
      ∃ t, PSs (cxOf CX0 P w K mg base N qual (defScope st) f cdv A outer s H E).nox (defBody st) t ∧ t { nx := fun _ H' => Q .non H', rt := Q } (start N vs) H) : FnOk P w K mg base CX0 (k + 1) f fd ps sp := by
  obtain ⟨oc, od, kV, doc, pm, an, cdv, ct, osl, rfl, lk, hcd⟩ := F.ex
  refine fn_of lk hcd S len fun A outer s H vs Q E hr hsp => ?_
  obtain ⟨t, h, q⟩ := hbody cdv A outer s H vs Q E hr hsp
  exact ⟨t, h.nox, q⟩
/-- how its arguments bind (no defaults): h is «fun _ _ _ _ _ _ us hl => match us, hl with | [_, _], _ => rfl», one _ a parameter -/
theorem Fun.binds {x qual : Str} {st : Stmt} {f : Addr} {fd : FuncData} {ps : List Str} (F : Fun K x qual st f fd)
    (h : ∀ (kV doc pm : Value) (an : Option Addr) (cdv ct : Value) (us : List Value), us.length = ps.length → bindArgs (PySem.W.fnOf x qual (defArgs st) (defBody st) (defScope st) .none kV doc pm an cdv ct) ⟨us, []⟩ = pure (ps.zip us)) : Binds K fd ps [] := by
  obtain ⟨oc, od, kV, doc, pm, an, cdv, ct, osl, rfl, lk, hcd⟩ := F.ex
  exact .all (h kV doc pm an cdv ct)
theorem fun_mk {x qual : Str} {st : Stmt} {f : Addr} {oc : Value} {od an : Option Addr} {osl : Array (Option Value)} {kV doc pm cdv ct : Value} (l : K.lookup f = some ⟨oc, od, .func (PySem.W.fnOf x qual (defArgs st) (defBody st) (defScope st) .none kV doc pm an cdv ct), osl⟩)
    (c : PySem.W.codeIn K cdv qual = true) (k : PySem.W.keepIn K (.ref f) = true) : Fun K x qual st f (PySem.W.fnOf x qual (defArgs st) (defBody st) (defScope st) .none kV doc pm an cdv ct) := ⟨⟨oc, od, kV, doc, pm, an, cdv, ct, osl, rfl, l, c⟩, k⟩
end
theorem hu_of {A : Around} {k : Nat} (hr : Room k A) : A.units + 1 < cLine := Nat.lt_of_le_of_lt (Nat.add_le_add_left (by decide : 1 ≤ 64) _) hr.units
theorem small1000 {n : Nat} (h : n ≤ 1000) : n < sizeLine := Nat.lt_of_le_of_lt h (by decide)

section
variable {X : Cx}
theorem pv (i : Nat) {x : Str} {pos : Pos} (hN : X.N[i]? = some x := by rfl) (hv : Vis X.env.scope x := by first | exact Or.inl rfl | exact Or.inr (Or.inl rfl) | exact Or.inr (Or.inr rfl)) (hd : (x == ("__debug__" : Str)) = false := by decide)
    (hcd : (x == ("__classdict__" : Str)) = false := by decide) : PE X (.Name x pos) (tVar i) := pe_var hN hv hd hcd
end

theorem iteF {A B : Prop} (h : B) : if false = true then A else B := by
  rw [if_neg Bool.false_ne_true]
  exact h
theorem iteT {A B : Prop} (h : A) : if true = true then A else B := by
  rw [if_pos rfl]
  exact h
/-- all that was tracked is as it was -/
def Same (H H' : Hp) : Prop := ∀ b o, H b = some o → H' b = some o
theorem Same.refl (H : Hp) : Same H H := fun _ _ h => h
theorem Same.trans {H H1 H2 : Hp} (a : Same H H1) (b : Same H1 H2) : Same H H2 := fun c o h => b c o (a c o h)
theorem Same.seq {K : PySem.W.Frag} {H H' : Hp} {a : Addr} {xs : List V} (e : Same H H') (h : SqL K H a xs) : SqL K H' a xs := by
  rcases h with (h | ⟨o, h⟩) | h
  · exact .inl (.inl (e _ _ h))
  · exact .inl (.inr ⟨o, e _ _ h⟩)
  · exact .inr h

end L2

set_option maxHeartbeats 4000000
namespace L2
open PySem PySem.Spec PyProof.Rows

def isCF : Option NameKind → Bool
  | some .cell => true
  | some .free => true
  | _ => false
theorem isCF_of {o : Option NameKind} (h : isCF o = true) : o = some .cell ∨ o = some .free := by
  match o, h with
  | some .cell, _ => exact .inl rfl
  | some .free, _ => exact .inr rfl

theorem closure_go (env : Env) : ∀ (l : List (Str × NameKind)) (acc : List (Str × Addr)), (∀ y ∈ l, y.2 = .free → ∃ c, env.cells.lookup y.1 = some c) →
    (∀ x c, acc.lookup x = some c → env.cells.lookup x = some c) →
    ∃ cl, (forIn l acc (fun (x : Str × NameKind) (r : List (Str × Addr)) => if (x.2 == .free) = true then (cellOf env x.1 >>= fun c => pure (ForInStep.yield ((x.1, c) :: r))) else pure (ForInStep.yield r)) : Sem (List (Str × Addr))) = pure cl ∧
      (∀ x c, cl.lookup x = some c → env.cells.lookup x = some c) ∧ (∀ x, ((∃ c, acc.lookup x = some c) ∨ (x, NameKind.free) ∈ l) → ∃ c, cl.lookup x = some c)
  | [], acc, _, ha => ⟨acc, by rfl, ha, fun x h => h.elim id fun z => nomatch z⟩
  | (n, k) :: l, acc, hl, ha => by
    have hl' : ∀ y ∈ l, y.2 = .free → ∃ c, env.cells.lookup y.1 = some c := fun y hy => hl y (List.mem_cons_of_mem _ hy)
    by_cases hk : k = .free
    · subst hk
      obtain ⟨c, hc⟩ := hl (n, .free) List.mem_cons_self rfl
      have hc' : env.cells.lookup n = some c := hc
      have look : ∀ x, ((n, c) :: acc).lookup x = if x = n then some c else acc.lookup x := fun x => by
        rw [List.lookup_cons]
        by_cases e : x = n
        · subst e; simp
        · rw [if_neg e, show (x == n) = false by simpa using e]
      have ha' : ∀ x d, ((n, c) :: acc).lookup x = some d → env.cells.lookup x = some d := fun x d e => by
        rw [look] at e
        split at e
        · rename_i q; subst q; rw [hc']; exact e
        · exact ha x d e
      obtain ⟨cl, e, h1, h2⟩ := closure_go env l ((n, c) :: acc) hl' ha'
      refine ⟨cl, ?_, h1, fun x h => h2 x ?_⟩
      · rw [← e, List.forIn_cons]
        have ec : cellOf env n = pure c := by unfold cellOf; rw [hc']
        show ((cellOf env n >>= fun c => pure (ForInStep.yield ((n, c) :: acc))) >>= _ : Sem (List (Str × Addr))) = _
        rw [ec]
        rfl
      · rcases h with ⟨d, q⟩ | h
        · left
          rw [look]
          by_cases z : x = n
          · exact ⟨c, by rw [if_pos z]⟩
          · exact ⟨d, by rw [if_neg z]; exact q⟩
        · rcases List.mem_cons.mp h with z | z
          · left
            rw [look]
            exact ⟨c, by rw [if_pos (congrArg Prod.fst z)]⟩
          · exact .inr z
    · obtain ⟨cl, e, h1, h2⟩ := closure_go env l acc hl' ha
      refine ⟨cl, ?_, h1, fun x h => h2 x ?_⟩
      · rw [← e, List.forIn_cons]
        have hb : (k == NameKind.free) = false := by simpa using hk
        show ((if (k == NameKind.free) = true then _ else pure (ForInStep.yield acc)) >>= _ : Sem (List (Str × Addr))) = _
        rw [hb]
        rfl
      · rcases h with h | h
        · exact .inl h
        · rcases List.mem_cons.mp h with z | z
          · exact absurd (congrArg Prod.snd z).symm hk
          · exact .inr z
theorem closure_of {scope : Scope} {env : Env} (h : ∀ y ∈ scope.names, y.2 = .free → ∃ c, env.cells.lookup y.1 = some c) :
    ∃ cl, closureFor scope env = pure cl ∧ (∀ x c, cl.lookup x = some c → env.cells.lookup x = some c) ∧ (∀ x, (x, NameKind.free) ∈ scope.names → ∃ c, cl.lookup x = some c) := by
  obtain ⟨cl, e, h1, h2⟩ := closure_go env scope.names [] h (fun x c e => by simp at e)
  refine ⟨cl, ?_, h1, fun x hx => h2 x (.inr hx)⟩
  have e2 : closureFor scope env = (forIn scope.names [] (fun (x : Str × NameKind) (r : List (Str × Addr)) => if (x.2 == .free) = true then (cellOf env x.1 >>= fun c => pure (ForInStep.yield ((x.1, c) :: r))) else pure (ForInStep.yield r)) >>= fun r => pure r : Sem (List (Str × Addr))) := by
    rfl
  rw [e2, e]
  rfl

/-- a comprehension's block: its context -/
abbrev compCx (X : Cx) (scope : Scope) (cl : List (Str × Addr)) (N : List Str) (C : Addr) (s : Shared) (H : Hp) (ex : List Addr) : Cx :=
  { X with N := N, s₀ := s, H₀ := H, env := compEnvC scope cl C X.env, outer := X.stack, ex := ex, fn := fun _ => false, pn := [], xe := fun _ _ => False }

/-- what is asked of the two scopes: fr tells for each name of the block the slot of the def (none: the block's own) -/
def compChk (osc : Scope) (oN : List Str) (sc : Scope) (N : List Str) (fr : List (Option Nat)) : Bool :=
  decide (sc.kind = .function) && sc.names.all (fun y => decide (y.2 ≠ .cell)) && sc.names.all (fun y => decide (y.2 ≠ .free) || isCF (osc.names.lookup y.1)) &&
  sc.names.all (fun y => decide (y.2 ≠ .local) || decide (sc.names.lookup y.1 = some .local)) &&
  (N.zip fr).all (fun y => match y.2 with
    | none => true
    | some i => decide (oN[i]? = some y.1) && isCF (osc.names.lookup y.1) && decide (sc.names.lookup y.1 = some .free)) && decide (N.length = fr.length)
structure CompChk (osc : Scope) (oN : List Str) (sc : Scope) (N : List Str) (fr : List (Option Nat)) : Prop where
  kind : sc.kind = .function
  nocell : ∀ y ∈ sc.names, y.2 ≠ .cell
  free : ∀ y ∈ sc.names, y.2 = .free → isCF (osc.names.lookup y.1) = true
  loc : ∀ y ∈ sc.names, y.2 = .local → sc.names.lookup y.1 = some .local
  slots : ∀ (j : Nat) (x : Str) (i : Nat), N[j]? = some x → fr[j]? = some (some i) → oN[i]? = some x ∧ isCF (osc.names.lookup x) = true ∧ sc.names.lookup x = some .free
  len : N.length = fr.length
theorem compChk_of {osc : Scope} {oN : List Str} {sc : Scope} {N : List Str} {fr : List (Option Nat)} (h : compChk osc oN sc N fr = true) : CompChk osc oN sc N fr := by
  unfold compChk at h
  simp only [Bool.and_eq_true, List.all_eq_true, decide_eq_true_eq, Bool.or_eq_true] at h
  obtain ⟨⟨⟨⟨⟨h1, h2⟩, h3⟩, h4⟩, h5⟩, h6⟩ := h
  refine ⟨h1, h2, fun y hy e => (h3 y hy).resolve_left fun z => z e, fun y hy e => (h4 y hy).resolve_left fun z => z e, fun j x i e1 e2 => ?_, h6⟩
  have hm : (x, some i) ∈ N.zip fr := by
    have : (N.zip fr)[j]? = some (x, some i) := by rw [List.getElem?_zip_eq_some]; exact ⟨e1, e2⟩
    exact List.mem_of_getElem? this
  have := h5 _ hm
  simp only [Bool.and_eq_true, decide_eq_true_eq] at this
  exact ⟨this.1.1, this.1.2, this.2⟩

/-- the block's slots at its entry -/
def stC (fr : List (Option Nat)) (σ : St) : St := fr.map fun o => o.bind fun i => (σ[i]?).join

/-- [elt for tg in ..] : the invariant W by the turn, a measure, the block's slots and the heap; the new list stands at acc -/
def tComp (wi : TI) (g : TG) (te : TE) (fr : List (Option Nat)) : TE := fun σ H Q => wi σ H fun J H1 => ∀ acc, H1 acc = none → ∃ W : Nat → Nat → St → Hp → Prop, (∃ m, W 0 m (stC fr σ) (upd H1 acc (.lst []))) ∧ ∀ i m σ1 H2, W i m σ1 H2 →
  (J.stop i H2 ∧ Q (.ref acc) H2) ∨ (J.go i H2 ∧ ∀ x H3, J.yld i H2 x H3 → g x σ1 H3 fun σ4 H4 => te σ4 H4 fun v H5 => ∃ xs, H5 acc = some (.lst xs) ∧ xs.length < sizeLine ∧ ∃ m', m' < m ∧ W (i + 1) m' σ4 (upd H5 acc (.lst (xs ++ [v]))))

section
variable {prog : Program} {w : World} {A : Around} {R : Result → Shared → Prop} {s : Shared}
theorem compLoop_any {elt target iter : Expr} {scope : Scope} {pos : Pos} {it acc : Value} {env : Env} (I : Nat → Shared → Prop)
    (turn : ∀ n s, I n s → wpAny (model prog w) A (pyNext it) (fun r s₁ => match r with
      | none => R (.ok .next) s₁
      | some v => wpAny (model prog w) A (letOwnedTupleGo target it v) (fun _ s₁ => wpAny (model prog w) A (assign target env v) (fun _ s₂ => wpAny (model prog w) A (eval elt env) (fun x s₃ =>
          wpAny (model prog w) A (call (.builtin "list.append") [acc, x]) (fun _ s₄ => ∃ m, m < n ∧ I m s₄) (notedBy (model prog w) A env fun e s' => R (.error e) s') s₃)
          (notedBy (model prog w) A env fun e s' => R (.error e) s') s₂) (notedBy (model prog w) A env fun e s' => R (.error e) s') s₁) (notedBy (model prog w) A env fun e s' => R (.error e) s') s₁) (notedBy (model prog w) A env fun e s' => R (.error e) s') s)
    (n : Nat) (h : I n s) :
    codeAny (model prog w) A (.compLoop (.ListComp elt [⟨target, iter, [], 0⟩] scope pos) 0 it acc env) R s := by
  refine codeAny_loop rfl I (fun n s hI => ?_) n h
  show wpAny _ _ ((compTurn (.ListComp elt [⟨target, iter, [], 0⟩] scope pos) 0 it acc env).onRaise (fun x => do noteFrame x env; theTreesLotGoes x)) _ _ s
  refine wpAny_noted ?_
  rw [compTurn_list1]
  refine wpAny_bind (wpAny_standAt (wpAny_bind (wpAny_mono (turn n s hI) (fun r s₁ h₁ => ?_) fun _ _ h' => h')))
  cases r with
  | none => exact wpAny_pure h₁
  | some v =>
    refine wpAny_bind (wpAny_mono h₁ (fun _ s₁ h₁ => ?_) fun _ _ h' => h')
    exact wpAny_bind (wpAny_mono h₁ (fun _ s₂ h₂ => wpAny_bind (wpAny_bind (wpAny_mono h₂ (fun x s₃ h₃ => wpAny_bind (wpAny_mono h₃
      (fun _ s₄ h₄ => wpAny_pure (wpAny_pure ⟨rfl, h₄⟩)) fun _ _ h' => h')) fun _ _ h' => h'))) fun _ _ h' => h')
end

theorem wpFalse {α : Type} {M : Model} {A : Around} {t : Sem α} {Q : α → Shared → Prop} {E : Value → Shared → Prop} {s : Shared} (h : wpAny M A t Q (fun _ _ => False) s) : wpAny M A t Q E s :=
  wpAny_mono h (fun _ _ q => q) fun _ _ z => z.elim

theorem relabel_CF {scope : Scope} {env : Env} (hc : ∀ y ∈ scope.names, y.2 ≠ .cell) {x : Str} (h : (relabel scope env).names.lookup x = some .cell ∨ (relabel scope env).names.lookup x = some .free) : (x, NameKind.free) ∈ scope.names := by
  have key : ∀ (l : List (Str × NameKind)), (∀ y ∈ l, y.2 ≠ .cell) → ((l.map fun (n, k) => if (k == NameKind.free && env.scope.kind == .function && env.kindOf n == some .cell) then (n, NameKind.cell) else (n, k)).lookup x = some .cell ∨
      (l.map fun (n, k) => if (k == NameKind.free && env.scope.kind == .function && env.kindOf n == some .cell) then (n, NameKind.cell) else (n, k)).lookup x = some .free) → (x, NameKind.free) ∈ l := by
    intro l
    induction l with
    | nil => intro _ h; simp at h
    | cons y r ih =>
      obtain ⟨n, k⟩ := y
      intro hc h
      have hr : ∀ y ∈ r, y.2 ≠ .cell := fun y hy => hc y (List.mem_cons_of_mem _ hy)
      have hk : k ≠ .cell := hc (n, k) List.mem_cons_self
      rw [List.map_cons] at h
      by_cases hxn : x = n
      · subst hxn
        have hkf : k = .free := by
          by_cases hb : (k == NameKind.free && env.scope.kind == .function && env.kindOf x == some .cell) = true
          · simp only [Bool.and_eq_true, beq_iff_eq] at hb
            exact hb.1.1
          · simp only [hb, if_neg, Bool.false_eq_true, if_false] at h
            simp only [List.lookup_cons, beq_self_eq_true] at h
            rcases h with h | h
            · exact absurd (Option.some.inj h) hk
            · exact Option.some.inj h
        rw [hkf]
        exact List.mem_cons_self
      · have hb : (x == n) = false := by simpa using hxn
        refine List.mem_cons_of_mem _ (ih hr ?_)
        by_cases hq : (k == NameKind.free && env.scope.kind == .function && env.kindOf n == some .cell) = true
        · simp only [hq, if_true, List.lookup_cons, hb] at h
          exact h
        · simp only [hq, Bool.false_eq_true, if_false, List.lookup_cons, hb] at h
          exact h
  exact key scope.names hc h
theorem relabel_free {env : Env} {x : Str} : ∀ {l : List (Str × NameKind)}, l.lookup x = some .free →
    ((l.map fun (n, k) => if (k == NameKind.free && env.scope.kind == .function && env.kindOf n == some .cell) then (n, NameKind.cell) else (n, k)).lookup x = some .cell ∨
     (l.map fun (n, k) => if (k == NameKind.free && env.scope.kind == .function && env.kindOf n == some .cell) then (n, NameKind.cell) else (n, k)).lookup x = some .free)
  | [], h => by simp at h
  | (n, k) :: r, h => by
    rw [List.map_cons]
    by_cases hxn : x = n
    · subst hxn
      simp only [List.lookup_cons, beq_self_eq_true] at h
      have hk := Option.some.inj h
      subst hk
      by_cases hq : (NameKind.free == NameKind.free && env.scope.kind == .function && env.kindOf x == some .cell) = true
      · left
        show List.lookup x ((if (NameKind.free == NameKind.free && env.scope.kind == .function && env.kindOf x == some .cell) = true then (x, NameKind.cell) else (x, NameKind.free)) :: _) = _
        rw [if_pos hq, List.lookup_cons, beq_self_eq_true]
      · right
        show List.lookup x ((if (NameKind.free == NameKind.free && env.scope.kind == .function && env.kindOf x == some .cell) = true then (x, NameKind.cell) else (x, NameKind.free)) :: _) = _
        rw [if_neg hq, List.lookup_cons, beq_self_eq_true]
    · have hb : (x == n) = false := by simpa using hxn
      simp only [List.lookup_cons, hb] at h
      have ih := relabel_free (env := env) h
      by_cases hq : (k == NameKind.free && env.scope.kind == .function && env.kindOf n == some .cell) = true
      · simp only [hq, if_true, List.lookup_cons, hb]; exact ih
      · simp only [hq, Bool.false_eq_true, if_false, List.lookup_cons, hb]; exact ih

theorem mem_look {x : Str} {k : NameKind} : ∀ {l : List (Str × NameKind)}, l.lookup x = some k → (x, k) ∈ l
  | [], h => by simp at h
  | (n, j) :: r, h => by
    by_cases e : x = n
    · subst e
      simp only [List.lookup_cons, beq_self_eq_true] at h
      rw [← Option.some.inj h]
      exact List.mem_cons_self
    · have hb : (x == n) = false := by simpa using e
      simp only [List.lookup_cons, hb] at h
      exact List.mem_cons_of_mem _ (mem_look h)
section
variable {X : Cx} {elt tg iter : Expr} {scope : Scope} {pos : Pos} {wi : TI} {g : TG} {te : TE} {N : List Str} {fr : List (Option Nat)}
/-- the block: its state at the entry -/
theorem comp_entry {pins : List (Addr × Obj)} {σ : St} {H : Hp} {s s1 : Shared} {cl : List (Str × Addr)} {ex : List Addr} {C : Addr} {m : Str → Option Value} (I : Inv X pins σ H s) (ck : CompChk X.env.scope X.N scope N fr)
    (c1 : ∀ x c, cl.lookup x = some c → X.env.cells.lookup x = some c) (c2 : ∀ x, (x, NameKind.free) ∈ scope.names → ∃ c, cl.lookup x = some c) (hex : ∀ b ∈ ex, FpOk X pins H b ∧ b < s.heap.objs.size) (hC : s.heap.objs.size ≤ C)
    (hn : s1.heap.Ns C m) (k : ∀ b o, s.heap.get? b = some o → s1.heap.get? b = some o) (ho : s1.os = s.os) (hg : s1.gens = s.gens) :
    Inv (compCx X scope cl N C s H ex) [] (stC fr σ) H s1 := by
  have lt_ne : ∀ {b : Addr} {o : Obj}, s.heap.get? b = some o → b ≠ C := fun e => Nat.ne_of_lt (Nat.lt_of_lt_of_le (Heap.lt_size e) hC)
  have ok : (compCx X scope cl N C s H ex).Ok :=
    { mod := I.ok.mod
      kind := ck.kind
      glob := I.ok.glob
      blt := I.ok.blt
      above := hC
      inj := fun x y c e1 e2 => I.ok.inj x y c (c1 x c e1) (c1 y c e2)
      has := fun x h => c2 x (relabel_CF ck.nocell h)
      cab := fun x c z => by cases z
      hd := I.ok.hd
      frames := I.ok.frames
      stk := .inl rfl
      exf := fun b hb => ⟨Nat.ne_of_lt (Nat.lt_of_lt_of_le (hex b hb).2 hC), fun x c e => (hex b hb).1.2.2.2.2.1 x c (c1 x c e)⟩
      bs := I.bs
      bsz := Nat.le_trans I.ok.bsz I.sz
      noex := fun b o e hb => by
        rcases (hex b hb).1.2.2.2.1 with z | z
        · exact I.ok.noex b o e z
        · exact absurd (Nat.lt_of_lt_of_le (Heap.lt_size e) (Nat.le_trans I.ok.bsz z)) (Nat.lt_irrefl _)
      exfs := fun b hb hz => by
        rcases List.mem_cons.mp (I.stkSub b hz) with z | z
        · exact (hex b hb).1.2.1 z
        · exact (hex b hb).1.2.2.1 z
      funs := I.stack
      frf := I.stkFree }
  refine ⟨ok, ho, by rw [hg]; exact I.bare, Un.kept k, ⟨m, hn, fun j x v e1 e2 e3 => ?_⟩, fun x c e => ?_, I.hok.fresh hC, fun x c e => I.freeC x c (c1 x c e), fun p hp => by simp at hp, I.hok.kept k, ?_⟩
  · have e1' : N[j]? = some x := e1
    unfold stC at e2
    rw [List.getElem?_map] at e2
    cases q : fr[j]? with
    | none => rw [q] at e2; cases e2
    | some o =>
      rw [q] at e2
      cases o with
      | none =>
        have : (none : Option V) = some v := Option.some.inj e2
        cases this
      | some i =>
        have e2' : (σ[i]?).join = some v := Option.some.inj e2
        obtain ⟨s1', s2', s3'⟩ := ck.slots j x i e1' q
        have hσ : σ[i]? = some (some v) := by
          cases z : σ[i]? with
          | none => rw [z] at e2'; cases e2'
          | some y => rw [z] at e2'; exact congrArg some e2'
        have hcf := isCF_of s2'
        obtain ⟨m0, hn0, hl⟩ := I.loc
        obtain ⟨u, r, lk⟩ := hl i x v s1' hσ (Or.inr hcf)
        refine ⟨u, r, Or.inr ⟨relabel_free s3', ?_⟩⟩
        obtain ⟨c, hc⟩ := c2 x (mem_look s3')
        refine ⟨c, hc, ?_⟩
        rcases lk with ⟨z, _⟩ | ⟨_, c', hc', hv⟩
        · rcases hcf with y | y
          · have z' : X.env.scope.names.lookup x = some .local := z
            rw [y] at z'; cases z'
          · have z' : X.env.scope.names.lookup x = some .local := z
            rw [y] at z'; cases z'
        · have := c1 x c hc
          rw [hc'] at this
          cases this
          exact hv.keeps k
  · obtain ⟨v, z⟩ := I.cell x c (c1 x c e)
    exact ⟨v, z.keeps k⟩
  · unfold stC
    rw [List.length_map]
    exact ck.len.symm

theorem comp_core {pins : List (Addr × Obj)} {σ : St} {H : Hp} {s : Shared} {Q : VK} {cl : List (Str × Addr)} {R : Value → Addr → Result → Shared → Prop} (hc : X.calm = true) (I : Inv X pins σ H s) (hi : PI X tg iter wi)
    (hg : ∀ cl C s H ex, PG (compCx X scope cl N C s H ex) tg g) (he : ∀ cl C s H ex, PE (compCx X scope cl N C s H ex) elt te) (ck : CompChk X.env.scope X.N scope N fr)
    (c1 : ∀ x c, cl.lookup x = some c → X.env.cells.lookup x = some c) (c2 : ∀ x, (x, NameKind.free) ∈ scope.names → ∃ c, cl.lookup x = some c)
    (h : tComp wi g te fr σ H Q)
    (hR : ∀ acc C s' H' m, s'.heap.Ns C m → FpOk X pins H' C → Inv X pins σ H' s' → Q (.ref acc) H' → R (.ref acc) C (.ok .next) s') :
    wpAny (model X.prog X.w) X.A (eval iter X.env) (fun x s₁ => wpAny (model X.prog X.w) X.A (pyIter x) (fun it s₂ => wpAny (model X.prog X.w) X.A (newList []) (fun acc s₃ =>
      wpAny (model X.prog X.w) X.A (newFunctionEnv scope X.env.globals cl [] X.env.qual none .none (some X.env)) (fun cenv s₄ =>
        codeAny (model X.prog X.w) X.A (.compStart (.ListComp elt [⟨tg, iter, [], 0⟩] scope pos) 0 it acc { cenv with scope := relabel scope X.env }) (R acc cenv.locals) s₄) X.xe s₃) X.xe s₂) X.xe s₁) X.xe s := by
  refine thn (hi pins s σ H _ I h) fun v s1 h1 => thn h1 fun itv s2 h2 => ?_
  obtain ⟨it, fp, tn, J, H2, e, I2, T, st2, f2, q2⟩ := h2
  subst e
  refine wpAny_newObj_type (wpAny_newFunctionEnv ck.nocell (by intro y hy; simp at hy) (fun h₁ hns₁ hsb₁ => ?_) ck.kind)
  dsimp only at hns₁ hsb₁ ⊢
  have I3 : Inv X pins σ (upd H2 s2.heap.objs.size (.lst [])) { s2 with heap := s2.heap.push { cls := .type "list", dict := none, data := .seq ([] : List Value).toArray } } := I2.lnew (t' := s2.toks) (its := []) .nil (Nat.zero_le _)
  have acc0 : H2 s2.heap.objs.size = none := I2.fresh
  obtain ⟨W, ⟨m0, w0⟩, turn⟩ := q2 s2.heap.objs.size acc0
  generalize hH3 : s2.heap.push { cls := .type "list", dict := none, data := .seq ([] : List Value).toArray } = h3 at hns₁ hsb₁ I3 ⊢
  have hz3 : h3.objs.size = s2.heap.objs.size + 1 := by rw [← hH3, Heap.size_push]
  have k23 : ∀ b o, s2.heap.get? b = some o → h3.get? b = some o := fun b o e => by rw [← hH3]; exact Heap.get?_push_of_some _ e
  have k34 : ∀ b o, h3.get? b = some o → h₁.get? b = some o := fun b o e => hsb₁.extBut b o (Nat.ne_of_lt (Heap.lt_size e)) (Heap.get?_push_of_some _ e)
  have fpo : ∀ b ∈ fp, ∃ o, s2.heap.get? b = some o ∧ ∀ v, o.data ≠ .cell v := T.obj 0 _ st2
  have hex : ∀ b ∈ fp, FpOk X pins (upd H2 s2.heap.objs.size (.lst [])) b ∧ b < h3.objs.size := fun b hb => by
    obtain ⟨o, eo, _⟩ := fpo b hb
    have lt := Heap.lt_size eo
    obtain ⟨f0, fr'⟩ := f2 b hb
    exact ⟨⟨by rw [upd_ne (Nat.ne_of_lt lt)]; exact f0, fr'⟩, by rw [hz3]; exact Nat.lt_succ_of_lt lt⟩
  have I4 : Inv (compCx X scope cl N h3.objs.size { s2 with heap := h3 } (upd H2 s2.heap.objs.size (.lst [])) fp) [] (stC fr σ) (upd H2 s2.heap.objs.size (.lst [])) { s2 with heap := h₁, toks := s2.toks + ([] : List (Str × Value)).length } :=
    comp_entry I3 ck c1 c2 hex (Nat.le_refl _) hns₁ k34 rfl rfl
  have stat : ∀ {H' : Hp}, (∀ b ∈ fp, H' b = none) → ∀ b ∈ fp, FpOk (compCx X scope cl N h3.objs.size { s2 with heap := h3 } (upd H2 s2.heap.objs.size (.lst [])) fp) [] H' b := fun hn b hb =>
    ⟨hn b hb, (I4.ok.exf b hb).1, I4.ok.exfs b hb, .inl hb, (I4.ok.exf b hb).2, fun p hp => by simp at hp⟩
  have stn : ∀ i h h', tn i h → (∀ b o, h.get? b = some o → h'.get? b = some o) → tn i h' := fun i h h' st kk => T.keep i h h' st fun b _ o e => kk b o e
  have loop : codeAny (model X.prog X.w) X.A (.compLoop (.ListComp elt [⟨tg, iter, [], 0⟩] scope pos) 0 (.ref it) (.ref s2.heap.objs.size) (compEnvC scope cl h3.objs.size X.env)) (R (.ref s2.heap.objs.size) h3.objs.size)
      { s2 with heap := h₁, toks := s2.toks + ([] : List (Str × Value)).length } := by
    refine compLoop_any (fun n s' => ∃ i σ' H', Inv (compCx X scope cl N h3.objs.size { s2 with heap := h3 } (upd H2 s2.heap.objs.size (.lst [])) fp) [] σ' H' s' ∧ tn i s'.heap ∧ (∀ b ∈ fp, H' b = none) ∧ W i n σ' H') ?_ m0
      ⟨0, _, _, I4, stn _ _ _ st2 fun b o e => k34 b o (k23 b o e), fun b hb => (hex b hb).1.1, w0⟩
    rintro n s3 ⟨i, σ3, H3, J3, st3, fr3, w3⟩
    rcases turn i n σ3 H3 w3 with ⟨stop, qn⟩ | ⟨go, step⟩
    · refine wpFalse (thn (T.done (compCx X scope cl N h3.objs.size { s2 with heap := h3 } (upd H2 s2.heap.objs.size (.lst [])) fp) rfl rfl rfl hc i [] s3 σ3 H3 (fun _ _ => False) J3 (stat fr3) st3 stop) fun r s4 ⟨hr, J4⟩ => ?_)
      subst hr
      obtain ⟨mc, hmc, _⟩ := J4.loc
      have I5 : Inv X pins σ H3 s4 := I3.call' (ch := fp) J4.os J4.base J4.hok J4.bare fun b hb => ⟨(hex b hb).1.2.2.2.1, (hex b hb).1.2.1, (hex b hb).1.2.2.2.2.1, (hex b hb).1.2.2.2.2.2⟩
      exact hR _ _ s4 H3 mc hmc (I3.fpOk (Nat.le_refl _) J4.free) I5 qn
    · refine wpFalse (thn (T.item (compCx X scope cl N h3.objs.size { s2 with heap := h3 } (upd H2 s2.heap.objs.size (.lst [])) fp) rfl rfl rfl hc i [] s3 σ3 H3 (fun _ _ => False) J3 (stat fr3) st3 go) fun r s4 ⟨u, hr, h4⟩ => ?_)
      subst hr
      refine wpFalse (thn h4 fun _ s5 ⟨x, H5, J5, r5, y5, st5, fr5⟩ => ?_)
      have J5' := J5.pinned (stat fr5) (T.obj _ _ st5)
      refine wpFalse (thn (hg _ _ _ _ _ _ s5 σ3 H5 x u _ J5' r5 (step x H5 y5)) fun _ s6 ⟨σ6, H6, J6, q6⟩ => ?_)
      refine wpFalse (thn (he _ _ _ _ _ _ s6 σ6 H6 _ J6 q6) fun y s7 ⟨v7, H7, J7, r7, xs, hx, hz, m', hm', w7⟩ => ?_)
      refine wpFalse (thn (mt_append _ s7 σ6 H7 (.ref s2.heap.objs.size) [v7] (.ref s2.heap.objs.size) [y] (fun v H8 => H8 = upd H7 s2.heap.objs.size (.lst (xs ++ [v7]))) J7 rfl (.cons r7 .nil) ⟨_, xs, v7, rfl, rfl, hx, hz, rfl⟩) fun _ s8 ⟨_, H8, J8, _, e8⟩ => ?_)
      subst e8
      refine ⟨m', hm', i + 1, σ6, _, J8.unpinned, T.keep _ _ _ st5 fun b hb o e => (J8.pin (b, o) (List.mem_append_right _ (List.mem_append_right _ (mem_pinsAt hb e)))).1, fun b hb => ?_, w7⟩
      obtain ⟨o, e, d⟩ := T.obj _ _ st5 b hb
      exact (J8.pin (b, o) (List.mem_append_right _ (List.mem_append_right _ (mem_pinsAt hb e)))).2.1
  exact codeAny_compStart_list loop (T.self _ 0 _ _ _ (stn _ _ _ st2 fun b o e => k34 b o (k23 b o e)) loop)

theorem comp_cl (I : X.Ok) (ck : CompChk X.env.scope X.N scope N fr) : ∃ cl, closureFor scope X.env = pure cl ∧ (∀ x c, cl.lookup x = some c → X.env.cells.lookup x = some c) ∧ (∀ x, (x, NameKind.free) ∈ scope.names → ∃ c, cl.lookup x = some c) :=
  closure_of fun y hy e => I.has y.1 (isCF_of (ck.free y hy e))

theorem pe_comp (hc : X.calm = true) (hi : PI X tg iter wi) (hg : ∀ cl C s H ex, PG (compCx X scope cl N C s H ex) tg g) (he : ∀ cl C s H ex, PE (compCx X scope cl N C s H ex) elt te)
    (hk : compChk X.env.scope X.N scope N fr = true := by rfl) (hs : ∀ x, foldedSetIterable iter X.env x = pure x := by intro _; rfl) : PE X (.ListComp elt [⟨tg, iter, [], 0⟩] scope pos) (tComp wi g te fr) := by
  intro pins s σ H Q I h
  have ck := compChk_of hk
  obtain ⟨cl, e1, c1, c2⟩ := comp_cl I.ok ck
  rw [eval_ListComp]
  refine wpAny_comprehension_free (use := none) (Q := EP X pins σ Q) rfl hs e1 ck.kind ck.loc (comp_core (R := fun acc C => compPost (model X.prog X.w) X.A X.xe none (EP X pins σ Q) acc C) hc I hi hg he ck c1 c2 h fun acc C s' H' m hn f I' q => ?_)
  obtain ⟨f0, f1, f2, f3, f4, f5⟩ := f
  exact ⟨m, hn, fun h' hs' => ⟨.ref acc, H', I'.turned (t' := s'.toks) (fun b o hb e => hs'.extBut b o hb e) f0 f1 f3 f4 f5, rfl, q⟩⟩

/-- name = [..]: the name is stored ahead of the block's end -/
theorem ps_setComp {y : Str} {py spos : Pos} {gy : TG} (hc : X.calm = true) (hy : PG X (.Name y py) gy) (hi : PI X tg iter wi) (hg : ∀ cl C s H ex, PG (compCx X scope cl N C s H ex) tg g) (he : ∀ cl C s H ex, PE (compCx X scope cl N C s H ex) elt te)
    (hk : compChk X.env.scope X.N scope N fr = true := by rfl) (hsw : swapsWith (.ListComp elt [⟨tg, iter, [], 0⟩] scope pos) (some (.Name y py)) spos.line X.env = pure true := by rfl) (hs : ∀ x, foldedSetIterable iter X.env x = pure x := by intro _; rfl) :
    PS X (.Assign [.Name y py] (.ListComp elt [⟨tg, iter, [], 0⟩] scope pos) spos) (tAsg (tComp wi g te fr) gy) := by
  intro pins s σ H D I h
  have ck := compChk_of hk
  obtain ⟨cl, e1, c1, c2⟩ := comp_cl I.ok ck
  rw [exec_Assign_Name_used _ _ _ _ hsw]
  refine wpAny_bind (wpAny_standAt (wpAny_bind ?_))
  show wpAny _ X.A (do let _ ← comprehension (.ListComp elt [⟨tg, iter, [], 0⟩] scope pos) scope X.env _ (newList []) false (eval iter X.env) (some (assign (.Name y py) X.env))) _ _ s
  refine wpAny_bind (wpAny_mono (wpAny_comprehension_free (use := some (assign (.Name y py) X.env)) (Q := fun _ s' => SP X pins D .next s') rfl hs e1 ck.kind ck.loc
    (comp_core (R := fun acc C => compPost (model X.prog X.w) X.A X.xe (some (assign (.Name y py) X.env)) (fun _ s' => SP X pins D .next s') acc C) hc I hi hg he ck c1 c2 h fun acc C s' H' m hn f I' q => ?_)) (fun _ s' hq => wpAny_pure (wpAny_pure hq)) fun _ _ e => e)
  show wpAny _ X.A (assign (.Name y py) X.env (.ref acc)) _ _ _
  obtain ⟨oC, es, ep, hoC, hdC, hrC⟩ := id hn
  have IP := I'.pinned (fp := [C]) (fun b hb => by rw [List.mem_singleton.mp hb]; exact f) (fun b hb => by rw [List.mem_singleton.mp hb]; exact ⟨oC, hoC, fun v z => by rw [hdC] at z; cases z⟩)
  refine thn (hy _ s' σ H' (.ref acc) (.ref acc) _ IP rfl q) fun _ s'' ⟨σ6, H6, I6, q6⟩ => ?_
  have pC := I6.pin (C, oC) (List.mem_append_right _ (List.mem_append_right _ (mem_pinsAt (List.mem_singleton.mpr rfl) hoC)))
  obtain ⟨f0, f1, f2, f3, f4, f5⟩ := f
  exact ⟨m, ⟨oC, es, ep, pC.1, hdC, hrC⟩, fun h' hs' => ⟨σ6, H6, I6.unpinned.turned (t' := s''.toks) (fun b o hb e => hs'.extBut b o hb e) pC.2.1 f1 f3 f4 f5, q6⟩⟩
end
end L2
namespace L2
open PySem PySem.Spec PyProof.Rows
section
variable {X : Cx}
def CDivL (_ j : Int) : Prop := 0 < j ∧ j.natAbs.log2 < 9000
theorem op_fdivL : OpR X (binaryOp .FloorDiv) (rI CDivL fun i j => .int (i / j)) := opI fun i j _ _ _ _ _ hc q => by
  have h1 : (0 : Int) < j := hc.1
  exact floordiv_int (by first | lia | omega) (by rw [Int.fdiv_eq_ediv_of_nonneg i (by first | lia | omega)]; exact q) (.inl (PyProof.noPylong_of_log2 hc.2))
theorem op_mulL : OpR X (binaryOp .Mult) (rI IntMulOk fun i j => .int (i * j)) := opI fun _ _ _ _ _ _ _ hc q => mul_int q hc
theorem log2_lt_of {n k : Nat} (hk : 0 < k) (h : n < 2 ^ k) : n.log2 < k := by
  rcases Nat.eq_zero_or_pos n with h0 | hp
  · rw [h0]; simpa using hk
  · exact (Nat.log2_lt (Nat.ne_of_gt hp)).mpr h
theorem intBits_le {z : Int} {k : Nat} (hk : 0 < k) (h : z.natAbs < 2 ^ k) : Builtin.Int.intBits z ≤ k := by
  unfold Builtin.Int.intBits
  split
  · exact Nat.zero_le _
  · exact log2_lt_of hk h
theorem mulOk_of {a b : Int} (h1 : a.natAbs < 2 ^ 128) (h2 : b.natAbs < 2 ^ 128) : IntMulOk a b := by
  have e1 := intBits_le (by decide) h1
  have e2 := intBits_le (by decide) h2
  unfold IntMulOk Builtin.Int.intTooBig
  intro h
  simp only [Bool.and_eq_true, decide_eq_true_eq] at h
  have h3 := h.2
  have hb : (256 : Int) ≤ (bitsLine : Int) := by decide +kernel
  first | lia | omega

def tyO : Option HO → Option String
  | some (.lst _) => some "list"
  | some (.frz _ (.lst _)) => some "list"
  | some (.tup _) => some "tuple"
  | some (.dK _) => some "dict"
  | some (.dT _) => some "dict"
  | _ => none
def tyS (H : Hp) : V → Option String
  | .non => some "NoneType"
  | .bl _ => some "bool"
  | .int _ => some "int"
  | .str _ => some "str"
  | .ref a => tyO (H a)
  | _ => none
theorem tyS_of {K : PySem.W.Frag} {H : Hp} {x : V} {T : String} (h : tyS H x = some T) : TyOf K H x (.type T) ∧ (T = "NoneType" ∨ T = "bool" ∨ T = "int" ∨ T = "str" ∨ T = "list" ∨ T = "tuple" ∨ T = "dict") := by
  unfold tyS at h
  split at h
  · cases h; exact ⟨.non, by simp⟩
  · cases h; exact ⟨.bl _, by simp⟩
  · cases h; exact ⟨.int _, by simp⟩
  · cases h; exact ⟨.str _, by simp⟩
  · unfold tyO at h
    split at h
    · rename_i e; cases h; exact ⟨.lst e, by simp⟩
    · rename_i e; cases h; exact ⟨.frz e, by simp⟩
    · rename_i e; cases h; exact ⟨.tup e, by simp⟩
    · rename_i e; cases h; exact ⟨.dK e, by simp⟩
    · rename_i e; cases h; exact ⟨.dT e, by simp⟩
    · cases h
  · cases h
def isB (T c : String) : Bool := decide (T = c) || (decide (T = "bool") && decide (c = "int"))
theorem kit_isB {K : PySem.W.Frag} {T c : String} (h : T = "NoneType" ∨ T = "bool" ∨ T = "int" ∨ T = "str" ∨ T = "list" ∨ T = "tuple" ∨ T = "dict") (hc : c = "int" ∨ c = "bool" ∨ c = "tuple" ∨ c = "list" ∨ c = "str") :
    PySem.W.kitOne K (.type T) (.type c) = some (isB T c) := by
  rcases h with rfl | rfl | rfl | rfl | rfl | rfl | rfl <;> rcases hc with rfl | rfl | rfl | rfl | rfl <;> rfl
theorem call_isin : CallR X (.builtin "isinstance") (fun xs H Q => ∃ x T c, xs = [x, .ty c] ∧ tyS H x = some T ∧ (c = "int" ∨ c = "bool" ∨ c = "tuple" ∨ c = "list" ∨ c = "str") ∧ Q (.bl (isB T c)) H) := by
  intro pins s σ H xs us Q I r h
  obtain ⟨x, T, c, rfl, hT, hc, q⟩ := h
  obtain ⟨u, w', rfl, rx, ry⟩ := vals2 r
  cases (show w' = Value.type c from ry)
  obtain ⟨ty, hl⟩ := tyS_of (K := X.K) hT
  exact isinst_ok I rx ty (kit_isB hl hc) fun tk => ⟨.bl (isB T c), H, I.tok tk, rfl, q⟩

end

section
variable {X : Cx}
end
end L2
namespace L2
open PySem PySem.Spec PyProof.Rows
structure DefOk (P : Program) (w : World) (K : PySem.W.Frag) (mg : Str → Option Value) (base : Heap) (k : Nat) (x : Str) (ps : List Str) (sp : Sp) : Prop where
  ex : ∃ (f : Addr) (fd : FuncData), FnOk P w K mg base CX0 k f fd ps sp ∧ mg x = some (.ref f) ∧ PySem.W.keepIn K (.ref f) = true ∧ Binds K fd ps []
section
variable {X : Cx} {k j : Nat} {x : Str} {ps : List Str} {sp : Sp} {p pos : Pos} {e : Expr} {es : List Expr} {t : TA}
theorem pe_fn (D : DefOk X.prog X.w X.K X.mg X.base k x ps sp) (hr : Room j X.A) (ha : PA X (e :: es) t) (hj : k ≤ j := by decide) (hg : Gl X x := by rfl) (hdb : (x == ("__debug__" : Str)) = false := by decide)
    (he : starEach (e :: es) X.env = (false, eval e X.env) :: starEach es X.env := by rfl) (hpl : (backTo pos (starEach es X.env)).any (·.1) = false := by rfl) : PE X (.Call (.Name x p) (e :: es) [] pos) (tCall sp [] E0 t) := by
  obtain ⟨f, fd, F, hm, hk, hb⟩ := D.ex
  exact pe_call F (hr.mono hj) hg hm hk hb .nil pass0 ha hdb he hpl
end
theorem lenOk {xs : List V} (n : Nat) (h : xs.length = n := by rfl) (h2 : n ≤ 1000 := by decide) : xs.length ≤ sizeLine := by rw [h]; exact Nat.le_of_lt (small1000 h2)
theorem iteN {c : Bool} {A B : Prop} (h : c = false) (b : B) : if c = true then A else B := by rw [if_neg (by rw [h]; exact Bool.false_ne_true)]; exact b
theorem ite3 {c : Bool} {A B : Prop} (h1 : c = true → A) (h2 : c = false → B) : if c = true then A else B := by
  cases c with
  | true => exact iteT (h1 rfl)
  | false => exact iteF (h2 rfl)
/-- all but p is as it was -/
def SameX (p : Addr) (H H' : Hp) : Prop := ∀ b o, b ≠ p → H b = some o → H' b = some o
theorem SameX.refl {p : Addr} {H : Hp} : SameX p H H := fun _ _ _ h => h
theorem Same.new {l : Addr} {H : Hp} {o : HO} (h : H l = none) : Same H (L2.upd H l o) := fun b u e => by rw [upd_ne (ne_of_none e h)]; exact e
theorem SameX.same {p : Addr} {H H0 H' : Hp} (a : SameX p H H') (s : Same H0 H) (h : H0 p = none) : Same H0 H' := fun b o e => a b o (ne_of_none e h) (s b o e)
/-- the invariant of a comprehension of n turns: at turn i the new list holds xs, i of them -/
def cW (acc : Addr) (n : Nat) (Pv : Nat → List V → St → Hp → Prop) (i m : Nat) (σ : St) (H : Hp) : Prop := i ≤ n ∧ m = n - i ∧ ∃ xs, xs.length = i ∧ H acc = some (.lst xs) ∧ Pv i xs σ H
/-- what is wanted behind the element of turn i -/
def cNx (acc : Addr) (n : Nat) (Pv : Nat → List V → St → Hp → Prop) (i : Nat) (σ : St) (v : V) (H : Hp) : Prop := ∃ xs, H acc = some (.lst xs) ∧ xs.length < sizeLine ∧ ∃ m', m' < n - i ∧ cW acc n Pv (i + 1) m' σ (upd H acc (.lst (xs ++ [v])))
theorem cNx.mk {acc : Addr} {n : Nat} {Pv : Nat → List V → St → Hp → Prop} {i : Nat} {σ : St} {v : V} {H : Hp} {xs : List V} (hn : n ≤ sizeLine) (hi : i < n) (hl : xs.length = i) (ha : H acc = some (.lst xs)) (hp : Pv (i + 1) (xs ++ [v]) σ (upd H acc (.lst (xs ++ [v])))) :
    cNx acc n Pv i σ v H := ⟨xs, ha, by first | lia | omega, n - (i + 1), by first | lia | omega, hi, rfl, xs ++ [v], by rw [List.length_append, hl]; rfl, upd_same, hp⟩
theorem comp_range {lo : Int} {n : Nat} {g : TG} {te : TE} {σ : St} {H1 : Hp} {acc : Addr} {Qr : Hp → Prop} (Pv : Nat → List V → St → Hp → Prop) (h0 : Pv 0 [] σ (upd H1 acc (.lst [])))
    (hs : ∀ i xs σ H, i < n → xs.length = i → H acc = some (.lst xs) → Pv i xs σ H → g (.int (lo + i)) σ H fun σ2 H2 => te σ2 H2 fun v H3 => cNx acc n Pv i σ2 v H3)
    (hd : ∀ xs σ H, xs.length = n → H acc = some (.lst xs) → Pv n xs σ H → Qr H) :
    ∃ W : Nat → Nat → St → Hp → Prop, (∃ m, W 0 m σ (upd H1 acc (.lst []))) ∧ ∀ i m σ1 H2, W i m σ1 H2 →
      ((Itr lo n).stop i H2 ∧ Qr H2) ∨ ((Itr lo n).go i H2 ∧ ∀ x H3, (Itr lo n).yld i H2 x H3 → g x σ1 H3 fun σ4 H4 => te σ4 H4 fun v H5 => ∃ xs, H5 acc = some (.lst xs) ∧ xs.length < sizeLine ∧ ∃ m', m' < m ∧ W (i + 1) m' σ4 (upd H5 acc (.lst (xs ++ [v])))) := by
  refine ⟨cW acc n Pv, ⟨n, Nat.zero_le _, rfl, [], rfl, upd_same, h0⟩, ?_⟩
  rintro i m σ1 H2 ⟨hi, rfl, xs, hl, ha, hp⟩
  rcases Nat.lt_or_ge i n with h | h
  · refine .inr ⟨h, ?_⟩
    rintro x H3 ⟨rfl, rfl⟩
    exact hs i xs σ1 H3 h hl ha hp
  · have e : i = n := Nat.le_antisymm hi h
    subst e
    exact .inl ⟨Nat.le_refl _, hd xs σ1 H2 hl ha hp⟩
theorem comp_list {K : PySem.W.Frag} {a : Addr} {ys : List V} {g : TG} {te : TE} {σ : St} {H1 : Hp} {acc : Addr} {Qr : Hp → Prop} (Pv : Nat → List V → St → Hp → Prop) (h0 : Pv 0 [] σ (upd H1 acc (.lst [])))
    (hq : ∀ i xs σ H, i ≤ ys.length → H acc = some (.lst xs) → Pv i xs σ H → SqL K H a ys)
    (hs : ∀ i x xs σ H, ys[i]? = some x → i < ys.length → xs.length = i → H acc = some (.lst xs) → Pv i xs σ H → g x σ H fun σ2 H2 => te σ2 H2 fun v H3 => cNx acc ys.length Pv i σ2 v H3)
    (hd : ∀ xs σ H, xs.length = ys.length → H acc = some (.lst xs) → Pv ys.length xs σ H → Qr H) :
    ∃ W : Nat → Nat → St → Hp → Prop, (∃ m, W 0 m σ (upd H1 acc (.lst []))) ∧ ∀ i m σ1 H2, W i m σ1 H2 →
      ((Itl K a).stop i H2 ∧ Qr H2) ∨ ((Itl K a).go i H2 ∧ ∀ x H3, (Itl K a).yld i H2 x H3 → g x σ1 H3 fun σ4 H4 => te σ4 H4 fun v H5 => ∃ xs, H5 acc = some (.lst xs) ∧ xs.length < sizeLine ∧ ∃ m', m' < m ∧ W (i + 1) m' σ4 (upd H5 acc (.lst (xs ++ [v])))) := by
  refine ⟨cW acc ys.length Pv, ⟨ys.length, Nat.zero_le _, rfl, [], rfl, upd_same, h0⟩, ?_⟩
  rintro i m σ1 H2 ⟨hi, rfl, xs, hl, ha, hp⟩
  have hsq := hq i xs σ1 H2 hi ha hp
  rcases Nat.lt_or_ge i ys.length with h | h
  · refine .inr ⟨⟨ys, ys[i], hsq, List.getElem?_eq_getElem h⟩, ?_⟩
    rintro x H3 ⟨rfl, hx⟩
    exact hs i x xs σ1 H3 (hx ys hsq) h hl ha hp
  · have e : i = ys.length := Nat.le_antisymm hi h
    subst e
    exact .inl ⟨⟨ys, hsq, Nat.le_refl _⟩, hd xs σ1 H2 hl ha hp⟩
end L2
namespace L2
open PySem PySem.Spec PyProof.Rows
section
variable {prog : Program} {w : World} {A : Around} {E : Value → Shared → Prop} {h : Heap} {g : Array GenState} {d : Drawn} {t : Nat} {os : OsState}
  {nm qn : Str} {C N : Addr} {bs bm bmB : List Value} {hdct : Bool} {sn : List Str} {sub : List Value} {ab : Bool} {col : Option Bool} {dd : Option Addr} {k0 k1 k2 k3 k5 : Option Value} {B newId initId : String}
end
end L2
namespace L2
open PySem PySem.Spec PyProof.Rows PySem.W PySem.Builtin PySem.Builtin.ObjectAttr
section
variable {prog : Program} {w : World} {A : Around} {E : Value → Shared → Prop} {R : Result → Shared → Prop} {s : Shared} {K : Frag} {x C : Addr} {ox : Obj} {od : Option Obj} {name : Str} {tk : Tok} {v : Value}
end
end L2
namespace L2
open PySem PySem.Spec PyProof.Rows PySem.W
section
variable {cmp : Nat → Nat → (Bool → Shared → Prop) → Shared → Prop} {key : Nat → Int} {N : Nat} {s : Shared}
variable (hcmp : ∀ i j (C : Bool → Shared → Prop), i < N → j < N → C (decide (key i < key j)) s → cmp i j C s)
include hcmp
end
end L2
namespace L2
open PySem PySem.Spec PyProof.Rows PySem.W
section
variable {prog : Program} {w : World} {A : Around} {E : Value → Shared → Prop} {s : Shared}
end
section
variable {X : Cx}
end
end L2
namespace L2
open PySem PySem.Spec PyProof.Rows

section
variable {κ : Type} [DecidableEq κ]
def valV (kvs : List (κ × V)) (k : κ) : Option V := (kvs.find? fun kv => decide (kv.1 = k)).map (·.2)
/-- in its place, or at the end -/
def putK (kvs : List (κ × V)) (k : κ) (v : V) : List (κ × V) :=
  if (kvs.any fun kv => decide (kv.1 = k)) = true then kvs.map (fun kv => if kv.1 = k then (kv.1, v) else kv) else kvs ++ [(k, v)]
theorem valV_pos {p : κ × V} {r : List (κ × V)} {k : κ} (e : p.1 = k) : valV (p :: r) k = some p.2 := by simp [valV, List.find?_cons, e]
theorem valV_neg {p : κ × V} {r : List (κ × V)} {k : κ} (e : ¬ p.1 = k) : valV (p :: r) k = valV r k := by simp [valV, List.find?_cons, e]
theorem valV_any (k : κ) : ∀ kvs : List (κ × V), (kvs.any fun kv => decide (kv.1 = k)) = (valV kvs k).isSome
  | [] => rfl
  | p :: r => by
    rw [List.any_cons]
    by_cases e : p.1 = k
    · simp only [valV_pos e, decide_eq_true e, Bool.true_or, Option.isSome_some]
    · rw [valV_neg e, decide_eq_false e, Bool.false_or]; exact valV_any k r
theorem length_putK (kvs : List (κ × V)) (k : κ) (v : V) : (putK kvs k v).length ≤ kvs.length + 1 := by
  unfold putK
  split
  · rw [List.length_map]; first | lia | omega
  · rw [List.length_append, List.length_cons, List.length_nil]; first | lia | omega
theorem RelO.isSome_eq {o : Option V} {u : Option Value} (r : RelO o u) : o.isSome = u.isSome := by
  cases o with
  | none => cases u with
    | none => rfl
    | some _ => exact (show False from r).elim
  | some _ => cases u with
    | none => exact (show False from r).elim
    | some _ => rfl
/-- raw tables of the same keys -/
theorem KV.val {kvs : List (κ × V)} {vs : List (κ × Value)} (r : KV kvs vs) (k : κ) : RelO (valV kvs k) (valueAt vs k) := by
  unfold KV at r
  induction r with
  | nil => exact True.intro
  | @cons p q ps qs h t ih =>
    obtain ⟨h1, h2⟩ := h
    by_cases e : p.1 = k
    · have e' : q.1 = k := h1.symm.trans e
      have b : valueAt (q :: qs) k = some q.2 := by simp [valueAt, List.find?_cons, e']
      rw [valV_pos e, b]; exact h2
    · have e' : ¬ q.1 = k := fun z => e (h1.trans z)
      have b : valueAt (q :: qs) k = valueAt qs k := by simp [valueAt, List.find?_cons, e']
      rw [valV_neg e, b]; exact ih
theorem KV.any {kvs : List (κ × V)} {vs : List (κ × Value)} (r : KV kvs vs) (k : κ) : (kvs.any fun kv => decide (kv.1 = k)) = vs.any fun kv => decide (kv.1 = k) := by
  unfold KV at r
  induction r with
  | nil => rfl
  | cons h t ih => rw [List.any_cons, List.any_cons, ih, h.1]
theorem KV.repl {kvs : List (κ × V)} {vs : List (κ × Value)} (r : KV kvs vs) (k : κ) {y : V} {u : Value} (ry : RelV y u) :
    KV (kvs.map fun kv => if kv.1 = k then (kv.1, y) else kv) (vs.map fun kv => if kv.1 = k then (kv.1, u) else kv) := by
  unfold KV at r ⊢
  induction r with
  | nil => exact .nil
  | @cons p q ps qs h t ih =>
    rw [List.map_cons, List.map_cons]
    refine .cons ?_ ih
    obtain ⟨h1, h2⟩ := h
    by_cases e : p.1 = k
    · rw [if_pos e, if_pos (h1.symm.trans e)]; exact ⟨h1, ry⟩
    · rw [if_neg e, if_neg (fun z => e (h1.trans z))]; exact ⟨h1, h2⟩
theorem KV.put {kvs : List (κ × V)} {vs : List (κ × Value)} (r : KV kvs vs) (k : κ) {y : V} {u : Value} (ry : RelV y u) : KV (putK kvs k y) (stored vs k u) := by
  unfold putK stored
  rw [r.any k]
  by_cases e : (vs.any fun kv => decide (kv.1 = k)) = true
  · rw [if_pos e, if_pos e]; exact r.repl k ry
  · rw [if_neg e, if_neg e]; exact Paired.snoc r ⟨rfl, ry⟩
theorem KV.length {kvs : List (κ × V)} {vs : List (κ × Value)} (r : KV kvs vs) : kvs.length = vs.length := Paired.length r
end


theorem kV_is {P : Program} {w : World} {k : Key} {u : Value} (r : RelV (kV k) u) : (mixKind P w).is k u = true := by
  cases k with
  | inl i => obtain ⟨t, e⟩ := (show ∃ t, u = Value.int i t from r); subst e; exact mixKind_int P w i t
  | inr x => obtain ⟨t, e⟩ := (show ∃ t, u = Value.str x t from r); subst e; exact mixKind_str P w x t
theorem items_are {P : Program} {w : World} : ∀ {ks : List Key} {us : List Value}, Vals (ks.map kV) us → ItemsAre (mixKind P w) ks us
  | [], _, r => by rw [List.map_nil] at r; cases r; exact .nil
  | k :: ks, _, r => by
    rw [List.map_cons] at r
    cases r with
    | cons h t => exact .cons (kV_is h) (items_are t)

/-- raw entries of a dict with tuple keys -/
abbrev KT (H : Hp) : List (List Key × V) → List (List Key × Addr × Value) → Prop := Paired fun p q => p.1 = q.1 ∧ H q.2.1 = some (.tup (p.1.map kV)) ∧ RelV p.2 q.2.2
theorem KT.val {H : Hp} {kvs : List (List Key × V)} {xs : List (List Key × Addr × Value)} (r : KT H kvs xs) (k : List Key) : RelO (valV kvs k) ((atKey xs k).map (·.2)) := by
  induction r with
  | nil => exact True.intro
  | @cons p q ps qs h t ih =>
    obtain ⟨h1, _, h2⟩ := h
    by_cases e : p.1 = k
    · have e' : q.1 = k := h1.symm.trans e
      have b : atKey (q :: qs) k = some q.2 := by simp [atKey, List.find?_cons, e']
      rw [valV_pos e, b]; exact h2
    · have e' : ¬ q.1 = k := fun z => e (h1.trans z)
      have b : atKey (q :: qs) k = atKey qs k := by simp [atKey, List.find?_cons, e']
      rw [valV_neg e, b]; exact ih
theorem KT.repl {H : Hp} {kvs : List (List Key × V)} {xs : List (List Key × Addr × Value)} (r : KT H kvs xs) (k : List Key) {y : V} {u : Value} (ry : RelV y u) :
    KT H (kvs.map fun kv => if kv.1 = k then (kv.1, y) else kv) (xs.map (putAt k u)) := by
  induction r with
  | nil => exact .nil
  | @cons p q ps qs h t ih =>
    rw [List.map_cons, List.map_cons]
    refine .cons ?_ ih
    obtain ⟨h1, h2, h3⟩ := h
    unfold putAt
    by_cases e : p.1 = k
    · rw [if_pos e, if_pos (h1.symm.trans e)]; exact ⟨h1, h2, ry⟩
    · rw [if_neg e, if_neg (fun z => e (h1.trans z))]; exact ⟨h1, h2, h3⟩
theorem KT.put {H : Hp} {kvs : List (List Key × V)} {xs : List (List Key × Addr × Value)} (r : KT H kvs xs) (k : List Key) {b : Addr} {y : V} {u : Value} (hb : H b = some (.tup (k.map kV))) (ry : RelV y u) :
    KT H (putK kvs k y) (storedH xs k b u) := by
  have e : (kvs.any fun kv => decide (kv.1 = k)) = (atKey xs k).isSome := by
    rw [valV_any, (r.val k).isSome_eq, Option.isSome_map]
  unfold putK storedH
  rw [e]
  by_cases q : (atKey xs k).isSome = true
  · rw [if_pos q, if_pos q]; exact r.repl k ry
  · rw [if_neg q, if_neg q]; exact Paired.snoc r ⟨rfl, hb, ry⟩
theorem KT.keeps {H H' : Hp} {kvs : List (List Key × V)} {xs : List (List Key × Addr × Value)} (r : KT H kvs xs) (ht : ∀ b ys, H b = some (.tup ys) → H' b = some (.tup ys)) : KT H' kvs xs :=
  Paired.mapP r fun _ _ z => ⟨z.1, ht _ _ z.2.1, z.2.2⟩

section
variable {P : Program} {w : World} {H : Hp} {h : Heap} {a : Addr}
theorem rd_of {u : HO} (ok : HOk P w H h) (e : Rd H a u) : ObjOk P w H h a u := e.ok ok
theorem dk_rd {kvs : List (Key × V)} (ok : HOk P w H h) (e : Rd H a (.dK kvs)) : kvs.length ≤ sizeLine ∧ (a == sysModules) = false ∧ ∃ vs, KV kvs vs ∧ h.DictOf (mixKind P w) a vs :=
  show ObjOk P w H h a (.dK kvs) from rd_of ok e
theorem dk_of {kvs : List (Key × V)} (ok : HOk P w H h) (e : H a = some (.dK kvs)) : kvs.length ≤ sizeLine ∧ (a == sysModules) = false ∧ ∃ vs, KV kvs vs ∧ h.DictOf (mixKind P w) a vs := dk_rd ok (.inl e)
/-- a tracked tuple of ints and texts is a key -/
theorem key_of {ks : List Key} (ok : HOk P w H h) (e : H a = some (.tup (ks.map kV))) : (tupleKind (mixKind P w)).is h ks a := by
  obtain ⟨_, its, r, o, h1, h2, n, h3⟩ := (show ObjOk P w H h a (.tup (ks.map kV)) from ok a _ e)
  exact ⟨o, its.toArray, n, h1, h2, h3, by simpa using items_are r⟩
theorem dt_rd {kvs : List (List Key × V)} (ok : HOk P w H h) (e : Rd H a (.dT kvs)) : kvs.length ≤ sizeLine ∧ (a == sysModules) = false ∧
    ∃ xs, KT H kvs xs ∧ h.DictOfH (tupleKind (mixKind P w)) a xs := by
  obtain ⟨z, y, xs, r, o, es, ep, h1, h2, h3, h4, h5⟩ := (show ObjOk P w H h a (.dT kvs) from rd_of ok e)
  refine ⟨z, y, xs, r, o, es, ep, h1, h2, h3, h4, fun x hx => ?_, h5⟩
  have all : ∀ {l : List (List Key × V)} {m : List (List Key × Addr × Value)}, KT H l m → ∀ x ∈ m, (tupleKind (mixKind P w)).is h x.1 x.2.1 := by
    intro l m q
    induction q with
    | nil => intro x hx; exact nomatch hx
    | @cons p q ps qs hq t ih =>
      intro x hx
      rcases List.mem_cons.mp hx with e | hx
      · subst e
        exact key_of ok (by rw [← hq.1]; exact hq.2.1)
      · exact ih x hx
  exact all r x hx
theorem dt_of {kvs : List (List Key × V)} (ok : HOk P w H h) (e : H a = some (.dT kvs)) : kvs.length ≤ sizeLine ∧ (a == sysModules) = false ∧
    ∃ xs, KT H kvs xs ∧ h.DictOfH (tupleKind (mixKind P w)) a xs := dt_rd ok (.inl e)
end

/-- what the dict at a holds at the key y -/
def DGet (H : Hp) (a : Addr) (y : V) (r : Option V) : Prop :=
  (∃ kvs k, Rd H a (.dK kvs) ∧ y = kV k ∧ r = valV kvs k) ∨ ∃ kvs k b, Rd H a (.dT kvs) ∧ y = .ref b ∧ H b = some (.tup (k.map kV)) ∧ r = valV kvs k
/-- the heap behind a[y] = v -/
def DPut (H : Hp) (a : Addr) (y v : V) (H' : Hp) : Prop :=
  (∃ kvs k, H a = some (.dK kvs) ∧ y = kV k ∧ kvs.length < sizeLine ∧ H' = upd H a (.dK (putK kvs k v))) ∨
  ∃ kvs k b, H a = some (.dT kvs) ∧ y = .ref b ∧ H b = some (.tup (k.map kV)) ∧ kvs.length < sizeLine ∧ H' = upd H a (.dT (putK kvs k v))
theorem DGet.t {H : Hp} {a b : Addr} {kvs : List (List Key × V)} {k : List Key} (e : H a = some (.dT kvs)) (eb : H b = some (.tup (k.map kV))) : DGet H a (.ref b) (valV kvs k) := .inr ⟨kvs, k, b, .inl e, rfl, eb, rfl⟩
theorem DPut.t {H : Hp} {a b : Addr} {kvs : List (List Key × V)} {k : List Key} {v : V} (e : H a = some (.dT kvs)) (eb : H b = some (.tup (k.map kV))) (hl : kvs.length < sizeLine) :
    DPut H a (.ref b) v (upd H a (.dT (putK kvs k v))) := .inr ⟨kvs, k, b, e, rfl, eb, hl, rfl⟩


section
variable {X : Cx} {pins : List (Addr × Obj)} {σ : St} {H : Hp} {s : Shared} {a : Addr} {y v : V} {u r : Value} {o : Option V} {A : Around} {E : Value → Shared → Prop}

theorem Inv.big (I : Inv X pins σ H s) : sysModules < s.heap.objs.size := by
  have h : mainGlobals < s.heap.objs.size := (I.mod.glob.keeps I.bk).lt
  exact Nat.lt_trans (by decide) h

/-- d[y], there -/
theorem d_getItem {Q : Value → Shared → Prop} (hu : A.units + 1 < cLine) (I : Inv X pins σ H s) (g : DGet H a y (some v)) (ry : RelV y u) (h : ∀ w' s', Inv X pins σ H s' → RelV v w' → Q w' s') :
    wpAny (model X.prog X.w) A (getItem (.ref a) u) Q E s := by
  rcases g with ⟨kvs, k, e, ey, l⟩ | ⟨kvs, k, b, e, ey, eb, l⟩
  · subst ey
    obtain ⟨z, hd, vs, rel, dd⟩ := dk_rd I.hok e
    obtain ⟨w', hw, rw'⟩ := RelO.some_of (v := v) (o := valueAt vs k) (by rw [l]; exact rel.val k)
    exact wpAny_getItem_of (kV_is ry) dd.mapOf hw (h w' _ (I.tok _) rw')
  · subst ey
    cases (show u = Value.ref b from ry)
    obtain ⟨z, hd, xs, rel, dd⟩ := dt_rd I.hok e
    obtain ⟨w', hw, rw'⟩ := RelO.some_of (v := v) (o := (atKey xs k).map (·.2)) (by rw [l]; exact rel.val k)
    obtain ⟨p, hp, hp2⟩ := Option.map_eq_some_iff.mp hw
    refine wpAny_getItem_heap (tupleKind_room_in1 hu) (key_of I.hok eb) dd hp ?_
    rw [hp2]
    exact h w' _ (I.tok _) rw'
theorem d_notIn {Q : Value → Shared → Prop} (hu : A.units + 1 < cLine) (I : Inv X pins σ H s) (g : DGet H a y o) (ry : RelV y u) (h : ∀ s', Inv X pins σ H s' → Q (.bool (!o.isSome)) s') :
    wpAny (model X.prog X.w) A (compareOp .NotIn u (.ref a)) Q E s := by
  rcases g with ⟨kvs, k, e, ey, l⟩ | ⟨kvs, k, b, e, ey, eb, l⟩
  · subst ey
    obtain ⟨z, hd, vs, rel, dd⟩ := dk_rd I.hok e
    refine wpAny_notIn_of (kV_is ry) hd dd.mapOf ?_
    rw [← (rel.val k).isSome_eq, ← l]
    exact h _ (I.tok _)
  · subst ey
    cases (show u = Value.ref b from ry)
    obtain ⟨z, hd, xs, rel, dd⟩ := dt_rd I.hok e
    refine wpAny_notIn_heap (tupleKind_room_in1 hu) (key_of I.hok eb) hd dd ?_
    have q := (rel.val k).isSome_eq
    rw [Option.isSome_map] at q
    rw [← q, ← l]
    exact h _ (I.tok _)
/-- a dict's object is replaced -/
theorem d_write {h' : Heap} {t' : Nat} {ob : HO} (I : Inv X pins σ H s) (mu : Mut (H a)) (hs : Heap.SameBut a s.heap h') (he : ∃ q, h'.get? a = some q) (new : ObjOk X.prog X.w (upd H a ob) h' a ob) :
    Inv X pins σ (upd H a ob) { s with heap := h', toks := t' } :=
  I.write (x := a) (e := a) mu (.inl rfl) (fun b q hb z => (hs.2 b hb).trans z) he new
theorem dk_new {P : Program} {w : World} {H' : Hp} {h' : Heap} {kvs : List (Key × V)} {vs : List (Key × Value)} (z : kvs.length ≤ sizeLine) (hd : (a == sysModules) = false) (rel : KV kvs vs) (dd : h'.DictOf (mixKind P w) a vs) :
    ObjOk P w H' h' a (.dK kvs) := ⟨z, hd, vs, rel, dd⟩
/-- d[y] = v -/
theorem d_setItem {H' : Hp} {Q : Unit → Shared → Prop} (hu : A.units + 1 < cLine) (I : Inv X pins σ H s) (g : DPut H a y v H') (ry : RelV y u) (rv : RelV v r) (h : ∀ s', Inv X pins σ H' s' → Q () s') :
    wpAny (model X.prog X.w) A (setItem (.ref a) u r) Q E s := by
  rcases g with ⟨kvs, k, e, ey, l, eH⟩ | ⟨kvs, k, b, e, ey, eb, l, eH⟩
  · subst ey eH
    obtain ⟨z, hd, vs, rel, dd⟩ := dk_of I.hok e
    have hz : vs.length ≤ sizeLine := by rw [← rel.length]; exact z
    have hl : (putK kvs k v).length ≤ sizeLine := by have := length_putK kvs k v; first | lia | omega
    refine wpAny_setItem_pairs (hsz := hz) (kV_is ry) dd fun h' dd' hs => h _ ?_
    have he : ∃ q, h'.get? a = some q := let ⟨q, _, _, hq, _⟩ := dd'; ⟨q, hq⟩
    exact d_write I (by rw [e]; exact True.intro) hs he (dk_new hl hd (rel.put k rv) dd')
  · subst ey eH
    cases (show u = Value.ref b from ry)
    obtain ⟨z, hd, xs, rel, dd⟩ := dt_of I.hok e
    have hz : xs.length ≤ sizeLine := by rw [← Paired.length rel]; exact z
    have hl : (putK kvs k v).length ≤ sizeLine := by have := length_putK kvs k v; first | lia | omega
    refine wpAny_setItem_heap (hsz := hz) (tupleKind_room_in1 hu) (key_of I.hok eb) dd fun h' dd' hs => h _ ?_
    obtain ⟨q, es, ep, hq, h2, h3, h4, _, h5⟩ := dd'
    refine d_write I (by rw [e]; exact True.intro) hs ⟨q, hq⟩ ⟨hl, hd, _, (rel.put k eb rv).keeps fun c ys ec => ?_, q, es, ep, hq, h2, h3, h4, h5⟩
    rw [upd_ne (ne_of ec e (fun z => nomatch z))]
    exact ec
end

section
variable {X : Cx} {pins : List (Addr × Obj)} {σ : St} {H : Hp} {s : Shared} {a : Addr} {kvs : List (Key × V)} {k : Key} {u : Value} {A : Around} {E : Value → Shared → Prop}
end


/-- the element of a subscription, not a slice -/
def NoSl (i : Expr) : Prop := ∀ ov iv, subscripted i false ov iv = operate [ov, iv] (getItem ov iv)
theorem subD_of {prog : Program} {w : World} {A : Around} {E : Value → Shared → Prop} {s : Shared} {env : Env} {value slice : Expr} {pos : Pos} {T id : String} {Q : Value → Shared → Prop}
    (hl : typeLookup (.type T) "__getitem__" = pure (some (.builtin id))) (hs : NoSl slice)
    (h : wpAny (model prog w) A (eval value env) (fun o s₁ => wpAny (model prog w) A (eval slice env) (fun i s₂ => s₂.TypeIs o T ∧ wpAny (model prog w) A (getItem o i) Q E s₂) E s₁) E s) :
    wpAny (model prog w) A (eval (.Subscript value slice pos) env) Q E s := by
  refine Subscript_ (wpAny_mono h (fun o s₁ h₁ => wpAny_mono h₁ (fun i s₂ h₂ => ?_) fun _ _ x => x) fun _ _ x => x)
  obtain ⟨hT, h₂⟩ := h₂
  unfold subscriptTail
  refine wpAny_bind ?_
  rw [getitemInPython_of_ne hT.not_modules]
  refine wpAny_bind (wpAny_specialOf hT hl ?_)
  have fin : wpAny (model prog w) A (subscripted slice false o i) (fun r s₃ => wpAny (model prog w) A (letTemporaryGo value o r >>= fun _ => pure r) Q E s₃) E s₂ := by
    rw [hs o i]
    exact wpAny_operating (wpAny_mono h₂ (fun r s₃ h₃ => wpAny_bind (wpAny_letTemporaryGo (wpAny_pure h₃))) fun _ _ x => x)
  first
    | exact wpAny_pure (wpAny_bind fin)
    | exact wpAny_bind (wpAny_pure (wpAny_bind fin))
    | exact wpAny_bind fin

theorem dict_typeIs {X : Cx} {pins : List (Addr × Obj)} {σ : St} {H : Hp} {s : Shared} {a : Addr} {y : V} {o : Option V} (I : Inv X pins σ H s) (g : DGet H a y o) : s.TypeIs (.ref a) "dict" := by
  rcases g with ⟨kvs, k, e, _, _⟩ | ⟨kvs, k, b, e, _, _, _⟩
  · obtain ⟨_, _, vs, _, dd⟩ := dk_rd I.hok e
    exact dd.typeIs
  · obtain ⟨_, _, xs, _, dd⟩ := dt_rd I.hok e
    exact dd.typeIs
/-- d[y] -/
def tDGet (td ty : TE) : TE := fun σ H Q => td σ H fun x H1 => ty σ H1 fun y H2 => ∃ a v, x = .ref a ∧ DGet H2 a y (some v) ∧ Q v H2
def tDNotIn (ty td : TE) : TE := fun σ H Q => ty σ H fun y H1 => td σ H1 fun x H2 => ∃ a o, x = .ref a ∧ DGet H2 a y o ∧ Q (.bl (!o.isSome)) H2
/-- d[y] = v -/
def sDPut (td ty tv : TE) : TS := fun D σ H => tv σ H fun v H1 => td σ H1 fun x H2 => ty σ H2 fun y H3 => ∃ a H4, x = .ref a ∧ DPut H3 a y v H4 ∧ D.nx σ H4
section
variable {X : Cx} {o i e value : Expr} {pos pos' tpos : Pos} {td ty tv : TE}
theorem pe_dget (hu : X.A.units + 1 < cLine) (ho : PE X o td) (hi : PE X i ty) (hs : NoSl i) : PE X (.Subscript o i pos) (tDGet td ty) := by
  intro pins s σ H Q I h
  refine subD_of PySem.F.slot_dict_getitem.lookup hs (thn (ho pins s σ H _ I h) fun u s1 ⟨x, H1, I1, rx, q1⟩ => thn (hi pins s1 σ H1 _ I1 q1) fun iv s2 ⟨y, H2, I2, ry, a, v, ex, g, q2⟩ => ?_)
  subst ex
  obtain rfl : u = Value.ref a := rx
  exact ⟨dict_typeIs I2 g, d_getItem hu I2 g ry fun w' s3 I3 rw' => ⟨v, H2, I3, rw', q2⟩⟩
theorem pc_dnotin (hu : X.A.units + 1 < cLine) (hi : PE X i ty) (ho : PE X o td) : PC X .NotIn i o (tDNotIn ty td) := by
  intro pins s σ H Q I h
  refine thn (hi pins s σ H _ I h) fun iv s1 ⟨y, H1, I1, ry, q1⟩ => thn (ho pins s1 σ H1 _ I1 q1) fun u s2 ⟨x, H2, I2, rx, a, ov, ex, g, q2⟩ => ?_
  subst ex
  obtain rfl : u = Value.ref a := rx
  exact d_notIn hu I2 g ry fun s3 I3 => ⟨.bl (!ov.isSome), H2, I3, rfl, q2⟩
theorem ps_dput (hu : X.A.units + 1 < cLine) (ho : PE X o td) (hi : PE X i ty) (hv : PE X value tv) (hs : swapsWith value (some (.Subscript o i pos')) pos.line X.env = pure false) :
    PS X (.Assign [.Subscript o i pos'] value pos) (sDPut td ty tv) := by
  intro pins s σ H D I h
  refine wpAny_Assign_Subscript (thn (hv pins s σ H _ I h) fun r s1 ⟨v, H1, I1, rv, q1⟩ => thn (ho pins s1 σ H1 _ I1 q1) fun u s2 ⟨x, H2, I2, rx, q2⟩ => thn (hi pins s2 σ H2 _ I2 q2) fun iv s3 ⟨y, H3, I3, ry, a, H4, ex, g, q3⟩ => ?_) hs
  subst ex
  obtain rfl : u = Value.ref a := rx
  exact d_setItem hu I3 g ry rv fun s4 I4 => ⟨σ, H4, I4, q3⟩
end


theorem dt_empty {P : Program} {w : World} {H : Hp} (h : Heap) (hb : sysModules < h.objs.size) : ObjOk P w H (h.push { cls := .type "dict", data := .dict #[] }) h.objs.size (.dT []) :=
  ⟨Nat.zero_le _, beq_eq_false_iff_ne.mpr (Ne.symm (Nat.ne_of_lt hb)), [], .nil, _, #[], 0, Heap.get?_push_size _ rfl, ⟨rfl, rfl, rfl⟩, rfl, rfl, List.nodup_nil⟩
def tDNewT : TE := fun _ H Q => ∀ p, H p = none → Q (.ref p) (upd H p (.dT []))
section
variable {X : Cx} {pos : Pos}
theorem pe_dnewT : PE X (.Dict [] [] pos) tDNewT := fun pins s σ H Q I h =>
  wpAny_Dict_empty ⟨.ref s.heap.objs.size, _, I.laid (a := s.heap.objs.size) (o := .dT []) (t' := s.toks) (fun _ _ q => Heap.get?_push_of_some _ q) (Nat.le_refl _) (dt_empty s.heap I.big), rfl, h _ (I.hok.fresh (Nat.le_refl _))⟩
end

/-- a is a dict, whatever its keys -/
def IsD (H : Hp) (a : Addr) : Prop := (∃ kvs, Rd H a (.dK kvs)) ∨ ∃ kvs, Rd H a (.dT kvs)
theorem isD_at {X : Cx} {pins : List (Addr × Obj)} {σ : St} {H : Hp} {s : Shared} {a : Addr} (I : Inv X pins σ H s) (d : IsD H a) :
    s.TypeIs (.ref a) "dict" ∧ (∀ b, Value.ref a = .ref b → ∃ ob, s.heap.get? b = some ob ∧ ob.dict = none) ∧ (a == sysModules) = false := by
  rcases d with ⟨kvs, e⟩ | ⟨kvs, e⟩
  · obtain ⟨_, hd, vs, _, dd⟩ := dk_rd I.hok e
    refine ⟨dd.typeIs, fun b q => ?_, hd⟩
    cases q
    obtain ⟨ob, _, _, h1, h2, _⟩ := dd
    exact ⟨ob, h1, h2.2.1⟩
  · obtain ⟨_, hd, xs, _, dd⟩ := dt_rd I.hok e
    refine ⟨dd.typeIs, fun b q => ?_, hd⟩
    cases q
    obtain ⟨ob, _, _, h1, h2, _⟩ := dd
    exact ⟨ob, h1, h2.2.1⟩

section
variable {X : Cx} {pins : List (Addr × Obj)} {σ : St} {H : Hp} {s : Shared} {a : Addr} {y d : V} {u r : Value} {o : Option V} {A : Around} {E : Value → Shared → Prop}
end

section
variable {X : Cx} {o e f : Expr} {apos cpos : Pos} {td ty tx : TE}
end

section
variable {X : Cx} {pins : List (Addr × Obj)} {σ : St} {H : Hp} {s : Shared} {a : Addr} {kvs : List (Key × V)} {A : Around} {E : Value → Shared → Prop}
end


section
variable {X : Cx} {pins : List (Addr × Obj)} {σ : St} {H : Hp} {s : Shared} {a : Addr} {y : V} {u : Value} {A : Around} {E : Value → Shared → Prop}
end
section
variable {κ : Type} [DecidableEq κ]
end
section
variable {X : Cx}
end
end L2
namespace L2
open PySem PySem.Spec PyProof.Rows
/-- at each turn a new tuple (i, x) -/
def Ite (K : PySem.W.Frag) (a : Addr) : It :=
  ⟨fun i H => ∃ xs x, SqL K H a xs ∧ xs[i]? = some x, fun i H y H' => ∃ t x, (∀ xs, SqL K H a xs → xs[i]? = some x) ∧ y = .ref t ∧ H t = none ∧ H' = upd H t (.tup [.int i, x]), fun i H => ∃ xs, SqL K H a xs ∧ xs.length ≤ i⟩
theorem enum_step {X : Cx} {pins : List (Addr × Obj)} {σ : St} {H : Hp} {s : Shared} {h' : Heap} {e it : Addr} {t' : Nat} {ys : List V} (I : Inv X pins σ H s) (fe : FpOk X pins H e) (fi : FpOk X pins H it)
    (k : ∀ b o, b ≠ e → b ≠ it → s.heap.get? b = some o → h'.get? b = some o) (he : ∃ o, h'.get? e = some o) (hi : ∃ o, h'.get? it = some o)
    (new : ObjOk X.prog X.w (upd H s.heap.objs.size (.tup ys)) h' s.heap.objs.size (.tup ys)) :
    Inv X pins σ (upd H s.heap.objs.size (.tup ys)) { s with heap := h', toks := t' } := by
  have hn : H s.heap.objs.size = none := I.hok.fresh (Nat.le_refl _)
  obtain ⟨e0, e1, e2, e3, e4, e5⟩ := fe
  obtain ⟨i0, i1, i2, i3, i4, i5⟩ := fi
  have nt : ∀ b u, H b = some u → b ≠ e ∧ b ≠ it := fun b u q => ⟨fun z => (by rw [z, e0] at q; cases q), fun z => (by rw [z, i0] at q; cases q)⟩
  have nc : ∀ b, b ∉ [e, it] → b ≠ e ∧ b ≠ it := fun b hb => ⟨fun z => hb (by simp [z]), fun z => hb (by simp [z])⟩
  have ne : ∀ b u, H b = some u → b ≠ s.heap.objs.size := fun b u q => ne_of_none q hn
  refine I.step (g' := s.gens) (d' := s.drawn) (ch := [e, it]) (fun b hb => ?_) (fun b o _ _ hc q _ => k b o (nc b hc).1 (nc b hc).2 q) (fun b o _ _ hc q _ => ⟨o.slots, k b o (nc b hc).1 (nc b hc).2 q⟩)
    (fun b o _ q n => by rw [upd_ne (Nat.ne_of_lt (Heap.lt_size q))]; exact n) (fun b o hc q => ⟨o, k b o (nc b hc).1 (nc b hc).2 q⟩) (fun b xs q => by rw [upd_ne (ne b _ q)]; exact q) (fun b o u q => by rw [upd_ne (ne b _ q)]; exact q)
    (fun b ps q => ⟨#[], by rw [upd_ne (ne b _ q), q]; simp⟩) (fun m hm => ?_) (fun b u q => ?_) I.bare
  · rcases List.mem_cons.mp hb with rfl | hb
    · exact ⟨e3, e1, e4, e5⟩
    · rw [List.mem_singleton.mp hb]; exact ⟨i3, i1, i4, i5⟩
  · obtain ⟨o, es, ep, ho, r⟩ := hm
    exact ⟨o, es, ep, k _ o (Ne.symm e1) (Ne.symm i1) ho, r⟩
  · by_cases hb : b = s.heap.objs.size
    · subst hb; rw [upd_same] at q; cases q; exact new
    · rw [upd_ne hb] at q
      refine (I.hok b u q).stay (fun c v hc z => k c v ?_ ?_ z) (fun c z => by rw [upd_ne (ne c _ z)]; exact z) fun c xs z => by rw [upd_ne (ne c _ z)]; exact z
      · rcases hc with rfl | hc
        · exact (nt c u q).1
        · exact (nt c _ hc).1
      · rcases hc with rfl | hc
        · exact (nt c u q).2
        · exact (nt c _ hc).2
theorem turn_enum {P : Program} {w : World} {K : PySem.W.Frag} {es : List Expr} {k : Nat} {pos : Pos} (a e it : Addr) (hei : e ≠ it) :
    Turn P w K (.Tuple es k pos) (Ite K a) [e, it] e (fun i h => (∃ old, IsEnum h e it i old) ∧ h.IsListIter it a i) where
  mem := by simp
  obj := fun i h st b hb => by
    obtain ⟨⟨old, he⟩, ⟨o, eo, c, d⟩⟩ := st
    rcases List.mem_cons.mp hb with rfl | hb
    · exact ⟨_, he, fun v z => by
        have z' : Data.fields _ = Data.cell v := z
        cases z'⟩
    · rw [List.mem_singleton.mp hb]; exact ⟨o, eo, fun v z => by rw [d] at z; cases z⟩
  keep := fun i h h' st kk => by
    obtain ⟨⟨old, he⟩, st⟩ := st
    exact ⟨⟨old, kk e (by simp) _ he⟩, st.at fun o z => kk it (by simp) o z⟩
  item := by
    intro X hP hw hK hc i pins s σ H E I hf st hg
    subst hP hw hK
    obtain ⟨⟨old, he⟩, st⟩ := st
    obtain ⟨xs, x, hq, hx⟩ := hg
    obtain ⟨its, rv, p, hz⟩ := I.list hq
    obtain ⟨u, hu, ru⟩ := rv.get hx
    have fe := hf e (by simp)
    have fi := hf it (by simp)
    refine wpAny_pyNext_enum_item he st p.isList (x := u) (by simpa using hu) hei fun h' he' st' ht hz' kk => ?_
    refine ⟨_, rfl, ?_⟩
    have ltE : e < s.heap.objs.size := Heap.lt_size he
    have hn : H s.heap.objs.size = none := I.hok.fresh (Nat.le_refl _)
    have I1 : Inv X pins σ (upd H s.heap.objs.size (.tup [.int i, x])) { s with heap := h', toks := s.toks + 1 } := by
      refine enum_step I fe fi kk ⟨_, he'⟩ (let ⟨o, eo, _⟩ := st'; ⟨o, eo⟩) ⟨?_, [.int i s.toks, u], .cons ⟨_, rfl⟩ (.cons ru .nil), ⟨_, ht, rfl, _, rfl⟩⟩
      show 2 ≤ sizeLine
      decide
    refine wpAny_letOwnedTupleGo_enum (s := { s with heap := h', toks := s.toks + 1 }) he' fun h2 he2 sb => ?_
    have neE : e ≠ s.heap.objs.size := Nat.ne_of_lt ltE
    have fe2 : (upd H s.heap.objs.size (.tup [.int i, x])) e = none := by rw [upd_ne neE]; exact fe.1
    have I2 : Inv X pins σ (upd H s.heap.objs.size (.tup [.int i, x])) { ({ s with heap := h', toks := s.toks + 1 } : Shared) with heap := h2, toks := s.toks + 1 } :=
      I1.turned (t' := s.toks + 1) (it := e) (fun b o hb z => (sb.2 b hb).trans z) fe2 fe.2.1 fe.2.2.2.1 fe.2.2.2.2.1 fe.2.2.2.2.2
    obtain ⟨oi, hoi, _⟩ := id st
    have ltI : it < s.heap.objs.size := Heap.lt_size hoi
    refine ⟨.ref s.heap.objs.size, _, I2, rfl, ⟨_, x, fun ys hy => by rw [I.list_inj hy hq]; exact hx, rfl, hn, rfl⟩, ⟨⟨u, ?_⟩, ?_⟩, fun b hb => ?_⟩
    · have e1 : ((i + 1 : Nat) : Int) = (i : Int) + 1 := by push_cast; rfl
      rw [e1]; exact he2
    · exact st'.at fun o z => (sb.2 it (Ne.symm hei)).trans z
    · rcases List.mem_cons.mp hb with rfl | hb
      · exact fe2
      · rw [List.mem_singleton.mp hb, upd_ne (Nat.ne_of_lt ltI)]; exact fi.1
  done := by
    intro X hP hw hK hc i pins s σ H E I hf st hg
    subst hP hw hK
    obtain ⟨⟨old, he⟩, st⟩ := st
    obtain ⟨xs, hq, hx⟩ := hg
    obtain ⟨its, rv, p, hz⟩ := I.list hq
    obtain ⟨f0, f1, f2, f3, f4, f5⟩ := hf it (by simp)
    have hl := rv.length
    exact wpAny_pyNext_enum_end (I.ok.hd hc) he st p.isList (by simp; first | lia | omega) fun h' eb => ⟨rfl, I.turned (t' := s.toks) (fun b o hb z => eb b o hb z) f0 f1 f3 f4 f5⟩
  self := fun _ _ _ _ _ st h => by
    obtain ⟨⟨old, he⟩, _⟩ := st
    exact wpAny_pyIter_enum he h
def iEnum (K : PySem.W.Frag) (ta : TA) : TI := fun σ H R => ta σ H fun vs H1 => ∃ a, vs = [.ref a] ∧ (∃ xs, SqL K H1 a xs) ∧ R (Ite K a) H1
section
variable {X : Cx}
theorem pi_enum {a : Expr} {es : List Expr} {k : Nat} {tpos : Pos} {ta : TA} {p pos : Pos} (hg : Gl X "enumerate") (hm : X.mg "enumerate" = none) (ha : PA X [a] ta) (hs : starEach [a] X.env = [(false, eval a X.env)] := by rfl) :
    PI X (.Tuple es k tpos) (.Call (.Name "enumerate" p) [a] [] pos) (iEnum X.K ta) := by
  intro pins s σ H R I h
  refine Call_ (ld_blt I hg hm boot_enumerate (PyProof.Rows.callWith_type1 (thn (ha pos pins s σ H _ I h) fun us s1 ⟨vs, H1, I1, r1, q1⟩ => ?_) hs rfl))
  obtain ⟨b, e, ⟨xs, hq⟩, q⟩ := q1
  subst e
  cases r1 with
  | cons r rr =>
    cases rr
    cases r
    obtain ⟨its, rv, pl, hz⟩ := I1.list hq
    refine call_enumerate_list pl.isList fun h' he hit hsz hk => ?_
    have I2 : Inv X pins σ H1 { s1 with heap := h' } := I1.kept (t' := s1.toks) hk
    refine wpAny_pyIter_enum (s := { s1 with heap := h' }) he ?_
    refine ⟨s1.heap.objs.size + 1, [s1.heap.objs.size + 1, s1.heap.objs.size], _, _, H1, rfl, I2, turn_enum b _ _ (Nat.succ_ne_self _), ⟨⟨_, he⟩, hit⟩, fun c hc => ?_, q⟩
    rcases List.mem_cons.mp hc with rfl | hc
    · exact I1.fpOk (Nat.le_succ _) (I1.hok.fresh (Nat.le_succ _))
    · rw [List.mem_singleton.mp hc]; exact I1.fpOk (Nat.le_refl _) (I1.hok.fresh (Nat.le_refl _))
end
/-- the loop by what holds ahead of the i-th item; the list stays -/
theorem for_enum {K : PySem.W.Frag} {a : Addr} {xs : List V} {g : TG} {tb : TS} {D : Ends} {σ : St} {H : Hp} (Pv : Nat → St → Hp → Prop) (h0 : Pv 0 σ H) (hl : ∀ i σ H, i ≤ xs.length → Pv i σ H → SqL K H a xs)
    (hs : ∀ i x σ H t, xs[i]? = some x → Pv i σ H → H t = none → g (.ref t) σ (upd H t (.tup [.int i, x])) fun σ2 H2 => tb { D with nx := Pv (i + 1), ct := Pv (i + 1), bk := D.nx } σ2 H2) (hd : ∀ σ H, Pv xs.length σ H → D.nx σ H) :
    ∃ W : Nat → Nat → St → Hp → Prop, (∃ m, W 0 m σ H) ∧ ∀ i m σ H, W i m σ H →
      ((Ite K a).stop i H ∧ D.nx σ H) ∨ ((Ite K a).go i H ∧ ∃ N : St → Hp → Prop, (∀ σ' H', N σ' H' → ∃ m', m' < m ∧ W (i + 1) m' σ' H') ∧ ∀ x H', (Ite K a).yld i H x H' → g x σ H' fun σ2 H2 => tb { D with nx := N, ct := N, bk := D.nx } σ2 H2) := by
  refine ⟨fun i m σ H => m = xs.length - i ∧ i ≤ xs.length ∧ Pv i σ H, ⟨xs.length, by simp, Nat.zero_le _, h0⟩, ?_⟩
  rintro i m σ H ⟨rfl, hi, p⟩
  have q := hl i σ H hi p
  by_cases hlt : i < xs.length
  · refine .inr ⟨⟨xs, xs[i], q, by simp [hlt]⟩, Pv (i + 1), fun σ' H' p' => ⟨xs.length - (i + 1), by first | lia | omega, rfl, hlt, p'⟩, fun x H' y => ?_⟩
    obtain ⟨t, z, hz, rfl, ht, rfl⟩ := y
    exact hs i z σ H t (hz xs q) p ht
  · have e : i = xs.length := by first | lia | omega
    subst e
    exact .inl ⟨⟨xs, q, Nat.le_refl _⟩, hd σ H p⟩
end L2
namespace L2
open PySem PySem.Spec PyProof.Rows PySem.SeqAt
mutual
inductive D where
  | at (v : V)
  | tup (xs : Ds)
  | lst (xs : Ds)
inductive Ds where
  | nil
  | cons (d : D) (r : Ds)
end
mutual
def DIs (K : PySem.W.Frag) (H : Hp) : D → V → Prop
  | .at u, v => v = u ∧ flatV u = true
  | .tup ds, v => ∃ a xs, v = .ref a ∧ SqT K H a xs ∧ DIss K H ds xs
  | .lst ds, v => ∃ a xs, v = .ref a ∧ SqL K H a xs ∧ DIss K H ds xs
def DIss (K : PySem.W.Frag) (H : Hp) : Ds → List V → Prop
  | .nil, xs => xs = []
  | .cons d r, xs => ∃ x ys, xs = x :: ys ∧ DIs K H d x ∧ DIss K H r ys
end
mutual
def dep : D → Nat
  | .at _ => 0
  | .tup ds => deps ds + 1
  | .lst ds => deps ds + 1
def deps : Ds → Nat
  | .nil => 0
  | .cons d r => max (dep d) (deps r)
end
mutual
def deq : D → D → Bool
  | .at u, .at v => eqV u v
  | .tup xs, .tup ys => deqs xs ys
  | .lst xs, .lst ys => deqs xs ys
  | _, _ => false
def deqs : Ds → Ds → Bool
  | .nil, .nil => true
  | .cons d r, .cons e q => deq d e && deqs r q
  | _, _ => false
end
def Ds.len : Ds → Nat
  | .nil => 0
  | .cons _ r => r.len + 1
def Ds.get : Ds → Nat → D
  | .nil, _ => .at .non
  | .cons d _, 0 => d
  | .cons _ r, i + 1 => r.get i
theorem deqs_all : ∀ (ds es : Ds), ((List.range (min ds.len es.len)).all (fun j => deq (ds.get j) (es.get j)) && ds.len == es.len) = deqs ds es
  | .nil, .nil => rfl
  | .nil, .cons e q => by simp [Ds.len, deqs]
  | .cons d r, .nil => by simp [Ds.len, deqs]
  | .cons d r, .cons e q => by
    have ih := deqs_all r q
    rw [show deqs (.cons d r) (.cons e q) = (deq d e && deqs r q) from by rw [deqs], ← ih]
    show ((List.range (min (r.len + 1) (q.len + 1))).all _ && (r.len + 1 == q.len + 1)) = _
    rw [show min (r.len + 1) (q.len + 1) = min r.len q.len + 1 by first | lia | omega, List.range_succ_eq_map, List.all_cons, List.all_map, Bool.and_assoc]
    congr 1
    rw [show (r.len + 1 == q.len + 1) = (r.len == q.len) by simp]
    rfl
mutual
theorem deq_refl : ∀ {K : PySem.W.Frag} {H : Hp} (d : D) {v : V}, DIs K H d v → deq d d = true
  | _, _, .at u, v, h => by
    obtain ⟨_, hf⟩ := (show v = u ∧ flatV u = true by simpa [DIs] using h)
    rw [deq]
    cases u <;> simp_all [flatV, eqV]
  | _, _, .tup ds, v, h => by
    rw [DIs] at h
    obtain ⟨a, xs, _, _, q⟩ := h
    rw [deq]; exact deqs_refl ds q
  | _, _, .lst ds, v, h => by
    rw [DIs] at h
    obtain ⟨a, xs, _, _, q⟩ := h
    rw [deq]; exact deqs_refl ds q
theorem deqs_refl : ∀ {K : PySem.W.Frag} {H : Hp} (ds : Ds) {xs : List V}, DIss K H ds xs → deqs ds ds = true
  | _, _, .nil, _, _ => by rw [deqs]
  | _, _, .cons d r, xs, h => by
    rw [DIss] at h
    obtain ⟨x, ys, _, h1, h2⟩ := h
    rw [deqs, deq_refl d h1, deqs_refl r h2]; rfl
end
theorem DIss.len {K : PySem.W.Frag} {H : Hp} : ∀ {ds : Ds} {xs : List V}, DIss K H ds xs → ds.len = xs.length
  | .nil, xs, h => by rw [DIss] at h; rw [h]; rfl
  | .cons d r, xs, h => by
    rw [DIss] at h
    obtain ⟨x, ys, rfl, _, h2⟩ := h
    show r.len + 1 = ys.length + 1
    rw [DIss.len h2]
theorem DIss.get {K : PySem.W.Frag} {H : Hp} : ∀ {ds : Ds} {xs : List V} {i : Nat} {x : V}, DIss K H ds xs → xs[i]? = some x → DIs K H (ds.get i) x
  | .nil, xs, i, x, h, e => by rw [DIss] at h; rw [h] at e; simp at e
  | .cons d r, xs, i, x, h, e => by
    rw [DIss] at h
    obtain ⟨y, ys, rfl, h1, h2⟩ := h
    cases i with
    | zero => simp at e; subst e; exact h1
    | succ i =>
      show DIs K H (r.get i) x
      exact DIss.get h2 (by simpa using e)
theorem dep_get : ∀ (ds : Ds) (i : Nat), i < ds.len → dep (ds.get i) ≤ deps ds
  | .nil, i, h => absurd h (by simp [Ds.len])
  | .cons d r, 0, _ => by show dep d ≤ _; rw [deps]; first | lia | omega
  | .cons d r, i + 1, h => by
    have := dep_get r i (by simpa [Ds.len] using h)
    show dep (r.get i) ≤ _
    rw [deps]; first | lia | omega
section
variable {X : Cx} {pins : List (Addr × Obj)} {σ : St} {H : Hp} {s : Shared}
mutual
theorem DIs.inj (I : Inv X pins σ H s) : ∀ {d e : D} {v : V}, DIs X.K H d v → DIs X.K H e v → d = e
  | .at u, .at w', v, h, h' => by
    rw [DIs] at h
    rw [DIs] at h'
    rw [← h.1, ← h'.1]
  | .at u, .tup ds, v, h, h' => by
    rw [DIs] at h
    rw [DIs] at h'
    obtain ⟨a, xs, e, _⟩ := h'
    have := h.2
    rw [← h.1, e] at this
    cases this
  | .at u, .lst ds, v, h, h' => by
    rw [DIs] at h
    rw [DIs] at h'
    obtain ⟨a, xs, e, _⟩ := h'
    have := h.2
    rw [← h.1, e] at this
    cases this
  | .tup ds, .at u, v, h', h => by
    rw [DIs] at h
    rw [DIs] at h'
    obtain ⟨a, xs, e, _⟩ := h'
    have := h.2
    rw [← h.1, e] at this
    cases this
  | .lst ds, .at u, v, h', h => by
    rw [DIs] at h
    rw [DIs] at h'
    obtain ⟨a, xs, e, _⟩ := h'
    have := h.2
    rw [← h.1, e] at this
    cases this
  | .tup ds, .tup es, v, h, h' => by
    rw [DIs] at h
    rw [DIs] at h'
    obtain ⟨a, xs, rfl, h1, h2⟩ := h
    obtain ⟨b, ys, e, k1, k2⟩ := h'
    cases e
    have e := I.tuple_inj h1 k1
    subst e
    rw [DIss.inj I h2 k2]
  | .lst ds, .lst es, v, h, h' => by
    rw [DIs] at h
    rw [DIs] at h'
    obtain ⟨a, xs, rfl, h1, h2⟩ := h
    obtain ⟨b, ys, e, k1, k2⟩ := h'
    cases e
    have e := I.list_inj h1 k1
    subst e
    rw [DIss.inj I h2 k2]
  | .tup ds, .lst es, v, h, h' => by
    rw [DIs] at h
    rw [DIs] at h'
    obtain ⟨a, xs, rfl, h1, h2⟩ := h
    obtain ⟨b, ys, e, k1, k2⟩ := h'
    cases e
    obtain ⟨_, _, t1, _⟩ := I.tuple h1
    obtain ⟨_, _, t2, _⟩ := I.list k1
    exact absurd rfl (ne_of_list_tuple t2.isList (show s.heap.IsTuple a _ from t1))
  | .lst ds, .tup es, v, h, h' => by
    rw [DIs] at h
    rw [DIs] at h'
    obtain ⟨a, xs, rfl, h1, h2⟩ := h
    obtain ⟨b, ys, e, k1, k2⟩ := h'
    cases e
    obtain ⟨_, _, t1, _⟩ := I.tuple k1
    obtain ⟨_, _, t2, _⟩ := I.list h1
    exact absurd rfl (ne_of_list_tuple t2.isList (show s.heap.IsTuple a _ from t1))
theorem DIss.inj (I : Inv X pins σ H s) : ∀ {ds es : Ds} {xs : List V}, DIss X.K H ds xs → DIss X.K H es xs → ds = es
  | .nil, .nil, xs, h, h' => rfl
  | .nil, .cons d r, xs, h, h' => by
    rw [DIss] at h
    rw [DIss] at h'
    obtain ⟨x, ys, e, _⟩ := h'
    rw [h] at e; cases e
  | .cons d r, .nil, xs, h', h => by
    rw [DIss] at h
    rw [DIss] at h'
    obtain ⟨x, ys, e, _⟩ := h'
    rw [h] at e; cases e
  | .cons d r, .cons e q, xs, h, h' => by
    rw [DIss] at h
    rw [DIss] at h'
    obtain ⟨x, ys, rfl, h1, h2⟩ := h
    obtain ⟨y, zs, e', k1, k2⟩ := h'
    cases e'
    rw [DIs.inj I h1 k1, DIss.inj I h2 k2]
end
theorem flat_tup {A : Around} {u : V} {x : Value} {l : Addr} {items : Array Value} (r : RelV u x) (f : flatV u = true) (hl : s.heap.IsTuple l items) (hu : A.units < cLine) : EqAt A s x (.ref l) false ∧ EqAt A s (.ref l) x false := by
  cases u with
  | non => cases r; exact ⟨.none_tuple hl hu, .tuple_none hl hu⟩
  | bl b => cases r; exact ⟨.bool_tuple b hl hu, .tuple_bool b hl hu⟩
  | int b => obtain ⟨t, rfl⟩ := r; exact ⟨.int_tuple b t hl hu, .tuple_int b t hl hu⟩
  | str b => obtain ⟨t, rfl⟩ := r; exact ⟨.str_tuple b t hl hu, .tuple_str b t hl hu⟩
  | _ => exact absurd (show false = true from f) Bool.false_ne_true
theorem flat_lst {A : Around} {u : V} {x : Value} {l : Addr} {items : Array Value} (r : RelV u x) (f : flatV u = true) (hl : s.heap.IsList l items) (hu : A.units < cLine) : EqAt A s x (.ref l) false ∧ EqAt A s (.ref l) x false := by
  cases u with
  | non => cases r; exact ⟨.none_list hl hu, .list_none hl hu⟩
  | bl b => cases r; exact ⟨.bool_list b hl hu, .list_bool b hl hu⟩
  | int b => obtain ⟨t, rfl⟩ := r; exact ⟨.int_list b t hl hu, .list_int b t hl hu⟩
  | str b => obtain ⟨t, rfl⟩ := r; exact ⟨.str_list b t hl hu, .list_str b t hl hu⟩
  | _ => exact absurd (show false = true from f) Bool.false_ne_true
theorem eqAt_D (I : Inv X pins σ H s) : ∀ (n : Nat) (A : Around) (d e : D) (x y : V) (u v : Value), dep d ≤ n → DIs X.K H d x → DIs X.K H e y → RelV x u → RelV y v → A.units + n < cLine → EqAt A s u v (deq d e) := by
  intro n
  induction n with
  | zero =>
    intro A d e x y u v hn hd he rx ry hu
    cases d with
    | tup ds => rw [dep] at hn; first | lia | omega
    | lst ds => rw [dep] at hn; first | lia | omega
    | «at» p =>
      rw [DIs] at hd
      obtain ⟨rfl, hf⟩ := hd
      cases e with
      | «at» q =>
        rw [DIs] at he
        obtain ⟨rfl, hg⟩ := he
        rw [deq]; exact eqAt_V rx ry hf hg
      | tup es =>
        rw [DIs] at he
        obtain ⟨b, ys, rfl, h1, _⟩ := he
        obtain ⟨_, _, t, _⟩ := I.tuple h1
        cases ry
        rw [deq]
        · exact (flat_tup rx hf (show s.heap.IsTuple b _ from t) hu).1
        all_goals (intros; simp_all)
      | lst es =>
        rw [DIs] at he
        obtain ⟨b, ys, rfl, h1, _⟩ := he
        obtain ⟨_, _, t, _⟩ := I.list h1
        cases ry
        rw [deq]
        · exact (flat_lst rx hf t.isList hu).1
        all_goals (intros; simp_all)
  | succ n ih =>
    intro A d e x y u v hn hd he rx ry hu
    have hu1 : A.in1.units + n < cLine := by show A.units + 1 + n < cLine; first | lia | omega
    cases d with
    | «at» p =>
      rw [DIs] at hd
      obtain ⟨rfl, hf⟩ := hd
      cases e with
      | «at» q =>
        rw [DIs] at he
        obtain ⟨rfl, hg⟩ := he
        rw [deq]; exact eqAt_V rx ry hf hg
      | tup es =>
        rw [DIs] at he
        obtain ⟨b, ys, rfl, h1, _⟩ := he
        obtain ⟨_, _, t, _⟩ := I.tuple h1
        cases ry
        rw [deq]
        · exact (flat_tup rx hf (show s.heap.IsTuple b _ from t) (by first | lia | omega)).1
        all_goals (intros; simp_all)
      | lst es =>
        rw [DIs] at he
        obtain ⟨b, ys, rfl, h1, _⟩ := he
        obtain ⟨_, _, t, _⟩ := I.list h1
        cases ry
        rw [deq]
        · exact (flat_lst rx hf t.isList (by first | lia | omega)).1
        all_goals (intros; simp_all)
    | tup ds =>
      have hd0 := hd
      rw [dep] at hn
      rw [DIs] at hd
      obtain ⟨a, xs, rfl, h1, h2⟩ := hd
      obtain ⟨i1, r1, t1, _⟩ := I.tuple h1
      cases rx
      cases e with
      | «at» q =>
        rw [DIs] at he
        obtain ⟨rfl, hg⟩ := he
        rw [deq]
        · exact (flat_tup ry hg (show s.heap.IsTuple a _ from t1) (by first | lia | omega)).2
        all_goals (intros; simp_all)
      | lst es =>
        rw [DIs] at he
        obtain ⟨b, ys, rfl, k1, _⟩ := he
        obtain ⟨_, _, t2, _⟩ := I.list k1
        cases ry
        rw [deq]
        · exact EqAt.tuple_list (show s.heap.IsTuple a _ from t1) t2.isList (by first | lia | omega)
        all_goals (intros; simp_all)
      | tup es =>
        have he0 := he
        rw [DIs] at he
        obtain ⟨b, ys, rfl, k1, k2⟩ := he
        obtain ⟨i2, r2, t2, _⟩ := I.tuple k1
        cases ry
        by_cases hab : a = b
        · subst hab
          rw [DIs.inj I he0 hd0, deq_refl _ hd0]
          exact EqAt.same _
        · refine EqAt.of_refs hab ?_
          have := RcAt.tuples (A := A) (e := fun j => deq (ds.get j) (es.get j)) (show s.heap.IsTuple a i1.toArray from t1) (show s.heap.IsTuple b i2.toArray from t2) (by first | lia | omega) fun j g1 g2 => ?_
          · have l1 := r1.length
            have l2 := r2.length
            have m1 := h2.len
            have m2 := k2.len
            rw [List.size_toArray, List.size_toArray, ← l1, ← l2, ← m1, ← m2, deqs_all] at this
            rw [deq]; exact this
          · have l1 := r1.length
            have l2 := r2.length
            have m1 := h2.len
            have g1' : j < xs.length := by simp at g1; first | lia | omega
            have g2' : j < ys.length := by simp at g2; first | lia | omega
            obtain ⟨u1, e1, q1⟩ := r1.get (List.getElem?_eq_getElem g1')
            obtain ⟨u2, e2, q2⟩ := r2.get (List.getElem?_eq_getElem g2')
            have d1 : i1.toArray[j] = u1 := by
              have : i1[j]? = some i1.toArray[j] := by simp
              rw [e1] at this; exact (Option.some.inj this).symm
            have d2 : i2.toArray[j] = u2 := by
              have : i2[j]? = some i2.toArray[j] := by simp
              rw [e2] at this; exact (Option.some.inj this).symm
            rw [d1, d2]
            exact ih _ _ _ _ _ _ _ (Nat.le_trans (dep_get ds j (by first | lia | omega)) (by first | lia | omega)) (h2.get (List.getElem?_eq_getElem g1')) (k2.get (List.getElem?_eq_getElem g2')) q1 q2 hu1
    | lst ds =>
      have hd0 := hd
      rw [dep] at hn
      rw [DIs] at hd
      obtain ⟨a, xs, rfl, h1, h2⟩ := hd
      obtain ⟨i1, r1, t1, _⟩ := I.list h1
      cases rx
      cases e with
      | «at» q =>
        rw [DIs] at he
        obtain ⟨rfl, hg⟩ := he
        rw [deq]
        · exact (flat_lst ry hg t1.isList (by first | lia | omega)).2
        all_goals (intros; simp_all)
      | tup es =>
        rw [DIs] at he
        obtain ⟨b, ys, rfl, k1, _⟩ := he
        obtain ⟨_, _, t2, _⟩ := I.tuple k1
        cases ry
        rw [deq]
        · exact EqAt.list_tuple t1.isList (show s.heap.IsTuple b _ from t2) (by first | lia | omega)
        all_goals (intros; simp_all)
      | lst es =>
        have he0 := he
        rw [DIs] at he
        obtain ⟨b, ys, rfl, k1, k2⟩ := he
        obtain ⟨i2, r2, t2, _⟩ := I.list k1
        cases ry
        by_cases hab : a = b
        · subst hab
          rw [DIs.inj I he0 hd0, deq_refl _ hd0]
          exact EqAt.same _
        · refine EqAt.of_refs hab ?_
          have l1 := r1.length
          have l2 := r2.length
          have m1 := h2.len
          have m2 := k2.len
          rw [deq]
          rw [← deqs_all]
          by_cases hz : ds.len = es.len
          · have := RcAt.lists (A := A) (e := fun j => deq (ds.get j) (es.get j)) t1.isList t2.isList (by simp; first | lia | omega) (by first | lia | omega) fun j g1 g2 => ?_
            · rw [List.size_toArray, ← l1, ← m1] at this
              rw [hz, Nat.min_self, beq_self_eq_true, Bool.and_true, ← hz]
              exact this
            · have g1' : j < xs.length := by simp at g1; first | lia | omega
              have g2' : j < ys.length := by simp at g2; first | lia | omega
              obtain ⟨u1, e1, q1⟩ := r1.get (List.getElem?_eq_getElem g1')
              obtain ⟨u2, e2, q2⟩ := r2.get (List.getElem?_eq_getElem g2')
              have d1 : i1.toArray[j] = u1 := by
                have : i1[j]? = some i1.toArray[j] := by simp
                rw [e1] at this; exact (Option.some.inj this).symm
              have d2 : i2.toArray[j] = u2 := by
                have : i2[j]? = some i2.toArray[j] := by simp
                rw [e2] at this; exact (Option.some.inj this).symm
              rw [d1, d2]
              exact ih _ _ _ _ _ _ _ (Nat.le_trans (dep_get ds j (by first | lia | omega)) (by first | lia | omega)) (h2.get (List.getElem?_eq_getElem g1')) (k2.get (List.getElem?_eq_getElem g2')) q1 q2 hu1
          · have e0 : (ds.len == es.len) = false := by simpa using hz
            rw [e0, Bool.and_false]
            exact RcAt.lists_lengths t1.isList t2.isList (by simp; first | lia | omega) (by first | lia | omega)
end
section
variable {X : Cx}
/-- the items, one by one -/
theorem eqItems {pins : List (Addr × Obj)} {σ : St} {H : Hp} {s : Shared} (I : Inv X pins σ H s) {A : Around} {ds es : Ds} {xs ys : List V} {i1 i2 : List Value} (h2 : DIss X.K H ds xs) (k2 : DIss X.K H es ys) (r1 : Vals xs i1) (r2 : Vals ys i2)
    (hu : A.units + 60 < cLine) (hd : deps ds ≤ 50) : ∀ j (g1 : j < i1.toArray.size) (g2 : j < i2.toArray.size), EqAt A.in1 s i1.toArray[j] i2.toArray[j] (deq (ds.get j) (es.get j)) := fun j g1 g2 => by
  have l1 := r1.length
  have l2 := r2.length
  have m1 := h2.len
  have g1' : j < xs.length := by simp at g1; first | lia | omega
  have g2' : j < ys.length := by simp at g2; first | lia | omega
  obtain ⟨u1, e1, q1⟩ := r1.get (List.getElem?_eq_getElem g1')
  obtain ⟨u2, e2, q2⟩ := r2.get (List.getElem?_eq_getElem g2')
  have d1 : i1.toArray[j] = u1 := by
    have : i1[j]? = some i1.toArray[j] := by simp
    rw [e1] at this; exact (Option.some.inj this).symm
  have d2 : i2.toArray[j] = u2 := by
    have : i2[j]? = some i2.toArray[j] := by simp
    rw [e2] at this; exact (Option.some.inj this).symm
  rw [d1, d2]
  exact eqAt_D I 50 _ _ _ _ _ _ _ (Nat.le_trans (dep_get ds j (by first | lia | omega)) hd) (h2.get (List.getElem?_eq_getElem g1')) (k2.get (List.getElem?_eq_getElem g2')) q1 q2 (by show A.units + 1 + 50 < cLine; first | lia | omega)
/-- == of two lists or tuples of data -/
def rEqD (K : PySem.W.Frag) (neg : Bool) : R2 := fun x y H Q => ∃ d e, DIs K H d x ∧ DIs K H e y ∧ (∃ a, x = .ref a) ∧ (∃ b, y = .ref b) ∧ dep d ≤ 50 ∧ Q (.bl (if neg then !deq d e else deq d e)) H
theorem op_eqD {k : Nat} (hr : Room k X.A) : OpR X (compareOp .Eq) (rEqD X.K false) := by
  intro pins s σ H x y v u Q I rx ry h
  obtain ⟨d, e, hd, he, ⟨a, rfl⟩, ⟨b, rfl⟩, hn, q⟩ := h
  cases rx
  cases ry
  have hu := hr.units
  cases d with
  | «at» p => rw [DIs] at hd; obtain ⟨rfl, hf⟩ := hd; cases hf
  | tup ds =>
    rw [dep] at hn
    rw [DIs] at hd
    obtain ⟨a', xs, e', h1, h2⟩ := hd
    cases e'
    obtain ⟨i1, r1, t1, _⟩ := I.tuple h1
    cases e with
    | «at» p => rw [DIs] at he; obtain ⟨rfl, hf⟩ := he; cases hf
    | tup es =>
      rw [DIs] at he
      obtain ⟨b', ys, e', k1, k2⟩ := he
      cases e'
      obtain ⟨i2, r2, t2, _⟩ := I.tuple k1
      refine RcAt.tuples (show s.heap.IsTuple a i1.toArray from t1) (show s.heap.IsTuple b i2.toArray from t2) (by first | lia | omega) (eqItems I h2 k2 r1 r2 (by first | lia | omega) (by first | lia | omega)) _ _ _ _ ⟨.bl _, H, I, ?_, q⟩
      show Value.bool _ = Value.bool _
      rw [List.size_toArray, List.size_toArray, ← r1.length, ← r2.length, ← h2.len, ← k2.len, deqs_all]
      simp only [Bool.false_eq_true, if_false]
      rw [deq]
    | lst es =>
      rw [DIs] at he
      obtain ⟨b', ys, e', k1, k2⟩ := he
      cases e'
      obtain ⟨i2, r2, t2, _⟩ := I.list k1
      refine RcAt.tuple_list (show s.heap.IsTuple a _ from t1) t2.isList (by first | lia | omega) _ _ _ _ ⟨.bl _, H, I, ?_, q⟩
      show Value.bool _ = Value.bool _
      simp only [Bool.false_eq_true, if_false]
      rw [deq] <;> (intros; simp_all)
  | lst ds =>
    rw [dep] at hn
    rw [DIs] at hd
    obtain ⟨a', xs, e', h1, h2⟩ := hd
    cases e'
    obtain ⟨i1, r1, t1, _⟩ := I.list h1
    cases e with
    | «at» p => rw [DIs] at he; obtain ⟨rfl, hf⟩ := he; cases hf
    | tup es =>
      rw [DIs] at he
      obtain ⟨b', ys, e', k1, k2⟩ := he
      cases e'
      obtain ⟨i2, r2, t2, _⟩ := I.tuple k1
      refine RcAt.list_tuple t1.isList (show s.heap.IsTuple b _ from t2) (by first | lia | omega) _ _ _ _ ⟨.bl _, H, I, ?_, q⟩
      show Value.bool _ = Value.bool _
      simp only [Bool.false_eq_true, if_false]
      rw [deq] <;> (intros; simp_all)
    | lst es =>
      rw [DIs] at he
      obtain ⟨b', ys, e', k1, k2⟩ := he
      cases e'
      obtain ⟨i2, r2, t2, _⟩ := I.list k1
      have l1 := r1.length
      have l2 := r2.length
      have m1 := h2.len
      have m2 := k2.len
      by_cases hz : ds.len = es.len
      · refine RcAt.lists t1.isList t2.isList (by simp; first | lia | omega) (by first | lia | omega) (eqItems I h2 k2 r1 r2 (by first | lia | omega) (by first | lia | omega)) _ _ _ _ ⟨.bl _, H, I, ?_, q⟩
        show Value.bool _ = Value.bool _
        simp only [Bool.false_eq_true, if_false]
        rw [deq, ← deqs_all, List.size_toArray, ← l1, ← m1, hz, Nat.min_self, beq_self_eq_true, Bool.and_true]
      · refine RcAt.lists_lengths t1.isList t2.isList (by simp; first | lia | omega) (by first | lia | omega) _ _ _ _ ⟨.bl _, H, I, ?_, q⟩
        show Value.bool _ = Value.bool _
        have e0 : (ds.len == es.len) = false := by simpa using hz
        simp only [Bool.false_eq_true, if_false]
        rw [deq, ← deqs_all, e0, Bool.and_false]
theorem op_neD {k : Nat} (hr : Room k X.A) : OpR X (compareOp .NotEq) (rEqD X.K true) := by
  intro pins s σ H x y v u Q I rx ry h
  obtain ⟨d, e, hd, he, ⟨a, rfl⟩, ⟨b, rfl⟩, hn, q⟩ := h
  cases rx
  cases ry
  have hu := hr.units
  cases d with
  | «at» p => rw [DIs] at hd; obtain ⟨rfl, hf⟩ := hd; cases hf
  | tup ds =>
    rw [dep] at hn
    rw [DIs] at hd
    obtain ⟨a', xs, e', h1, h2⟩ := hd
    cases e'
    obtain ⟨i1, r1, t1, _⟩ := I.tuple h1
    cases e with
    | «at» p => rw [DIs] at he; obtain ⟨rfl, hf⟩ := he; cases hf
    | tup es =>
      rw [DIs] at he
      obtain ⟨b', ys, e', k1, k2⟩ := he
      cases e'
      obtain ⟨i2, r2, t2, _⟩ := I.tuple k1
      refine RcNeAt.tuples (show s.heap.IsTuple a i1.toArray from t1) (show s.heap.IsTuple b i2.toArray from t2) (by first | lia | omega) (eqItems I h2 k2 r1 r2 (by first | lia | omega) (by first | lia | omega)) _ _ _ _ ⟨.bl _, H, I, ?_, q⟩
      show Value.bool _ = Value.bool _
      rw [List.size_toArray, List.size_toArray, ← r1.length, ← r2.length, ← h2.len, ← k2.len, deqs_all]
      simp only [if_true]
      rw [deq]
    | lst es =>
      rw [DIs] at he
      obtain ⟨b', ys, e', k1, k2⟩ := he
      cases e'
      obtain ⟨i2, r2, t2, _⟩ := I.list k1
      refine RcNeAt.tuple_list (show s.heap.IsTuple a _ from t1) t2.isList (by first | lia | omega) _ _ _ _ ⟨.bl _, H, I, ?_, q⟩
      show Value.bool _ = Value.bool _
      simp only [if_true]
      rw [deq] <;> first | rfl | (intros; simp_all)
  | lst ds =>
    rw [dep] at hn
    rw [DIs] at hd
    obtain ⟨a', xs, e', h1, h2⟩ := hd
    cases e'
    obtain ⟨i1, r1, t1, _⟩ := I.list h1
    cases e with
    | «at» p => rw [DIs] at he; obtain ⟨rfl, hf⟩ := he; cases hf
    | tup es =>
      rw [DIs] at he
      obtain ⟨b', ys, e', k1, k2⟩ := he
      cases e'
      obtain ⟨i2, r2, t2, _⟩ := I.tuple k1
      refine RcNeAt.list_tuple t1.isList (show s.heap.IsTuple b _ from t2) (by first | lia | omega) _ _ _ _ ⟨.bl _, H, I, ?_, q⟩
      show Value.bool _ = Value.bool _
      simp only [if_true]
      rw [deq] <;> first | rfl | (intros; simp_all)
    | lst es =>
      rw [DIs] at he
      obtain ⟨b', ys, e', k1, k2⟩ := he
      cases e'
      obtain ⟨i2, r2, t2, _⟩ := I.list k1
      have l1 := r1.length
      have l2 := r2.length
      have m1 := h2.len
      have m2 := k2.len
      by_cases hz : ds.len = es.len
      · refine RcNeAt.lists t1.isList t2.isList (by simp; first | lia | omega) (by first | lia | omega) (eqItems I h2 k2 r1 r2 (by first | lia | omega) (by first | lia | omega)) _ _ _ _ ⟨.bl _, H, I, ?_, q⟩
        show Value.bool _ = Value.bool _
        simp only [if_true]
        rw [deq, ← deqs_all, List.size_toArray, ← l1, ← m1, hz, Nat.min_self, beq_self_eq_true, Bool.and_true]
      · refine RcNeAt.lists_lengths t1.isList t2.isList (by simp; first | lia | omega) (by first | lia | omega) _ _ _ _ ⟨.bl _, H, I, ?_, q⟩
        show Value.bool _ = Value.bool _
        have e0 : (ds.len == es.len) = false := by simpa using hz
        simp only [if_true]
        rw [deq, ← deqs_all, e0, Bool.and_false]; rfl
end
end L2
namespace L2
open PySem PySem.Spec PyProof.Rows
section
variable {X : Cx} {e st : Expr} {te ts : TE} {pos p2 : Pos}
end
end L2
namespace L2
open PySem PySem.Spec PyProof.Rows
section
variable {X : Cx} {k j : Nat} {x m : Str} {C : Addr} {ps : List Str} {sp : Sp} {p pos apos : Pos} {e o : Expr} {es : List Expr} {t : TA} {ta : TE}
end
section
variable {X : Cx} {K : PySem.W.Frag} {pos : Pos}
end
end L2
namespace GB
open PySem L2
/-- the order of rectangles, as one number -/
def key : List Int → Int
  | [a, b, c, d] => ((a * 13 + b) * 13 + c) * 13 + d
  | _ => 0
end GB
namespace L2
open PySem PySem.Spec PyProof.Rows PySem.W PySem.Builtin PySem.Builtin.ObjectAttr
section
variable {prog : Program} {w : World} {A : Around} {E : Value → Shared → Prop} {R : Result → Shared → Prop} {s : Shared} {K : Frag} {x C : Addr} {ox : Obj} {od : Option Obj} {name : Str} {tk : Tok} {v : Value} {expr : Bool}
end
end L2
namespace L2
open PySem PySem.Spec PyProof.Rows PySem.W
section
variable {P : Program} {w : World} {H : Hp} {h : Heap} {x C dx : Addr} {fs : List (Str × V)}
end
section
variable {X : Cx} {pins : List (Addr × Obj)} {σ : St} {H : Hp} {s : Shared} {a C dx : Addr} {fs : List (Str × V)} {f : Str} {v : V} {A : Around} {E : Value → Shared → Prop}
end
section
variable {X : Cx}
end
section
variable {X : Cx} {o e value : Expr} {f : Str} {pos pos' : Pos} {ta tv : TE}
end
end L2
namespace L2
open PySem PySem.Spec PyProof.Rows PySem.W
section
variable {X : Cx} {CX : CXT} {k j : Nat} {f C : Addr} {fd : FuncData} {ps names : List Str} {sp : Sp} {E : XK} {x m : Str} {p pos apos : Pos} {e o : Expr} {es : List Expr} {ta : TE} {t : TA}
end
end L2
namespace L2
open PySem PySem.Spec PyProof.Rows PySem.W
section
variable {M : Model} {A : Around} {E : Value → Shared → Prop} {s : Shared} {base : Heap} {env : Env} {outer : List Env} {L e : Addr} {cls : Value} {d : Option Addr} {vs : Array Value} {sl : Array (Option Value)} {Q : Unit → Shared → Prop}
end
end L2
namespace L2
open PySem PySem.Spec PyProof.Rows PySem.W
section
variable {prog : Program} {w : World} {A : Around} {E : Value → Shared → Prop} {s : Shared} {K : Frag} {C fI e : Addr} {d : Option Addr} {env : Env}
end
end L2
namespace L2
open PySem PySem.Spec PyProof.Rows PySem.W
section
variable {X : Cx} {pins : List (Addr × Obj)} {σ : St} {H : Hp} {s : Shared} {x C T : Addr} {d : Option Addr} {h1 h2 : Heap} {fl : Value} {tt : List Addr}
end
end L2
namespace L2
open PySem PySem.Spec PyProof.Rows PySem.W
section
variable {P : Program} {w : World} {K : PySem.W.Frag} {mg : Str → Option Value} {base : Heap} {N : List Str} {qual : Str} {scope : Scope} {f : Addr} {cd : Value} {A : Around} {outer : List Env} {s : Shared} {H : Hp} {E E₁ : XK}
end
section
variable {X : Cx} {E E₁ : XK}
end
section
variable {X : Cx} {k j : Nat} {x : Str} {C : Addr} {ps names : List Str} {sp : Sp} {p pos cpos : Pos} {e : Expr} {es : List Expr} {t : TA} {E E₁ : XK}
end
end L2
namespace L2
open PySem PySem.Spec PyProof.Rows PySem.W
section
variable {X : Cx} {pins : List (Addr × Obj)} {σ : St} {H : Hp} {s : Shared}
end
end L2
namespace L2
open PySem PySem.Spec PyProof.Rows PySem.W
section
variable {X : Cx} {k j : Nat} {x : Str} {C : Addr} {ps : List Str} {sp : Sp} {p pos : Pos} {e : Expr} {es : List Expr} {t : TA} {E : XK}
end
section
variable {X : Cx} {i im : Nat} {n m g : Str} {G : Addr} {value : Expr} {b₀ : Stmt} {suite : List Stmt} {np apos gp hpos pos : Pos} {te : XK → TE} {ts : TS}
end
end L2
namespace L2
open PySem PySem.Spec PyProof.Rows
def tCompF (wi : TI) (g : TG) (tc : TT) (te : TE) (fr : List (Option Nat)) : TE := fun σ H Q => wi σ H fun J H1 => ∀ acc, H1 acc = none → ∃ W : Nat → Nat → St → Hp → Prop, (∃ m, W 0 m (stC fr σ) (upd H1 acc (.lst []))) ∧ ∀ i m σ1 H2, W i m σ1 H2 →
  (J.stop i H2 ∧ Q (.ref acc) H2) ∨ (J.go i H2 ∧ ∀ x H3, J.yld i H2 x H3 → g x σ1 H3 fun σ4 H4 => tc σ4 H4 fun b Hb => match b with
    | true => te σ4 Hb fun v H5 => ∃ xs, H5 acc = some (.lst xs) ∧ xs.length < sizeLine ∧ ∃ m', m' < m ∧ W (i + 1) m' σ4 (upd H5 acc (.lst (xs ++ [v])))
    | false => ∃ m', m' < m ∧ W (i + 1) m' σ4 Hb)
section
variable {prog : Program} {w : World} {A : Around} {R : Result → Shared → Prop} {s : Shared}
theorem compLoop_anyF {elt target iter cnd : Expr} {scope : Scope} {pos : Pos} {it acc : Value} {env : Env} (I : Nat → Shared → Prop)
    (turn : ∀ n s, I n s → wpAny (model prog w) A (pyNext it) (fun r s₁ => match r with
      | none => R (.ok .next) s₁
      | some v => wpAny (model prog w) A (letOwnedTupleGo target it v) (fun _ s₁ => wpAny (model prog w) A (assign target env v) (fun _ s₂ =>
          wpAny (model prog w) A (forIn [cnd] true fun c r => if r = true then do let ok ← isTrue c env (eval c env); pure (ForInStep.yield ok) else pure (ForInStep.yield r)) (fun ok s₃ =>
            if ok = true then wpAny (model prog w) A (eval elt env) (fun x s₄ => wpAny (model prog w) A (call (.builtin "list.append") [acc, x]) (fun _ s₅ => ∃ m, m < n ∧ I m s₅) (notedBy (model prog w) A env fun e s' => R (.error e) s') s₄)
              (notedBy (model prog w) A env fun e s' => R (.error e) s') s₃
            else ∃ m, m < n ∧ I m s₃) (notedBy (model prog w) A env fun e s' => R (.error e) s') s₂)
          (notedBy (model prog w) A env fun e s' => R (.error e) s') s₁) (notedBy (model prog w) A env fun e s' => R (.error e) s') s₁) (notedBy (model prog w) A env fun e s' => R (.error e) s') s)
    (n : Nat) (h : I n s) :
    codeAny (model prog w) A (.compLoop (.ListComp elt [⟨target, iter, [cnd], 0⟩] scope pos) 0 it acc env) R s := by
  refine codeAny_loop rfl I (fun n s hI => ?_) n h
  show wpAny _ _ ((compTurn (.ListComp elt [⟨target, iter, [cnd], 0⟩] scope pos) 0 it acc env).onRaise (fun x => do noteFrame x env; theTreesLotGoes x)) _ _ s
  refine wpAny_noted ?_
  rw [compTurn_list]
  refine wpAny_bind (wpAny_standAt (wpAny_bind (wpAny_mono (turn n s hI) (fun r s₁ h₁ => ?_) fun _ _ h' => h')))
  cases r with
  | none => exact wpAny_pure h₁
  | some v =>
    refine wpAny_bind (wpAny_mono h₁ (fun _ s₁ h₁ => ?_) fun _ _ h' => h')
    refine wpAny_bind (wpAny_mono h₁ (fun _ s₂ h₂ => wpAny_bind (wpAny_mono h₂ (fun ok s₃ h₃ => ?_) fun _ _ h' => h')) fun _ _ h' => h')
    cases ok with
    | false => exact wpAny_pure ⟨rfl, h₃⟩
    | true => exact wpAny_bind (wpAny_bind (wpAny_mono h₃ (fun x s₄ h₄ => wpAny_bind (wpAny_mono h₄ (fun _ s₅ h₅ => wpAny_pure (wpAny_pure ⟨rfl, h₅⟩)) fun _ _ h' => h')) fun _ _ h' => h'))
end
section
variable {X : Cx} {elt tg iter : Expr} {scope : Scope} {pos : Pos} {wi : TI} {g : TG} {te : TE} {N : List Str} {fr : List (Option Nat)}
variable {cnd : Expr} {tc : TT}
theorem comp_coreF {pins : List (Addr × Obj)} {σ : St} {H : Hp} {s : Shared} {Q : VK} {cl : List (Str × Addr)} {R : Value → Addr → Result → Shared → Prop} (hc : X.calm = true) (I : Inv X pins σ H s) (hi : PI X tg iter wi)
    (hg : ∀ cl C s H ex, PG (compCx X scope cl N C s H ex) tg g) (hcn : ∀ cl C s H ex, PT (compCx X scope cl N C s H ex) cnd tc) (he : ∀ cl C s H ex, PE (compCx X scope cl N C s H ex) elt te) (ck : CompChk X.env.scope X.N scope N fr)
    (c1 : ∀ x c, cl.lookup x = some c → X.env.cells.lookup x = some c) (c2 : ∀ x, (x, NameKind.free) ∈ scope.names → ∃ c, cl.lookup x = some c)
    (h : tCompF wi g tc te fr σ H Q)
    (hR : ∀ acc C s' H' m, s'.heap.Ns C m → FpOk X pins H' C → Inv X pins σ H' s' → Q (.ref acc) H' → R (.ref acc) C (.ok .next) s') :
    wpAny (model X.prog X.w) X.A (eval iter X.env) (fun x s₁ => wpAny (model X.prog X.w) X.A (pyIter x) (fun it s₂ => wpAny (model X.prog X.w) X.A (newList []) (fun acc s₃ =>
      wpAny (model X.prog X.w) X.A (newFunctionEnv scope X.env.globals cl [] X.env.qual none .none (some X.env)) (fun cenv s₄ =>
        codeAny (model X.prog X.w) X.A (.compStart (.ListComp elt [⟨tg, iter, [cnd], 0⟩] scope pos) 0 it acc { cenv with scope := relabel scope X.env }) (R acc cenv.locals) s₄) X.xe s₃) X.xe s₂) X.xe s₁) X.xe s := by
  refine thn (hi pins s σ H _ I h) fun v s1 h1 => thn h1 fun itv s2 h2 => ?_
  obtain ⟨it, fp, tn, J, H2, e, I2, T, st2, f2, q2⟩ := h2
  subst e
  refine wpAny_newObj_type (wpAny_newFunctionEnv ck.nocell (by intro y hy; simp at hy) (fun h₁ hns₁ hsb₁ => ?_) ck.kind)
  dsimp only at hns₁ hsb₁ ⊢
  have I3 : Inv X pins σ (upd H2 s2.heap.objs.size (.lst [])) { s2 with heap := s2.heap.push { cls := .type "list", dict := none, data := .seq ([] : List Value).toArray } } := I2.lnew (t' := s2.toks) (its := []) .nil (Nat.zero_le _)
  have acc0 : H2 s2.heap.objs.size = none := I2.fresh
  obtain ⟨W, ⟨m0, w0⟩, turn⟩ := q2 s2.heap.objs.size acc0
  generalize hH3 : s2.heap.push { cls := .type "list", dict := none, data := .seq ([] : List Value).toArray } = h3 at hns₁ hsb₁ I3 ⊢
  have hz3 : h3.objs.size = s2.heap.objs.size + 1 := by rw [← hH3, Heap.size_push]
  have k23 : ∀ b o, s2.heap.get? b = some o → h3.get? b = some o := fun b o e => by rw [← hH3]; exact Heap.get?_push_of_some _ e
  have k34 : ∀ b o, h3.get? b = some o → h₁.get? b = some o := fun b o e => hsb₁.extBut b o (Nat.ne_of_lt (Heap.lt_size e)) (Heap.get?_push_of_some _ e)
  have fpo : ∀ b ∈ fp, ∃ o, s2.heap.get? b = some o ∧ ∀ v, o.data ≠ .cell v := T.obj 0 _ st2
  have hex : ∀ b ∈ fp, FpOk X pins (upd H2 s2.heap.objs.size (.lst [])) b ∧ b < h3.objs.size := fun b hb => by
    obtain ⟨o, eo, _⟩ := fpo b hb
    have lt := Heap.lt_size eo
    obtain ⟨f0, fr'⟩ := f2 b hb
    exact ⟨⟨by rw [upd_ne (Nat.ne_of_lt lt)]; exact f0, fr'⟩, by rw [hz3]; exact Nat.lt_succ_of_lt lt⟩
  have I4 : Inv (compCx X scope cl N h3.objs.size { s2 with heap := h3 } (upd H2 s2.heap.objs.size (.lst [])) fp) [] (stC fr σ) (upd H2 s2.heap.objs.size (.lst [])) { s2 with heap := h₁, toks := s2.toks + ([] : List (Str × Value)).length } :=
    comp_entry I3 ck c1 c2 hex (Nat.le_refl _) hns₁ k34 rfl rfl
  have stat : ∀ {H' : Hp}, (∀ b ∈ fp, H' b = none) → ∀ b ∈ fp, FpOk (compCx X scope cl N h3.objs.size { s2 with heap := h3 } (upd H2 s2.heap.objs.size (.lst [])) fp) [] H' b := fun hn b hb =>
    ⟨hn b hb, (I4.ok.exf b hb).1, I4.ok.exfs b hb, .inl hb, (I4.ok.exf b hb).2, fun p hp => by simp at hp⟩
  have stn : ∀ i h h', tn i h → (∀ b o, h.get? b = some o → h'.get? b = some o) → tn i h' := fun i h h' st kk => T.keep i h h' st fun b _ o e => kk b o e
  have loop : codeAny (model X.prog X.w) X.A (.compLoop (.ListComp elt [⟨tg, iter, [cnd], 0⟩] scope pos) 0 (.ref it) (.ref s2.heap.objs.size) (compEnvC scope cl h3.objs.size X.env)) (R (.ref s2.heap.objs.size) h3.objs.size)
      { s2 with heap := h₁, toks := s2.toks + ([] : List (Str × Value)).length } := by
    refine compLoop_anyF (fun n s' => ∃ i σ' H', Inv (compCx X scope cl N h3.objs.size { s2 with heap := h3 } (upd H2 s2.heap.objs.size (.lst [])) fp) [] σ' H' s' ∧ tn i s'.heap ∧ (∀ b ∈ fp, H' b = none) ∧ W i n σ' H') ?_ m0
      ⟨0, _, _, I4, stn _ _ _ st2 fun b o e => k34 b o (k23 b o e), fun b hb => (hex b hb).1.1, w0⟩
    rintro n s3 ⟨i, σ3, H3, J3, st3, fr3, w3⟩
    rcases turn i n σ3 H3 w3 with ⟨stop, qn⟩ | ⟨go, step⟩
    · refine wpFalse (thn (T.done (compCx X scope cl N h3.objs.size { s2 with heap := h3 } (upd H2 s2.heap.objs.size (.lst [])) fp) rfl rfl rfl hc i [] s3 σ3 H3 (fun _ _ => False) J3 (stat fr3) st3 stop) fun r s4 ⟨hr, J4⟩ => ?_)
      subst hr
      obtain ⟨mc, hmc, _⟩ := J4.loc
      have I5 : Inv X pins σ H3 s4 := I3.call' (ch := fp) J4.os J4.base J4.hok J4.bare fun b hb => ⟨(hex b hb).1.2.2.2.1, (hex b hb).1.2.1, (hex b hb).1.2.2.2.2.1, (hex b hb).1.2.2.2.2.2⟩
      exact hR _ _ s4 H3 mc hmc (I3.fpOk (Nat.le_refl _) J4.free) I5 qn
    · refine wpFalse (thn (T.item (compCx X scope cl N h3.objs.size { s2 with heap := h3 } (upd H2 s2.heap.objs.size (.lst [])) fp) rfl rfl rfl hc i [] s3 σ3 H3 (fun _ _ => False) J3 (stat fr3) st3 go) fun r s4 ⟨u, hr, h4⟩ => ?_)
      subst hr
      refine wpFalse (thn h4 fun _ s5 ⟨x, H5, J5, r5, y5, st5, fr5⟩ => ?_)
      have J5' := J5.pinned (stat fr5) (T.obj _ _ st5)
      refine wpFalse (thn (hg _ _ _ _ _ _ s5 σ3 H5 x u _ J5' r5 (step x H5 y5)) fun _ s6 ⟨σ6, H6, J6, q6⟩ => ?_)
      refine wpAny_tests_one (wpFalse (thn (hcn _ _ _ _ _ _ s6 σ6 H6 _ J6 q6) fun b sb ⟨Hb, Jb, qb⟩ => ?_))
      cases b with
      | false =>
        obtain ⟨m', hm', w7⟩ := qb
        refine ite_ff ⟨m', hm', i + 1, σ6, _, Jb.unpinned, T.keep _ _ _ st5 fun b hb o e => (Jb.pin (b, o) (List.mem_append_right _ (List.mem_append_right _ (mem_pinsAt hb e)))).1, fun b hb => ?_, w7⟩
        obtain ⟨o, e, d⟩ := T.obj _ _ st5 b hb
        exact (Jb.pin (b, o) (List.mem_append_right _ (List.mem_append_right _ (mem_pinsAt hb e)))).2.1
      | true =>
        refine ite_tt ?_
        refine wpFalse (thn (he _ _ _ _ _ _ sb σ6 Hb _ Jb qb) fun y s7 ⟨v7, H7, J7, r7, xs, hx, hz, m', hm', w7⟩ => ?_)
        refine wpFalse (thn (mt_append _ s7 σ6 H7 (.ref s2.heap.objs.size) [v7] (.ref s2.heap.objs.size) [y] (fun v H8 => H8 = upd H7 s2.heap.objs.size (.lst (xs ++ [v7]))) J7 rfl (.cons r7 .nil) ⟨_, xs, v7, rfl, rfl, hx, hz, rfl⟩) fun _ s8 ⟨_, H8, J8, _, e8⟩ => ?_)
        subst e8
        refine ⟨m', hm', i + 1, σ6, _, J8.unpinned, T.keep _ _ _ st5 fun b hb o e => (J8.pin (b, o) (List.mem_append_right _ (List.mem_append_right _ (mem_pinsAt hb e)))).1, fun b hb => ?_, w7⟩
        obtain ⟨o, e, d⟩ := T.obj _ _ st5 b hb
        exact (J8.pin (b, o) (List.mem_append_right _ (List.mem_append_right _ (mem_pinsAt hb e)))).2.1
  exact codeAny_compStart_list loop (T.self _ 0 _ _ _ (stn _ _ _ st2 fun b o e => k34 b o (k23 b o e)) loop)

theorem pe_compF (hc : X.calm = true) (hi : PI X tg iter wi) (hg : ∀ cl C s H ex, PG (compCx X scope cl N C s H ex) tg g) (hcn : ∀ cl C s H ex, PT (compCx X scope cl N C s H ex) cnd tc) (he : ∀ cl C s H ex, PE (compCx X scope cl N C s H ex) elt te)
    (hk : compChk X.env.scope X.N scope N fr = true := by rfl) (hs : ∀ x, foldedSetIterable iter X.env x = pure x := by intro _; rfl) : PE X (.ListComp elt [⟨tg, iter, [cnd], 0⟩] scope pos) (tCompF wi g tc te fr) := by
  intro pins s σ H Q I h
  have ck := compChk_of hk
  obtain ⟨cl, e1, c1, c2⟩ := comp_cl I.ok ck
  rw [eval_ListComp]
  refine wpAny_comprehension_free (use := none) (Q := EP X pins σ Q) rfl hs e1 ck.kind ck.loc (comp_coreF (R := fun acc C => compPost (model X.prog X.w) X.A X.xe none (EP X pins σ Q) acc C) hc I hi hg hcn he ck c1 c2 h fun acc C s' H' m hn f I' q => ?_)
  obtain ⟨f0, f1, f2, f3, f4, f5⟩ := f
  exact ⟨m, hn, fun h' hs' => ⟨.ref acc, H', I'.turned (t' := s'.toks) (fun b o hb e => hs'.extBut b o hb e) f0 f1 f3 f4 f5, rfl, q⟩⟩

end
end L2
namespace L2
open PySem PySem.Spec PyProof.Rows
section
variable {X : Cx} {a b c d : Expr} {ta tb tc td : TE} {pos : Pos}
theorem ix_tupK {K : PySem.W.Frag} (hK : X.K = K := by rfl) : IxR X (rIxT K) := by subst hK; exact ix_tup
theorem ix_listK {K : PySem.W.Frag} (hK : X.K = K := by rfl) : IxR X (rIxL K) := by subst hK; exact ix_list
end
/-- the invariant of a comprehension with a condition -/
def fW (acc : Addr) (n : Nat) (Pv : Nat → List V → St → Hp → Prop) (i m : Nat) (σ : St) (H : Hp) : Prop := i ≤ n ∧ m = n - i ∧ ∃ xs, xs.length ≤ i ∧ H acc = some (.lst xs) ∧ Pv i xs σ H
def fNx (acc : Addr) (n : Nat) (Pv : Nat → List V → St → Hp → Prop) (i : Nat) (σ : St) (v : V) (H : Hp) : Prop := ∃ xs, H acc = some (.lst xs) ∧ xs.length < sizeLine ∧ ∃ m', m' < n - i ∧ fW acc n Pv (i + 1) m' σ (upd H acc (.lst (xs ++ [v])))
def fSk (acc : Addr) (n : Nat) (Pv : Nat → List V → St → Hp → Prop) (i : Nat) (σ : St) (H : Hp) : Prop := ∃ m', m' < n - i ∧ fW acc n Pv (i + 1) m' σ H
theorem fNx.mk {acc : Addr} {n : Nat} {Pv : Nat → List V → St → Hp → Prop} {i : Nat} {σ : St} {v : V} {H : Hp} {xs : List V} (hn : n ≤ sizeLine) (hi : i < n) (hl : xs.length ≤ i) (ha : H acc = some (.lst xs)) (hp : Pv (i + 1) (xs ++ [v]) σ (upd H acc (.lst (xs ++ [v])))) :
    fNx acc n Pv i σ v H := ⟨xs, ha, by first | lia | omega, n - (i + 1), by first | lia | omega, hi, rfl, xs ++ [v], by rw [List.length_append, List.length_singleton]; first | lia | omega, upd_same, hp⟩
theorem fSk.mk {acc : Addr} {n : Nat} {Pv : Nat → List V → St → Hp → Prop} {i : Nat} {σ : St} {H : Hp} {xs : List V} (hi : i < n) (hl : xs.length ≤ i) (ha : H acc = some (.lst xs)) (hp : Pv (i + 1) xs σ H) : fSk acc n Pv i σ H := ⟨n - (i + 1), by first | lia | omega, hi, rfl, xs, by first | lia | omega, ha, hp⟩
theorem comp_listF {K : PySem.W.Frag} {a : Addr} {ys : List V} {g : TG} {tc : TT} {te : TE} {σ : St} {H1 : Hp} {acc : Addr} {Qr : Hp → Prop} (Pv : Nat → List V → St → Hp → Prop) (h0 : Pv 0 [] σ (upd H1 acc (.lst [])))
    (hq : ∀ i xs σ H, i ≤ ys.length → H acc = some (.lst xs) → Pv i xs σ H → SqL K H a ys)
    (hs : ∀ i x xs σ H, ys[i]? = some x → i < ys.length → xs.length ≤ i → H acc = some (.lst xs) → Pv i xs σ H → g x σ H fun σ2 H2 => tc σ2 H2 fun b Hb => match b with
      | true => te σ2 Hb fun v H3 => fNx acc ys.length Pv i σ2 v H3
      | false => fSk acc ys.length Pv i σ2 Hb)
    (hd : ∀ xs σ H, xs.length ≤ ys.length → H acc = some (.lst xs) → Pv ys.length xs σ H → Qr H) :
    ∃ W : Nat → Nat → St → Hp → Prop, (∃ m, W 0 m σ (upd H1 acc (.lst []))) ∧ ∀ i m σ1 H2, W i m σ1 H2 →
      ((Itl K a).stop i H2 ∧ Qr H2) ∨ ((Itl K a).go i H2 ∧ ∀ x H3, (Itl K a).yld i H2 x H3 → g x σ1 H3 fun σ4 H4 => tc σ4 H4 fun b Hb => match b with
        | true => te σ4 Hb fun v H5 => ∃ xs, H5 acc = some (.lst xs) ∧ xs.length < sizeLine ∧ ∃ m', m' < m ∧ W (i + 1) m' σ4 (upd H5 acc (.lst (xs ++ [v])))
        | false => ∃ m', m' < m ∧ W (i + 1) m' σ4 Hb) := by
  refine ⟨fW acc ys.length Pv, ⟨ys.length, Nat.zero_le _, rfl, [], Nat.le_refl _, upd_same, h0⟩, ?_⟩
  rintro i m σ1 H2 ⟨hi, rfl, xs, hl, ha, hp⟩
  have hsq := hq i xs σ1 H2 hi ha hp
  rcases Nat.lt_or_ge i ys.length with h | h
  · refine .inr ⟨⟨ys, ys[i], hsq, List.getElem?_eq_getElem h⟩, ?_⟩
    rintro x H3 ⟨rfl, hx⟩
    exact hs i x xs σ1 H3 (hx ys hsq) h hl ha hp
  · have e : i = ys.length := Nat.le_antisymm hi h
    subst e
    exact .inl ⟨⟨ys, hsq, Nat.le_refl _⟩, hd xs σ1 H2 hl ha hp⟩
end L2
namespace L2
open PySem PySem.Spec PyProof.Rows PySem.W
section
variable {X : Cx}
end
end L2
namespace L2
open PySem PySem.Spec PyProof.Rows
theorem Paired.get {α β : Type} {F : α → β → Prop} : ∀ {l₁ : List α} {l₂ : List β}, Paired F l₁ l₂ → ∀ {i : Nat} {a : α}, l₁[i]? = some a → ∃ b, l₂[i]? = some b ∧ F a b
  | _, _, .nil, i, a, h => by simp at h
  | _, _, .cons f t, 0, a, h => by
    simp only [List.getElem?_cons_zero, Option.some.injEq] at h
    subst h
    exact ⟨_, rfl, f⟩
  | _, _, .cons f t, i + 1, a, h => by
    simp only [List.getElem?_cons_succ] at h ⊢
    exact Paired.get t h
section
variable {X : Cx}
end
section
variable {X : Cx}
end
section
variable {prog : Program} {w : World} {A : Around} {E : Value → Shared → Prop} {s : Shared}
end
section
variable {X : Cx}
end
section
variable {prog : Program} {w : World} {A : Around} {E : Value → Shared → Prop} {s : Shared} {R : Result → Shared → Prop} {I : Addr} {fp wr : List Addr} {n : Nat} {P : Nat → Value → Prop} {St : Nat → Heap → Prop}
end
section
variable {X : Cx}
end
section
variable {X : Cx} {a : Expr} {ta : TE}
end
end L2
namespace L2
open PySem PySem.Spec PyProof.Rows
section
variable {X : Cx}
end
end L2
namespace L2
open PySem PySem.Spec PyProof.Rows
def tFnv (mg : Str → Option Value) (x : Str) (tv : TE) (sp : Sp) (t : TA) : TE := fun σ H Q => tv σ H fun v H1 => (∃ f, v = .ref f ∧ mg x = some (.ref f)) ∧ tCall sp [] E0 t σ H1 Q
section
variable {X : Cx} {k j : Nat} {x y : Str} {ps : List Str} {sp : Sp} {p pos : Pos} {e : Expr} {es : List Expr} {tv : TE} {t : TA}
theorem pe_fnv (D : DefOk X.prog X.w X.K X.mg X.base k x ps sp) (hr : Room j X.A) (hv : PE X (.Name y p) tv) (ha : PA X (e :: es) t) (hj : k ≤ j := by decide)
    (he : starEach (e :: es) X.env = (false, eval e X.env) :: starEach es X.env := by rfl) (hpl : (backTo pos (starEach es X.env)).any (·.1) = false := by rfl) : PE X (.Call (.Name y p) (e :: es) [] pos) (tFnv X.mg x tv sp t) := by
  intro pins s σ H Q I h
  obtain ⟨f, fd, F, hm, hk, hb⟩ := D.ex
  refine wpAny_Call_Name_kw (thn (hv pins s σ H _ I h) fun u s1 ⟨v, H1, I1, r1, ⟨f', e1, e2⟩, q1⟩ => ?_)
  subst e1
  cases r1
  rw [hm] at e2
  cases e2
  refine PySem.W.callWith_K (h₀ := X.base) I1.ok.mod.kin hk (thn (ha pos pins s1 σ H1 _ I1 q1) fun us s2 ⟨vs, H2, I2, r, q⟩ => ⟨I2.kIn, ?_⟩) he hpl
  exact run_fn F (hr.mono hj) hb .nil pass0 I2 r q
end
section
variable {prog : Program} {w : World} {A : Around} {E : Value → Shared → Prop} {s : Shared} {it d v : Addr} {i n ep : Nat} {od : Obj} {es : Array DictEntry} {k0 v0 : Value}
theorem items_made {Q : Value → Shared → Prop} (hs : (d == sysModules) = false) (hT : s.TypeIs (.ref d) "dict")
    (fin : Q (.ref s.heap.objs.size) { s with heap := s.heap.push { cls := .type "dict_items", data := .fields #[.ref d] } }) : wpAny (model prog w) A (call (.builtin "dict.items") [.ref d]) Q E s := by
  refine wpAny_call_entry PySem.F.slot_dict_items hT PySem.F.entry_dict_items ?_ (PySem.F.args_dict_items_1 _)
  unfold Builtin.«dict.items» Builtin.Dict.noArgs
  refine wpAny_bind (wpAny_bind (wpAny_notOrdered_dict hT ?_))
  show wpAny (model prog w) _ (pure d) _ _ s
  refine wpAny_pure ?_
  unfold Builtin.Dict.showsAll
  have no : ¬ (d == sysModules) = true := by rw [hs]; exact Bool.false_ne_true
  rw [if_neg no]
  exact wpAny_bind (wpAny_pure (wpAny_bind (wpAny_newObj_type (wpAny_pure ⟨_, rfl, fin⟩))))
theorem items_begun {Q : Value → Shared → Prop} (hv : s.heap.IsItemsView v d) (hd : s.heap.get? d = some od) (dd : od.data = .dict es ep) (hn : es.size = n)
    (fin : Q (.ref s.heap.objs.size) { s with heap := s.heap.push { cls := .type "dict_itemiterator", data := .fields #[.none, .bool false, .ref d, .int 0 0, .int n 0, .int ep 0, .none, .none] } }) :
    wpAny (model prog w) A (pyIter (.ref v)) Q E s := by
  obtain ⟨ov, g1, g2, g3⟩ := id hv
  refine wpAny_pyIter_slot hv.typeIs PySem.F.slot_dict_items_iter (wpAny_call_entry PySem.F.slot_dict_items_iter hv.typeIs PySem.F.entry_dict_items_iter ?_ (PySem.F.args_dict_items_iter_1 _))
  unfold Builtin.«dict_items.__iter__» Builtin.Dict_items.dictOf Builtin.Dict_items.newIterator
  refine wpAny_bind (wpAny_pure (wpAny_bind (wpAny_bind (wpAny_field g1 g3 (x := .ref d) rfl (wpAny_pure ?_)))))
  refine wpAny_bind (wpAny_bind (wpAny_dictEntries hd dd (wpAny_bind (wpAny_dictEpoch hd dd ?_))))
  have own : Builtin.Dict_items.ownsTuple "dict_itemiterator" = true := by decide
  simp only [own, if_true]
  refine wpAny_newObj_type (wpAny_pure ⟨_, rfl, "dict_itemiterator", _, ⟨_, Heap.get?_push_size _ rfl, rfl⟩, PySem.F.slot_dict_itemiterator_next.lookup, ?_⟩) ?_
  · subst hn
    simpa [rawInt, Builtin.Dict_items.ownedTupleFields] using fin
  · simp only [sizeOk, Builtin.Dict_items.ownedTupleFields, List.size_toArray, List.length_append, List.length_cons, List.length_nil, sizeLine_eq]
    first | lia | omega
theorem next_pair {e : DictEntry} {Q : Option Value → Shared → Prop} (g : IsItemIter s.heap it d i n ep k0 v0) (hd : s.heap.get? d = some od) (dd : od.data = .dict es ep) (hn : es.size = n) (he : es[i]? = some e)
    (fin : ∀ h', IsItemIterOut h' it d (i + 1) n ep e.key e.val s.heap.objs.size → h'.get? s.heap.objs.size = some { cls := .type "tuple", data := .seq #[e.key, e.val] } →
      (∀ b o, b ≠ it → s.heap.get? b = some o → h'.get? b = some o) → Q (some (.ref s.heap.objs.size)) { s with heap := h' }) : wpAny (model prog w) A (pyNext (.ref it)) Q E s := by
  obtain ⟨hp, gs, dr, tk, os⟩ := s
  have ty : Shared.TypeIs ⟨hp, gs, dr, tk, os⟩ (.ref it) "dict_itemiterator" := ⟨_, g, rfl⟩
  have lt := (Array.getElem?_eq_some_iff.mp he).1
  unfold pyNext
  refine wpAny_bind (wpAny_attempt (wpAny_callSpecial?_slot (name := Str.ofString "__next__") ty PySem.F.slot_dict_itemiterator_next (wpAny_call_entry PySem.F.slot_dict_itemiterator_next ty PySem.F.entry_dict_itemiterator_next ?_ (PySem.F.args_dict_itemiterator_next_1 _))))
  refine wpAny_bind (wpAny_pure (wpAny_bind (wpAny_bind ?_)))
  first | refine wpAny_bind (wpAny_typeNameOfWhole_itemiter ty (wpAny_pure ?_)) | refine wpAny_bind (wpAny_typeNameOf_itemiter ty (wpAny_pure ?_))
  refine wpAny_bind (wpAny_fieldsOf g rfl ?_)
  have own : Builtin.Dict_items.ownsTuple "dict_itemiterator" = true := by decide
  have nn : ¬ ((Value.ref d == Value.none) = true) := Bool.false_ne_true
  simp only [own, if_true]
  show wpAny (model prog w) _ (if (Value.ref d == Value.none) = true then _ else _) _ _ _
  rw [if_neg nn]
  refine wpAny_bind (wpAny_pure (wpAny_bind (wpAny_dictEntries hd dd ?_)))
  rw [if_neg (by rw [hn]; simp)]
  refine wpAny_bind (wpAny_pure (wpAny_bind (wpAny_dictEpoch hd dd ?_)))
  rw [if_neg (by simp)]
  refine wpAny_pure ?_
  simp only [show ¬ ((i : Int) < 0) from by first | lia | omega, if_false, Int.toNat_natCast, he]
  refine wpAny_bind ?_
  first | refine wpAny_bind (wpAny_typeNameOfWhole_itemiter ty (wpAny_pure ?_)) | refine wpAny_bind (wpAny_typeNameOf_itemiter ty (wpAny_pure ?_))
  refine wpAny_bind (wpAny_isOneOf_itemiter ty ?_)
  show wpAny (model prog w) _ (setField (.ref it) 3 (rawInt ((i : Int) + 1)) >>= _) _ _ ⟨hp, gs, dr, tk, os⟩
  refine wpAny_bind (wpAny_setField_rec g (by simp) fun h1 g1 b1 => ?_)
  replace b1 : Heap.SameBut it hp h1 := b1
  replace g1 : IsItemIter h1 it d (i + 1) n ep k0 v0 := by
    have z : ((i + 1 : Nat) : Int) = (i : Int) + 1 := by first | lia | omega
    unfold IsItemIter; rw [z]; simpa [rawInt] using g1
  have ty1 : Shared.TypeIs ⟨h1, gs, dr, tk, os⟩ (.ref it) "dict_itemiterator" := ⟨_, g1, rfl⟩
  refine wpAny_bind (wpAny_holding (wpAny_bind (wpAny_isOneOf_itemiter ty1 (wpAny_bind (wpAny_isOneOf_itemiter ty1 ?_)))))
  show wpAny (model prog w) _ (Builtin.Dict_items.pairFromOwner (.ref it) 6 e.key e.val) _ _ ⟨h1, gs, dr, tk, os⟩
  unfold Builtin.Dict_items.pairFromOwner Builtin.Dict_items.ownedTupleIsFree
  refine wpAny_bind (wpAny_newTuple ?_)
  have z1 : h1.objs.size = hp.objs.size := b1.1
  have il : it < hp.objs.size := Heap.lt_size g
  obtain ⟨h2, e2⟩ : ∃ h2, h2 = h1.push { cls := .type "tuple", data := .seq #[e.key, e.val] } := ⟨_, rfl⟩
  have g2 : IsItemIter h2 it d (i + 1) n ep k0 v0 := by rw [e2]; exact Heap.get?_push_of_some _ g1
  have t2 : h2.get? hp.objs.size = some { cls := .type "tuple", data := .seq #[e.key, e.val] } := by rw [e2, ← z1]; exact Heap.get?_push_size _ rfl
  have k2 : ∀ b o, b ≠ it → hp.get? b = some o → h2.get? b = some o := fun b o nb q => by rw [e2]; exact Heap.get?_push_of_some _ (b1.extBut b o nb q)
  show wpAny (model prog w) _ _ _ _ ⟨h1.push { cls := .type "tuple", data := .seq #[e.key, e.val] }, gs, dr, tk, os⟩
  rw [z1, ← e2]
  clear e2 g1 b1 ty1 z1
  refine wpAny_bind (wpAny_bind (wpAny_field g2 rfl (x := .none) rfl (wpAny_pure ?_)))
  simp only [if_true]
  refine wpAny_bind (wpAny_field g2 rfl (x := k0) rfl (wpAny_bind (wpAny_field g2 rfl (x := v0) rfl ?_)))
  refine wpAny_bind (wpAny_setField_rec g2 (by simp) fun h3 g3 b3 => ?_)
  replace b3 : Heap.SameBut it h2 h3 := b3
  replace g3 : IsItemIter h3 it d (i + 1) n ep e.key v0 := g3
  refine wpAny_bind (wpAny_setField_rec g3 (by simp) fun h4 g4 b4 => ?_)
  replace b4 : Heap.SameBut it h3 h4 := b4
  replace g4 : IsItemIter h4 it d (i + 1) n ep e.key e.val := g4
  refine wpAny_bind (wpAny_setField_rec g4 (by simp) fun h5 g5 b5 => ?_)
  replace b5 : Heap.SameBut it h4 h5 := b5
  replace g5 : IsItemIterOut h5 it d (i + 1) n ep e.key e.val hp.objs.size := g5
  refine wpAny_bind (wpAny_setField_rec g5 (by simp) fun h6 g6 b6 => ?_)
  replace b6 : Heap.SameBut it h5 h6 := b6
  have far : ∀ b o, b ≠ it → h2.get? b = some o → h6.get? b = some o := fun b o nb q => b6.extBut b o nb (b5.extBut b o nb (b4.extBut b o nb (b3.extBut b o nb q)))
  exact wpAny_bind (wpAny_letGo (wpAny_pure (wpAny_pure ⟨_, rfl, wpAny_pure (fin h6 g6 (far _ _ (Nat.ne_of_gt il) t2) fun b o nb q => far b o nb (k2 b o nb q))⟩)))
theorem next_none {Q : Option Value → Shared → Prop} (hh : A.handled = none) (g : IsItemIter s.heap it d i n ep k0 v0) (hd : s.heap.get? d = some od) (dd : od.data = .dict es ep) (hn : es.size = n) (he : n ≤ i)
    (fin : ∀ h', Heap.ExtBut it s.heap h' → Q none { s with heap := h' }) : wpAny (model prog w) A (pyNext (.ref it)) Q E s := by
  have ty : s.TypeIs (.ref it) "dict_itemiterator" := ⟨_, g, rfl⟩
  unfold pyNext
  refine wpAny_bind (wpAny_attempt (wpAny_callSpecial?_slot (name := Str.ofString "__next__") ty PySem.F.slot_dict_itemiterator_next (wpAny_call_entry PySem.F.slot_dict_itemiterator_next ty PySem.F.entry_dict_itemiterator_next ?_ (PySem.F.args_dict_itemiterator_next_1 _))))
  refine wpAny_bind (wpAny_pure (wpAny_bind (wpAny_bind ?_)))
  first | refine wpAny_bind (wpAny_typeNameOfWhole_itemiter ty (wpAny_pure ?_)) | refine wpAny_bind (wpAny_typeNameOf_itemiter ty (wpAny_pure ?_))
  refine wpAny_bind (wpAny_fieldsOf g rfl ?_)
  have own : Builtin.Dict_items.ownsTuple "dict_itemiterator" = true := by decide
  have nn : ¬ ((Value.ref d == Value.none) = true) := Bool.false_ne_true
  simp only [own, if_true]
  show wpAny (model prog w) _ (if (Value.ref d == Value.none) = true then _ else _) _ _ s
  rw [if_neg nn]
  refine wpAny_bind (wpAny_pure (wpAny_bind (wpAny_dictEntries hd dd ?_)))
  rw [if_neg (by rw [hn]; simp)]
  refine wpAny_bind (wpAny_pure (wpAny_bind (wpAny_dictEpoch hd dd ?_)))
  rw [if_neg (by simp)]
  refine wpAny_pure ?_
  have off : es[i]? = none := Array.getElem?_eq_none (by first | lia | omega)
  simp only [show ¬ ((i : Int) < 0) from by first | lia | omega, if_false, Int.toNat_natCast, off]
  refine wpAny_bind ?_
  first | refine wpAny_bind (wpAny_typeNameOfWhole_itemiter ty (wpAny_pure ?_)) | refine wpAny_bind (wpAny_typeNameOf_itemiter ty (wpAny_pure ?_))
  show wpAny (model prog w) _ (setField (.ref it) 2 .none >>= _) _ _ s
  refine wpAny_bind (wpAny_setField g rfl (by simp) ?_)
  show wpAny (model prog w) _ (newExc (.type "StopIteration") [] >>= _) _ _ _
  refine wpAny_bind ?_
  simp only [newExc, newTuple]
  refine wpAny_bind (wpAny_newObj_type (wpAny_bind (m := firstArgMember _ _) (wpAny_of_eq (a := Value.none) (by first | rfl | (simp only [firstArgMember]; rfl)) (wpAny_newObj_type ?_ (by size_fits)))) (by size_fits))
  simp only [raiseNew]
  refine wpAny_bind (wpAny_handled ?_)
  have hh1 : A.in1.handled = none := hh
  rw [hh1]
  refine wpAny_bind (wpAny_pure (wpAny_throw ?_))
  refine wpAny_bind (wpAny_isInstance (T := "StopIteration") (b := true) ⟨_, Heap.get?_push_size _ rfl, rfl⟩ isSubtype_stop ?_)
  exact wpAny_pure (fin _ (((Heap.SameBut.update ..).extBut.push _).push _))
end
/-- the dict at a, kept as ob while it is walked; at each turn a new tuple of a key's own object and the value -/
def Itn (a : Addr) (ob : Obj) : It :=
  ⟨fun i H => ∃ kvs p, H a = some (.frz ob (.dT kvs)) ∧ kvs[i]? = some p,
   fun i H y H' => ∃ t b p, (∀ kvs, H a = some (.frz ob (.dT kvs)) → kvs[i]? = some p) ∧ H b = some (.tup (p.1.map kV)) ∧ y = .ref t ∧ H t = none ∧ H' = upd H t (.tup [.ref b, p.2]),
   fun i H => ∃ kvs, H a = some (.frz ob (.dT kvs)) ∧ kvs.length ≤ i⟩
theorem frzT_at {P : Program} {w : World} {H : Hp} {h : Heap} {a : Addr} {ob : Obj} {kvs : List (List Key × V)} {ents : Array DictEntry} {ep : Nat} (ok : HOk P w H h) (e : H a = some (.frz ob (.dT kvs))) (hd : ob.data = .dict ents ep) :
    h.get? a = some ob ∧ ∃ xs, KT H kvs xs ∧ ents.toList = xs.map (entryOfKey (tupleKind (mixKind P w))) ∧ ents.size = kvs.length := by
  obtain ⟨ho, _, _, xs, rel, o, es, ep', h1, h2, h3, h4, h5⟩ := (show ObjOk P w H h a (.frz ob (.dT kvs)) from ok a _ e)
  rw [ho] at h1
  cases h1
  rw [hd] at h3
  cases h3
  refine ⟨ho, xs, rel, h4, ?_⟩
  rw [size_of_entries h4]
  exact (Paired.length rel).symm
theorem turn_itemsT {P : Program} {w : World} {K : PySem.W.Frag} {es : List Expr} {k : Nat} {pos : Pos} (a it : Addr) {ob : Obj} {ents : Array DictEntry} {n ep : Nat} (hd : ob.data = .dict ents ep) (hn : ents.size = n) :
    Turn P w K (.Tuple es k pos) (Itn a ob) [it] it (fun i h => ∃ ok ov, IsItemIter h it a i n ep ok ov) where
  mem := by simp
  obj := fun i h st b hb => by
    obtain ⟨ok, ov, he⟩ := st
    rw [List.mem_singleton.mp hb]
    exact ⟨_, he, fun v z => by
      have z' : Data.fields _ = Data.cell v := z
      cases z'⟩
  keep := fun i h h' st kk => by
    obtain ⟨ok, ov, he⟩ := st
    exact ⟨ok, ov, kk it (by simp) _ he⟩
  item := by
    intro X hP hw hK hc i pins s σ H E I hf st hg
    subst hP hw hK
    obtain ⟨ok, ov, he⟩ := st
    obtain ⟨kvs, p, hq, hx⟩ := hg
    obtain ⟨ho, xs, rel, hes, hl⟩ := frzT_at I.hok hq hd
    obtain ⟨⟨k', b, u⟩, hu, hk', hb, ru⟩ := Paired.get rel hx
    have fi := hf it (by simp)
    have hei : ents[i]? = some ⟨(tupleKind (mixKind X.prog X.w)).hash k', .ref b, u⟩ := by rw [entry_at hes i, hu]; rfl
    refine next_pair he ho hd hn hei fun h' ho' hT kk => ?_
    refine ⟨_, rfl, ?_⟩
    have hfr : H s.heap.objs.size = none := I.hok.fresh (Nat.le_refl _)
    have ltI : it < s.heap.objs.size := Heap.lt_size he
    have I1 : Inv X pins σ (upd H s.heap.objs.size (.tup [.ref b, p.2])) { s with heap := h', toks := s.toks } := by
      refine enum_step I fi fi (fun b o nb _ z => kk b o nb z) ⟨_, ho'⟩ ⟨_, ho'⟩ ⟨?_, [.ref b, u], .cons rfl (.cons ru .nil), ⟨_, hT, rfl, _, rfl⟩⟩
      show 2 ≤ sizeLine
      decide
    refine wpAny_letOwnedTupleGo_items (s := { s with heap := h' }) ho' fun h2 he2 sb => ?_
    have nI : it ≠ s.heap.objs.size := Nat.ne_of_lt ltI
    have fi2 : (upd H s.heap.objs.size (.tup [.ref b, p.2])) it = none := by rw [upd_ne nI]; exact fi.1
    have I2 : Inv X pins σ (upd H s.heap.objs.size (.tup [.ref b, p.2])) { ({ s with heap := h', toks := s.toks } : Shared) with heap := h2, toks := s.toks } :=
      I1.turned (t' := s.toks) (it := it) (fun b o hb z => (sb.2 b hb).trans z) fi2 fi.2.1 fi.2.2.2.1 fi.2.2.2.2.1 fi.2.2.2.2.2
    refine ⟨.ref s.heap.objs.size, _, I2, rfl, ⟨_, b, p, fun ys hy => ?_, hb, rfl, hfr, rfl⟩, ⟨_, _, he2⟩, fun b hb => ?_⟩
    · rw [hq] at hy
      cases hy
      exact hx
    · rw [List.mem_singleton.mp hb]; exact fi2
  done := by
    intro X hP hw hK hc i pins s σ H E I hf st hg
    subst hP hw hK
    obtain ⟨ok, ov, he⟩ := st
    obtain ⟨kvs, hq, hx⟩ := hg
    obtain ⟨ho, xs, rel, hes, hl⟩ := frzT_at I.hok hq hd
    obtain ⟨f0, f1, f2, f3, f4, f5⟩ := hf it (by simp)
    exact next_none (I.ok.hd hc) he ho hd hn (by first | lia | omega) fun h' eb => ⟨rfl, I.turned (t' := s.toks) (fun b o hb z => eb b o hb z) f0 f1 f3 f4 f5⟩
  self := fun _ _ _ _ _ st h => by
    obtain ⟨ok, ov, he⟩ := st
    exact PySem.W.kcp_self he h
def iItemsT (td : TE) : TI := fun σ H R => td σ H fun x H1 => ∃ a kvs, x = .ref a ∧ H1 a = some (.dT kvs) ∧ ∀ ob, R (Itn a ob) (upd H1 a (.frz ob (.dT kvs)))
section
variable {X : Cx}
theorem pi_itemsT {o : Expr} {es : List Expr} {k : Nat} {tpos apos cpos : Pos} {td : TE} (hp : PE X o td)
    (hb : attributeBase o "items" X.env (eval o X.env) = eval o X.env := by rfl) (hline : (apos.endLine == cpos.line) = true := by rfl) :
    PI X (.Tuple es k tpos) (.Call (.Attribute o "items" apos) [] [] cpos) (iItemsT td) := by
  intro pins s σ H R I h
  refine wpAny_Call_method0_late hb hline (thn (hp pins s σ H _ I h) fun v s1 ⟨x, H1, I1, r1, q1⟩ => ?_)
  obtain ⟨a, kvs, e, ea, q⟩ := q1
  subst e
  cases r1
  obtain ⟨hty, hnd, hsys⟩ := isD_at I1 (.inr ⟨kvs, .inl ea⟩)
  refine ⟨"dict", "dict.items", PySem.F.plainAttrs_dict, PySem.F.slot_dict_items, PySem.F.type_dict_items, hty, hnd, Calls.callWith_builtin rfl (PySem.evalArgs_none ?_)⟩
  refine items_made hsys hty ?_
  obtain ⟨_, _, xs, rel, ob, ents, ep, g1, g2, g3, g4, g5⟩ := (show ObjOk X.prog X.w H1 s1.heap a (.dT kvs) from I1.hok a _ ea)
  refine items_begun (n := ents.size) ⟨_, Heap.get?_push_size _ rfl, rfl, rfl⟩ (Heap.get?_push_of_some _ g1) g3 rfl ?_
  have I2 : Inv X pins σ H1 { s1 with heap := s1.heap.push { cls := .type "dict_items", data := .fields #[.ref a] }, toks := s1.toks } := I1.kept fun b u z => Heap.get?_push_of_some _ z
  have I3 := I2.kept (h' := (s1.heap.push { cls := .type "dict_items", data := .fields #[.ref a] }).push { cls := .type "dict_itemiterator", data := .fields #[.none, .bool false, .ref a, .int 0 0, .int ents.size 0, .int ep 0, .none, .none] }) (t' := s1.toks) fun b u z => Heap.get?_push_of_some _ z
  have g1' : ((s1.heap.push { cls := .type "dict_items", data := .fields #[.ref a] }).push { cls := .type "dict_itemiterator", data := .fields #[.none, .bool false, .ref a, .int 0 0, .int ents.size 0, .int ep 0, .none, .none] }).get? a = some ob := Heap.get?_push_of_some _ (Heap.get?_push_of_some _ g1)
  have new : ObjOk X.prog X.w (upd H1 a (.frz ob (.dT kvs))) ((s1.heap.push { cls := .type "dict_items", data := .fields #[.ref a] }).push { cls := .type "dict_itemiterator", data := .fields #[.none, .bool false, .ref a, .int 0 0, .int ents.size 0, .int ep 0, .none, .none] }) a (.frz ob (.dT kvs)) := by
    obtain ⟨y1, y2, ys, yr, y3⟩ := (show ObjOk X.prog X.w H1 _ a (.dT kvs) from I3.hok a _ ea)
    refine ⟨g1', y1, y2, ys, KT.keeps yr fun c zs ec => ?_, y3⟩
    rw [upd_ne (ne_of ec ea (fun z => nomatch z))]
    exact ec
  have I4 := I3.write (x := a) (e := a) (o := .frz ob (.dT kvs)) (h' := (s1.heap.push { cls := .type "dict_items", data := .fields #[.ref a] }).push { cls := .type "dict_itemiterator", data := .fields #[.none, .bool false, .ref a, .int 0 0, .int ents.size 0, .int ep 0, .none, .none] }) (t' := s1.toks)
    (by rw [ea]; exact True.intro) (.inl rfl) (fun b u _ z => z) ⟨ob, g1'⟩ new
  have na : s1.heap.objs.size + 1 ≠ a := Nat.ne_of_gt (Nat.lt_succ_of_lt (Heap.lt_size g1))
  refine ⟨(s1.heap.push { cls := .type "dict_items", data := .fields #[.ref a] }).objs.size, [(s1.heap.push { cls := .type "dict_items", data := .fields #[.ref a] }).objs.size], _, _, _, rfl, I4, turn_itemsT a _ g3 rfl, ⟨_, _, Heap.get?_push_size _ rfl⟩, fun b hb' => ?_, q ob⟩
  rw [List.mem_singleton.mp hb']
  refine I2.fpOk (Nat.le_refl _) ?_
  rw [upd_ne (by rw [Heap.size_push]; exact na)]
  exact I2.hok.fresh (Nat.le_refl _)
end
theorem for_itemsT {a : Addr} {ob : Obj} {kvs : List (List Key × V)} {g : TG} {tb : TS} {D : Ends} {σ : St} {H : Hp} (Pv : Nat → St → Hp → Prop) (h0 : Pv 0 σ H) (hl : ∀ i σ H, i ≤ kvs.length → Pv i σ H → H a = some (.frz ob (.dT kvs)))
    (hs : ∀ i p σ H t b, kvs[i]? = some p → Pv i σ H → H b = some (.tup (p.1.map kV)) → H t = none → g (.ref t) σ (upd H t (.tup [.ref b, p.2])) fun σ2 H2 => tb { D with nx := Pv (i + 1), ct := Pv (i + 1), bk := D.nx } σ2 H2) (hd : ∀ σ H, Pv kvs.length σ H → D.nx σ H) :
    ∃ W : Nat → Nat → St → Hp → Prop, (∃ m, W 0 m σ H) ∧ ∀ i m σ H, W i m σ H →
      ((Itn a ob).stop i H ∧ D.nx σ H) ∨ ((Itn a ob).go i H ∧ ∃ N : St → Hp → Prop, (∀ σ' H', N σ' H' → ∃ m', m' < m ∧ W (i + 1) m' σ' H') ∧ ∀ x H', (Itn a ob).yld i H x H' → g x σ H' fun σ2 H2 => tb { D with nx := N, ct := N, bk := D.nx } σ2 H2) := by
  refine ⟨fun i m σ H => m = kvs.length - i ∧ i ≤ kvs.length ∧ Pv i σ H, ⟨kvs.length, by simp, Nat.zero_le _, h0⟩, ?_⟩
  rintro i m σ H ⟨rfl, hi, p⟩
  have q := hl i σ H hi p
  by_cases hlt : i < kvs.length
  · refine .inr ⟨⟨kvs, kvs[i], q, by simp [hlt]⟩, Pv (i + 1), fun σ' H' p' => ⟨kvs.length - (i + 1), by first | lia | omega, rfl, hlt, p'⟩, fun x H' y => ?_⟩
    obtain ⟨t, b, z, hz, hb, rfl, ht, rfl⟩ := y
    exact hs i z σ H t b (hz kvs q) p hb ht
  · have e : i = kvs.length := by first | lia | omega
    subst e
    exact .inl ⟨⟨kvs, q, Nat.le_refl _⟩, hd σ H p⟩
end L2
namespace L2
open PySem PySem.Spec PyProof.Rows
section
variable {prog : Program} {w : World} {A : Around} {E : Value → Shared → Prop} {s : Shared} {d : Addr} {od : Obj} {es : Array DictEntry} {ep : Nat}
theorem len_raw {Q : Value → Shared → Prop} (hs : (d == sysModules) = false) (hT : s.TypeIs (.ref d) "dict") (hd : s.heap.get? d = some od) (dd : od.data = .dict es ep) (fit : (es.size : Int) < 2 ^ 63)
    (fin : Q (.int es.size (s.toks + 1)) { s with toks := s.toks + 1 + 1 }) : wpAny (model prog w) A (call (.builtin "len") [.ref d]) Q E s := by
  refine Calls.call_function_entry kind_len plain_len entry_len (args_len1 _) ?_
  unfold Builtin.«len»
  refine wpAny_bind (m := oneArg "len" _) (wpAny_pure ?_)
  refine wpAny_bind (m := callSpecial? (.ref d) (Str.ofString "__len__")) (wpAny_callSpecial?_slot (name := Str.ofString "__len__") hT PySem.F.slot_dict_len (wpAny_call_entry PySem.F.slot_dict_len hT PySem.F.entry_dict_len ?_ (PySem.F.args_dict_len_1 _)))
  unfold Builtin.«dict.__len__» Builtin.Dict.dictSlotNone
  refine wpAny_bind (wpAny_bind (wpAny_notOrdered_dict hT ?_))
  show wpAny (model prog w) _ (pure (Value.ref d)) _ _ s
  refine wpAny_pure (wpAny_bind (wpAny_pure ?_))
  unfold dictSize
  refine wpAny_bind (wpAny_bind (wpAny_dictEntries hd dd (wpAny_pure ?_)))
  refine wpAny_bind (wpAny_pendingCount_other hs ?_)
  refine wpAny_ret_mkInt ?_
  refine wpAny_bind (wpAny_holding (wpAny_pure ?_))
  refine wpAny_bind (wpAny_letGo ?_)
  have c1 : ¬ ((es.size + 0 : Nat) : Int) < 0 := by first | lia | omega
  have c2 : ¬ ((es.size + 0 : Nat) : Int) ≥ 2 ^ 63 := by first | lia | omega
  show wpAny (model prog w) _ (if ((es.size + 0 : Nat) : Int) < 0 then _ else _) _ _ _
  rw [if_neg c1]
  show wpAny (model prog w) _ (if ((es.size + 0 : Nat) : Int) ≥ 2 ^ 63 then _ else _) _ _ _
  rw [if_neg c2]
  exact wpAny_bind (wpAny_mkInt (wpAny_pure ⟨_, rfl, fin⟩))
theorem clear_raw {Q : Value → Shared → Prop} (hT : s.TypeIs (.ref d) "dict") (hd : s.heap.get? d = some od) (dd : od.data = .dict es ep) (hz : es.size ≤ sizeLine)
    (fin : Q .none { s with heap := s.heap.update d (Obj.mapDictKeys fun _ => #[]) }) : wpAny (model prog w) A (call (.builtin "dict.clear") [.ref d]) Q E s := by
  refine wpAny_call_entry PySem.F.slot_dict_clear hT PySem.F.entry_dict_clear ?_ (PySem.F.args_dict_clear_1 _)
  unfold Builtin.«dict.clear» Builtin.Dict.noArgs bearsInstanceDictMark
  refine wpAny_bind (wpAny_bind (wpAny_notOrdered_dict hT ?_))
  show wpAny (model prog w) _ (pure d) _ _ s
  refine wpAny_pure (wpAny_bind (wpAny_dictEntries hd dd (wpAny_bind (wpAny_bind (wpAny_load hd (wpAny_pure ?_))))))
  refine wpAny_bind (wpAny_updateDictKeys (hz := hz) hd dd ?_)
  split
  · exact wpAny_bind (wpAny_letGo (wpAny_pure ⟨.none, rfl, fin⟩))
  · exact wpAny_bind (wpAny_pure (wpAny_pure ⟨.none, rfl, fin⟩))
def Lone (es : Array DictEntry) : Prop := ∀ e ∈ es, (es.filter (·.hash == e.hash)).size ≤ 1
theorem entries_raw {id : String} {Q : Array DictEntry → Shared → Prop} (hd : s.heap.get? d = some od) (dd : od.data = .dict es ep) (hk : ∀ e ∈ es, ∃ b, e.key = .ref b ∧ s.TypeIs (.ref b) "tuple") (lone : Lone es) (fin : Q es s) :
    wpAny (model prog w) A (Builtin.Dict.entriesForEmpty id d) Q E s := by
  unfold Builtin.Dict.entriesForEmpty
  refine wpAny_bind (wpAny_dictEntries hd dd (wpAny_bind ?_))
  rw [← Array.forIn_toList]
  refine wpAny_forIn_list _ (fun rest _ s' => s' = s ∧ ∀ e ∈ rest, e ∈ es) _ ?_ ?_ _ _ ⟨rfl, fun e he => Array.mem_toList_iff.mp he⟩
  · rintro e rest b s' ⟨rfl, all⟩
    have em := all e (by simp)
    obtain ⟨a, ek, et⟩ := hk e em
    have l1 : ¬ (es.filter (·.hash == e.hash)).size > 1 := by have := lone e em; first | lia | omega
    unfold Builtin.Dict.quietEq
    rw [ek]
    refine wpAny_bind (wpAny_bind (wpAny_specialOf et (PySem.F.slot_tuple_eq).lookup (wpAny_pure ?_)))
    rw [if_pos (by decide), if_neg l1]
    exact wpAny_pure ⟨rfl, fun x hx => all x (List.mem_cons_of_mem _ hx)⟩
  · rintro b s' ⟨rfl, _⟩
    exact wpAny_pure fin
theorem copy_raw {Q : Value → Shared → Prop} (hs : (d == sysModules) = false) (hT : s.TypeIs (.ref d) "dict") (hd : s.heap.get? d = some od) (dd : od.data = .dict es ep) (h0 : 0 < es.size) (hz : es.size ≤ sizeLine)
    (hk : ∀ e ∈ es, ∃ b, e.key = .ref b ∧ s.TypeIs (.ref b) "tuple") (lone : Lone es)
    (fin : ∀ h' o', h'.get? s.heap.objs.size = some o' → o'.ExactDict → (∃ ep', o'.data = .dict es ep') → (∀ b o, s.heap.get? b = some o → h'.get? b = some o) → Q (.ref s.heap.objs.size) { s with heap := h' }) :
    wpAny (model prog w) A (call (.type "dict") [.ref d]) Q E s := by
  refine callType_codes (Q₁ := fun obj s₁ => obj = .ref s.heap.objs.size ∧ s₁ = { s with heap := s.heap.push { cls := .type "dict", data := .dict #[] } }) PySem.F.kt_called_dict (PySem.F.kt_typeCall_dict_1 _) PySem.F.entry_dict_init (kt_code_dict_new _ ⟨rfl, rfl⟩) ?_
  rintro obj s1 ⟨rfl, rfl⟩
  obtain ⟨S1, eS⟩ : ∃ S1 : Shared, S1 = { s with heap := s.heap.push { cls := .type "dict", data := .dict #[] } } := ⟨_, rfl⟩
  have gN : S1.heap.get? s.heap.objs.size = some { cls := .type "dict", data := .dict #[] } := by rw [eS]; exact Heap.get?_push_size _ rfl
  have gO : S1.heap.get? d = some od := by rw [eS]; exact Heap.get?_push_of_some _ hd
  have tN : S1.TypeIs (.ref s.heap.objs.size) "dict" := ⟨_, gN, rfl⟩
  have tO : S1.TypeIs (.ref d) "dict" := by
    obtain ⟨o, ho, hc⟩ := hT
    exact ⟨o, by rw [eS]; exact Heap.get?_push_of_some _ ho, hc⟩
  have ne : s.heap.objs.size ≠ d := Nat.ne_of_gt (Heap.lt_size hd)
  have hk1 : ∀ e ∈ es, ∃ b, e.key = .ref b ∧ S1.TypeIs (.ref b) "tuple" := fun e he => by
    obtain ⟨b, ek, o, ho, hc⟩ := hk e he
    exact ⟨b, ek, o, by rw [eS]; exact Heap.get?_push_of_some _ ho, hc⟩
  have old : ∀ b o, s.heap.get? b = some o → S1.heap.get? b = some o ∧ b ≠ s.heap.objs.size := fun b o q => ⟨by rw [eS]; exact Heap.get?_push_of_some _ q, Nat.ne_of_lt (Heap.lt_size q)⟩
  rw [← eS]
  refine ⟨tN, PySem.F.args_dict_init_2 _ _, ?_⟩
  unfold Builtin.«dict.__init__» Builtin.Dict.selfAndRest
  refine wpAny_bind (wpAny_bind (wpAny_notOrdered_dict tN ?_))
  show wpAny (model prog w) _ (pure (s.heap.objs.size, [Value.ref d])) _ _ _
  refine wpAny_pure ?_
  show wpAny (model prog w) _ (Builtin.Dict.updateFrom "dict.__init__" s.heap.objs.size (.ref d) [] .none) _ _ _
  unfold Builtin.Dict.updateFrom
  refine wpAny_bind (wpAny_typeOf tO ?_)
  rw [if_neg (by decide)]
  refine wpAny_bind ?_
  unfold Builtin.Dict.merge Builtin.Dict.readDirectly
  refine wpAny_bind (wpAny_bind (wpAny_isInstance tO isSubtype_dict_dict ?_))
  simp only [Bool.not_true, Bool.false_eq_true, if_false]
  refine wpAny_bind (wpAny_specialOf tO PySem.F.slot_dict_iter.lookup (wpAny_pure ?_))
  simp only [beq_self_eq_true, if_true]
  refine wpAny_bind (wpAny_pure ?_)
  unfold Builtin.Dict.mergeDict Builtin.Dict.showsAll
  have nodd : ¬ (s.heap.objs.size == d) = true := by simpa using ne
  have nosys : ¬ (d == sysModules) = true := by rw [hs]; exact Bool.false_ne_true
  rw [if_neg nodd, if_neg nosys]
  refine wpAny_bind (wpAny_pure (wpAny_bind (wpAny_dictEntries gO dd ?_)))
  have many : (decide (es.size ≤ 8) && es.all fun e => (keyPart e.key).isSome) = false := by
    rw [Bool.and_eq_false_iff]
    right
    rw [Bool.eq_false_iff]
    intro z
    have m : es[0] ∈ es := Array.getElem_mem h0
    obtain ⟨b, ek, _⟩ := hk es[0] m
    have := Array.all_eq_true_iff_forall_mem.mp z es[0] m
    rw [ek] at this
    cases this
  show wpAny (model prog w) _ (if (!(decide (es.size ≤ 8) && es.all fun e => (keyPart e.key).isSome)) = true then _ else _) _ _ _
  rw [many, if_pos (by decide)]
  refine wpAny_bind (wpAny_dictEntries gN rfl ?_)
  rw [if_pos (by decide)]
  refine wpAny_bind (entries_raw gO dd hk1 lone ?_)
  have nonil : (!es.isEmpty) = true := by
    rw [Bool.not_eq_true', Array.isEmpty_eq_false_iff]
    intro z
    rw [z] at h0
    exact Nat.lt_irrefl _ h0
  rw [if_pos nonil]
  refine wpAny_bind (wpAny_updateDictKeysTo gN rfl ?_ (Nat.le_succ_of_le hz))
  refine wpAny_pure ?_
  show wpAny (model prog w) _ (Builtin.Dict.addKeywords s.heap.objs.size [] >>= _) _ _ _
  refine wpAny_bind (wpAny_pure (wpAny_pure ⟨rfl, ?_⟩))
  have gU := Heap.get?_update_self (Obj.mapDictKeys fun _ => es) gN rfl
  have q := fin (S1.heap.update s.heap.objs.size (Obj.mapDictKeys fun _ => es)) _ gU ⟨rfl, rfl, rfl⟩ ⟨_, rfl⟩ fun b o z => (Heap.get?_update_other _ _ (Ne.symm (old b o z).2)).trans (old b o z).1
  rw [eS] at q ⊢
  exact q
theorem same_raw {nm : String} {K' : Type} [DecidableEq K'] {knd : HeapKind prog w K'} {a b : Addr} {oa ob : Obj} {ea eb : Array DictEntry} {pa pb : Nat} {xs ys : List (K' × Addr × Value)} {Q : Bool → Shared → Prop} (sa : (a == sysModules) = false) (sb : (b == sysModules) = false) (hu : knd.room A)
    (ga : s.heap.get? a = some oa) (da : oa.data = .dict ea pa) (xa : ea.toList = xs.map (entryOfKey knd)) (ka : ∀ x ∈ xs, knd.is s.heap x.1 x.2.1)
    (gb : s.heap.get? b = some ob) (db : ob.data = .dict eb pb) (xb : eb.toList = ys.map (entryOfKey knd)) (kb : ∀ x ∈ ys, knd.is s.heap x.1 x.2.1) (nb : (ys.map (·.1)).Nodup) (len : xs.length = ys.length)
    (all : ∀ x ∈ xs, ∃ y ∈ ys, y.1 = x.1 ∧ SeqAt.EqAt A s x.2.2 y.2.2 true) (fin : Q true s) : wpAny (model prog w) A (Builtin.Dict.samePairs nm a b) Q E s := by
  have la : ea.size = xs.length := size_of_entries xa
  have lb : eb.size = ys.length := size_of_entries xb
  have na : ¬ (a == sysModules) = true := by rw [sa]; exact Bool.false_ne_true
  have nbs : ¬ (b == sysModules) = true := by rw [sb]; exact Bool.false_ne_true
  unfold Builtin.Dict.samePairs Builtin.Dict.showsAll
  rw [if_neg na, if_neg nbs]
  refine wpAny_bind (wpAny_pure (wpAny_bind (wpAny_pure (wpAny_bind (wpAny_dictEntries ga da ?_)))))
  dsimp only
  refine wpAny_bind (wpAny_dictEntries gb db ?_)
  rw [if_neg (by rw [la, lb, len]; simp)]
  refine wpAny_bind (wpAny_dictEpoch ga da (wpAny_bind ?_))
  rw [Std.Legacy.Range.forIn_eq_forIn_range']
  simp only [Std.Legacy.Range.size, Nat.sub_zero, Nat.add_sub_cancel, Nat.div_one]
  refine wpAny_forIn_list _ (fun rest q s' => s' = s ∧ q = (none, ()) ∧ ∀ i ∈ rest, i < ea.size) _ ?_ ?_ _ _ ⟨rfl, rfl, fun i hi => by simpa using (List.mem_range'_1.mp hi).2⟩
  · rintro x rest q s' ⟨rfl, rfl, lt⟩
    have hlt : x < ea.size := lt x (by simp)
    obtain ⟨p, hp⟩ : ∃ p, xs[x]? = some p := ⟨xs[x]'(by first | lia | omega), List.getElem?_eq_getElem _⟩
    have hx : ea[x]? = some (entryOfKey knd p) := by rw [entry_at xa x, hp]; rfl
    have pm := List.mem_of_getElem? hp
    obtain ⟨y, ym, ey, eqv⟩ := all p pm
    obtain ⟨jy, hjy⟩ := List.mem_iff_getElem?.mp ym
    refine wpAny_bind (wpAny_dictEntries ga da ?_)
    rw [hx]
    refine wpAny_bind (wpAny_holding (wpAny_bind ?_))
    refine wpAny_dictFind_heap (k := p.1) (a := p.2.1) hu (ka p pm) gb db xb kb nb (fun no => absurd hjy (by have := no jy y.2; rw [← ey] at this; exact this)) fun j z hj => ?_
    have ez : z = y.2 := by
      have i1 := idxH_unique nb hj (show ys[jy]? = some (p.1, y.2) from by rw [hjy, ← ey])
      subst i1
      rw [hjy] at hj
      have := Option.some.inj hj
      rw [this]
    refine wpAny_bind (wpAny_dictEntries gb db ?_)
    rw [entry_at xb j, hj]
    show wpAny (model prog w) _ (holding [z.2] (eqBool p.2.2 z.2)) _ _ _
    rw [ez]
    refine wpAny_holding (eqv prog w _ _ ?_)
    show wpAny (model prog w) _ (if (!true) = true then _ else _) _ _ _
    rw [if_neg (by decide)]
    refine wpAny_bind (wpAny_dictEpoch ga da ?_)
    rw [if_neg (by simp)]
    exact wpAny_pure ⟨rfl, rfl, fun i hi => lt i (List.mem_cons_of_mem _ hi)⟩
  · rintro q s' ⟨rfl, rfl, _⟩
    exact wpAny_pure fin
theorem eq_raw {K' : Type} [DecidableEq K'] {knd : HeapKind prog w K'} {a b : Addr} {oa ob : Obj} {ea eb : Array DictEntry} {pa pb : Nat} {xs ys : List (K' × Addr × Value)} {Q : Value → Shared → Prop} (sa : (a == sysModules) = false) (sb : (b == sysModules) = false) (hu0 : A.units < cLine) (hu : knd.room A.in1)
    (ta : s.TypeIs (.ref a) "dict") (tb : s.TypeIs (.ref b) "dict")
    (ga : s.heap.get? a = some oa) (da : oa.data = .dict ea pa) (xa : ea.toList = xs.map (entryOfKey knd)) (ka : ∀ x ∈ xs, knd.is s.heap x.1 x.2.1)
    (gb : s.heap.get? b = some ob) (db : ob.data = .dict eb pb) (xb : eb.toList = ys.map (entryOfKey knd)) (kb : ∀ x ∈ ys, knd.is s.heap x.1 x.2.1) (nb : (ys.map (·.1)).Nodup) (len : xs.length = ys.length)
    (all : ∀ x ∈ xs, ∃ y ∈ ys, y.1 = x.1 ∧ SeqAt.EqAt A.in1 s x.2.2 y.2.2 true) (fin : Q (.bool true) s) : wpAny (model prog w) A (compareOp .Eq (.ref a) (.ref b)) Q E s := by
  refine wpAny_richCompare_same_room (op := .Eq) ta tb PySem.F.slot_dict_eq (wpAny_call_entry PySem.F.slot_dict_eq ta PySem.F.entry_dict_eq ?_ (PySem.F.args_dict_eq_2 _ _)) hu0
  show wpAny (model prog w) _ (Builtin.Dict.dictSlotArgs "__eq__" ⟨[.ref a, .ref b], []⟩ >>= _) _ _ s
  unfold Builtin.Dict.dictSlotArgs
  refine wpAny_bind (wpAny_bind (wpAny_notOrdered_dict ta ?_))
  show wpAny (model prog w) _ (pure (Value.ref a, Value.ref b)) _ _ s
  refine wpAny_pure (wpAny_bind (wpAny_isInstance (T := "dict") tb PySem.F.sub_dict_dict ?_))
  simp only [Bool.not_true, Bool.false_eq_true, if_false]
  refine wpAny_bind (wpAny_pure (wpAny_bind (wpAny_pure (wpAny_bind (same_raw sa sb hu ga da xa ka gb db xb kb nb len all ?_)))))
  exact wpAny_pure ⟨_, rfl, (fun x => nomatch x), fin⟩
end
theorem KT.mem {H : Hp} {kvs : List (List Key × V)} {xs : List (List Key × Addr × Value)} (r : KT H kvs xs) {x : List Key × Addr × Value} (h : x ∈ xs) : ∃ p ∈ kvs, p.1 = x.1 ∧ H x.2.1 = some (.tup (x.1.map kV)) ∧ RelV p.2 x.2.2 := by
  induction r with
  | nil => exact nomatch h
  | @cons p q ps qs hh t ih =>
    rcases List.mem_cons.mp h with rfl | h
    · exact ⟨p, by simp, hh.1, by rw [← hh.1]; exact hh.2.1, hh.2.2⟩
    · obtain ⟨p', m, r'⟩ := ih h
      exact ⟨p', List.mem_cons_of_mem _ m, r'⟩
theorem KT.keys {H : Hp} {kvs : List (List Key × V)} {xs : List (List Key × Addr × Value)} (r : KT H kvs xs) : kvs.map (·.1) = xs.map (·.1) := by
  induction r with
  | nil => rfl
  | @cons p q ps qs hh t ih => rw [List.map_cons, List.map_cons, ih, hh.1]
/-- no two keys of one hash -/
def LoneK (P : Program) (w : World) (kvs : List (List Key × V)) : Prop := (kvs.map fun p => (tupleKind (mixKind P w)).hash p.1).Nodup
section
variable {X : Cx}
theorem call_lenT : CallR X (.builtin "len") (fun xs H Q => ∃ a kvs, xs = [V.ref a] ∧ H a = some (.dT kvs) ∧ Q (.int kvs.length) H) := by
  intro pins s σ H xs us Q I r h
  obtain ⟨a, kvs, rfl, ea, q⟩ := h
  obtain ⟨u, rfl, ru⟩ := vals1 r
  cases ru
  obtain ⟨z, hsys, ys, rel, o, es, ep, h1, h2, h3, h4, h5⟩ := (show ObjOk X.prog X.w H s.heap a (.dT kvs) from I.hok a _ ea)
  have hl : es.size = kvs.length := by rw [size_of_entries h4]; exact (Paired.length rel).symm
  refine len_raw hsys ⟨o, h1, h2.1⟩ h1 h3 (by rw [sizeLine_eq] at z; first | lia | omega) ?_
  rw [hl]
  exact ⟨.int kvs.length, H, I.tok _, ⟨_, rfl⟩, q⟩
theorem call_isinDT : CallR X (.builtin "isinstance") (fun xs H Q => ∃ a kvs, xs = [.ref a, .ty "dict"] ∧ H a = some (.dT kvs) ∧ Q (.bl true) H) := by
  intro pins s σ H xs us Q I r h
  obtain ⟨a, kvs, rfl, ea, q⟩ := h
  obtain ⟨u, w', rfl, rx, ry⟩ := vals2 r
  cases (show w' = Value.type "dict" from ry)
  exact isinst_ok I rx (.dT ea) (show PySem.W.kitOne X.K (.type "dict") (.type "dict") = some true from rfl) fun tk => ⟨.bl true, H, I.tok tk, rfl, q⟩
theorem mt_clearT : MtM X "dict.clear" (fun x vs H Q => ∃ a kvs, x = .ref a ∧ vs = [] ∧ H a = some (.dT kvs) ∧ Q .non (upd H a (.dT []))) := by
  intro pins s σ H x xs v us Q I rx rv h
  obtain ⟨a, kvs, rfl, rfl, ea, q⟩ := h
  cases rx
  cases rv
  obtain ⟨z, hsys, ys, rel, o, es, ep, h1, h2, h3, h4, h5⟩ := (show ObjOk X.prog X.w H s.heap a (.dT kvs) from I.hok a _ ea)
  have hl : es.size = kvs.length := by rw [size_of_entries h4]; exact (Paired.length rel).symm
  refine clear_raw ⟨o, h1, h2.1⟩ h1 h3 (by first | lia | omega) ?_
  have gU := Heap.get?_update_self (Obj.mapDictKeys fun _ => #[]) h1 (Obj.isFreed_of_dict (Obj.data_mapDictKeys h3 _))
  refine ⟨.non, _, d_write (ob := .dT []) (t' := s.toks) I (by rw [ea]; exact True.intro) (Heap.SameBut.update ..) ⟨_, gU⟩ ⟨Nat.zero_le _, hsys, [], .nil, _, #[], _, gU, h2.mapDictKeys _, Obj.data_mapDictKeys h3 _, rfl, List.nodup_nil⟩, rfl, q⟩
theorem call_dict_dT : CallR X (.type "dict") (fun xs H Q => ∃ a kvs, xs = [.ref a] ∧ H a = some (.dT kvs) ∧ kvs ≠ [] ∧ LoneK X.prog X.w kvs ∧ ∀ l, H l = none → Q (.ref l) (upd H l (.dT kvs))) := by
  intro pins s σ H xs us Q I r h
  obtain ⟨a, kvs, rfl, ea, ne, lone, q⟩ := h
  obtain ⟨u, rfl, ru⟩ := vals1 r
  cases ru
  obtain ⟨z, hsys, ys, rel, o, es, ep, h1, h2, h3, h4, h5⟩ := (show ObjOk X.prog X.w H s.heap a (.dT kvs) from I.hok a _ ea)
  have hl : es.size = kvs.length := by rw [size_of_entries h4]; exact (Paired.length rel).symm
  have pos : 0 < kvs.length := List.length_pos_iff.mpr ne
  have hkeys : ∀ e ∈ es, ∃ b, e.key = .ref b ∧ s.TypeIs (.ref b) "tuple" := fun e he => by
    have : e ∈ ys.map (entryOfKey (tupleKind (mixKind X.prog X.w))) := h4 ▸ Array.mem_toList_iff.mpr he
    obtain ⟨y, hy, rfl⟩ := List.mem_map.mp this
    obtain ⟨p, _, _, hb, _⟩ := KT.mem rel hy
    obtain ⟨_, _, _, oo, g1, g2, _⟩ := (show ObjOk X.prog X.w H s.heap y.2.1 (.tup (y.1.map kV)) from I.hok _ _ hb)
    exact ⟨y.2.1, rfl, oo, g1, g2⟩
  have hlone : Lone es := fun e he => by
    have nd : (es.toList.map (·.hash)).Nodup := by
      rw [h4, List.map_map]
      have : (ys.map ((fun x => x.hash) ∘ entryOfKey (tupleKind (mixKind X.prog X.w)))) = (kvs.map fun p => (tupleKind (mixKind X.prog X.w)).hash p.1) := by
        have k := KT.keys rel
        have e1 : (kvs.map fun p => (tupleKind (mixKind X.prog X.w)).hash p.1) = (kvs.map (·.1)).map (tupleKind (mixKind X.prog X.w)).hash := by rw [List.map_map]; rfl
        rw [e1, k, List.map_map]; rfl
      rw [this]
      exact lone
    rw [← Array.length_toList, Array.toList_filter]
    have gen : ∀ (l : List DictEntry), (l.map (·.hash)).Nodup → (l.filter fun x => x.hash == e.hash).length ≤ 1 := by
      intro l
      induction l with
      | nil => intro _; exact Nat.zero_le _
      | cons c r ih =>
        intro n
        rw [List.map_cons, List.nodup_cons] at n
        rw [List.filter_cons]
        by_cases c1 : (c.hash == e.hash) = true
        · rw [if_pos c1]
          have z : (r.filter fun x => x.hash == e.hash) = [] := by
            rw [List.filter_eq_nil_iff]
            intro x hx c2
            have q1 : c.hash = e.hash := by simpa using c1
            have q2 : x.hash = e.hash := by simpa using c2
            exact n.1 (List.mem_map.mpr ⟨x, hx, by rw [q1, q2]⟩)
          rw [z]; exact Nat.le_refl _
        · rw [if_neg c1]
          exact ih n.2
    exact gen _ nd
  refine copy_raw hsys ⟨o, h1, h2.1⟩ h1 h3 (by first | lia | omega) (by first | lia | omega) hkeys hlone fun h' o' g1 g2 ⟨ep', g3⟩ kp => ?_
  have hn : H s.heap.objs.size = none := I.hok.fresh (Nat.le_refl _)
  refine ⟨.ref s.heap.objs.size, _, I.laid (a := s.heap.objs.size) (o := .dT kvs) (t' := s.toks) kp (Nat.le_refl _) ⟨z, beq_eq_false_iff_ne.mpr (Ne.symm (Nat.ne_of_lt I.big)), ys, KT.keeps rel fun c zs ec => ?_, o', es, ep', g1, g2, g3, h4, h5⟩, rfl, q _ hn⟩
  rw [upd_ne (ne_of_none ec hn)]
  exact ec
theorem op_eqDT (hu0 : X.A.units < cLine) (hu : X.A.units + 1 < cLine) : OpR X (compareOp .Eq) (fun x y H Q => ∃ a b kvs kvs', x = .ref a ∧ y = .ref b ∧ H a = some (.dT kvs) ∧ H b = some (.dT kvs') ∧ kvs.length = kvs'.length ∧ (∀ p ∈ kvs, ∃ i : Int, p.2 = .int i ∧ valV kvs' p.1 = some (.int i)) ∧ Q (.bl true) H) := by
  intro pins s σ H x y v u Q I rx ry h
  obtain ⟨a, b, kvs, kvs', rfl, rfl, ea, eb, len, all, q⟩ := h
  cases rx
  cases ry
  obtain ⟨z, hsys, xs, rel, o, es, ep, h1, h2, h3, h4, h5⟩ := (show ObjOk X.prog X.w H s.heap a (.dT kvs) from I.hok a _ ea)
  obtain ⟨z', hsys', ys, rel', o', es', ep', h1', h2', h3', h4', h5'⟩ := (show ObjOk X.prog X.w H s.heap b (.dT kvs') from I.hok b _ eb)
  have l1 := Paired.length rel
  have l2 := Paired.length rel'
  refine eq_raw hsys hsys' hu0 (tupleKind_room_in1 hu) ⟨o, h1, h2.1⟩ ⟨o', h1', h2'.1⟩ h1 h3 h4 (fun x hx => ?_) h1' h3' h4' (fun x hx => ?_) h5' (by first | lia | omega) (fun x hx => ?_) ⟨.bl true, H, I, rfl, q⟩
  · obtain ⟨_, _, _, hb, _⟩ := KT.mem rel hx
    exact key_of I.hok hb
  · obtain ⟨_, _, _, hb, _⟩ := KT.mem rel' hx
    exact key_of I.hok hb
  · obtain ⟨p, pm, pk, _, pr⟩ := KT.mem rel hx
    obtain ⟨i, e1, e2⟩ := all p pm
    rw [pk] at e2
    have rv := KT.val rel' x.1
    rw [e2] at rv
    obtain ⟨w', hw, rw'⟩ := RelO.some_of (v := .int i) rv
    obtain ⟨pp, hp, hp2⟩ := Option.map_eq_some_iff.mp hw
    unfold atKey at hp
    obtain ⟨y, hy, hy2⟩ := Option.map_eq_some_iff.mp hp
    have ym := List.mem_of_find?_eq_some hy
    have yk : y.1 = x.1 := by simpa using List.find?_some hy
    refine ⟨y, ym, yk, ?_⟩
    rw [e1] at pr
    obtain ⟨t1, q1⟩ := (show ∃ t, x.2.2 = Value.int i t from pr)
    have q2 : y.2.2 = w' := by rw [hy2, hp2]
    obtain ⟨t2, q3⟩ := (show ∃ t, w' = Value.int i t from rw')
    rw [q1, q2, q3]
    have := SeqAt.EqAt.int_int (A := X.A.in1) (s := s) i t1 i t2
    simpa using this
end
theorem most_at {its : List Value} {ns : List Int} {xs : Array (Int × Tok)} (hi : IntsAre its ns) (e : its.toArray = intItems xs) (hn : ns ≠ []) {v : Value}
    (hv : (intItems xs)[argBest (fun i j => decide (numAt xs i > numAt xs j)) (xs.size - 1)]? = some v) : ∃ m t, v = .int m t ∧ m ∈ ns ∧ ∀ z ∈ ns, z ≤ m := by
  have hns : ns = xs.toList.map (·.1) := by rw [← hi.numsOf, ← nums_intItems, ← e]
  have hsz : 0 < xs.size := by
    rcases Nat.eq_zero_or_pos xs.size with z | z
    · exact absurd (by rw [hns, List.map_eq_nil_iff, ← List.length_eq_zero_iff, Array.length_toList]; exact z) hn
    · exact z
  obtain ⟨t, rfl⟩ := intItems_at hv
  obtain ⟨b1, b2⟩ := argBest_gt (numAt xs) (xs.size - 1)
  refine ⟨_, t, rfl, ?_, fun z hz => ?_⟩
  · rw [hns, numAt_eq]; exact getD_mem (by rw [List.length_map, Array.length_toList]; first | lia | omega)
  · rw [hns] at hz
    obtain ⟨j, hj, rfl⟩ := mem_getD hz
    rw [List.length_map, Array.length_toList] at hj
    rw [← numAt_eq]; exact b2 j (by first | lia | omega)
section
variable {X : Cx}
theorem call_max1 : CallR X (.builtin "max") (fun xs H Q => ∃ (p : Addr) (ns : List Int), xs = [.ref p] ∧ SqL X.K H p (ns.map V.int) ∧ X.calm = true ∧ ns ≠ [] ∧ ∀ m, m ∈ ns → (∀ z ∈ ns, z ≤ m) → Q (.int m) H) := by
  intro pins s σ H xs us Q I r h
  obtain ⟨p, ns, rfl, hp, hc, hn, q⟩ := h
  obtain ⟨u, rfl, ru⟩ := vals1 r
  cases ru
  obtain ⟨its, rv, pl, hz⟩ := I.list hp
  have hi := intsAre_of rv
  obtain ⟨xs, e⟩ := hi.allInts.items
  have hl : s.heap.IsList p (intItems xs) := e ▸ pl.isList
  have hsz : 0 < xs.size := by
    have l1 : ns.length = its.length := by rw [← hi.length]
    have l2 : its.length = xs.size := by
      have := congrArg Array.size e
      simpa [intItems] using this
    have l3 : 0 < ns.length := List.length_pos_iff.mpr hn
    first | lia | omega
  refine max_intList (I.ok.hd hc) hl hsz fun v h' tk hv hk => ?_
  obtain ⟨m, t, rfl, hm, hle⟩ := most_at hi e hn hv
  exact ⟨.int m, H, I.kept (t' := tk) hk, ⟨t, rfl⟩, q m hm hle⟩
end
end L2
namespace K51
open PySem L2
def top (i : Nat) : Stmt := PySem.Challenge.pw_glazebench_k51_table_of_worths.main.body.getD i (.Pass ⟨0, 0, 0, 0⟩)
abbrev s_is_whole : Stmt := top 7
abbrev s_is_side : Stmt := top 8
abbrev s_size_of : Stmt := top 9
abbrev s_check_sides : Stmt := top 10
abbrev s_first_piece : Stmt := top 15
abbrev s_other_piece : Stmt := top 16
abbrev s_is_kind : Stmt := top 20
abbrev s_check_kinds : Stmt := top 21
abbrev s_has_size : Stmt := top 22
abbrev s_is_of_kind : Stmt := top 23
abbrev s_choice_uncut : Stmt := top 24
abbrev s_cuts_within : Stmt := top 25
abbrev s_best_choice : Stmt := top 26
abbrev s_worths_in : Stmt := top 27
abbrev s_choices_by_size : Stmt := top 28
abbrev s_worths : Stmt := top 29
abbrev s__law_cell : Stmt := top 31
abbrev s__law_draw : Stmt := top 32
abbrev s__law_kind : Stmt := top 33
abbrev s__law_is_of : Stmt := top 34
abbrev s__law_whole : Stmt := top 35
abbrev s__law_choices : Stmt := top 36
abbrev s_law : Stmt := top 37
def upto (n : Nat) : List Int := (List.range n).map fun k : Nat => 1 + (k : Int)
theorem upto_succ (n : Nat) : upto (n + 1) = upto n ++ [1 + (n : Int)] := by unfold upto; rw [List.range_succ, List.map_append]; rfl
theorem mem_upto {n : Nat} {z : Int} : z ∈ upto n ↔ 1 ≤ z ∧ z ≤ n := by
  unfold upto
  rw [List.mem_map]
  constructor
  · rintro ⟨k, hk, rfl⟩
    have := List.mem_range.mp hk
    first | lia | omega
  · rintro ⟨a, b⟩
    exact ⟨(z - 1).toNat, List.mem_range.mpr (by first | lia | omega), by first | lia | omega⟩
theorem upto_len (n : Nat) : (upto n).length = n := by unfold upto; rw [List.length_map, List.length_range]
abbrev Kind := Int × Int × Int × Bool
def KOk (k : Kind) : Prop := 1 ≤ k.1 ∧ k.1 ≤ 12 ∧ 1 ≤ k.2.1 ∧ k.2.1 ≤ 12 ∧ 0 ≤ k.2.2.1 ∧ k.2.2.1 ≤ 1000000000
def hasB (w h W T : Int) (t : Bool) : Bool := (decide (w = W) && decide (h = T)) || (t && (decide (w = T) && decide (h = W)))
def ofK (k : Kind) (w h : Int) : Bool := hasB w h k.1 k.2.1 k.2.2.2
def ofL (k : Kind) (w h : Int) : Bool := hasB k.1 k.2.1 w h k.2.2.2
theorem of_same (k : Kind) (w h : Int) : ofL k w h = ofK k w h := by
  unfold ofL ofK hasB
  have e : ∀ a b : Int, decide (a = b) = decide (b = a) := fun a b => by
    by_cases q : a = b
    · rw [q]
    · rw [decide_eq_false q, decide_eq_false (Ne.symm q)]
  rw [e k.1 w, e k.2.1 h, e k.1 h, e k.2.1 w, Bool.and_comm (decide (h = k.1))]
def pick (w h : Int) (m : Int) (k : Kind) : Int := if ofK k w h = true ∧ m < k.2.2.1 then k.2.2.1 else m
def uncut (ks : List Kind) (w h : Int) : Int := ks.foldl (pick w h) 0
def cutsL (w h : Int) : List (Bool × Int) := (upto (w - 1).toNat).map (fun a => (true, a)) ++ (upto (h - 1).toNat).map (fun a => (false, a))
/-- the worth of the two parts of a cut -/
def two (f : Int → Int → Int) (w h : Int) (c : Bool × Int) : Int := if c.1 = true then f c.2 h + f (w - c.2) h else f w c.2 + f w (h - c.2)
def step (f : Int → Int → Int) (w h : Int) (m : Int) (c : Bool × Int) : Int := if m < two f w h c then two f w h c else m
def best (f : Int → Int → Int) (w h : Int) (m : Int) : Int := (cutsL w h).foldl (step f w h) m
def FOk (ks : List Kind) (f : Int → Int → Int) (w h : Int) : Prop := f w h = best f w h (uncut ks w h)
theorem mem_cuts {w h : Int} {c : Bool × Int} (hc : c ∈ cutsL w h) : (c.1 = true ∧ 1 ≤ c.2 ∧ c.2 < w) ∨ (c.1 = false ∧ 1 ≤ c.2 ∧ c.2 < h) := by
  unfold cutsL at hc
  rcases List.mem_append.mp hc with hc | hc
  · obtain ⟨a, ha, rfl⟩ := List.mem_map.mp hc
    have := mem_upto.mp ha
    exact .inl ⟨rfl, by show 1 ≤ a; first | lia | omega, by show a < w; first | lia | omega⟩
  · obtain ⟨a, ha, rfl⟩ := List.mem_map.mp hc
    have := mem_upto.mp ha
    exact .inr ⟨rfl, by show 1 ≤ a; first | lia | omega, by show a < h; first | lia | omega⟩
/-- a greatest of numbers, as the fold tells it -/
theorem fold_max {α : Type} (g : α → Int) (s : Int → α → Int) (hs : ∀ m c, s m c = if m < g c then g c else m) : ∀ (l : List α) (m : Int), (l.foldl s m = m ∨ ∃ c ∈ l, l.foldl s m = g c) ∧ m ≤ l.foldl s m ∧ ∀ c ∈ l, g c ≤ l.foldl s m
  | [], m => ⟨.inl rfl, Int.le_refl _, fun c hc => nomatch hc⟩
  | x :: l, m => by
    obtain ⟨h1, h2, h3⟩ := fold_max g s hs l (s m x)
    show ((l.foldl s (s m x) = m ∨ ∃ c ∈ x :: l, l.foldl s (s m x) = g c) ∧ m ≤ l.foldl s (s m x) ∧ ∀ c ∈ x :: l, g c ≤ l.foldl s (s m x))
    generalize l.foldl s (s m x) = r at h1 h2 h3
    rw [hs] at h1 h2
    refine ⟨?_, ?_, fun c hc => ?_⟩
    · rcases h1 with z | ⟨c, hc, z⟩
      · by_cases q : m < g x
        · rw [if_pos q] at z; exact .inr ⟨x, by simp, z⟩
        · rw [if_neg q] at z; exact .inl z
      · exact .inr ⟨c, List.mem_cons_of_mem _ hc, z⟩
    · split at h2 <;> first | lia | omega
    · rcases List.mem_cons.mp hc with rfl | hc
      · split at h2 <;> first | lia | omega
      · exact h3 c hc
theorem fold_pick (w h : Int) : ∀ (l : List Kind) (m : Int), (l.foldl (pick w h) m = m ∨ ∃ k ∈ l, ofK k w h = true ∧ l.foldl (pick w h) m = k.2.2.1) ∧ m ≤ l.foldl (pick w h) m ∧ ∀ k ∈ l, ofK k w h = true → k.2.2.1 ≤ l.foldl (pick w h) m
  | [], m => ⟨.inl rfl, Int.le_refl _, fun c hc => nomatch hc⟩
  | x :: l, m => by
    obtain ⟨h1, h2, h3⟩ := fold_pick w h l (pick w h m x)
    show ((l.foldl (pick w h) (pick w h m x) = m ∨ ∃ c ∈ x :: l, ofK c w h = true ∧ l.foldl (pick w h) (pick w h m x) = c.2.2.1) ∧ m ≤ l.foldl (pick w h) (pick w h m x) ∧ ∀ c ∈ x :: l, ofK c w h = true → c.2.2.1 ≤ l.foldl (pick w h) (pick w h m x))
    generalize l.foldl (pick w h) (pick w h m x) = r at h1 h2 h3
    unfold pick at h1 h2
    refine ⟨?_, ?_, fun c hc o => ?_⟩
    · rcases h1 with z | ⟨c, hc, o, z⟩
      · by_cases q : ofK x w h = true ∧ m < x.2.2.1
        · rw [if_pos q] at z; exact .inr ⟨x, by simp, q.1, z⟩
        · rw [if_neg q] at z; exact .inl z
      · exact .inr ⟨c, List.mem_cons_of_mem _ hc, o, z⟩
    · split at h2 <;> first | lia | omega
    · rcases List.mem_cons.mp hc with rfl | hc
      · by_cases q : m < c.2.2.1
        · rw [if_pos ⟨o, q⟩] at h2; exact h2
        · rw [if_neg (fun z => q z.2)] at h2; first | lia | omega
      · exact h3 c hc o
/-- the law's own list -/
def lawL (ks : List Kind) (f : Int → Int → Int) (w h : Int) : List Int := ([0] ++ (ks.filter fun k : Kind => ofK k w h).map (fun k : Kind => k.2.2.1)) ++ (upto (w - 1).toNat).map (fun a => f a h + f (w - a) h) ++ (upto (h - 1).toNat).map (fun a => f w a + f w (h - a))
theorem max_is {ks : List Kind} {f : Int → Int → Int} {w h m : Int} (F : FOk ks f w h) (hm : m ∈ lawL ks f w h) (le : ∀ z ∈ lawL ks f w h, z ≤ m) : f w h = m := by
  obtain ⟨a1, a2, a3⟩ := fold_max (two f w h) (step f w h) (fun _ _ => rfl) (cutsL w h) (uncut ks w h)
  obtain ⟨b1, b2, b3⟩ := fold_pick w h ks 0
  have Fe : f w h = (cutsL w h).foldl (step f w h) (uncut ks w h) := F
  rw [Fe]
  have in1 : ∀ c ∈ cutsL w h, two f w h c ∈ lawL ks f w h := fun c hc => by
    unfold cutsL at hc
    unfold lawL
    rcases List.mem_append.mp hc with hc | hc
    · obtain ⟨a, ha, rfl⟩ := List.mem_map.mp hc
      exact List.mem_append_left _ (List.mem_append_right _ (List.mem_map.mpr ⟨a, ha, rfl⟩))
    · obtain ⟨a, ha, rfl⟩ := List.mem_map.mp hc
      exact List.mem_append_right _ (List.mem_map.mpr ⟨a, ha, rfl⟩)
  have in2 : uncut ks w h ∈ lawL ks f w h := by
    unfold lawL
    rcases b1 with z | ⟨k, hk, o, z⟩
    · exact List.mem_append_left _ (List.mem_append_left _ (List.mem_append_left _ (List.mem_singleton.mpr z)))
    · exact List.mem_append_left _ (List.mem_append_left _ (List.mem_append_right _ (List.mem_map.mpr ⟨k, List.mem_filter.mpr ⟨hk, o⟩, z.symm⟩)))
  have up : (cutsL w h).foldl (step f w h) (uncut ks w h) ≤ m := by
    rcases a1 with z | ⟨c, hc, z⟩
    · rw [z]; exact le _ in2
    · rw [z]; exact le _ (in1 c hc)
  have down : m ≤ (cutsL w h).foldl (step f w h) (uncut ks w h) := by
    unfold lawL at hm
    rcases List.mem_append.mp hm with hm | hm
    · rcases List.mem_append.mp hm with hm | hm
      · rcases List.mem_append.mp hm with hm | hm
        · rw [List.mem_singleton.mp hm]; exact Int.le_trans b2 a2
        · obtain ⟨k, hk, rfl⟩ := List.mem_map.mp hm
          obtain ⟨k1, k2⟩ := List.mem_filter.mp hk
          exact Int.le_trans (b3 k k1 k2) a2
      · obtain ⟨a, ha, rfl⟩ := List.mem_map.mp hm
        exact a3 (true, a) (List.mem_append_left _ (List.mem_map.mpr ⟨a, ha, rfl⟩))
    · obtain ⟨a, ha, rfl⟩ := List.mem_map.mp hm
      exact a3 (false, a) (List.mem_append_right _ (List.mem_map.mpr ⟨a, ha, rfl⟩))
  first | lia | omega
theorem foldl_ext {α : Type} {s s' : Int → α → Int} : ∀ {l : List α} {m : Int}, (∀ m c, c ∈ l → s m c = s' m c) → l.foldl s m = l.foldl s' m
  | [], _, _ => rfl
  | x :: l, m, h => by
    show l.foldl s (s m x) = l.foldl s' (s' m x)
    rw [h m x (by simp), foldl_ext fun m c hc => h m c (List.mem_cons_of_mem _ hc)]
theorem best_congr {f g : Int → Int → Int} {w h m : Int} (e : ∀ x y, 1 ≤ x → x ≤ w → 1 ≤ y → y ≤ h → (x < w ∨ y < h) → f x y = g x y) (w1 : 1 ≤ w) (h1 : 1 ≤ h) : best f w h m = best g w h m := by
  unfold best
  refine foldl_ext fun m c hc => ?_
  have t : two f w h c = two g w h c := by
    unfold two
    rcases mem_cuts hc with ⟨q, a, b⟩ | ⟨q, a, b⟩
    · rw [if_pos q, if_pos q, e c.2 h a (by first | lia | omega) h1 (Int.le_refl _) (.inl b), e (w - c.2) h (by first | lia | omega) (by first | lia | omega) h1 (Int.le_refl _) (.inl (by first | lia | omega))]
    · rw [if_neg (by rw [q]; exact Bool.false_ne_true), if_neg (by rw [q]; exact Bool.false_ne_true), e w c.2 w1 (Int.le_refl _) a (by first | lia | omega) (.inr b), e w (h - c.2) w1 (Int.le_refl _) (by first | lia | omega) (by first | lia | omega) (.inr (by first | lia | omega))]
  unfold step
  rw [t]
theorem f_eq {ks : List Kind} {f g : Int → Int → Int} {W T : Int} (F : ∀ x y, 1 ≤ x → x ≤ W → 1 ≤ y → y ≤ T → FOk ks f x y) (G : ∀ x y, 1 ≤ x → x ≤ W → 1 ≤ y → y ≤ T → FOk ks g x y) : ∀ (n : Nat) (x y : Int), (x + y).toNat = n → 1 ≤ x → x ≤ W → 1 ≤ y → y ≤ T → f x y = g x y := by
  intro n
  induction n using Nat.strongRecOn with
  | ind n ih =>
    intro x y hn x1 x2 y1 y2
    rw [F x y x1 x2 y1 y2, G x y x1 x2 y1 y2]
    exact best_congr (fun a b a1 a2 b1 b2 lt => ih (a + b).toNat (by first | lia | omega) a b rfl a1 (by first | lia | omega) b1 (by first | lia | omega)) x1 y1
/-- all sizes, row by row -/
def sizes (W T : Nat) : List (Int × Int) := (upto W).flatMap fun x => (upto T).map fun y => (x, y)
theorem sizes_succ (W T : Nat) : sizes (W + 1) T = sizes W T ++ (upto T).map fun y => (1 + (W : Int), y) := by
  unfold sizes
  rw [upto_succ, List.flatMap_append, List.flatMap_cons, List.flatMap_nil, List.append_nil]
theorem mem_sizes {W T : Nat} {p : Int × Int} : p ∈ sizes W T ↔ 1 ≤ p.1 ∧ p.1 ≤ W ∧ 1 ≤ p.2 ∧ p.2 ≤ T := by
  unfold sizes
  rw [List.mem_flatMap]
  constructor
  · rintro ⟨x, hx, hp⟩
    obtain ⟨y, hy, rfl⟩ := List.mem_map.mp hp
    have := mem_upto.mp hx
    have := mem_upto.mp hy
    exact ⟨this.1 |> fun _ => (mem_upto.mp hx).1, (mem_upto.mp hx).2, (mem_upto.mp hy).1, (mem_upto.mp hy).2⟩
  · rintro ⟨a, b, c, d⟩
    exact ⟨p.1, mem_upto.mpr ⟨a, b⟩, List.mem_map.mpr ⟨p.2, mem_upto.mpr ⟨c, d⟩, rfl⟩⟩
theorem sizes_len : ∀ (W T : Nat), (sizes W T).length = W * T
  | 0, T => by rw [Nat.zero_mul]; rfl
  | W + 1, T => by rw [sizes_succ, List.length_append, sizes_len W T, List.length_map, upto_len, Nat.succ_mul]
def ky (x y : Int) : List Key := [Sum.inl x, Sum.inl y]
theorem ky_inj {x y x' y' : Int} (h : ky x y = ky x' y') : x = x' ∧ y = y' := by
  unfold ky at h
  simp only [List.cons.injEq, Sum.inl.injEq, and_true] at h
  exact h
/-- a table: its sizes, in the order in which they came -/
def tabK (L : List (Int × Int)) (v : Int × Int → V) : List (List Key × V) := L.map fun p => (ky p.1 p.2, v p)
theorem tab_val (v : Int × Int → V) : ∀ (L : List (Int × Int)) (p : Int × Int), p ∈ L → valV (tabK L v) (ky p.1 p.2) = some (v p)
  | [], p, h => nomatch h
  | q :: L, p, h => by
    show valV ((ky q.1 q.2, v q) :: tabK L v) (ky p.1 p.2) = some (v p)
    by_cases e : q = p
    · subst e; rw [valV_pos rfl]
    · have ne : ¬ ky q.1 q.2 = ky p.1 p.2 := fun z => e (by obtain ⟨a, b⟩ := ky_inj z; exact Prod.ext a b)
      rw [valV_neg (p := (ky q.1 q.2, v q)) ne]
      rcases List.mem_cons.mp h with rfl | h
      · exact absurd rfl e
      · exact tab_val v L p h
theorem tab_none (v : Int × Int → V) : ∀ (L : List (Int × Int)) (p : Int × Int), p ∉ L → valV (tabK L v) (ky p.1 p.2) = none
  | [], p, h => rfl
  | q :: L, p, h => by
    show valV ((ky q.1 q.2, v q) :: tabK L v) (ky p.1 p.2) = none
    have e : q ≠ p := fun z => h (by rw [z]; simp)
    have ne : ¬ ky q.1 q.2 = ky p.1 p.2 := fun z => e (by obtain ⟨a, b⟩ := ky_inj z; exact Prod.ext a b)
    rw [valV_neg (p := (ky q.1 q.2, v q)) ne]
    exact tab_none v L p fun z => h (List.mem_cons_of_mem _ z)
theorem tab_put (v : Int × Int → V) (L : List (Int × Int)) (p : Int × Int) (h : p ∉ L) (y : V) : putK (tabK L v) (ky p.1 p.2) y = tabK L v ++ [(ky p.1 p.2, y)] := by
  have e : ((tabK L v).any fun kv => decide (kv.1 = ky p.1 p.2)) = false := by rw [valV_any, tab_none v L p h]; rfl
  unfold putK
  rw [e, if_neg Bool.false_ne_true]
theorem tab_congr {v v' : Int × Int → V} {L : List (Int × Int)} (h : ∀ p ∈ L, v p = v' p) : tabK L v = tabK L v' := by
  unfold tabK
  exact List.map_congr_left fun p hp => by rw [h p hp]
theorem tab_snoc (L : List (Int × Int)) (p : Int × Int) (v : Int × Int → V) : tabK (L ++ [p]) v = tabK L v ++ [(ky p.1 p.2, v p)] := by
  unfold tabK
  rw [List.map_append]
  rfl
theorem tab_len (L : List (Int × Int)) (v : Int × Int → V) : (tabK L v).length = L.length := List.length_map ..
/-- no two sizes up to twelve by twelve have keys of one hash -/
def hsh (x y : Int) : Int := reduceHash (Builtin.Tuple.tupleHashOf [hashInt x, hashInt y])
theorem lone_ok : ((sizes 12 12).map fun p => hsh p.1 p.2).Nodup := by decide +kernel
theorem inj_of {α β : Type} {g : α → β} : ∀ {l : List α}, (l.map g).Nodup → ∀ {p q : α}, p ∈ l → q ∈ l → g p = g q → p = q
  | [], _, _, _, h, _, _ => nomatch h
  | x :: l, n, p, q, hp, hq, e => by
    rw [List.map_cons, List.nodup_cons] at n
    rcases List.mem_cons.mp hp with a | a <;> rcases List.mem_cons.mp hq with b | b
    · rw [a, b]
    · exact absurd (List.mem_map.mpr ⟨q, b, by rw [← a]; exact e.symm⟩) n.1
    · exact absurd (List.mem_map.mpr ⟨p, a, by rw [← b]; exact e⟩) n.1
    · exact inj_of n.2 a b e
theorem nd_map {α β : Type} {f : α → β} (inj : ∀ a b, f a = f b → a = b) : ∀ {l : List α}, l.Nodup → (l.map f).Nodup
  | [], _ => List.nodup_nil
  | x :: l, h => by
    rw [List.nodup_cons] at h
    rw [List.map_cons, List.nodup_cons]
    refine ⟨fun z => ?_, nd_map inj h.2⟩
    obtain ⟨y, hy, e⟩ := List.mem_map.mp z
    exact h.1 (inj _ _ e ▸ hy)
theorem upto_nd (n : Nat) : (upto n).Nodup := by
  unfold upto
  exact nd_map (fun a b e => by have : (1 : Int) + (a : Int) = 1 + (b : Int) := e; first | lia | omega) List.nodup_range
theorem sizes_nd : ∀ (W T : Nat), (sizes W T).Nodup
  | 0, _ => List.nodup_nil
  | W + 1, T => by
    rw [sizes_succ, List.nodup_append]
    refine ⟨sizes_nd W T, nd_map (fun a b e => (Prod.mk.inj e).2) (upto_nd T), fun a ha b hb e => ?_⟩
    obtain ⟨y, _, rfl⟩ := List.mem_map.mp hb
    have := (mem_sizes.mp ha).2.1
    rw [e] at this
    have : (1 : Int) + (W : Int) ≤ W := this
    first | lia | omega
theorem lone_tab {P : Program} {w : World} {W T : Nat} (hW : W ≤ 12) (hT : T ≤ 12) (v : Int × Int → V) : LoneK P w (tabK (sizes W T) v) := by
  unfold LoneK tabK
  rw [List.map_map]
  have nd := sizes_nd W T
  have sub : ∀ p ∈ sizes W T, p ∈ sizes 12 12 := fun p hp => by
    obtain ⟨a, b, c, d⟩ := mem_sizes.mp hp
    exact mem_sizes.mpr ⟨a, by first | lia | omega, c, by first | lia | omega⟩
  have : ∀ (l : List (Int × Int)), l.Nodup → (∀ p ∈ l, p ∈ sizes 12 12) → (l.map fun p => hsh p.1 p.2).Nodup := by
    intro l
    induction l with
    | nil => intro _ _; exact List.nodup_nil
    | cons p l ih =>
      intro n m
      rw [List.nodup_cons] at n
      rw [List.map_cons, List.nodup_cons]
      refine ⟨fun z => ?_, ih n.2 fun q hq => m q (List.mem_cons_of_mem _ hq)⟩
      obtain ⟨q, hq, e⟩ := List.mem_map.mp z
      have := inj_of lone_ok (m p (by simp)) (m q (List.mem_cons_of_mem _ hq)) e.symm
      exact n.1 (this ▸ hq)
  exact this (sizes W T) nd sub
def refs {α : Type} (ts : List (Addr × α)) : List V := ts.map fun t => V.ref t.1
theorem refs_get {α : Type} {ts : List (Addr × α)} {i : Nat} {x : V} (h : (refs ts)[i]? = some x) : ∃ u, ts[i]? = some u ∧ x = .ref u.1 := by
  rw [refs, List.getElem?_map] at h
  cases e : ts[i]? with
  | none => rw [e] at h; cases h
  | some u => rw [e] at h; exact ⟨u, rfl, (Option.some.inj h).symm⟩
theorem refs_len {α : Type} (ts : List (Addr × α)) : (refs ts).length = ts.length := List.length_map ..
theorem ints_get {xs : List Int} {i : Nat} {x : V} (h : (xs.map V.int)[i]? = some x) : ∃ z, xs[i]? = some z ∧ x = .int z := by
  rw [List.getElem?_map] at h
  cases e : xs[i]? with
  | none => rw [e] at h; cases h
  | some z => rw [e] at h; exact ⟨z, rfl, (Option.some.inj h).symm⟩
theorem wasNone {H H' : Hp} (s : Same H H') {a : Addr} (h : H' a = none) : H a = none := by
  cases q : H a with
  | none => rfl
  | some o => rw [s a o q] at h; cases h
def KindsAt (H : Hp) (a : Addr) (ks : List Kind) : Prop := ∃ ts : List (Addr × Kind), H a = some (.lst (refs ts)) ∧ (∀ t ∈ ts, H t.1 = some (.tup [.int t.2.1, .int t.2.2.1, .int t.2.2.2.1, .bl t.2.2.2.2])) ∧ ts.map (·.2) = ks
theorem KindsAt.same {H H' : Hp} {a : Addr} {ks : List Kind} (h : KindsAt H a ks) (s : Same H H') : KindsAt H' a ks :=
  let ⟨ts, a, b, c⟩ := h; ⟨ts, s _ _ a, fun t ht => s _ _ (b t ht), c⟩
def Cho (H : Hp) (c : Addr) (m : Int) : Prop := ∃ e, H c = some (.tup [.int m, e])
theorem Cho.same {H H' : Hp} {c : Addr} {m : Int} (h : Cho H c m) (s : Same H H') : Cho H' c m := let ⟨e, q⟩ := h; ⟨e, s _ _ q⟩
/-- choices by sizes -/
def TabC (H : Hp) (d : Addr) (L : List (Int × Int)) (ad : Int × Int → Addr) (f : Int → Int → Int) : Prop := H d = some (.dT (tabK L fun p => .ref (ad p))) ∧ ∀ p ∈ L, Cho H (ad p) (f p.1 p.2)
theorem TabC.same {H H' : Hp} {d : Addr} {L : List (Int × Int)} {ad : Int × Int → Addr} {f : Int → Int → Int} (t : TabC H d L ad f) (s : Same H H') : TabC H' d L ad f := ⟨s _ _ t.1, fun p hp => (t.2 p hp).same s⟩
def wd (u : Bool) : Str := if u = true then "upright" else "level"
theorem wd_eq (u : Bool) : decide (V.str (wd u) = V.str "upright") = u := by cases u <;> decide
theorem at4_0 {x0 x1 x2 x3 : V} : atI [x0, x1, x2, x3] 0 = some x0 := rfl
theorem at4_1 {x0 x1 x2 x3 : V} : atI [x0, x1, x2, x3] 1 = some x1 := rfl
theorem at4_2 {x0 x1 x2 x3 : V} : atI [x0, x1, x2, x3] 2 = some x2 := rfl
theorem at4_3 {x0 x1 x2 x3 : V} : atI [x0, x1, x2, x3] 3 = some x3 := rfl
theorem at2_0 {x0 x1 : V} : atI [x0, x1] 0 = some x0 := rfl
theorem at2_1 {x0 x1 : V} : atI [x0, x1] 1 = some x1 := rfl
theorem pow9 : CPow 10 9 := ⟨by decide, by decide, by decide⟩
theorem divL {j : Int} (z : Int) (h : 0 < j) (h2 : j < 18446744073709551616) : CDivL z j := ⟨h, Nat.lt_trans (log2_lt_of (k := 64) (by decide) (by first | lia | omega)) (by decide)⟩
theorem mul64 {a b : Int} (h1 : -18446744073709551616 < a) (h2 : a < 18446744073709551616) (h3 : -18446744073709551616 < b) (h4 : b < 18446744073709551616) : IntMulOk a b := by
  have c : (2 : Nat) ^ 128 = 340282366920938463463374607431768211456 := by decide +kernel
  refine mulOk_of ?_ ?_ <;> rw [c] <;> first | lia | omega
theorem atI_in {L : List V} {i : Int} (h0 : 0 ≤ i) (h1 : i < L.length) : ∃ v, atI L i = some v ∧ v ∈ L := by
  have h : i.toNat < L.length := by first | lia | omega
  have e := atI_nat (List.getElem?_eq_getElem h)
  rw [Int.toNat_of_nonneg h0] at e
  exact ⟨_, e, List.getElem_mem h⟩
theorem at_ints {ns : List Int} {k : Int} (h0 : 0 ≤ k) (h1 : k < (ns.length : Int)) : ∃ z, atI (ns.map V.int) k = some (.int z) := by
  have hk : k.toNat < ns.length := by first | lia | omega
  have hz : (ns.map V.int)[k.toNat]? = some (.int ns[k.toNat]) := by rw [List.getElem?_map, List.getElem?_eq_getElem hk]; rfl
  have e := atI_nat hz
  rw [Int.toNat_of_nonneg h0] at e
  exact ⟨_, e⟩
theorem ty_tup {H : Hp} {a : Addr} {xs : List V} (h : H a = some (.tup xs)) : tyS H (.ref a) = some "tuple" := by
  show tyO (H a) = some "tuple"
  rw [h]; rfl
def pairD (x y : Int) : D := .tup (.cons (.at (.int x)) (.cons (.at (.int y)) .nil))
theorem pairD_is {K : PySem.W.Frag} {H : Hp} {a : Addr} {x y : Int} (h : SqT K H a [.int x, .int y]) : DIs K H (pairD x y) (.ref a) := by
  unfold pairD
  rw [DIs]
  refine ⟨_, _, rfl, h, ?_⟩
  rw [DIss]
  refine ⟨_, _, rfl, by rw [DIs]; exact ⟨rfl, rfl⟩, ?_⟩
  rw [DIss]
  exact ⟨_, _, rfl, by rw [DIs]; exact ⟨rfl, rfl⟩, by rw [DIss]⟩
theorem pairD_dep (x y : Int) : dep (pairD x y) ≤ 50 := by unfold pairD; rw [dep, deps, dep, deps, dep, deps]; first | lia | omega
theorem pairD_eq (x y x' y' : Int) : deq (pairD x y) (pairD x' y') = (decide (x = x') && decide (y = y')) := by
  unfold pairD
  rw [deq, deqs, deq, deqs, deq, deqs]
  have e : ∀ a b : Int, eqV (.int a) (.int b) = decide (a = b) := fun a b => by
    by_cases q : a = b
    · subst q; simp [eqV]
    · simp [eqV, q]
  rw [e, e, Bool.and_true]
def kindsD : List Kind → Ds
  | [] => .nil
  | z :: r => .cons (.tup (.cons (.at (.int z.1)) (.cons (.at (.int z.2.1)) (.cons (.at (.int z.2.2.1)) (.cons (.at (.bl z.2.2.2)) .nil))))) (kindsD r)
theorem kindsD_is {K : PySem.W.Frag} {H : Hp} : ∀ (ts : List (Addr × Kind)), (∀ t ∈ ts, H t.1 = some (.tup [.int t.2.1, .int t.2.2.1, .int t.2.2.2.1, .bl t.2.2.2.2])) → DIss K H (kindsD (ts.map (·.2))) (refs ts)
  | [], _ => by
    show DIss K H .nil []
    rw [DIss]
  | t :: r, h => by
    show DIss K H (.cons (.tup (.cons (.at (.int t.2.1)) (.cons (.at (.int t.2.2.1)) (.cons (.at (.int t.2.2.2.1)) (.cons (.at (.bl t.2.2.2.2)) .nil))))) (kindsD (r.map (·.2)))) (.ref t.1 :: refs r)
    rw [DIss]
    refine ⟨_, _, rfl, ?_, kindsD_is r fun u hu => h u (List.mem_cons_of_mem _ hu)⟩
    rw [DIs]
    refine ⟨_, _, rfl, SqT.of (h t (by simp)), ?_⟩
    rw [DIss]
    refine ⟨_, _, rfl, by rw [DIs]; exact ⟨rfl, rfl⟩, ?_⟩
    rw [DIss]
    refine ⟨_, _, rfl, by rw [DIs]; exact ⟨rfl, rfl⟩, ?_⟩
    rw [DIss]
    refine ⟨_, _, rfl, by rw [DIs]; exact ⟨rfl, rfl⟩, ?_⟩
    rw [DIss]
    exact ⟨_, _, rfl, by rw [DIs]; exact ⟨rfl, rfl⟩, by rw [DIss]⟩
theorem kindsD_dep : ∀ (zs : List Kind), deps (kindsD zs) ≤ 1
  | [] => by rw [kindsD, deps]; first | lia | omega
  | z :: r => by
    have := kindsD_dep r
    rw [kindsD, deps, dep, deps, dep, deps, dep, deps, dep, deps, dep, deps]
    first | lia | omega
theorem KindsAt.data {K : PySem.W.Frag} {H : Hp} {l : Addr} {ks : List Kind} (h : KindsAt H l ks) : DIs K H (.lst (kindsD ks)) (.ref l) := by
  obtain ⟨ts, e1, e2, rfl⟩ := h
  rw [DIs]
  exact ⟨l, _, rfl, SqL.of e1, kindsD_is ts e2⟩
theorem kindsL_dep (ks : List Kind) : dep (.lst (kindsD ks)) ≤ 50 := by have := kindsD_dep ks; rw [dep]; first | lia | omega
def sp_whole : Sp := fun vs H Q _ => ∃ i : Int, vs = [.int i] ∧ Q (.bl true) H
def sp_side : Sp := fun vs H Q _ => ∃ i : Int, vs = [.int i] ∧ 1 ≤ i ∧ i ≤ 12 ∧ Q (.bl true) H
def sp_sides : Sp := fun vs H Q _ => ∃ w h : Int, vs = [.int w, .int h] ∧ 1 ≤ w ∧ w ≤ 12 ∧ 1 ≤ h ∧ h ≤ 12 ∧ ∀ H', Same H H' → Q .non H'
def Pc (H : Hp) (a : Addr) (t l b r : Int) : Prop := H a = some (.tup [.int t, .int l, .int b, .int r])
def sp_first : Sp := fun vs H Q _ => ∃ (a : Addr) (t l b r k : Int) (u : Bool), vs = [.ref a, .str (wd u), .int k] ∧ Pc H a t l b r ∧ ∀ c H', Same H H' → Pc H' c t l (if u = true then b else t + k) (if u = true then l + k else r) → Q (.ref c) H'
def sp_other : Sp := fun vs H Q _ => ∃ (a : Addr) (t l b r k : Int) (u : Bool), vs = [.ref a, .str (wd u), .int k] ∧ Pc H a t l b r ∧ ∀ c H', Same H H' → Pc H' c (if u = true then t else t + k) (if u = true then l + k else l) b r → Q (.ref c) H'
def sp_kind : Sp := fun vs H Q _ => ∃ (a : Addr) (k : Kind), vs = [.ref a] ∧ H a = some (.tup [.int k.1, .int k.2.1, .int k.2.2.1, .bl k.2.2.2]) ∧ KOk k ∧ Q (.bl true) H
def sp_check : Sp := fun vs H Q _ => ∃ (a : Addr) (ks : List Kind), vs = [.ref a] ∧ KindsAt H a ks ∧ ks.length ≤ 8 ∧ (∀ k ∈ ks, KOk k) ∧ ∀ H', Same H H' → Q .non H'
def sp_size : Sp := fun vs H Q _ => ∃ (a : Addr) (t l b r : Int), vs = [.ref a] ∧ Pc H a t l b r ∧ ∀ c H', Same H H' → H' c = some (.tup [.int (r - l), .int (b - t)]) → Q (.ref c) H'
def sp_has : Sp := fun vs H Q _ => ∃ (a : Addr) (w h W T : Int) (u : Bool), vs = [.ref a, .int W, .int T, .bl u] ∧ H a = some (.tup [.int w, .int h]) ∧ ∀ H', Same H H' → Q (.bl (hasB w h W T u)) H'
def sp_of : Sp := fun vs H Q _ => ∃ (a b : Addr) (t l o r : Int) (k : Kind), vs = [.ref a, .ref b] ∧ Pc H a t l o r ∧ H b = some (.tup [.int k.1, .int k.2.1, .int k.2.2.1, .bl k.2.2.2]) ∧ ∀ H', Same H H' → Q (.bl (ofK k (r - l) (o - t))) H'
def sp_uncut : Sp := fun vs H Q _ => ∃ (a b : Addr) (t l o r : Int) (ks : List Kind), vs = [.ref a, .ref b] ∧ Pc H a t l o r ∧ KindsAt H b ks ∧ ks.length ≤ 8 ∧ ∀ c H', Same H H' → Cho H' c (uncut ks (r - l) (o - t)) → Q (.ref c) H'
def CutsAt (H : Hp) (l : Addr) (cs : List (Bool × Int)) : Prop := ∃ ts : List (Addr × Bool × Int), H l = some (.lst (refs ts)) ∧ (∀ t ∈ ts, H t.1 = some (.tup [.str (wd t.2.1), .int t.2.2])) ∧ ts.map (·.2) = cs
def sp_cuts : Sp := fun vs H Q _ => ∃ (a : Addr) (t l o r : Int), vs = [.ref a] ∧ Pc H a t l o r ∧ 1 ≤ r - l ∧ r - l ≤ 12 ∧ 1 ≤ o - t ∧ o - t ≤ 12 ∧ ∀ c H', Same H H' → CutsAt H' c (cutsL (r - l) (o - t)) → Q (.ref c) H'
def sp_best (mg : Str → Option Value) : Sp := fun vs H Q _ => ∃ (a u d fk : Addr) (w h m : Int) (L : List (Int × Int)) (ad : Int × Int → Addr) (f : Int → Int → Int), vs = [.ref a, .ref u, .ref d, .ref fk] ∧ mg "size_of" = some (.ref fk) ∧ Pc H a 0 0 h w ∧ Cho H u m ∧ TabC H d L ad f ∧ 1 ≤ w ∧ w ≤ 12 ∧ 1 ≤ h ∧ h ≤ 12 ∧
  (∀ x y, 1 ≤ x → x ≤ w → 1 ≤ y → y ≤ h → (x < w ∧ y = h) ∨ (x = w ∧ y < h) → (x, y) ∈ L) ∧ ∀ c H', Same H H' → Cho H' c (best f w h m) → Q (.ref c) H'
def sp_in : Sp := fun vs H Q _ => ∃ (d : Addr) (L : List (Int × Int)) (ad : Int × Int → Addr) (f : Int → Int → Int), vs = [.ref d] ∧ TabC H d L ad f ∧ L.Nodup ∧ L.length ≤ 144 ∧ ∀ c H', SameX d H H' → H c = none → H' c = some (.dT (tabK L fun p => .int (f p.1 p.2))) → Q (.ref c) H'
def sp_choices : Sp := fun vs H Q _ => ∃ (w h : Int) (b : Addr) (ks : List Kind), vs = [.int w, .int h, .ref b] ∧ 1 ≤ w ∧ w ≤ 12 ∧ 1 ≤ h ∧ h ≤ 12 ∧ KindsAt H b ks ∧ ks.length ≤ 8 ∧ (∀ k ∈ ks, KOk k) ∧
  ∀ d ad f H', Same H H' → H d = none → TabC H' d (sizes w.toNat h.toNat) ad f → (∀ x y, 1 ≤ x → x ≤ w → 1 ≤ y → y ≤ h → FOk ks f x y) → Q (.ref d) H'
def sp_worths : Sp := fun vs H Q _ => ∃ (w h : Int) (b : Addr) (ks : List Kind), vs = [.int w, .int h, .ref b] ∧ 1 ≤ w ∧ w ≤ 12 ∧ 1 ≤ h ∧ h ≤ 12 ∧ KindsAt H b ks ∧ ks.length ≤ 8 ∧ (∀ k ∈ ks, KOk k) ∧
  ∀ c f H', Same H H' → H c = none → H' c = some (.dT (tabK (sizes w.toNat h.toNat) fun p => .int (f p.1 p.2))) → (∀ x y, 1 ≤ x → x ≤ w → 1 ≤ y → y ≤ h → FOk ks f x y) → Q (.ref c) H'
def sp_cell (K : PySem.W.Frag) : Sp := fun vs H Q _ => ∃ (a : Addr) (ns : List Int) (k : Int), vs = [.ref a, .int k] ∧ SqL K H a (ns.map V.int) ∧ 0 ≤ k ∧ ∀ z, Q (.int z) H
def sp_draw : Sp := fun vs H Q _ => ∃ (c n m : Int), vs = [.int c, .int n, .int m] ∧ 0 ≤ n ∧ n ≤ 100 ∧ 0 < m ∧ ∀ r, 0 ≤ r → r < m → Q (.int r) H
def sp_lkind : Sp := fun vs H Q _ => ∃ c : Int, vs = [.int c] ∧ ∀ (k : Kind) a H', Same H H' → H' a = some (.tup [.int k.1, .int k.2.1, .int k.2.2.1, .bl k.2.2.2]) → KOk k → H a = none → Q (.ref a) H'
def sp_isof : Sp := fun vs H Q _ => ∃ (b : Addr) (k : Kind) (w h : Int), vs = [.ref b, .int w, .int h] ∧ H b = some (.tup [.int k.1, .int k.2.1, .int k.2.2.1, .bl k.2.2.2]) ∧ ∀ H', Same H H' → Q (.bl (ofK k w h)) H'
def sp_lawL : Sp := fun vs H Q _ => ∃ (d b : Addr) (ks : List Kind) (w h : Int) (L : List (Int × Int)) (f : Int → Int → Int), vs = [.ref d, .ref b, .int w, .int h] ∧ H d = some (.dT (tabK L fun p => .int (f p.1 p.2))) ∧ KindsAt H b ks ∧ ks.length ≤ 8 ∧ 1 ≤ w ∧ w ≤ 12 ∧ 1 ≤ h ∧ h ≤ 12 ∧
  (∀ x y, 1 ≤ x → x ≤ w → 1 ≤ y → y ≤ h → (x, y) ∈ L) ∧ ∀ c H', Same H H' → H' c = some (.lst ((lawL ks f w h).map V.int)) → Q (.ref c) H'
def sp_law (K : PySem.W.Frag) : Sp := fun vs H Q _ => ∃ (a : Addr) (ns : List Int), vs = [.ref a] ∧ SqL K H a (ns.map V.int) ∧ ns.length ≤ 63 ∧ ∀ H', Q (.bl true) H'
structure Txt (mg : Str → Option Value) (t1 t2 t3 t4 t5 t6 : Tok) (fS : Addr) : Prop where
  z_isinstance : mg "isinstance" = none
  z_int : mg "int" = none
  z_bool : mg "bool" = none
  z_tuple : mg "tuple" = none
  z_list : mg "list" = none
  z_dict : mg "dict" = none
  z_len : mg "len" = none
  z_enumerate : mg "enumerate" = none
  z_range : mg "range" = none
  z_max : mg "max" = none
  g_LONGEST_SIDE : mg "LONGEST_SIDE" = some (.int 12 t1)
  g_MOST_KINDS : mg "MOST_KINDS" = some (.int 8 t2)
  g_GREATEST_WORTH : mg "GREATEST_WORTH" = some (.int 1000000000 t3)
  g_WHOLE : mg "WHOLE" = some (.str "whole" t4)
  g_UPRIGHT : mg "UPRIGHT" = some (.str "upright" t5)
  g_LEVEL : mg "LEVEL" = some (.str "level" t6)
  g_size_of : mg "size_of" = some (.ref fS)
section
variable {P : Program} {w : World} {K : PySem.W.Frag} {mg : Str → Option Value} {base : Heap} {t1 t2 t3 t4 t5 t6 : Tok} {fS : Addr}
theorem S_is_whole : FnScope ["thing"] ["thing"] (defScope s_is_whole) := ⟨rfl, rfl, rfl, by decide +kernel, rfl, by decide +kernel, by decide +kernel⟩
theorem ok_is_whole {f : Addr} {fd : FuncData} (F : Fun K "is_whole" "is_whole" s_is_whole f fd) (T : Txt mg t1 t2 t3 t4 t5 t6 fS) : FnOk P w K mg base CX0 1 f fd ["thing"] sp_whole := by
  have S := S_is_whole
  refine F.ok S (fun vs H Q E h => ?_) (fun cdv A outer s H vs Q E hr h => ?_)
  · obtain ⟨i, rfl, _⟩ := h; rfl
  · obtain ⟨i, rfl, q⟩ := h
    refine ⟨_, (pss_one (ps_ret (pe_and (pe_callB call_isin rfl T.z_isinstance rfl (pa_cons (pv 0) (pa_cons (pe_bltn (v := .ty "int") rfl T.z_int rfl rfl) pa_nil))) (pe_one (pe_not (pe_callB call_isin rfl T.z_isinstance rfl (pa_cons (pv 0) (pa_cons (pe_bltn (v := .ty "bool") rfl T.z_bool rfl rfl) pa_nil)))))))), ?_⟩
    refine ⟨_, rfl, .int i, "int", "int", rfl, rfl, .inl rfl, _, rfl, ite3 (fun h => ?_) (fun h => absurd h (by decide))⟩
    refine ⟨_, rfl, .int i, "int", "bool", rfl, rfl, .inr (.inl rfl), _, rfl, ?_⟩
    have e : (!isB "int" "bool") = true := by decide
    rw [e]
    exact q
theorem S_is_side : FnScope ["thing"] ["thing"] (defScope s_is_side) := ⟨rfl, rfl, rfl, by decide +kernel, rfl, by decide +kernel, by decide +kernel⟩
theorem ok_is_side {f : Addr} {fd : FuncData} (F : Fun K "is_side" "is_side" s_is_side f fd) (T : Txt mg t1 t2 t3 t4 t5 t6 fS) (D_is_whole : DefOk P w K mg base 1 "is_whole" ["thing"] sp_whole) : FnOk P w K mg base CX0 2 f fd ["thing"] sp_side := by
  have S := S_is_side
  refine F.ok S (fun vs H Q E h => ?_) (fun cdv A outer s H vs Q E hr h => ?_)
  · obtain ⟨i, rfl, _⟩ := h; rfl
  · obtain ⟨i, rfl, i1, i2, q⟩ := h
    refine ⟨_, (pss_one (ps_ret (pe_and (pe_fn D_is_whole hr (pa_cons (pv 0) pa_nil)) (pe_one (pe_chain op_le op_le pe_int (pv 0) (pe_glob (v := .int 12) rfl T.g_LONGEST_SIDE ⟨_, rfl⟩)))))), ?_⟩
    refine ⟨_, rfl, i, rfl, _, rfl, iteT ⟨_, rfl, _, _, rfl, rfl, _, rfl, ite3 (fun h => ?_) (fun h => absurd i1 (of_decide_eq_false h))⟩⟩
    refine ⟨_, _, rfl, rfl, ?_⟩
    show Q (.bl (decide (i ≤ 12))) H
    rw [decide_eq_true i2]
    exact q
theorem S_check_sides : FnScope ["width", "height", "side"] ["width", "height"] (defScope s_check_sides) := ⟨rfl, rfl, rfl, by decide +kernel, rfl, by decide +kernel, by decide +kernel⟩
theorem ok_check_sides {f : Addr} {fd : FuncData} (F : Fun K "check_sides" "check_sides" s_check_sides f fd) (D_is_side : DefOk P w K mg base 2 "is_side" ["thing"] sp_side) : FnOk P w K mg base CX0 3 f fd ["width", "height"] sp_sides := by
  have S := S_check_sides
  refine F.ok S (fun vs H Q E h => ?_) (fun cdv A outer s H vs Q E hr h => ?_)
  · obtain ⟨w, h, rfl, _⟩ := h; rfl
  · obtain ⟨w, h, rfl, w1, w2, h1, h2, q⟩ := h
    refine ⟨_, (pss_one (ps_for PassesOwn.never rfl (pi_tup (pe_tup (pa_cons (pv 0) (pa_cons (pv 1) pa_nil)))) (pg_name (i := 2) S.nd rfl (Or.inl rfl)) (pss_one (ps_if (pt_not (pt_val (pe_fn D_is_side hr (pa_cons (pv 2) pa_nil)))) (pss_one ps_never) pss_nil)))), ?_⟩
    refine ⟨_, rfl, _, rfl, lenOk 2, fun t nt => ⟨t, rfl, ⟨_, SqT.of upd_same⟩, for_tup (K := K) (a := t) (xs := [.int w, .int h]) (fun i σ H' => (∃ y, σ = [some (.int w), some (.int h), y]) ∧ H' = upd H t (.tup [.int w, .int h])) ⟨⟨none, rfl⟩, rfl⟩ (fun i σ H' _ hp => by rw [hp.2]; exact SqT.of upd_same) ?_ ?_⟩⟩
    · rintro i x σ H' hx ⟨⟨y, rfl⟩, rfl⟩
      obtain ⟨z, rfl, z1, z2⟩ : ∃ z : Int, x = .int z ∧ 1 ≤ z ∧ z ≤ 12 := by
        match i, hx with
        | 0, hx => cases hx; exact ⟨_, rfl, w1, w2⟩
        | 1, hx => cases hx; exact ⟨_, rfl, h1, h2⟩
        | i + 2, hx => cases hx
      exact ⟨_, rfl, z, rfl, z1, z2, _, rfl, iteF ⟨⟨_, rfl⟩, rfl⟩⟩
    · rintro σ H' ⟨_, rfl⟩
      exact q _ (Same.new nt)
theorem S_first_piece : FnScope ["piece", "word", "at"] ["piece", "word", "at"] (defScope s_first_piece) := ⟨rfl, rfl, rfl, by decide +kernel, rfl, by decide +kernel, by decide +kernel⟩
theorem ok_first_piece {f : Addr} {fd : FuncData} (F : Fun K "first_piece" "first_piece" s_first_piece f fd) (T : Txt mg t1 t2 t3 t4 t5 t6 fS) : FnOk P w K mg base CX0 1 f fd ["piece", "word", "at"] sp_first := by
  have S := S_first_piece
  refine F.ok S (fun vs H Q E h => ?_) (fun cdv A outer s H vs Q E hr h => ?_)
  · obtain ⟨a, t, l, b, r, k, u, rfl, _⟩ := h; rfl
  · obtain ⟨a, t, l, b, r, k, u, rfl, ha, q⟩ := h
    refine ⟨_, (pss_cons (ps_if (pt_cmpR op_eq (pv 1) (pe_glob (v := .str "upright") rfl T.g_UPRIGHT ⟨_, rfl⟩) (nomark _)) (pss_one (ps_ret (pe_tup (pa_cons (pe_ix ix_tup (pv 0) pe_int (fun _ _ => rfl)) (pa_cons (pe_ix ix_tup (pv 0) pe_int (fun _ _ => rfl)) (pa_cons (pe_ix ix_tup (pv 0) pe_int (fun _ _ => rfl)) (pa_cons (pe_op op_add (pe_ix ix_tup (pv 0) pe_int (fun _ _ => rfl)) (pv 2)) pa_nil))))))) pss_nil)
      (pss_one (ps_ret (pe_tup (pa_cons (pe_ix ix_tup (pv 0) pe_int (fun _ _ => rfl)) (pa_cons (pe_ix ix_tup (pv 0) pe_int (fun _ _ => rfl)) (pa_cons (pe_op op_add (pe_ix ix_tup (pv 0) pe_int (fun _ _ => rfl)) (pv 2)) (pa_cons (pe_ix ix_tup (pv 0) pe_int (fun _ _ => rfl)) pa_nil)))))))), ?_⟩
    refine ⟨_, rfl, rfl, _, rfl, ite3 (fun c => ?_) (fun c => ?_)⟩
    · rw [wd_eq] at c
      subst c
      exact ⟨_, rfl, a, _, _, _, rfl, rfl, SqT.of ha, at4_0, _, rfl, a, _, _, _, rfl, rfl, SqT.of ha, at4_1, _, rfl, a, _, _, _, rfl, rfl, SqT.of ha, at4_2, _, rfl, a, _, _, _, rfl, rfl, SqT.of ha, at4_1, _, rfl, _, _, rfl, rfl, lenOk 4, fun p np => q p _ (Same.new np) upd_same⟩
    · rw [wd_eq] at c
      subst c
      exact ⟨_, rfl, a, _, _, _, rfl, rfl, SqT.of ha, at4_0, _, rfl, a, _, _, _, rfl, rfl, SqT.of ha, at4_1, _, rfl, a, _, _, _, rfl, rfl, SqT.of ha, at4_0, _, rfl, _, _, rfl, rfl, _, rfl, a, _, _, _, rfl, rfl, SqT.of ha, at4_3, lenOk 4, fun p np => q p _ (Same.new np) upd_same⟩
theorem S_other_piece : FnScope ["piece", "word", "at"] ["piece", "word", "at"] (defScope s_other_piece) := ⟨rfl, rfl, rfl, by decide +kernel, rfl, by decide +kernel, by decide +kernel⟩
theorem ok_other_piece {f : Addr} {fd : FuncData} (F : Fun K "other_piece" "other_piece" s_other_piece f fd) (T : Txt mg t1 t2 t3 t4 t5 t6 fS) : FnOk P w K mg base CX0 1 f fd ["piece", "word", "at"] sp_other := by
  have S := S_other_piece
  refine F.ok S (fun vs H Q E h => ?_) (fun cdv A outer s H vs Q E hr h => ?_)
  · obtain ⟨a, t, l, b, r, k, u, rfl, _⟩ := h; rfl
  · obtain ⟨a, t, l, b, r, k, u, rfl, ha, q⟩ := h
    refine ⟨_, (pss_cons (ps_if (pt_cmpR op_eq (pv 1) (pe_glob (v := .str "upright") rfl T.g_UPRIGHT ⟨_, rfl⟩) (nomark _)) (pss_one (ps_ret (pe_tup (pa_cons (pe_ix ix_tup (pv 0) pe_int (fun _ _ => rfl)) (pa_cons (pe_op op_add (pe_ix ix_tup (pv 0) pe_int (fun _ _ => rfl)) (pv 2)) (pa_cons (pe_ix ix_tup (pv 0) pe_int (fun _ _ => rfl)) (pa_cons (pe_ix ix_tup (pv 0) pe_int (fun _ _ => rfl)) pa_nil))))))) pss_nil)
      (pss_one (ps_ret (pe_tup (pa_cons (pe_op op_add (pe_ix ix_tup (pv 0) pe_int (fun _ _ => rfl)) (pv 2)) (pa_cons (pe_ix ix_tup (pv 0) pe_int (fun _ _ => rfl)) (pa_cons (pe_ix ix_tup (pv 0) pe_int (fun _ _ => rfl)) (pa_cons (pe_ix ix_tup (pv 0) pe_int (fun _ _ => rfl)) pa_nil)))))))), ?_⟩
    refine ⟨_, rfl, rfl, _, rfl, ite3 (fun c => ?_) (fun c => ?_)⟩
    · rw [wd_eq] at c
      subst c
      exact ⟨_, rfl, a, _, _, _, rfl, rfl, SqT.of ha, at4_0, _, rfl, a, _, _, _, rfl, rfl, SqT.of ha, at4_1, _, rfl, _, _, rfl, rfl, _, rfl, a, _, _, _, rfl, rfl, SqT.of ha, at4_2, _, rfl, a, _, _, _, rfl, rfl, SqT.of ha, at4_3, lenOk 4, fun p np => q p _ (Same.new np) upd_same⟩
    · rw [wd_eq] at c
      subst c
      exact ⟨_, rfl, a, _, _, _, rfl, rfl, SqT.of ha, at4_0, _, rfl, _, _, rfl, rfl, _, rfl, a, _, _, _, rfl, rfl, SqT.of ha, at4_1, _, rfl, a, _, _, _, rfl, rfl, SqT.of ha, at4_2, _, rfl, a, _, _, _, rfl, rfl, SqT.of ha, at4_3, lenOk 4, fun p np => q p _ (Same.new np) upd_same⟩
theorem S_is_kind : FnScope ["thing"] ["thing"] (defScope s_is_kind) := ⟨rfl, rfl, rfl, by decide +kernel, rfl, by decide +kernel, by decide +kernel⟩
theorem ok_is_kind {f : Addr} {fd : FuncData} (F : Fun K "is_kind" "is_kind" s_is_kind f fd) (T : Txt mg t1 t2 t3 t4 t5 t6 fS) (D_is_whole : DefOk P w K mg base 1 "is_whole" ["thing"] sp_whole) (D_is_side : DefOk P w K mg base 2 "is_side" ["thing"] sp_side) : FnOk P w K mg base CX0 3 f fd ["thing"] sp_kind := by
  have S := S_is_kind
  refine F.ok S (fun vs H Q E h => ?_) (fun cdv A outer s H vs Q E hr h => ?_)
  · obtain ⟨a, k, rfl, _⟩ := h; rfl
  · obtain ⟨a, k, rfl, ha, ⟨w1, w2, h1, h2, o1, o2⟩, q⟩ := h
    refine ⟨_, (pss_cons (ps_if (PW.pt (pw_or (pt_not (pt_val (pe_callB call_isin rfl T.z_isinstance rfl (pa_cons (pv 0) (pa_cons (pe_bltn (v := .ty "tuple") rfl T.z_tuple rfl rfl) pa_nil))))) (pw_or1 (pt_cmpR op_ne (pe_callB call_len_seq rfl T.z_len rfl (pa_cons (pv 0) pa_nil)) pe_int (nomark _))))) (pss_one (ps_ret pe_bl)) pss_nil)
      (pss_cons (ps_if (PW.pt (pw_or (pt_not (pt_val (pe_fn D_is_side hr (pa_cons (pe_ix ix_tup (pv 0) pe_int (fun _ _ => rfl)) pa_nil)))) (pw_or1 (pt_not (pt_val (pe_fn D_is_side hr (pa_cons (pe_ix ix_tup (pv 0) pe_int (fun _ _ => rfl)) pa_nil))))))) (pss_one (ps_ret pe_bl)) pss_nil)
      (pss_one (ps_ret (pe_and (pe_fn D_is_whole hr (pa_cons (pe_ix ix_tup (pv 0) pe_int (fun _ _ => rfl)) pa_nil)) (pe_and (pe_chain op_le op_le pe_int (pe_ix ix_tup (pv 0) pe_int (fun _ _ => rfl)) (pe_glob (v := .int 1000000000) rfl T.g_GREATEST_WORTH ⟨_, rfl⟩)) (pe_one (pe_callB call_isin rfl T.z_isinstance rfl (pa_cons (pe_ix ix_tup (pv 0) pe_int (fun _ _ => rfl)) (pa_cons (pe_bltn (v := .ty "bool") rfl T.z_bool rfl rfl) pa_nil)))))))))), ?_⟩
    refine ⟨_, rfl, .ref a, "tuple", "tuple", rfl, ty_tup ha, .inr (.inr (.inl rfl)), _, rfl, ite3 (fun z => absurd z (by decide)) (fun _ => ?_)⟩
    refine ⟨_, rfl, a, _, rfl, .inr (SqT.of ha), rfl, _, rfl, iteN (show (!decide (V.int ((4 : Nat) : Int) = V.int 4)) = false from by decide) ?_⟩
    refine ⟨_, rfl, a, _, _, _, rfl, rfl, SqT.of ha, at4_0, k.1, rfl, w1, w2, _, rfl, iteF ⟨_, rfl, a, _, _, _, rfl, rfl, SqT.of ha, at4_1, k.2.1, rfl, h1, h2, _, rfl, iteF ?_⟩⟩
    refine ⟨_, rfl, a, _, _, _, rfl, rfl, SqT.of ha, at4_2, k.2.2.1, rfl, _, rfl, iteT ⟨_, rfl, a, _, _, _, rfl, rfl, SqT.of ha, at4_2, _, _, rfl, rfl, _, rfl, ite3 (fun _ => ?_) (fun z => absurd o1 (of_decide_eq_false z))⟩⟩
    refine ⟨_, _, rfl, rfl, _, rfl, ite3 (fun _ => ?_) (fun z => absurd o2 (of_decide_eq_false z))⟩
    refine ⟨_, rfl, a, _, _, _, rfl, rfl, SqT.of ha, at4_3, .bl k.2.2.2, "bool", "bool", rfl, rfl, .inr (.inl rfl), ?_⟩
    have e1 : isB "bool" "bool" = true := by decide
    rw [e1]
    exact q
theorem S_check_kinds : FnScope ["kinds", "place", "kind"] ["kinds"] (defScope s_check_kinds) := ⟨rfl, rfl, rfl, by decide +kernel, rfl, by decide +kernel, by decide +kernel⟩
theorem ok_check_kinds {f : Addr} {fd : FuncData} (F : Fun K "check_kinds" "check_kinds" s_check_kinds f fd) (T : Txt mg t1 t2 t3 t4 t5 t6 fS) (D_is_kind : DefOk P w K mg base 3 "is_kind" ["thing"] sp_kind) : FnOk P w K mg base CX0 4 f fd ["kinds"] sp_check := by
  have S := S_check_kinds
  refine F.ok S (fun vs H Q E h => ?_) (fun cdv A outer s H vs Q E hr h => ?_)
  · obtain ⟨a, ks, rfl, _⟩ := h; rfl
  · obtain ⟨a, ks, rfl, ⟨ts, ha, ht, rfl⟩, few, ok, q⟩ := h
    rw [List.length_map] at few
    refine ⟨_, (pss_cons (ps_if (pt_cmpR op_gt (pe_callB call_len_seq rfl T.z_len rfl (pa_cons (pv 0) pa_nil)) (pe_glob (v := .int 8) rfl T.g_MOST_KINDS ⟨_, rfl⟩) (nomark _)) (pss_one ps_never) pss_nil)
      (pss_one (ps_for PassesOwn.never rfl (pi_enum rfl T.z_enumerate (pa_cons (pv 0) pa_nil)) (pg_tup rfl (pgs_cons (pg_name (i := 1) S.nd rfl (Or.inl rfl)) (pgs_cons (pg_name (i := 2) S.nd rfl (Or.inl rfl)) pgs_nil))) (pss_one (ps_if (pt_not (pt_val (pe_fn D_is_kind hr (pa_cons (pv 2) pa_nil)))) (pss_one ps_never) pss_nil))))), ?_⟩
    refine ⟨_, rfl, a, _, rfl, .inl (SqL.of ha), _, _, rfl, rfl, _, rfl, iteN (decide_eq_false (by rw [refs_len]; first | lia | omega)) ?_⟩
    refine ⟨_, rfl, a, rfl, ⟨_, SqL.of ha⟩, for_enum (K := K) (a := a) (xs := refs ts) (fun i σ H' => (∃ x y, σ = [some (.ref a), x, y]) ∧ Same H H') ⟨⟨none, none, rfl⟩, Same.refl H⟩ (fun i σ H' _ hp => SqL.of (hp.2 _ _ ha)) ?_ ?_⟩
    · rintro i x σ H1 t hx ⟨⟨x0, y0, rfl⟩, s1⟩ nt
      obtain ⟨u, hu, rfl⟩ := refs_get hx
      have hm := List.mem_of_getElem? hu
      have s2 : Same H1 (upd H1 t (.tup [.int i, .ref u.1])) := Same.new nt
      refine ⟨t, _, rfl, SqT.of upd_same, rfl, _, _, rfl, _, _, rfl, rfl, _, rfl, u.1, u.2, rfl, s2 _ _ (s1 _ _ (ht u hm)), ok _ (List.mem_map.mpr ⟨u, hm, rfl⟩), _, rfl, iteF ⟨⟨_, _, rfl⟩, s1.trans s2⟩⟩
    · rintro σ H1 ⟨_, s1⟩
      exact q H1 s1
theorem S_size_of : FnScope ["rectangle"] ["rectangle"] (defScope s_size_of) := ⟨rfl, rfl, rfl, by decide +kernel, rfl, by decide +kernel, by decide +kernel⟩
theorem ok_size_of {f : Addr} {fd : FuncData} (F : Fun K "size_of" "size_of" s_size_of f fd) : FnOk P w K mg base CX0 1 f fd ["rectangle"] sp_size := by
  have S := S_size_of
  refine F.ok S (fun vs H Q E h => ?_) (fun cdv A outer s H vs Q E hr h => ?_)
  · obtain ⟨a, t, l, b, r, rfl, _⟩ := h; rfl
  · obtain ⟨a, t, l, b, r, rfl, ha, q⟩ := h
    refine ⟨_, (pss_one (ps_ret (pe_tup (pa_cons (pe_op op_sub (pe_ix ix_tup (pv 0) pe_int (fun _ _ => rfl)) (pe_ix ix_tup (pv 0) pe_int (fun _ _ => rfl))) (pa_cons (pe_op op_sub (pe_ix ix_tup (pv 0) pe_int (fun _ _ => rfl)) (pe_ix ix_tup (pv 0) pe_int (fun _ _ => rfl))) pa_nil))))), ?_⟩
    exact ⟨_, rfl, a, _, _, _, rfl, rfl, SqT.of ha, at4_3, _, rfl, a, _, _, _, rfl, rfl, SqT.of ha, at4_1, _, _, rfl, rfl, _, rfl, a, _, _, _, rfl, rfl, SqT.of ha, at4_2, _, rfl, a, _, _, _, rfl, rfl, SqT.of ha, at4_0, _, _, rfl, rfl, lenOk 2, fun p np => q p _ (Same.new np) upd_same⟩
theorem S_has_size : FnScope ["size", "width", "height", "turns"] ["size", "width", "height", "turns"] (defScope s_has_size) := ⟨rfl, rfl, rfl, by decide +kernel, rfl, by decide +kernel, by decide +kernel⟩
theorem ok_has_size {f : Addr} {fd : FuncData} (F : Fun K "has_size" "has_size" s_has_size f fd) : FnOk P w K mg base CX0 1 f fd ["size", "width", "height", "turns"] sp_has := by
  have S := S_has_size
  refine F.ok S (fun vs H Q E h => ?_) (fun cdv A outer s H vs Q E hr h => ?_)
  · obtain ⟨a, w, h, W, T', u, rfl, _⟩ := h; rfl
  · obtain ⟨a, w, h, W, T', u, rfl, ha, q⟩ := h
    refine ⟨_, (pss_one (ps_ret (pe_or (pe_cmpR (op_eqD hr) (pv 0) (pe_tup (pa_cons (pv 1) (pa_cons (pv 2) pa_nil))) (nomark _)) (pe_one (pe_and (pv 3) (pe_one (pe_cmpR (op_eqD hr) (pv 0) (pe_tup (pa_cons (pv 2) (pa_cons (pv 1) pa_nil))) (nomark _)))))))), ?_⟩
    refine ⟨_, rfl, _, rfl, _, rfl, lenOk 2, fun p np => ?_⟩
    have s1 : Same H (upd H p (.tup [.int W, .int T'])) := Same.new np
    refine ⟨_, _, pairD_is (SqT.of (s1 _ _ ha)), pairD_is (SqT.of upd_same), ⟨_, rfl⟩, ⟨_, rfl⟩, pairD_dep _ _, _, rfl, ite3 (fun c => ?_) (fun c => ?_)⟩
    · rw [if_neg Bool.false_ne_true, pairD_eq] at c
      have e : hasB w h W T' u = true := by unfold hasB; rw [c]; rfl
      have := q _ s1
      rw [e] at this
      exact this
    · rw [if_neg Bool.false_ne_true, pairD_eq] at c
      have e : hasB w h W T' u = (u && (decide (w = T') && decide (h = W))) := by unfold hasB; rw [c]; rfl
      refine ⟨_, rfl, _, rfl, ite3 (fun c1 => ?_) (fun c1 => ?_)⟩
      · refine ⟨_, rfl, _, rfl, _, rfl, lenOk 2, fun p2 np2 => ?_⟩
        have s2 : Same (upd H p (.tup [.int W, .int T'])) (upd (upd H p (.tup [.int W, .int T'])) p2 (.tup [.int T', .int W])) := Same.new np2
        refine ⟨_, _, pairD_is (SqT.of (s2 _ _ (s1 _ _ ha))), pairD_is (SqT.of upd_same), ⟨_, rfl⟩, ⟨_, rfl⟩, pairD_dep _ _, ?_⟩
        rw [if_neg Bool.false_ne_true, pairD_eq]
        have := q _ (s1.trans s2)
        rw [e, c1] at this
        exact this
      · have := q _ s1
        rw [e, c1] at this
        exact this
theorem S_is_of_kind : FnScope ["piece", "kind"] ["piece", "kind"] (defScope s_is_of_kind) := ⟨rfl, rfl, rfl, by decide +kernel, rfl, by decide +kernel, by decide +kernel⟩
theorem ok_is_of_kind {f : Addr} {fd : FuncData} (F : Fun K "is_of_kind" "is_of_kind" s_is_of_kind f fd) (D_size_of : DefOk P w K mg base 1 "size_of" ["rectangle"] sp_size) (D_has_size : DefOk P w K mg base 1 "has_size" ["size", "width", "height", "turns"] sp_has) : FnOk P w K mg base CX0 2 f fd ["piece", "kind"] sp_of := by
  have S := S_is_of_kind
  refine F.ok S (fun vs H Q E h => ?_) (fun cdv A outer s H vs Q E hr h => ?_)
  · obtain ⟨a, b, t, l, o, r, k, rfl, _⟩ := h; rfl
  · obtain ⟨a, b, t, l, o, r, k, rfl, ha, hb, q⟩ := h
    refine ⟨_, (pss_one (ps_ret (pe_fn D_has_size hr (pa_cons (pe_fn D_size_of hr (pa_cons (pv 0) pa_nil)) (pa_cons (pe_ix ix_tup (pv 1) pe_int (fun _ _ => rfl)) (pa_cons (pe_ix ix_tup (pv 1) pe_int (fun _ _ => rfl)) (pa_cons (pe_ix ix_tup (pv 1) pe_int (fun _ _ => rfl)) pa_nil))))))), ?_⟩
    refine ⟨_, rfl, a, t, l, o, r, rfl, ha, fun c H1 s1 hc => ?_⟩
    exact ⟨_, rfl, b, _, _, _, rfl, rfl, SqT.of (s1 _ _ hb), at4_0, _, rfl, b, _, _, _, rfl, rfl, SqT.of (s1 _ _ hb), at4_1, _, rfl, b, _, _, _, rfl, rfl, SqT.of (s1 _ _ hb), at4_3, c, _, _, _, _, _, rfl, hc, fun H2 s2 => q H2 (s1.trans s2)⟩
theorem S_choice_uncut : FnScope ["piece", "kinds", "choice", "mark", "kind"] ["piece", "kinds"] (defScope s_choice_uncut) := ⟨rfl, rfl, rfl, by decide +kernel, rfl, by decide +kernel, by decide +kernel⟩
theorem ok_choice_uncut {f : Addr} {fd : FuncData} (F : Fun K "choice_uncut" "choice_uncut" s_choice_uncut f fd) (T : Txt mg t1 t2 t3 t4 t5 t6 fS) (D_is_of_kind : DefOk P w K mg base 2 "is_of_kind" ["piece", "kind"] sp_of) : FnOk P w K mg base CX0 3 f fd ["piece", "kinds"] sp_uncut := by
  have S := S_choice_uncut
  refine F.ok S (fun vs H Q E h => ?_) (fun cdv A outer s H vs Q E hr h => ?_)
  · obtain ⟨a, b, t, l, o, r, ks, rfl, _⟩ := h; rfl
  · obtain ⟨a, b, t, l, o, r, ks, rfl, ha, ⟨ts, hb, ht, rfl⟩, few, q⟩ := h
    refine ⟨_, (pss_cons (ps_set (i := 2) S.nd rfl (Or.inl rfl) (pe_tup (pa_cons pe_int (pa_cons (pe_tup (pa_cons (pe_glob (v := .str "whole") rfl T.g_WHOLE ⟨_, rfl⟩) (pa_cons pe_non pa_nil))) pa_nil))))
      (pss_cons (ps_for PassesOwn.never rfl (pi_enum rfl T.z_enumerate (pa_cons (pv 1) pa_nil)) (pg_tup rfl (pgs_cons (pg_name (i := 3) S.nd rfl (Or.inl rfl)) (pgs_cons (pg_name (i := 4) S.nd rfl (Or.inl rfl)) pgs_nil))) (pss_one (ps_if (PW.pt (pw_and (pt_val (pe_fn D_is_of_kind hr (pa_cons (pv 0) (pa_cons (pv 4) pa_nil)))) (pw_and1 (pt_cmpR op_gt (pe_ix ix_tup (pv 4) pe_int (fun _ _ => rfl)) (pe_ix ix_tup (pv 2) pe_int (fun _ _ => rfl)) (nomark _))))) (pss_one (ps_set (i := 2) S.nd rfl (Or.inl rfl) (pe_tup (pa_cons (pe_ix ix_tup (pv 4) pe_int (fun _ _ => rfl)) (pa_cons (pe_tup (pa_cons (pe_glob (v := .str "whole") rfl T.g_WHOLE ⟨_, rfl⟩) (pa_cons (pv 3) pa_nil))) pa_nil))))) pss_nil)))
      (pss_one (ps_ret (pv 2))))), ?_⟩
    refine ⟨lenOk 2, fun p1 n1 => ⟨lenOk 2, fun p2 n2 => ?_⟩⟩
    have z1 : Same H (upd H p1 (.tup [.str "whole", .non])) := Same.new n1
    have z2 : Same (upd H p1 (.tup [.str "whole", .non])) (upd (upd H p1 (.tup [.str "whole", .non])) p2 (.tup [.int 0, .ref p1])) := Same.new n2
    have e2 : Cho (upd (upd H p1 (.tup [.str "whole", .non])) p2 (.tup [.int 0, .ref p1])) p2 0 := ⟨_, upd_same⟩
    have s2 := z1.trans z2
    generalize upd (upd H p1 (.tup [.str "whole", .non])) p2 (.tup [.int 0, .ref p1]) = H2 at e2 s2 ⊢
    clear z1 z2
    refine ⟨_, rfl, b, rfl, ⟨_, SqL.of (s2 _ _ hb)⟩, for_enum (K := K) (a := b) (xs := refs ts) (fun i σ H' => Same H H' ∧ ∃ c, (∃ x y, σ = [some (.ref a), some (.ref b), some (.ref c), x, y]) ∧ Cho H' c (((ts.map (·.2)).take i).foldl (pick (r - l) (o - t)) 0)) ⟨s2, p2, ⟨none, none, rfl⟩, e2⟩ (fun i σ H' _ hp => SqL.of (hp.1 _ _ hb)) ?_ ?_⟩
    · rintro i x σ H3 tt hx ⟨s3, c, ⟨x0, y0, rfl⟩, hc⟩ nt
      obtain ⟨u, hu, rfl⟩ := refs_get hx
      have um := List.mem_of_getElem? hu
      have tk1 : (ts.map (·.2)).take (i + 1) = (ts.map (·.2)).take i ++ [u.2] := by rw [List.take_succ, List.getElem?_map, hu]; rfl
      have s4 : Same H3 (upd H3 tt (.tup [.int i, .ref u.1])) := Same.new nt
      have hu4 := s4 _ _ (s3 _ _ (ht u um))
      have ha4 := s4 _ _ (s3 _ _ ha)
      have hc4 := hc.same s4
      refine ⟨tt, _, rfl, SqT.of upd_same, rfl, _, _, rfl, _, _, rfl, rfl, ?_⟩
      generalize upd H3 tt (.tup [.int i, .ref u.1]) = H4 at s4 hu4 ha4 hc4 ⊢
      refine ⟨_, rfl, _, rfl, a, u.1, t, l, o, r, u.2, rfl, ha4, hu4, fun H5 s5 => ⟨_, rfl, ite3 (fun c1 => ?_) (fun c1 => ?_)⟩⟩
      · obtain ⟨e, he⟩ := hc4.same s5
        have hu5 := s5 _ _ hu4
        refine ⟨_, rfl, u.1, _, _, _, rfl, rfl, SqT.of hu5, at4_2, _, rfl, c, _, _, _, rfl, rfl, SqT.of he, at2_0, _, _, rfl, rfl, _, rfl, ite3 (fun c2 => ?_) (fun c2 => ?_)⟩
        · refine ⟨_, rfl, u.1, _, _, _, rfl, rfl, SqT.of hu5, at4_2, _, rfl, lenOk 2, fun q1 m1 => ⟨lenOk 2, fun q2 m2 => ?_⟩⟩
          have y1 : Same H5 (upd H5 q1 (.tup [.str "whole", .int i])) := Same.new m1
          have y2 : Same (upd H5 q1 (.tup [.str "whole", .int i])) (upd (upd H5 q1 (.tup [.str "whole", .int i])) q2 (.tup [.int u.2.2.2.1, .ref q1])) := Same.new m2
          refine ⟨s3.trans (s4.trans (s5.trans (y1.trans y2))), q2, ⟨_, _, rfl⟩, ?_⟩
          rw [tk1, List.foldl_append]
          show Cho _ q2 (pick (r - l) (o - t) _ u.2)
          unfold pick
          rw [if_pos ⟨c1, of_decide_eq_true c2⟩]
          exact ⟨_, upd_same⟩
        · refine ⟨s3.trans (s4.trans s5), c, ⟨_, _, rfl⟩, ?_⟩
          rw [tk1, List.foldl_append]
          show Cho _ c (pick (r - l) (o - t) _ u.2)
          unfold pick
          rw [if_neg (fun z => of_decide_eq_false c2 z.2)]
          exact ⟨e, he⟩
      · refine iteF ⟨s3.trans (s4.trans s5), c, ⟨_, _, rfl⟩, ?_⟩
        rw [tk1, List.foldl_append]
        show Cho _ c (pick (r - l) (o - t) _ u.2)
        unfold pick
        rw [if_neg (fun z => by rw [c1] at z; cases z.1)]
        exact hc4.same s5
    · rintro σ H3 ⟨s3, c, ⟨x0, y0, rfl⟩, hc⟩
      have e : (ts.map (·.2)).take (refs ts).length = ts.map (·.2) := by rw [refs_len, ← List.length_map (f := fun x : Addr × Kind => x.2) (as := ts), List.take_length]
      rw [e] at hc
      exact ⟨_, rfl, q c H3 s3 hc⟩
theorem S_cuts_within : FnScope ["piece", "size"] ["piece"] (defScope s_cuts_within) := ⟨rfl, rfl, rfl, by decide +kernel, rfl, by decide +kernel, by decide +kernel⟩
def cI (H1 : Hp) (acc : Addr) (g : Bool) (j : Nat) (zs : List V) (σ : St) (H' : Hp) : Prop :=
  (∃ y, σ = [y]) ∧ Same H1 H' ∧ ∃ us : List (Addr × Bool × Int), zs = refs us ∧ (∀ t ∈ us, H' t.1 = some (.tup [.str (wd t.2.1), .int t.2.2]) ∧ t.1 ≠ acc) ∧ us.map (·.2) = (upto j).map fun a => (g, a)
theorem cI.next {H1 H2 : Hp} {acc t : Addr} {g : Bool} {j n : Nat} {zs : List V} {σ : St} {y : Option V} (c : cI H1 acc g j zs σ H2) (na : H1 acc = none) (ha : H2 acc = some (.lst zs)) (hn : n ≤ 12) (hj : j < n) (hz : zs.length = j) (nt : H2 t = none) :
    cNx acc n (cI H1 acc g) j [y] (.ref t) (upd H2 t (.tup [.str (wd g), .int (1 + (j : Int))])) := by
  obtain ⟨_, s1, us, rfl, h1, h2⟩ := c
  have nt' : t ≠ acc := fun z => by rw [z, ha] at nt; cases nt
  have s2 : Same H2 (upd H2 t (.tup [.str (wd g), .int (1 + (j : Int))])) := Same.new nt
  refine cNx.mk (Nat.le_of_lt (small1000 (by first | lia | omega))) hj hz (s2 _ _ ha) ⟨⟨_, rfl⟩, fun b o e => ?_, us ++ [(t, g, 1 + (j : Int))], ?_, fun u hu => ?_, ?_⟩
  · rw [upd_ne (ne_of_none e na)]
    exact s2 _ _ (s1 b o e)
  · simp [refs]
  · rcases List.mem_append.mp hu with hu | hu
    · obtain ⟨e, n⟩ := h1 u hu
      exact ⟨by rw [upd_ne n]; exact s2 _ _ e, n⟩
    · rw [List.mem_singleton.mp hu]
      exact ⟨by rw [upd_ne nt']; exact upd_same, nt'⟩
  · rw [List.map_append, h2, upto_succ, List.map_append]; rfl
theorem ok_cuts_within {f : Addr} {fd : FuncData} (F : Fun K "cuts_within" "cuts_within" s_cuts_within f fd) (T : Txt mg t1 t2 t3 t4 t5 t6 fS) (D_size_of : DefOk P w K mg base 1 "size_of" ["rectangle"] sp_size) : FnOk P w K mg base CX0 2 f fd ["piece"] sp_cuts := by
  have S := S_cuts_within
  refine F.ok S (fun vs H Q E h => ?_) (fun cdv A outer s H vs Q E hr h => ?_)
  · obtain ⟨a, t, l, o, r, rfl, _⟩ := h; rfl
  · obtain ⟨a, t, l, o, r, rfl, ha, w1, w2, h1, h2, q⟩ := h
    refine ⟨_, (pss_cons (ps_set (i := 1) S.nd rfl (Or.inl rfl) (pe_fn D_size_of hr (pa_cons (pv 0) pa_nil)))
      (pss_one (ps_ret (pe_op op_cat (pe_comp rfl (pi_range2 rfl T.z_range (pa_cons pe_int (pa_cons (pe_ix ix_tup (pv 1) pe_int (fun _ _ => rfl)) pa_nil))) (fun _ _ _ _ _ => (pg_name (i := 0) (show List.Nodup (["at"] : List Str) from by decide +kernel) rfl (Or.inl rfl))) (fun _ _ _ _ _ => (pe_tup (pa_cons (pe_glob (v := .str "upright") rfl T.g_UPRIGHT ⟨_, rfl⟩) (pa_cons (pv 0) pa_nil)))) (N := ["at"]) (fr := [none])) (pe_comp rfl (pi_range2 rfl T.z_range (pa_cons pe_int (pa_cons (pe_ix ix_tup (pv 1) pe_int (fun _ _ => rfl)) pa_nil))) (fun _ _ _ _ _ => (pg_name (i := 0) (show List.Nodup (["at"] : List Str) from by decide +kernel) rfl (Or.inl rfl))) (fun _ _ _ _ _ => (pe_tup (pa_cons (pe_glob (v := .str "level") rfl T.g_LEVEL ⟨_, rfl⟩) (pa_cons (pv 0) pa_nil)))) (N := ["at"]) (fr := [none])))))), ?_⟩
    refine ⟨_, rfl, a, t, l, o, r, rfl, ha, fun z H1 s1 hz => ?_⟩
    refine ⟨_, rfl, z, _, _, _, rfl, rfl, SqT.of hz, at2_0, 1, _, rfl, ⟨by first | lia | omega, by first | lia | omega, by first | lia | omega, by first | lia | omega⟩, fun acc na => comp_range (lo := 1) (n := (r - l - 1).toNat) (cI H1 acc true) ⟨⟨none, rfl⟩, Same.new na, [], rfl, (fun t ht => nomatch ht), rfl⟩ ?_ ?_⟩
    · rintro j zs σ H2 hj hzl ha2 c
      obtain ⟨⟨y, rfl⟩, s2, _⟩ := id c
      exact ⟨_, rfl, lenOk 2, fun p np => c.next na ha2 (by first | lia | omega) hj hzl np⟩
    · rintro zs σ H2 hzl ha2 ⟨_, s2, us, rfl, hus, hm⟩
      refine ⟨_, rfl, z, _, _, _, rfl, rfl, SqT.of (s2 _ _ hz), at2_1, 1, _, rfl, ⟨by first | lia | omega, by first | lia | omega, by first | lia | omega, by first | lia | omega⟩, fun acc' na' => comp_range (lo := 1) (n := (o - t - 1).toNat) (cI H2 acc' false) ⟨⟨none, rfl⟩, Same.new na', [], rfl, (fun t ht => nomatch ht), rfl⟩ ?_ ?_⟩
      · rintro j zs σ H3 hj hzl' ha3 c
        obtain ⟨⟨y, rfl⟩, s3, _⟩ := id c
        exact ⟨_, rfl, lenOk 2, fun p np => c.next na' ha3 (by first | lia | omega) hj hzl' np⟩
      · rintro zs σ H3 hzl' ha3 ⟨_, s3, vs, rfl, hvs, hm'⟩
        rw [refs_len] at hzl hzl'
        refine ⟨acc, acc', _, _, rfl, rfl, s3 _ _ ha2, ha3, Nat.le_of_lt (small1000 (by rw [refs_len, refs_len]; first | lia | omega)), fun p np => ?_⟩
        have s4 : Same H3 (upd H3 p (.lst (refs us ++ refs vs))) := Same.new np
        refine q p _ (s1.trans (s2.trans (s3.trans s4))) ⟨us ++ vs, by rw [upd_same]; simp [refs], fun u hu => ?_, ?_⟩
        · rcases List.mem_append.mp hu with hu | hu
          · exact s4 _ _ (s3 _ _ (hus u hu).1)
          · exact s4 _ _ (hvs u hu).1
        · rw [List.map_append, hm, hm']; rfl
theorem S_best_choice : FnScope ["piece", "uncut", "choices", "key", "choice", "word", "at", "first", "other"] ["piece", "uncut", "choices", "key"] (defScope s_best_choice) := ⟨rfl, rfl, rfl, by decide +kernel, rfl, by decide +kernel, by decide +kernel⟩
theorem ok_best_choice {f : Addr} {fd : FuncData} (F : Fun K "best_choice" "best_choice" s_best_choice f fd) (T : Txt mg t1 t2 t3 t4 t5 t6 fS) (D_size_of : DefOk P w K mg base 1 "size_of" ["rectangle"] sp_size) (D_first_piece : DefOk P w K mg base 1 "first_piece" ["piece", "word", "at"] sp_first) (D_other_piece : DefOk P w K mg base 1 "other_piece" ["piece", "word", "at"] sp_other) (D_cuts_within : DefOk P w K mg base 2 "cuts_within" ["piece"] sp_cuts) : FnOk P w K mg base CX0 3 f fd ["piece", "uncut", "choices", "key"] (sp_best mg) := by
  have S := S_best_choice
  refine F.ok S (fun vs H Q E h => ?_) (fun cdv A outer s H vs Q E hr h => ?_)
  · obtain ⟨a, u, d, fk, w, h, m, L, ad, g, rfl, _⟩ := h; rfl
  · obtain ⟨a, u, d, fk, w, h, m, L, ad, g, rfl, hfk, ha, hu0, tab, w1, w2, h1, h2, need, q⟩ := h
    have hu := hu_of hr
    refine ⟨_, (pss_cons (ps_set (i := 4) S.nd rfl (Or.inl rfl) (pv 1))
      (pss_cons (ps_for PassesOwn.never rfl (pi_list (pe_fn D_cuts_within hr (pa_cons (pv 0) pa_nil))) (pg_tup rfl (pgs_cons (pg_name (i := 5) S.nd rfl (Or.inl rfl)) (pgs_cons (pg_name (i := 6) S.nd rfl (Or.inl rfl)) pgs_nil))) (pss_cons (ps_set (i := 7) S.nd rfl (Or.inl rfl) (pe_dget hu (pv 2) (pe_fnv D_size_of hr (pv 3) (pa_cons (pe_fn D_first_piece hr (pa_cons (pv 0) (pa_cons (pv 5) (pa_cons (pv 6) pa_nil)))) pa_nil)) (fun _ _ => rfl)))
      (pss_cons (ps_set (i := 8) S.nd rfl (Or.inl rfl) (pe_dget hu (pv 2) (pe_fnv D_size_of hr (pv 3) (pa_cons (pe_fn D_other_piece hr (pa_cons (pv 0) (pa_cons (pv 5) (pa_cons (pv 6) pa_nil)))) pa_nil)) (fun _ _ => rfl)))
      (pss_one (ps_if (pt_cmpR op_gt (pe_op op_add (pe_ix ix_tup (pv 7) pe_int (fun _ _ => rfl)) (pe_ix ix_tup (pv 8) pe_int (fun _ _ => rfl))) (pe_ix ix_tup (pv 4) pe_int (fun _ _ => rfl)) (nomark _)) (pss_one (ps_set (i := 4) S.nd rfl (Or.inl rfl) (pe_tup (pa_cons (pe_op op_add (pe_ix ix_tup (pv 7) pe_int (fun _ _ => rfl)) (pe_ix ix_tup (pv 8) pe_int (fun _ _ => rfl))) (pa_cons (pe_tup (pa_cons (pv 5) (pa_cons (pv 6) pa_nil))) pa_nil))))) pss_nil)))))
      (pss_one (ps_ret (pv 4))))), ?_⟩
    have look : ∀ {H' : Hp} {c2 : Addr} {x y : Int}, Same H H' → H' c2 = some (.tup [.int x, .int y]) → (x, y) ∈ L → DGet H' d (.ref c2) (some (.ref (ad (x, y)))) ∧ Cho H' (ad (x, y)) (g x y) := fun {H' c2 x y} s' e m => by
      have t' := tab.same s'
      have dg := DGet.t (k := ky x y) t'.1 (show H' c2 = some (.tup ((ky x y).map kV)) from e)
      rw [tab_val _ L (x, y) m] at dg
      exact ⟨dg, t'.2 _ m⟩
    refine ⟨_, rfl, _, rfl, a, 0, 0, h, w, rfl, ha, by first | lia | omega, by first | lia | omega, by first | lia | omega, by first | lia | omega, fun c H1 s1 hc => ?_⟩
    simp only [Int.sub_zero] at hc
    obtain ⟨ts, e1, e2, e3⟩ := hc
    refine ⟨c, rfl, ⟨_, SqL.of e1⟩, for_list (K := K) (a := c) (xs := refs ts) (fun i σ H' => Same H1 H' ∧ ∃ c x5 x6 x7 x8, σ = [some (.ref a), some (.ref u), some (.ref d), some (.ref fk), some (.ref c), x5, x6, x7, x8] ∧ Cho H' c (((cutsL w h).take i).foldl (step g w h) m)) ⟨Same.refl H1, u, none, none, none, none, rfl, hu0.same s1⟩ (fun i σ H' _ hp => SqL.of (hp.1 _ _ e1)) ?_ ?_⟩
    · rintro i x σ H2 hx ⟨s2, c, x5, x6, x7, x8, rfl, hc⟩
      obtain ⟨⟨ta, b, k⟩, hv, rfl⟩ := refs_get hx
      have tm := List.mem_of_getElem? hv
      have hta : H2 ta = some (.tup [.str (wd b), .int k]) := s2 _ _ (e2 _ tm)
      have cin : (b, k) ∈ cutsL w h := by rw [← e3]; exact List.mem_map.mpr ⟨_, tm, rfl⟩
      have tk1 : (cutsL w h).take (i + 1) = (cutsL w h).take i ++ [(b, k)] := by rw [← e3, List.take_succ, List.getElem?_map, hv]; rfl
      have s02 := s1.trans s2
      refine ⟨ta, _, rfl, SqT.of hta, rfl, _, _, rfl, _, _, rfl, rfl, ?_⟩
      refine ⟨_, rfl, _, rfl, ⟨fk, rfl, hfk⟩, _, rfl, _, rfl, _, rfl, a, 0, 0, h, w, k, b, rfl, s02 _ _ ha, fun c1 H3 s3 hc1 => ⟨c1, _, _, _, _, rfl, hc1, fun c2 H4 s4 hc2 => ?_⟩⟩
      obtain ⟨p1, p2, hp1, hp2, m1, m2, tw⟩ : ∃ p1 p2 : Int × Int, H4 c2 = some (.tup [.int p1.1, .int p1.2]) ∧ ((if b = true then (w - k, h) else (w, h - k)) = p2) ∧ p1 ∈ L ∧ p2 ∈ L ∧ two g w h (b, k) = g p1.1 p1.2 + g p2.1 p2.2 := by
        rcases mem_cuts cin with ⟨z, k1, k2⟩ | ⟨z, k1, k2⟩
        · have z : b = true := z
          have k1 : 1 ≤ k := k1
          have k2 : k < w := k2
          subst z
          simp only [if_true, Int.zero_add, Int.sub_zero] at hc2
          exact ⟨(k, h), (w - k, h), hc2, rfl, need k h k1 (by first | lia | omega) h1 (by first | lia | omega) (.inl ⟨k2, rfl⟩), need (w - k) h (by first | lia | omega) (by first | lia | omega) h1 (by first | lia | omega) (.inl ⟨by first | lia | omega, rfl⟩), rfl⟩
        · have z : b = false := z
          have k1 : 1 ≤ k := k1
          have k2 : k < h := k2
          subst z
          simp only [Bool.false_eq_true, if_false, Int.zero_add, Int.sub_zero] at hc2
          exact ⟨(w, k), (w, h - k), hc2, rfl, need w k w1 (by first | lia | omega) k1 (by first | lia | omega) (.inr ⟨rfl, k2⟩), need w (h - k) w1 (by first | lia | omega) (by first | lia | omega) (by first | lia | omega) (.inr ⟨rfl, by first | lia | omega⟩), rfl⟩
      have s04 := s02.trans (s3.trans s4)
      obtain ⟨dg1, ch1⟩ := look s04 hp1 m1
      refine ⟨d, _, rfl, dg1, _, rfl, _, rfl, ⟨fk, rfl, hfk⟩, _, rfl, _, rfl, _, rfl, a, 0, 0, h, w, k, b, rfl, s04 _ _ ha, fun c3 H5 s5 hc3 => ⟨c3, _, _, _, _, rfl, hc3, fun c4 H6 s6 hc4 => ?_⟩⟩
      have hc4' : H6 c4 = some (.tup [.int p2.1, .int p2.2]) := by
        rw [← hp2]
        cases b with
        | true =>
          simp only [if_true, Int.zero_add, Int.sub_zero] at hc4 ⊢
          exact hc4
        | false =>
          simp only [Bool.false_eq_true, if_false, Int.zero_add, Int.sub_zero] at hc4 ⊢
          exact hc4
      have s46 := s5.trans s6
      obtain ⟨dg2, e4, ch2⟩ := look (s04.trans s46) hc4' m2
      obtain ⟨e3', ch1⟩ := ch1.same s46
      obtain ⟨e5, hc6⟩ := hc.same ((s3.trans s4).trans s46)
      refine ⟨d, _, rfl, dg2, _, rfl, ad p1, _, _, _, rfl, rfl, SqT.of ch1, at2_0, _, rfl, ad p2, _, _, _, rfl, rfl, SqT.of ch2, at2_0, _, _, rfl, rfl, _, rfl, c, _, _, _, rfl, rfl, SqT.of hc6, at2_0, _, _, rfl, rfl, _, rfl, ite3 (fun cc => ?_) (fun cc => ?_)⟩
      · refine ⟨_, rfl, ad p1, _, _, _, rfl, rfl, SqT.of ch1, at2_0, _, rfl, ad p2, _, _, _, rfl, rfl, SqT.of ch2, at2_0, _, _, rfl, rfl, _, rfl, _, rfl, lenOk 2, fun q1 n1 => ⟨lenOk 2, fun q2 n2 => ?_⟩⟩
        have y1 : Same H6 (upd H6 q1 (.tup [.str (wd b), .int k])) := Same.new n1
        have y2 : Same (upd H6 q1 (.tup [.str (wd b), .int k])) (upd (upd H6 q1 (.tup [.str (wd b), .int k])) q2 (.tup [.int (g p1.1 p1.2 + g p2.1 p2.2), .ref q1])) := Same.new n2
        refine ⟨s2.trans ((s3.trans s4).trans (s46.trans (y1.trans y2))), q2, _, _, _, _, rfl, ?_⟩
        rw [tk1, List.foldl_append]
        show Cho _ q2 (if List.foldl (step g w h) m (List.take i (cutsL w h)) < two g w h (b, k) then two g w h (b, k) else List.foldl (step g w h) m (List.take i (cutsL w h)))
        rw [tw, if_pos (of_decide_eq_true cc)]
        exact ⟨_, upd_same⟩
      · refine ⟨s2.trans ((s3.trans s4).trans s46), c, _, _, _, _, rfl, ?_⟩
        rw [tk1, List.foldl_append]
        show Cho _ c (if List.foldl (step g w h) m (List.take i (cutsL w h)) < two g w h (b, k) then two g w h (b, k) else List.foldl (step g w h) m (List.take i (cutsL w h)))
        rw [tw, if_neg (of_decide_eq_false cc)]
        exact ⟨_, hc6⟩
    · rintro σ H2 ⟨s2, c, x5, x6, x7, x8, rfl, hc⟩
      have e : (cutsL w h).take (refs ts).length = cutsL w h := by rw [refs_len, ← List.length_map (f := fun x : Addr × Bool × Int => x.2) (as := ts), e3, List.take_length]
      rw [e] at hc
      exact ⟨_, rfl, q c H2 (s1.trans s2) hc⟩
theorem S_worths_in : FnScope ["choices", "found", "key", "choice"] ["choices"] (defScope s_worths_in) := ⟨rfl, rfl, rfl, by decide +kernel, rfl, by decide +kernel, by decide +kernel⟩
theorem nd_take {α : Type} {L : List α} {i : Nat} {q : α} (n : L.Nodup) (h : L[i]? = some q) : q ∉ L.take i := by
  obtain ⟨hi, e⟩ := List.getElem?_eq_some_iff.mp h
  have d : L.drop i = q :: L.drop (i + 1) := by rw [List.drop_eq_getElem_cons hi, e]
  have n' : (L.take i ++ q :: L.drop (i + 1)).Nodup := by rw [← d, List.take_append_drop]; exact n
  intro m
  exact (List.nodup_append.mp n').2.2 q m q (by simp) rfl
theorem ok_worths_in {f : Addr} {fd : FuncData} (F : Fun K "worths_in" "worths_in" s_worths_in f fd) : FnOk P w K mg base CX0 1 f fd ["choices"] sp_in := by
  have S := S_worths_in
  refine F.ok S (fun vs H Q E h => ?_) (fun cdv A outer s H vs Q E hr h => ?_)
  · obtain ⟨d, L, ad, g, rfl, _⟩ := h; rfl
  · obtain ⟨d, L, ad, g, rfl, tab, nd, few, q⟩ := h
    have hu := hu_of hr
    refine ⟨_, (pss_cons (ps_set (i := 1) S.nd rfl (Or.inl rfl) pe_dnewT)
      (pss_cons (ps_for PassesOwn.never rfl (pi_itemsT (pv 0)) (pg_tup rfl (pgs_cons (pg_name (i := 2) S.nd rfl (Or.inl rfl)) (pgs_cons (pg_name (i := 3) S.nd rfl (Or.inl rfl)) pgs_nil))) (pss_one (ps_dput hu (pv 1) (pv 2) (pe_ix ix_tup (pv 3) pe_int (fun _ _ => rfl)) rfl)))
      (pss_one (ps_ret (pv 1))))), ?_⟩
    refine fun c nc => ?_
    have s1 : Same H (upd H c (.dT [])) := Same.new nc
    have cd : c ≠ d := fun z => by rw [z, tab.1] at nc; cases nc
    have tab1 := tab.same s1
    refine ⟨_, rfl, d, _, rfl, tab1.1, fun ob => for_itemsT (a := d) (ob := ob) (kvs := tabK L fun p => .ref (ad p)) (fun i σ H' => (∃ x y, σ = [some (.ref d), some (.ref c), x, y]) ∧ SameX c (upd (upd H c (.dT [])) d (.frz ob (.dT (tabK L fun p => .ref (ad p))))) H' ∧ H' c = some (.dT (tabK (L.take i) fun p => .int (g p.1 p.2))))
      ⟨⟨none, none, rfl⟩, SameX.refl, by rw [upd_ne cd]; exact upd_same⟩ (fun i σ H' _ hp => hp.2.1 _ _ (Ne.symm cd) upd_same) ?_ ?_⟩
    · rintro i p σ H2 t b hp ⟨⟨x0, y0, rfl⟩, s2, hc⟩ hb nt
      unfold tabK at hp
      rw [List.getElem?_map] at hp
      obtain ⟨p0, hp0, rfl⟩ := Option.map_eq_some_iff.mp hp
      have pm := List.mem_of_getElem? hp0
      obtain ⟨e, he⟩ := tab.2 p0 pm
      have hcho : (upd (upd H c (.dT [])) d (.frz ob (.dT (tabK L fun p => .ref (ad p))))) (ad p0) = some (.tup [.int (g p0.1 p0.2), e]) := by
        rw [upd_ne (fun z => by rw [z, tab.1] at he; cases he), upd_ne (ne_of_none he nc)]
        exact he
      have hc2 := s2 _ _ (fun z => by rw [z, upd_ne cd, upd_same] at hcho; cases hcho) hcho
      have s3 : Same H2 (upd H2 t (.tup [.ref b, .ref (ad p0)])) := Same.new nt
      refine ⟨t, _, rfl, SqT.of upd_same, rfl, _, _, rfl, _, _, rfl, rfl, ?_⟩
      refine ⟨_, rfl, ad p0, _, _, _, rfl, rfl, SqT.of (s3 _ _ hc2), at2_0, _, rfl, _, rfl, c, _, rfl, DPut.t (k := ky p0.1 p0.2) (s3 _ _ hc) (s3 _ _ hb) (small1000 (by rw [tab_len, List.length_take]; first | lia | omega)), ⟨_, _, rfl⟩, fun x o nx ex => ?_, ?_⟩
      · rw [upd_ne nx]
        exact s3 _ _ (s2 x o nx ex)
      · rw [upd_same, tab_put _ _ p0 (nd_take nd hp0)]
        have tk1 : L.take (i + 1) = L.take i ++ [p0] := by rw [List.take_succ, hp0]; rfl
        rw [tk1]
        unfold tabK
        rw [List.map_append]
        rfl
    · rintro σ H2 ⟨⟨x0, y0, rfl⟩, s2, hc⟩
      rw [tab_len, List.take_length] at hc
      refine ⟨_, rfl, q c H2 (fun x o nx ex => ?_) nc hc⟩
      exact s2 x o (ne_of_none ex nc) (by rw [upd_ne nx, upd_ne (ne_of_none ex nc)]; exact ex)
theorem S_choices_by_size : FnScope ["width", "height", "kinds", "choices", "wide", "high", "piece"] ["width", "height", "kinds"] (defScope s_choices_by_size) := ⟨rfl, rfl, rfl, by decide +kernel, rfl, by decide +kernel, by decide +kernel⟩
theorem ok_choices_by_size {f : Addr} {fd : FuncData} (F : Fun K "choices_by_size" "choices_by_size" s_choices_by_size f fd) (T : Txt mg t1 t2 t3 t4 t5 t6 fS) (D_check_sides : DefOk P w K mg base 3 "check_sides" ["width", "height"] sp_sides) (D_check_kinds : DefOk P w K mg base 4 "check_kinds" ["kinds"] sp_check) (D_choice_uncut : DefOk P w K mg base 3 "choice_uncut" ["piece", "kinds"] sp_uncut) (D_best_choice : DefOk P w K mg base 3 "best_choice" ["piece", "uncut", "choices", "key"] (sp_best mg)) : FnOk P w K mg base CX0 5 f fd ["width", "height", "kinds"] sp_choices := by
  have S := S_choices_by_size
  have R := T
  refine F.ok S (fun vs H Q E h => ?_) (fun cdv A outer s H vs Q E hr h => ?_)
  · obtain ⟨w, h, b, ks, rfl, _⟩ := h; rfl
  · obtain ⟨w, h, b, ks, rfl, w1, w2, h1, h2, hk, few, ok, q⟩ := h
    have hu := hu_of hr
    refine ⟨_, (pss_cons (ps_expr (pe_fn D_check_sides hr (pa_cons (pv 0) (pa_cons (pv 1) pa_nil))))
      (pss_cons (ps_expr (pe_fn D_check_kinds hr (pa_cons (pv 2) pa_nil)))
      (pss_cons (ps_set (i := 3) S.nd rfl (Or.inl rfl) pe_dnewT)
      (pss_cons (ps_for PassesOwn.never rfl (pi_range2 rfl T.z_range (pa_cons pe_int (pa_cons (pe_op op_add (pv 0) pe_int) pa_nil))) (pg_name (i := 4) S.nd rfl (Or.inl rfl)) (pss_one (ps_for PassesOwn.never rfl (pi_range2 rfl T.z_range (pa_cons pe_int (pa_cons (pe_op op_add (pv 1) pe_int) pa_nil))) (pg_name (i := 5) S.nd rfl (Or.inl rfl)) (pss_cons (ps_set (i := 6) S.nd rfl (Or.inl rfl) (pe_tup (pa_cons pe_int (pa_cons pe_int (pa_cons (pv 5) (pa_cons (pv 4) pa_nil))))))
      (pss_one (ps_dput hu (pv 3) (pe_tup (pa_cons (pv 4) (pa_cons (pv 5) pa_nil))) (pe_fn D_best_choice hr (pa_cons (pv 6) (pa_cons (pe_fn D_choice_uncut hr (pa_cons (pv 6) (pa_cons (pv 2) pa_nil))) (pa_cons (pv 3) (pa_cons (pe_glob (v := .ref (fS)) rfl R.g_size_of rfl) pa_nil))))) rfl))))))
      (pss_one (ps_ret (pv 3))))))), ?_⟩
    refine ⟨_, rfl, _, rfl, w, h, rfl, w1, w2, h1, h2, fun H1 s1 => ⟨_, rfl, b, ks, rfl, hk.same s1, few, ok, fun H2 s2 => fun d nd => ?_⟩⟩
    have s02 := s1.trans s2
    have s03 : Same H (upd H2 d (.dT [])) := s02.trans (Same.new nd)
    have hd3 : (upd H2 d (.dT [])) d = some (.dT []) := upd_same
    have nd0 : H d = none := wasNone s02 nd
    generalize upd H2 d (.dT []) = H3 at s03 hd3 ⊢
    have eW : (w + 1 - 1).toNat = w.toNat := by rw [show w + 1 - 1 = w from by first | lia | omega]
    have eT : (h + 1 - 1).toNat = h.toNat := by rw [show h + 1 - 1 = h from by first | lia | omega]
    refine ⟨_, rfl, _, _, rfl, rfl, 1, w + 1, rfl, ⟨by first | lia | omega, by first | lia | omega, by first | lia | omega, by first | lia | omega⟩, for_range (lo := 1) (n := (w + 1 - 1).toNat) (fun i σ H' => (∃ x4 x5 x6, σ = [some (.int w), some (.int h), some (.ref b), some (.ref d), x4, x5, x6]) ∧ SameX d H3 H' ∧ ∃ ad g, TabC H' d (sizes i h.toNat) ad g ∧ ∀ x y, 1 ≤ x → x ≤ (i : Int) → 1 ≤ y → y ≤ h → FOk ks g x y)
      ⟨⟨none, none, none, rfl⟩, SameX.refl, (fun _ => 0), (fun _ _ => 0), ⟨hd3, fun p hp => nomatch hp⟩, fun x y a b => by first | lia | omega⟩ ?_ ?_⟩
    · rintro i σ H4 hi ⟨⟨x4, x5, x6, rfl⟩, s4, ad, g, tab, good⟩
      rw [eW] at hi
      refine ⟨_, rfl, _, _, rfl, rfl, 1, h + 1, rfl, ⟨by first | lia | omega, by first | lia | omega, by first | lia | omega, by first | lia | omega⟩, for_range (lo := 1) (n := (h + 1 - 1).toNat) (fun j σ H' => (∃ x5 x6, σ = [some (.int w), some (.int h), some (.ref b), some (.ref d), some (.int (1 + (i : Int))), x5, x6]) ∧ SameX d H3 H' ∧ ∃ ad g, TabC H' d (sizes i h.toNat ++ (upto j).map fun y => (1 + (i : Int), y)) ad g ∧ (∀ x y, 1 ≤ x → x ≤ (i : Int) → 1 ≤ y → y ≤ h → FOk ks g x y) ∧ ∀ y, 1 ≤ y → y ≤ (j : Int) → FOk ks g (1 + (i : Int)) y)
        ⟨⟨_, _, rfl⟩, s4, ad, g, by rw [show (upto 0).map (fun y => (1 + (i : Int), y)) = [] from rfl, List.append_nil]; exact tab, good, fun y a b => by first | lia | omega⟩ ?_ ?_⟩
      · rintro j σ H5 hj ⟨⟨x5, x6, rfl⟩, s5, ad, g, tab, good, good2⟩
        rw [eT] at hj
        have s05 : Same H H5 := s5.same s03 nd0
        refine ⟨_, rfl, _, rfl, lenOk 4, fun p np => ?_⟩
        have z6 : Same H5 (upd H5 p (.tup [.int 0, .int 0, .int (1 + (j : Int)), .int (1 + (i : Int))])) := Same.new np
        have hp6 : Pc (upd H5 p (.tup [.int 0, .int 0, .int (1 + (j : Int)), .int (1 + (i : Int))])) p 0 0 (1 + (j : Int)) (1 + (i : Int)) := upd_same
        generalize upd H5 p (.tup [.int 0, .int 0, .int (1 + (j : Int)), .int (1 + (i : Int))]) = H6 at z6 hp6 ⊢
        refine ⟨_, rfl, _, rfl, _, rfl, p, b, 0, 0, 1 + (j : Int), 1 + (i : Int), ks, rfl, hp6, hk.same (s05.trans z6), few, fun c H7 s7 hc => ?_⟩
        simp only [Int.sub_zero] at hc
        have inL : ∀ x y : Int, 1 ≤ x → x ≤ 1 + (i : Int) → 1 ≤ y → y ≤ 1 + (j : Int) → (x < 1 + (i : Int) ∧ y = 1 + (j : Int)) ∨ (x = 1 + (i : Int) ∧ y < 1 + (j : Int)) → (x, y) ∈ sizes i h.toNat ++ (upto j).map fun y => (1 + (i : Int), y) := fun x y a1 a2 b1 b2 z => by
          rcases z with ⟨z1, z2⟩ | ⟨z1, z2⟩
          · exact List.mem_append_left _ (mem_sizes.mpr ⟨a1, by show x ≤ (i : Int); first | lia | omega, b1, by show y ≤ (h.toNat : Int); first | lia | omega⟩)
          · exact List.mem_append_right _ (List.mem_map.mpr ⟨y, mem_upto.mpr ⟨b1, by first | lia | omega⟩, by rw [z1]⟩)
        refine ⟨_, rfl, p, c, d, fS, 1 + (i : Int), 1 + (j : Int), _, _, ad, g, rfl, T.g_size_of, s7 _ _ hp6, hc, tab.same (z6.trans s7), by first | lia | omega, by first | lia | omega, by first | lia | omega, by first | lia | omega, inL, fun c2 H8 s8 hc2 => ?_⟩
        have s58 := z6.trans (s7.trans s8)
        refine ⟨_, rfl, _, rfl, _, rfl, lenOk 2, fun kt nk => ?_⟩
        have s9 : Same H8 (upd H8 kt (.tup [.int (1 + (i : Int)), .int (1 + (j : Int))])) := Same.new nk
        have ekt : (upd H8 kt (.tup [.int (1 + (i : Int)), .int (1 + (j : Int))])) kt = some (.tup ((ky (1 + (i : Int)) (1 + (j : Int))).map kV)) := upd_same
        have s59 := s58.trans s9
        have hc9 := hc2.same s9
        generalize upd H8 kt (.tup [.int (1 + (i : Int)), .int (1 + (j : Int))]) = H9 at ekt s59 hc9 ⊢
        clear s9
        have tab9 := tab.same s59
        have notin : (1 + (i : Int), 1 + (j : Int)) ∉ sizes i h.toNat ++ (upto j).map fun y => (1 + (i : Int), y) := fun z => by
          rcases List.mem_append.mp z with z | z
          · have := (mem_sizes.mp z).2.1
            have : 1 + (i : Int) ≤ (i : Int) := this
            first | lia | omega
          · obtain ⟨y, hy, e⟩ := List.mem_map.mp z
            have := (mem_upto.mp hy).2
            have e2 : y = 1 + (j : Int) := (Prod.mk.inj e).2
            first | lia | omega
        have few9 : (sizes i h.toNat ++ (upto j).map fun y => (1 + (i : Int), y)).length < 1000 := by
          rw [List.length_append, sizes_len, List.length_map, upto_len]
          have : i * h.toNat ≤ 12 * 12 := Nat.mul_le_mul (by first | lia | omega) (by first | lia | omega)
          first | lia | omega
        refine ⟨d, _, rfl, DPut.t (k := ky (1 + (i : Int)) (1 + (j : Int))) tab9.1 ekt (small1000 (by rw [tab_len]; first | lia | omega)), ⟨_, _, rfl⟩, fun x o nx ex => ?_, fun z => if z = (1 + (i : Int), 1 + (j : Int)) then c2 else ad z, fun x y => if x = 1 + (i : Int) ∧ y = 1 + (j : Int) then best g (1 + (i : Int)) (1 + (j : Int)) (uncut ks (1 + (i : Int)) (1 + (j : Int))) else g x y, ⟨?_, fun z hz => ?_⟩, fun x y a1 a2 b1 b2 => ?_, fun y b1 b2 => ?_⟩
        · rw [upd_ne nx]
          exact s59 _ _ (s5 x o nx ex)
        · rw [upd_same, tab_put (fun p => .ref (ad p)) _ (1 + (i : Int), 1 + (j : Int)) notin, upto_succ, List.map_append, ← List.append_assoc]
          have e1 : tabK (sizes i h.toNat ++ (upto j).map fun y => (1 + (i : Int), y)) (fun p => V.ref (ad p)) = tabK (sizes i h.toNat ++ (upto j).map fun y => (1 + (i : Int), y)) (fun p => V.ref (if p = (1 + (i : Int), 1 + (j : Int)) then c2 else ad p)) := tab_congr fun p hp => by rw [if_neg (fun z : p = (1 + (i : Int), 1 + (j : Int)) => notin (z ▸ hp))]
          rw [e1]
          have e2 : tabK ((sizes i h.toNat ++ (upto j).map fun y => (1 + (i : Int), y)) ++ [(1 + (i : Int), 1 + (j : Int))]) (fun p => V.ref (if p = (1 + (i : Int), 1 + (j : Int)) then c2 else ad p)) = tabK (sizes i h.toNat ++ (upto j).map fun y => (1 + (i : Int), y)) (fun p => V.ref (if p = (1 + (i : Int), 1 + (j : Int)) then c2 else ad p)) ++ [(ky (1 + (i : Int)) (1 + (j : Int)), V.ref c2)] := by
            rw [tab_snoc]
            show _ ++ [(_, V.ref (if (1 + (i : Int), 1 + (j : Int)) = (1 + (i : Int), 1 + (j : Int)) then c2 else ad (1 + (i : Int), 1 + (j : Int))))] = _
            rw [if_pos rfl]
          exact congrArg (fun z => some (HO.dT z)) e2.symm
        · have dne : ∀ {x : Addr} {m : Int}, Cho H9 x m → Cho (upd H9 d (.dT (putK (tabK (sizes i h.toNat ++ (upto j).map fun y => (1 + (i : Int), y)) fun p => V.ref (ad p)) (ky (1 + (i : Int)) (1 + (j : Int))) (V.ref c2)))) x m := fun {x m} ⟨e, he⟩ => ⟨e, by rw [upd_ne (fun z => by rw [z, tab9.1] at he; cases he)]; exact he⟩
          rw [upto_succ, List.map_append, ← List.append_assoc] at hz
          show Cho _ (if z = (1 + (i : Int), 1 + (j : Int)) then c2 else ad z) (if z.1 = 1 + (i : Int) ∧ z.2 = 1 + (j : Int) then best g (1 + (i : Int)) (1 + (j : Int)) (uncut ks (1 + (i : Int)) (1 + (j : Int))) else g z.1 z.2)
          rcases List.mem_append.mp hz with hz | hz
          · have ne : z ≠ (1 + (i : Int), 1 + (j : Int)) := fun e => notin (e ▸ hz)
            rw [if_neg ne, if_neg (fun e => ne (Prod.ext e.1 e.2))]
            exact dne (tab9.2 z hz)
          · have e := List.mem_singleton.mp hz
            have e : z = (1 + (i : Int), 1 + (j : Int)) := e
            subst e
            rw [if_pos rfl, if_pos ⟨rfl, rfl⟩]
            exact dne hc9
        · show (if x = 1 + (i : Int) ∧ y = 1 + (j : Int) then _ else g x y) = _
          rw [if_neg (by first | lia | omega), good x y a1 a2 b1 b2]
          exact best_congr (fun x' y' c1 c2 c3 c4 _ => by rw [if_neg (by first | lia | omega)]) a1 b1
        · show (if 1 + (i : Int) = 1 + (i : Int) ∧ y = 1 + (j : Int) then _ else g (1 + (i : Int)) y) = _
          by_cases e : y = 1 + (j : Int)
          · subst e
            rw [if_pos ⟨rfl, rfl⟩]
            exact best_congr (fun x' y' c1 c2 c3 c4 lt => by rw [if_neg (by first | lia | omega)]) (by first | lia | omega) (by first | lia | omega)
          · rw [if_neg (fun z => e z.2), good2 y b1 (by first | lia | omega)]
            exact best_congr (fun x' y' c1 c2 c3 c4 _ => by rw [if_neg (by first | lia | omega)]) (by first | lia | omega) b1
      · rintro σ H5 ⟨⟨x5, x6, rfl⟩, s5, ad, g, tab, good, good2⟩
        rw [eT] at tab good2
        refine ⟨⟨_, _, _, rfl⟩, s5, ad, g, by rw [sizes_succ]; exact tab, fun x y a1 a2 b1 b2 => ?_⟩
        by_cases e : x = 1 + (i : Int)
        · subst e; exact good2 y b1 (by first | lia | omega)
        · exact good x y a1 (by first | lia | omega) b1 b2
    · rintro σ H4 ⟨⟨x4, x5, x6, rfl⟩, s4, ad, g, tab, good⟩
      rw [eW] at tab good
      exact ⟨_, rfl, q d ad g H4 (s4.same s03 nd0) nd0 tab fun x y a1 a2 b1 b2 => good x y a1 (by first | lia | omega) b1 b2⟩
theorem S_worths : FnScope ["width", "height", "kinds"] ["width", "height", "kinds"] (defScope s_worths) := ⟨rfl, rfl, rfl, by decide +kernel, rfl, by decide +kernel, by decide +kernel⟩
theorem ok_worths {f : Addr} {fd : FuncData} (F : Fun K "worths" "worths" s_worths f fd) (D_choices_by_size : DefOk P w K mg base 5 "choices_by_size" ["width", "height", "kinds"] sp_choices) (D_worths_in : DefOk P w K mg base 1 "worths_in" ["choices"] sp_in) : FnOk P w K mg base CX0 6 f fd ["width", "height", "kinds"] sp_worths := by
  have S := S_worths
  refine F.ok S (fun vs H Q E h => ?_) (fun cdv A outer s H vs Q E hr h => ?_)
  · obtain ⟨w, h, b, ks, rfl, _⟩ := h; rfl
  · obtain ⟨w, h, b, ks, rfl, w1, w2, h1, h2, hk, few, ok, q⟩ := h
    refine ⟨_, (pss_one (ps_ret (pe_fn D_worths_in hr (pa_cons (pe_fn D_choices_by_size hr (pa_cons (pv 0) (pa_cons (pv 1) (pa_cons (pv 2) pa_nil)))) pa_nil)))), ?_⟩
    refine ⟨_, rfl, _, rfl, _, rfl, w, h, b, ks, rfl, w1, w2, h1, h2, hk, few, ok, fun d ad g H1 s1 nd tab good => ⟨d, _, ad, g, rfl, tab, sizes_nd _ _, ?_, fun c H2 s2 nc hc => q c g H2 (s2.same s1 nd) (wasNone s1 nc) hc good⟩⟩
    rw [sizes_len]
    have : w.toNat * h.toNat ≤ 12 * 12 := Nat.mul_le_mul (by first | lia | omega) (by first | lia | omega)
    first | lia | omega
theorem S_law_cell : FnScope ["_law_script", "_law_k"] ["_law_script", "_law_k"] (defScope s__law_cell) := ⟨rfl, rfl, rfl, by decide +kernel, rfl, by decide +kernel, by decide +kernel⟩
theorem ok_law_cell {f : Addr} {fd : FuncData} (F : Fun K "_law_cell" "_law_cell" s__law_cell f fd) (T : Txt mg t1 t2 t3 t4 t5 t6 fS) : FnOk P w K mg base CX0 1 f fd ["_law_script", "_law_k"] (sp_cell K) := by
  have S := S_law_cell
  refine F.ok S (fun vs H Q E h => ?_) (fun cdv A outer s H vs Q E hr h => ?_)
  · obtain ⟨a, ns, k, rfl, _⟩ := h; rfl
  · obtain ⟨a, ns, k, rfl, hS, k0, q⟩ := h
    refine ⟨_, (pss_cons (ps_if (pt_cmpR op_lt (pv 1) (pe_callB call_len_seq rfl T.z_len rfl (pa_cons (pv 0) pa_nil)) (nomark _)) (pss_one (ps_ret (pe_ix ix_list (pv 0) (pv 1) (fun _ _ => rfl)))) pss_nil)
      (pss_one (ps_ret pe_int))), ?_⟩
    refine ⟨_, rfl, _, rfl, a, _, rfl, .inl hS, _, _, rfl, rfl, _, rfl, ite3 (fun c => ?_) (fun c => q 0)⟩
    have c := of_decide_eq_true c
    rw [List.length_map] at c
    obtain ⟨z, hz⟩ := at_ints k0 c
    exact ⟨_, rfl, _, rfl, a, _, _, _, rfl, rfl, hS, hz, q _⟩
theorem S_law_draw : FnScope ["_law_cell_here", "_law_nth", "_law_many", "_law_number"] ["_law_cell_here", "_law_nth", "_law_many"] (defScope s__law_draw) := ⟨rfl, rfl, rfl, by decide +kernel, rfl, by decide +kernel, by decide +kernel⟩
theorem ok_law_draw {f : Addr} {fd : FuncData} (F : Fun K "_law_draw" "_law_draw" s__law_draw f fd) : FnOk P w K mg base CX0 1 f fd ["_law_cell_here", "_law_nth", "_law_many"] sp_draw := by
  have S := S_law_draw
  refine F.ok S (fun vs H Q E h => ?_) (fun cdv A outer s H vs Q E hr h => ?_)
  · obtain ⟨c, n, m, rfl, _⟩ := h; rfl
  · obtain ⟨c, n, m, rfl, n0, n1, m0, q⟩ := h
    refine ⟨_, (pss_cons (ps_set (i := 3) S.nd rfl (Or.inl rfl) (pe_op op_mod (pe_op op_mulL (pe_op op_add (pe_op op_add (pe_op op_mod (pv 0) pe_int) pe_int) (pe_op op_mulL (pv 1) (pv 1))) pe_int) pe_int))
      (pss_one (ps_ret (pe_op op_mod (pe_op op_add (pe_op op_fdivL (pv 3) pe_int) (pe_op op_mulL (pe_op op_mod (pv 3) pe_int) (pv 1))) (pv 2))))), ?_⟩
    have a := Int.emod_nonneg c (b := 899809363) (by decide)
    have b := Int.emod_lt_of_pos c (b := 899809363) (by decide)
    have nn : 0 ≤ n * n ∧ n * n ≤ 10000 := ⟨Int.mul_nonneg n0 n0, Int.le_trans (Int.mul_le_mul n1 n1 n0 (by decide)) (by decide)⟩
    refine ⟨_, rfl, _, _, rfl, rfl, (show (0 : Int) < 899809363 from by decide), _, _, rfl, rfl, _, rfl, _, rfl, _, _, rfl, rfl, mul64 (by first | lia | omega) (by first | lia | omega) (by first | lia | omega) (by first | lia | omega), _, _, rfl, rfl, _, _, rfl, rfl, mul64 (by first | lia | omega) (by first | lia | omega) (by decide) (by decide), _, _, rfl, rfl, (show (0 : Int) < 899809363 from by decide), ?_⟩
    have g0 := Int.emod_nonneg ((c % 899809363 + 3 + n * n) * 60919 % 899809363) (b := 1013) (by decide)
    have g1 := Int.emod_lt_of_pos ((c % 899809363 + 3 + n * n) * 60919 % 899809363) (b := 1013) (by decide)
    exact ⟨_, rfl, _, _, rfl, rfl, divL _ (by decide) (by decide), _, rfl, _, _, rfl, rfl, (show (0 : Int) < 1013 from by decide), _, rfl, _, _, rfl, rfl, mul64 (by first | lia | omega) (by first | lia | omega) (by first | lia | omega) (by first | lia | omega), _, _, rfl, rfl, _, rfl, _, _, rfl, rfl, m0, q _ (Int.emod_nonneg _ (by first | lia | omega)) (Int.emod_lt_of_pos _ m0)⟩
theorem S_law_kind : FnScope ["_law_cell_here", "_law_worth", "_law_most"] ["_law_cell_here"] (defScope s__law_kind) := ⟨rfl, rfl, rfl, by decide +kernel, rfl, by decide +kernel, by decide +kernel⟩
theorem worth_of {v : V} {a b : Int} (a0 : 0 ≤ a) (a1 : a < 9) (b0 : 0 ≤ b) (b1 : b < 1000000001) (h : v ∈ ([.int 0, .int (1 + a), .int b, .int (10 ^ (9 : Int).toNat)] : List V)) : ∃ z : Int, v = .int z ∧ 0 ≤ z ∧ z ≤ 1000000000 := by
  simp only [List.mem_cons, List.not_mem_nil, or_false] at h
  rcases h with rfl | rfl | rfl | rfl
  · exact ⟨0, rfl, by decide, by decide⟩
  · exact ⟨1 + a, rfl, by first | lia | omega, by first | lia | omega⟩
  · exact ⟨b, rfl, b0, by first | lia | omega⟩
  · exact ⟨_, rfl, by decide, by decide⟩
theorem most_of {v : V} (h : v ∈ ([.int 3, .int 5, .int 12] : List V)) : ∃ z : Int, v = .int z ∧ 1 ≤ z ∧ z ≤ 12 := by
  simp only [List.mem_cons, List.not_mem_nil, or_false] at h
  rcases h with rfl | rfl | rfl
  · exact ⟨3, rfl, by decide, by decide⟩
  · exact ⟨5, rfl, by decide, by decide⟩
  · exact ⟨12, rfl, by decide, by decide⟩
theorem ok_law_kind {f : Addr} {fd : FuncData} (F : Fun K "_law_kind" "_law_kind" s__law_kind f fd) (D__law_draw : DefOk P w K mg base 1 "_law_draw" ["_law_cell_here", "_law_nth", "_law_many"] sp_draw) : FnOk P w K mg base CX0 2 f fd ["_law_cell_here"] sp_lkind := by
  have S := S_law_kind
  refine F.ok S (fun vs H Q E h => ?_) (fun cdv A outer s H vs Q E hr h => ?_)
  · obtain ⟨c, rfl, _⟩ := h; rfl
  · obtain ⟨c, rfl, q⟩ := h
    refine ⟨_, (pss_cons (ps_set (i := 1) S.nd rfl (Or.inl rfl) (pe_ix ix_list (pe_lst (pa_cons pe_int (pa_cons (pe_op op_add pe_int (pe_fn D__law_draw hr (pa_cons (pv 0) (pa_cons pe_int (pa_cons pe_int pa_nil))))) (pa_cons (pe_fn D__law_draw hr (pa_cons (pv 0) (pa_cons pe_int (pa_cons (pe_op op_add (pe_op op_pow pe_int pe_int) pe_int) pa_nil)))) (pa_cons (pe_op op_pow pe_int pe_int) pa_nil))))) (pe_fn D__law_draw hr (pa_cons (pv 0) (pa_cons pe_int (pa_cons pe_int pa_nil)))) (fun _ _ => rfl)))
      (pss_cons (ps_set (i := 2) S.nd rfl (Or.inl rfl) (pe_ix ix_list (pe_lst (pa_cons pe_int (pa_cons pe_int (pa_cons pe_int pa_nil)))) (pe_fn D__law_draw hr (pa_cons (pv 0) (pa_cons pe_int (pa_cons pe_int pa_nil)))) (fun _ _ => rfl)))
      (pss_one (ps_ret (pe_tup (pa_cons (pe_op op_add pe_int (pe_fn D__law_draw hr (pa_cons (pv 0) (pa_cons pe_int (pa_cons (pv 2) pa_nil))))) (pa_cons (pe_op op_add pe_int (pe_fn D__law_draw hr (pa_cons (pv 0) (pa_cons pe_int (pa_cons (pv 2) pa_nil))))) (pa_cons (pv 1) (pa_cons (pe_cmpR op_eq (pe_fn D__law_draw hr (pa_cons (pv 0) (pa_cons pe_int (pa_cons pe_int pa_nil)))) pe_int (nomark _)) pa_nil))))))))), ?_⟩
    refine ⟨_, rfl, c, 3, 9, rfl, by decide, by decide, by decide, fun r1 a0 a1 => ⟨_, _, rfl, rfl, _, rfl, _, _, rfl, rfl, pow9, _, _, rfl, rfl, c, 4, _, rfl, by decide, by decide, (show (0 : Int) < 10 ^ (9 : Int).toNat + 1 from by decide), fun r2 b0 b1 => ⟨_, _, rfl, rfl, pow9, lenOk 4, fun L nL => ?_⟩⟩⟩
    have b1 : r2 < 1000000001 := b1
    refine ⟨_, rfl, c, 5, 4, rfl, by decide, by decide, by decide, fun r3 c0 c1 => ?_⟩
    obtain ⟨v, hv, hm⟩ := atI_in (L := [.int 0, .int (1 + r1), .int r2, .int (10 ^ (9 : Int).toNat)]) (i := r3) c0 c1
    refine ⟨L, _, _, v, rfl, rfl, SqL.of upd_same, hv, ?_⟩
    obtain ⟨wo, rfl, w0, w1⟩ := worth_of a0 a1 b0 b1 hm
    have s1 : Same H (upd H L (.lst [.int 0, .int (1 + r1), .int r2, .int (10 ^ (9 : Int).toNat)])) := Same.new nL
    generalize upd H L (.lst [.int 0, .int (1 + r1), .int r2, .int (10 ^ (9 : Int).toNat)]) = H1 at s1 ⊢
    refine ⟨lenOk 3, fun L2 nL2 => ⟨_, rfl, c, 6, 3, rfl, by decide, by decide, by decide, fun r4 d0 d1 => ?_⟩⟩
    obtain ⟨v, hv, hm⟩ := atI_in (L := [.int 3, .int 5, .int 12]) (i := r4) d0 d1
    refine ⟨L2, _, _, v, rfl, rfl, SqL.of upd_same, hv, ?_⟩
    obtain ⟨mo, rfl, m0, m1⟩ := most_of hm
    have s2 : Same H1 (upd H1 L2 (.lst [.int 3, .int 5, .int 12])) := Same.new nL2
    generalize upd H1 L2 (.lst [.int 3, .int 5, .int 12]) = H2 at s2 ⊢
    refine ⟨_, rfl, _, rfl, c, 1, mo, rfl, by decide, by decide, by first | lia | omega, fun r5 e0 e1 => ⟨_, _, rfl, rfl, _, rfl, _, rfl, c, 2, mo, rfl, by decide, by decide, by first | lia | omega, fun r6 f0 f1 => ⟨_, _, rfl, rfl, _, rfl, _, rfl, c, 7, 2, rfl, by decide, by decide, by decide, fun r7 _ _ => ⟨rfl, lenOk 4, fun t nt => ?_⟩⟩⟩⟩
    refine q (1 + r5, 1 + r6, wo, _) t _ (s1.trans (s2.trans (Same.new nt))) upd_same ⟨?_, ?_, ?_, ?_, w0, w1⟩ (wasNone (s1.trans s2) nt)
    · show (1 : Int) ≤ 1 + r5; first | lia | omega
    · show 1 + r5 ≤ 12; first | lia | omega
    · show (1 : Int) ≤ 1 + r6; first | lia | omega
    · show 1 + r6 ≤ 12; first | lia | omega
theorem S_law_is_of : FnScope ["_law_kind_here", "_law_width", "_law_height"] ["_law_kind_here", "_law_width", "_law_height"] (defScope s__law_is_of) := ⟨rfl, rfl, rfl, by decide +kernel, rfl, by decide +kernel, by decide +kernel⟩
theorem cut2 (x0 x1 x2 x3 : V) : cutV [x0, x1, x2, x3] none (some 2) = [x0, x1] := rfl
theorem ok_law_is_of {f : Addr} {fd : FuncData} (F : Fun K "_law_is_of" "_law_is_of" s__law_is_of f fd) : FnOk P w K mg base CX0 1 f fd ["_law_kind_here", "_law_width", "_law_height"] sp_isof := by
  have S := S_law_is_of
  refine F.ok S (fun vs H Q E h => ?_) (fun cdv A outer s H vs Q E hr h => ?_)
  · obtain ⟨b, k, w, h, rfl, _⟩ := h; rfl
  · obtain ⟨b, k, w, h, rfl, hb, q⟩ := h
    rw [← of_same] at q
    refine ⟨_, (pss_cons (ps_if (pt_cmpR (op_eqD hr) (pe_slice sl_tup (pv 0) po_none (po_some pe_int)) (pe_tup (pa_cons (pv 1) (pa_cons (pv 2) pa_nil))) (nomark _)) (pss_one (ps_ret pe_bl)) pss_nil)
      (pss_one (ps_ret (pe_and (pe_ix ix_tup (pv 0) pe_int (fun _ _ => rfl)) (pe_one (pe_cmpR (op_eqD hr) (pe_slice sl_tup (pv 0) po_none (po_some pe_int)) (pe_tup (pa_cons (pv 2) (pa_cons (pv 1) pa_nil))) (nomark _))))))), ?_⟩
    have nofull : ¬ (HT.sIx [V.int k.1, .int k.2.1, .int k.2.2.1, .bl k.2.2.2].length 0 none = 0 ∧ HT.sIx [V.int k.1, .int k.2.1, .int k.2.2.1, .bl k.2.2.2].length [V.int k.1, .int k.2.1, .int k.2.2.1, .bl k.2.2.2].length (some 2) = [V.int k.1, .int k.2.1, .int k.2.2.1, .bl k.2.2.2].length) := fun z => by
      have z2 : (2 : Nat) = 4 := z.2
      cases z2
    refine ⟨_, rfl, _, rfl, b, _, rfl, SqT.of hb, nofull, fun p np => ?_⟩
    rw [cut2]
    have s1 : Same H (upd H p (.tup [.int k.1, .int k.2.1])) := Same.new np
    have e1 : (upd H p (.tup [.int k.1, .int k.2.1])) p = some (.tup [.int k.1, .int k.2.1]) := upd_same
    generalize upd H p (.tup [.int k.1, .int k.2.1]) = H1 at s1 e1 ⊢
    refine ⟨_, rfl, _, rfl, lenOk 2, fun p2 np2 => ?_⟩
    have s2 : Same H1 (upd H1 p2 (.tup [.int w, .int h])) := Same.new np2
    refine ⟨_, _, pairD_is (SqT.of (s2 _ _ e1)), pairD_is (SqT.of upd_same), ⟨_, rfl⟩, ⟨_, rfl⟩, pairD_dep _ _, _, rfl, ite3 (fun c => ?_) (fun c => ?_)⟩
    · rw [if_neg Bool.false_ne_true, pairD_eq] at c
      have e : ofL k w h = true := by unfold ofL hasB; rw [c]; rfl
      rw [e] at q
      exact q _ (s1.trans s2)
    · rw [if_neg Bool.false_ne_true, pairD_eq] at c
      have e : ofL k w h = (k.2.2.2 && (decide (k.1 = h) && decide (k.2.1 = w))) := by unfold ofL hasB; rw [c]; rfl
      rw [e] at q
      have hb2 := s2 _ _ (s1 _ _ hb)
      have s12 := s1.trans s2
      generalize upd H1 p2 (.tup [.int w, .int h]) = H2 at hb2 s12 ⊢
      refine ⟨_, rfl, b, _, _, _, rfl, rfl, SqT.of hb2, at4_3, _, rfl, ite3 (fun c1 => ?_) (fun c1 => ?_)⟩
      · refine ⟨_, rfl, _, rfl, b, _, rfl, SqT.of hb2, nofull, fun p3 np3 => ?_⟩
        rw [cut2]
        have s3 : Same H2 (upd H2 p3 (.tup [.int k.1, .int k.2.1])) := Same.new np3
        have e3 : (upd H2 p3 (.tup [.int k.1, .int k.2.1])) p3 = some (.tup [.int k.1, .int k.2.1]) := upd_same
        generalize upd H2 p3 (.tup [.int k.1, .int k.2.1]) = H3 at s3 e3 ⊢
        refine ⟨_, rfl, _, rfl, lenOk 2, fun p4 np4 => ?_⟩
        have s4 : Same H3 (upd H3 p4 (.tup [.int h, .int w])) := Same.new np4
        refine ⟨_, _, pairD_is (SqT.of (s4 _ _ e3)), pairD_is (SqT.of upd_same), ⟨_, rfl⟩, ⟨_, rfl⟩, pairD_dep _ _, ?_⟩
        rw [if_neg Bool.false_ne_true, pairD_eq]
        rw [c1] at q
        exact q _ (s12.trans (s3.trans s4))
      · rw [c1] at q
        exact q _ s12
theorem S_law_whole : FnScope ["_law_found"] ["_law_found"] (defScope s__law_whole) := ⟨rfl, rfl, rfl, by decide +kernel, rfl, by decide +kernel, by decide +kernel⟩
theorem ok_law_whole {f : Addr} {fd : FuncData} (F : Fun K "_law_whole" "_law_whole" s__law_whole f fd) (T : Txt mg t1 t2 t3 t4 t5 t6 fS) : FnOk P w K mg base CX0 1 f fd ["_law_found"] sp_whole := by
  have S := S_law_whole
  refine F.ok S (fun vs H Q E h => ?_) (fun cdv A outer s H vs Q E hr h => ?_)
  · obtain ⟨i, rfl, _⟩ := h; rfl
  · obtain ⟨i, rfl, q⟩ := h
    refine ⟨_, (pss_one (ps_ret (pe_and (pe_callB call_isin rfl T.z_isinstance rfl (pa_cons (pv 0) (pa_cons (pe_bltn (v := .ty "int") rfl T.z_int rfl rfl) pa_nil))) (pe_one (pe_not (pe_callB call_isin rfl T.z_isinstance rfl (pa_cons (pv 0) (pa_cons (pe_bltn (v := .ty "bool") rfl T.z_bool rfl rfl) pa_nil)))))))), ?_⟩
    refine ⟨_, rfl, .int i, "int", "int", rfl, rfl, .inl rfl, _, rfl, ite3 (fun h => ?_) (fun h => absurd h (by decide))⟩
    refine ⟨_, rfl, .int i, "int", "bool", rfl, rfl, .inr (.inl rfl), _, rfl, ?_⟩
    have e : (!isB "int" "bool") = true := by decide
    rw [e]
    exact q
theorem S_law_choices : FnScope ["_law_found", "_law_kinds", "_law_width", "_law_height", "_law_some"] ["_law_found", "_law_kinds", "_law_width", "_law_height"] (defScope s__law_choices) := ⟨rfl, rfl, rfl, by decide +kernel, rfl, by decide +kernel, by decide +kernel⟩
theorem ok_law_choices {f : Addr} {fd : FuncData} (F : Fun K "_law_choices" "_law_choices" s__law_choices f fd) (T : Txt mg t1 t2 t3 t4 t5 t6 fS) (D__law_is_of : DefOk P w K mg base 1 "_law_is_of" ["_law_kind_here", "_law_width", "_law_height"] sp_isof) : FnOk P w K mg base CX0 2 f fd ["_law_found", "_law_kinds", "_law_width", "_law_height"] sp_lawL := by
  have S := S_law_choices
  refine F.ok S (fun vs H Q E h => ?_) (fun cdv A outer s H vs Q E hr h => ?_)
  · obtain ⟨d, b, ks, w, h, L, g, rfl, _⟩ := h; rfl
  · obtain ⟨d, b, ks, w, h, L, g, rfl, hd, ⟨ts, hb, ht, rfl⟩, few, w1, w2, h1, h2, need, q⟩ := h
    rw [List.length_map] at few
    have hu := hu_of hr
    refine ⟨_, (pss_cons (ps_set (i := 4) S.nd rfl (Or.inl rfl) (pe_op op_cat (pe_lst (pa_cons pe_int pa_nil)) (pe_compF rfl (pi_list (pv 1)) (fun _ _ _ _ _ => (pg_name (i := 0) (show List.Nodup (["_law_kind_here", "_law_width", "_law_height"] : List Str) from by decide +kernel) rfl (Or.inl rfl))) (fun _ _ _ _ _ => (pt_val (pe_fn D__law_is_of hr (pa_cons (pv 0) (pa_cons (pv 1) (pa_cons (pv 2) pa_nil)))))) (fun _ _ _ _ _ => (pe_ix (ix_tupK (K := K)) (pv 0) pe_int (fun _ _ => rfl))) (N := ["_law_kind_here", "_law_width", "_law_height"]) (fr := [none, some 2, some 3]))))
      (pss_cons (ps_set (i := 4) S.nd rfl (Or.inl rfl) (pe_op op_cat (pv 4) (pe_comp rfl (pi_range2 rfl T.z_range (pa_cons pe_int (pa_cons (pv 2) pa_nil))) (fun _ _ _ _ _ => (pg_name (i := 0) (show List.Nodup (["_law_at", "_law_found", "_law_height", "_law_width"] : List Str) from by decide +kernel) rfl (Or.inl rfl))) (fun _ _ _ _ _ => (pe_op op_add (pe_dget hu (pv 1) (pe_tup (pa_cons (pv 0) (pa_cons (pv 2) pa_nil))) (fun _ _ => rfl)) (pe_dget hu (pv 1) (pe_tup (pa_cons (pe_op op_sub (pv 3) (pv 0)) (pa_cons (pv 2) pa_nil))) (fun _ _ => rfl)))) (N := ["_law_at", "_law_found", "_law_height", "_law_width"]) (fr := [none, some 0, some 3, some 2]))))
      (pss_one (ps_ret (pe_op op_cat (pv 4) (pe_comp rfl (pi_range2 rfl T.z_range (pa_cons pe_int (pa_cons (pv 3) pa_nil))) (fun _ _ _ _ _ => (pg_name (i := 0) (show List.Nodup (["_law_at", "_law_found", "_law_width", "_law_height"] : List Str) from by decide +kernel) rfl (Or.inl rfl))) (fun _ _ _ _ _ => (pe_op op_add (pe_dget hu (pv 1) (pe_tup (pa_cons (pv 2) (pa_cons (pv 0) pa_nil))) (fun _ _ => rfl)) (pe_dget hu (pv 1) (pe_tup (pa_cons (pv 2) (pa_cons (pe_op op_sub (pv 3) (pv 0)) pa_nil))) (fun _ _ => rfl)))) (N := ["_law_at", "_law_found", "_law_width", "_law_height"]) (fr := [none, some 0, some 2, some 3]))))))), ?_⟩
    have look : ∀ {H' : Hp} {c2 : Addr} {x y : Int}, Same H H' → H' c2 = some (.tup [.int x, .int y]) → (x, y) ∈ L → DGet H' d (.ref c2) (some (.int (g x y))) := fun {H' c2 x y} s' e m => by
      have dg := DGet.t (k := ky x y) (s' _ _ hd) (show H' c2 = some (.tup ((ky x y).map kV)) from e)
      rw [tab_val _ L (x, y) m] at dg
      exact dg
    refine ⟨lenOk 1, fun z0 n0 => ?_⟩
    have s1 : Same H (upd H z0 (.lst [.int 0])) := Same.new n0
    have e0 : (upd H z0 (.lst [.int 0])) z0 = some (.lst [.int 0]) := upd_same
    generalize upd H z0 (.lst [.int 0]) = H1 at s1 e0 ⊢
    have sz : (refs ts).length ≤ sizeLine := Nat.le_of_lt (small1000 (by rw [refs_len]; first | lia | omega))
    refine ⟨_, rfl, b, rfl, ⟨_, SqL.of (s1 _ _ hb)⟩, fun acc na => comp_listF (K := K) (a := b) (ys := refs ts) (fun i zs σ H' => (∃ y, σ = [y, some (.int w), some (.int h)]) ∧ Same H1 H' ∧ zs = ((((ts.map (·.2)).take i).filter fun k : Kind => ofK k w h).map (fun k : Kind => k.2.2.1)).map V.int) ⟨⟨none, rfl⟩, Same.new na, rfl⟩ (fun i zs σ H' _ _ hp => SqL.of (hp.2.1 _ _ (s1 _ _ hb))) ?_ ?_⟩
    · rintro i x zs σ H2 hx hi hl' ha ⟨⟨y, rfl⟩, s2, hz⟩
      obtain ⟨u, hu', rfl⟩ := refs_get hx
      have hu2 := s2 _ _ (s1 _ _ (ht u (List.mem_of_getElem? hu')))
      have tk1 : (ts.map (·.2)).take (i + 1) = (ts.map (·.2)).take i ++ [u.2] := by rw [List.take_succ, List.getElem?_map, hu']; rfl
      refine ⟨_, rfl, _, rfl, _, rfl, u.1, u.2, w, h, rfl, hu2, fun H3 s3 => ⟨_, rfl, ?_⟩⟩
      cases c : ofK u.2 w h with
      | true =>
        refine ⟨_, rfl, u.1, _, _, _, rfl, rfl, SqT.of (s3 _ _ hu2), at4_2, fNx.mk sz hi hl' (s3 _ _ ha) ⟨⟨_, rfl⟩, fun d o e => by rw [upd_ne (ne_of_none e na)]; exact s3 _ _ (s2 d o e), ?_⟩⟩
        rw [tk1, List.filter_append, List.filter_cons, if_pos c, List.map_append, List.map_append, hz]; rfl
      | false =>
        refine fSk.mk hi hl' (s3 _ _ ha) ⟨⟨_, rfl⟩, s2.trans s3, ?_⟩
        rw [tk1, List.filter_append, List.filter_cons, if_neg (by rw [c]; exact Bool.false_ne_true), List.map_append, hz]
        simp
    · rintro zs σ H2 hl' ha ⟨_, s2, hz⟩
      have e : (ts.map (·.2)).take (refs ts).length = ts.map (·.2) := by rw [refs_len, ← List.length_map (f := fun x : Addr × Kind => x.2) (as := ts), List.take_length]
      rw [e] at hz
      rw [refs_len] at hl'
      refine ⟨z0, acc, _, _, rfl, rfl, s2 _ _ e0, ha, Nat.le_of_lt (small1000 (by show 1 + zs.length ≤ 1000; first | lia | omega)), fun r1 m1 => ?_⟩
      have s3 : Same H2 (upd H2 r1 (.lst ([.int 0] ++ zs))) := Same.new m1
      have e3 : (upd H2 r1 (.lst ([.int 0] ++ zs))) r1 = some (.lst ((([0] : List Int) ++ ((List.map (fun t : Addr × Kind => t.2) ts).filter fun k : Kind => ofK k w h).map (fun k : Kind => k.2.2.1)).map V.int)) := by rw [upd_same, hz]; rfl
      have l3 : (([0] : List Int) ++ ((List.map (fun t : Addr × Kind => t.2) ts).filter fun k : Kind => ofK k w h).map (fun k : Kind => k.2.2.1)).length ≤ 9 := by
        have := List.length_filter_le (fun k => ofK k w h) (ts.map (·.2))
        rw [List.length_map] at this
        rw [List.length_append, List.length_map]
        show 1 + _ ≤ 9
        first | lia | omega
      have s03 := s1.trans (s2.trans s3)
      generalize upd H2 r1 (.lst ([.int 0] ++ zs)) = H3 at e3 s03 ⊢
      generalize hA : ([0] : List Int) ++ ((List.map (fun t : Addr × Kind => t.2) ts).filter fun k : Kind => ofK k w h).map (fun k : Kind => k.2.2.1) = A0 at e3 l3
      clear s3 hz
      refine ⟨_, rfl, _, rfl, 1, w, rfl, ⟨by first | lia | omega, by first | lia | omega, by first | lia | omega, by first | lia | omega⟩, fun acc' na' => comp_range (lo := 1) (n := (w - 1).toNat) (fun j zs σ H' => (∃ y, σ = [y, some (.ref d), some (.int h), some (.int w)]) ∧ Same H3 H' ∧ zs = ((upto j).map fun a => g a h + g (w - a) h).map V.int) ⟨⟨none, rfl⟩, Same.new na', rfl⟩ ?_ ?_⟩
      · rintro j zs σ H4 hj hzl ha4 ⟨⟨y, rfl⟩, s4, hz4⟩
        refine ⟨_, rfl, _, rfl, _, rfl, lenOk 2, fun k1 nk1 => ?_⟩
        have y1 : Same H4 (upd H4 k1 (.tup [.int (1 + (j : Int)), .int h])) := Same.new nk1
        have dg1 := look (s03.trans (s4.trans y1)) (show (upd H4 k1 (.tup [.int (1 + (j : Int)), .int h])) k1 = some (.tup [.int (1 + (j : Int)), .int h]) from upd_same) (need (1 + (j : Int)) h (by first | lia | omega) (by first | lia | omega) h1 (by first | lia | omega))
        refine ⟨d, _, rfl, dg1, _, rfl, _, rfl, _, rfl, _, _, rfl, rfl, _, rfl, lenOk 2, fun k2 nk2 => ?_⟩
        have y2 : Same (upd H4 k1 (.tup [.int (1 + (j : Int)), .int h])) (upd (upd H4 k1 (.tup [.int (1 + (j : Int)), .int h])) k2 (.tup [.int (w - (1 + (j : Int))), .int h])) := Same.new nk2
        have dg2 := look (s03.trans (s4.trans (y1.trans y2))) (show (upd (upd H4 k1 (.tup [.int (1 + (j : Int)), .int h])) k2 (.tup [.int (w - (1 + (j : Int))), .int h])) k2 = some (.tup [.int (w - (1 + (j : Int))), .int h]) from upd_same) (need (w - (1 + (j : Int))) h (by first | lia | omega) (by first | lia | omega) h1 (by first | lia | omega))
        refine ⟨d, _, rfl, dg2, _, _, rfl, rfl, cNx.mk (Nat.le_of_lt (small1000 (by first | lia | omega))) hj hzl ((y1.trans y2) _ _ ha4) ⟨⟨_, rfl⟩, fun x o e => by rw [upd_ne (ne_of_none e na')]; exact (y1.trans y2) _ _ (s4 x o e), ?_⟩⟩
        rw [upto_succ, List.map_append, List.map_append, hz4]; rfl
      · rintro zs σ H4 hzl ha4 ⟨_, s4, hz4⟩
        refine ⟨r1, acc', _, _, rfl, rfl, s4 _ _ e3, ha4, Nat.le_of_lt (small1000 (by rw [List.length_map]; first | lia | omega)), fun r2 m2 => ?_⟩
        have s5 : Same H4 (upd H4 r2 (.lst (A0.map V.int ++ zs))) := Same.new m2
        have e5 : (upd H4 r2 (.lst (A0.map V.int ++ zs))) r2 = some (.lst ((A0 ++ (upto (w - 1).toNat).map fun a => g a h + g (w - a) h).map V.int)) := by rw [upd_same, hz4, List.map_append]
        have l5 : (A0 ++ (upto (w - 1).toNat).map fun a => g a h + g (w - a) h).length ≤ 21 := by rw [List.length_append, List.length_map, upto_len]; first | lia | omega
        have s05 := s03.trans (s4.trans s5)
        generalize upd H4 r2 (.lst (A0.map V.int ++ zs)) = H5 at e5 s05 ⊢
        clear s5 hz4
        refine ⟨_, rfl, _, rfl, 1, h, rfl, ⟨by first | lia | omega, by first | lia | omega, by first | lia | omega, by first | lia | omega⟩, fun acc2 na2 => comp_range (lo := 1) (n := (h - 1).toNat) (fun j zs σ H' => (∃ y, σ = [y, some (.ref d), some (.int w), some (.int h)]) ∧ Same H5 H' ∧ zs = ((upto j).map fun a => g w a + g w (h - a)).map V.int) ⟨⟨none, rfl⟩, Same.new na2, rfl⟩ ?_ ?_⟩
        · rintro j zs σ H6 hj hzl6 ha6 ⟨⟨y, rfl⟩, s6, hz6⟩
          refine ⟨_, rfl, _, rfl, _, rfl, lenOk 2, fun k1 nk1 => ?_⟩
          have y1 : Same H6 (upd H6 k1 (.tup [.int w, .int (1 + (j : Int))])) := Same.new nk1
          have dg1 := look (s05.trans (s6.trans y1)) (show (upd H6 k1 (.tup [.int w, .int (1 + (j : Int))])) k1 = some (.tup [.int w, .int (1 + (j : Int))]) from upd_same) (need w (1 + (j : Int)) w1 (by first | lia | omega) (by first | lia | omega) (by first | lia | omega))
          refine ⟨d, _, rfl, dg1, _, rfl, _, rfl, _, rfl, _, rfl, _, _, rfl, rfl, lenOk 2, fun k2 nk2 => ?_⟩
          have y2 : Same (upd H6 k1 (.tup [.int w, .int (1 + (j : Int))])) (upd (upd H6 k1 (.tup [.int w, .int (1 + (j : Int))])) k2 (.tup [.int w, .int (h - (1 + (j : Int)))])) := Same.new nk2
          have dg2 := look (s05.trans (s6.trans (y1.trans y2))) (show (upd (upd H6 k1 (.tup [.int w, .int (1 + (j : Int))])) k2 (.tup [.int w, .int (h - (1 + (j : Int)))])) k2 = some (.tup [.int w, .int (h - (1 + (j : Int)))]) from upd_same) (need w (h - (1 + (j : Int))) w1 (by first | lia | omega) (by first | lia | omega) (by first | lia | omega))
          refine ⟨d, _, rfl, dg2, _, _, rfl, rfl, cNx.mk (Nat.le_of_lt (small1000 (by first | lia | omega))) hj hzl6 ((y1.trans y2) _ _ ha6) ⟨⟨_, rfl⟩, fun x o e => by rw [upd_ne (ne_of_none e na2)]; exact (y1.trans y2) _ _ (s6 x o e), ?_⟩⟩
          rw [upto_succ, List.map_append, List.map_append, hz6]; rfl
        · rintro zs σ H6 hzl6 ha6 ⟨_, s6, hz6⟩
          refine ⟨r2, acc2, _, _, rfl, rfl, s6 _ _ e5, ha6, Nat.le_of_lt (small1000 (by rw [List.length_map]; first | lia | omega)), fun r3 m3 => q r3 _ (s05.trans (s6.trans (Same.new m3))) ?_⟩
          rw [upd_same, hz6]
          unfold lawL
          rw [hA]
          simp only [List.map_append]
abbrev N_law : List Str := ["_law_script", "_law_sides", "_law_kinds", "_law_handed", "_law_found", "_law_width", "_law_height", "_law_kept"]
theorem S_law : FnScope N_law ["_law_script"] (defScope s_law) := ⟨rfl, rfl, rfl, by decide +kernel, rfl, by decide +kernel, by decide +kernel⟩
theorem twelve_of {v : V} (h : v ∈ ([.int 12, .int 6, .int 6] : List V)) : ∃ z : Int, v = .int z ∧ 1 ≤ z ∧ z ≤ 12 := by
  simp only [List.mem_cons, List.not_mem_nil, or_false] at h
  rcases h with rfl | rfl | rfl
  · exact ⟨12, rfl, by decide, by decide⟩
  · exact ⟨6, rfl, by decide, by decide⟩
  · exact ⟨6, rfl, by decide, by decide⟩
theorem KindsAt.sameX {H H' : Hp} {d b : Addr} {ks : List Kind} {kvs : List (List Key × V)} (h : KindsAt H b ks) (e : H d = some (.dT kvs)) (s : SameX d H H') : KindsAt H' b ks := by
  obtain ⟨ts, h1, h2, h3⟩ := h
  refine ⟨ts, s _ _ (fun z => ?_) h1, fun t ht => s _ _ (fun z => ?_) (h2 t ht), h3⟩
  · rw [z, e] at h1; cases h1
  · have := h2 t ht
    rw [z, e] at this; cases this
theorem cut_ints (ns : List Int) (m : Int) (m0 : 0 ≤ m) (m1 : m ≤ 8) : ∃ cs : List Int, cutV (ns.map V.int) (some 3) (some (3 + m)) = cs.map V.int ∧ cs.length ≤ 8 := by
  unfold cutV
  refine ⟨(ns.drop (HT.sIx (ns.map V.int).length 0 (some 3))).take (HT.sIx (ns.map V.int).length (ns.map V.int).length (some (3 + m)) - HT.sIx (ns.map V.int).length 0 (some 3)), by rw [← List.map_drop, ← List.map_take], ?_⟩
  rw [List.length_take, List.length_drop, List.length_map]
  unfold HT.sIx
  simp only []
  rw [if_neg (by first | lia | omega), if_neg (by first | lia | omega)]
  show min (min (3 + m).toNat ns.length - min 3 ns.length) _ ≤ 8
  first | lia | omega
theorem law_ne {ks : List Kind} {f : Int → Int → Int} {w h : Int} : lawL ks f w h ≠ [] := fun z => by
  have := congrArg List.length z
  unfold lawL at this
  rw [List.length_append, List.length_append, List.length_append] at this
  have : 1 + _ + _ + _ = 0 := this
  first | lia | omega
theorem ok_law {f : Addr} {fd : FuncData} (F : Fun K "law" "law" s_law f fd) (T : Txt mg t1 t2 t3 t4 t5 t6 fS) (D_worths : DefOk P w K mg base 6 "worths" ["width", "height", "kinds"] sp_worths) (D__law_cell : DefOk P w K mg base 1 "_law_cell" ["_law_script", "_law_k"] (sp_cell K)) (D__law_kind : DefOk P w K mg base 2 "_law_kind" ["_law_cell_here"] sp_lkind)
    (D__law_whole : DefOk P w K mg base 1 "_law_whole" ["_law_found"] sp_whole) (D__law_choices : DefOk P w K mg base 2 "_law_choices" ["_law_found", "_law_kinds", "_law_width", "_law_height"] sp_lawL) : FnOk P w K mg base CX0 7 f fd ["_law_script"] (sp_law K) := by
  have S := S_law
  refine F.ok S (fun vs H Q E h => ?_) (fun cdv A outer s H vs Q E hr h => ?_)
  · obtain ⟨a, ns, rfl, _⟩ := h; rfl
  · obtain ⟨a, ns, rfl, hS, hlen, k⟩ := h
    have hu := hu_of hr
    have hu0 := hr.units0
    obtain ⟨tC, hC, kC⟩ : ∃ rd, PSs (cxOf CX0 P w K mg base N_law "law" (defScope s_law) f cdv A outer s H E).nox ((defBody s_law).drop 6) rd ∧ ∀ (x5 x6 : Option V) (sd kn hd d : Addr) (W T' : Int) (ks : List Kind) (g : Int → Int → Int) (H1 : Hp), H1 sd = some (.lst [.int W, .int T']) → 1 ≤ W → W ≤ 12 → 1 ≤ T' → T' ≤ 12 → KindsAt H1 kn ks → ks.length ≤ 8 → (∀ k ∈ ks, KOk k) → H1 d = some (.dT (tabK (sizes W.toNat T'.toNat) fun p => .int (g p.1 p.2))) → (∀ x y, 1 ≤ x → x ≤ W → 1 ≤ y → y ≤ T' → FOk ks g x y) →
        rd { nx := fun _ H' => Q .non H', rt := Q } [some (.ref a), some (.ref sd), some (.ref kn), some (.ref hd), some (.ref d), x5, x6, none] H1 := by
      refine ⟨_, (pss_cons (ps_set (i := 7) S.nd rfl (Or.inl rfl) (pe_callTy call_dict_dT rfl T.z_dict rfl (pa_cons (pv 4) pa_nil)))
      (pss_cons (ps_expr (pe_bm0 PySem.F.plainAttrs_dict PySem.F.slot_dict_clear PySem.F.type_dict_clear mt_clearT (pv 4)))
      (pss_one (ps_ret (pe_cmpR (op_eqDT hu0 hu) (pe_fn D_worths hr (pa_cons (pe_ix ix_list (pv 1) pe_int (fun _ _ => rfl)) (pa_cons (pe_ix ix_list (pv 1) pe_int (fun _ _ => rfl)) (pa_cons (pv 2) pa_nil)))) (pv 7) (nomark _)))))), ?_⟩
      intro x5 x6 sd kn hd d W T' ks g H1 esd W1 W2 T1 T2 hk few ok ed F1
      have ne : tabK (sizes W.toNat T'.toNat) (fun p => V.int (g p.1 p.2)) ≠ [] := fun z => by
        have z2 := congrArg List.length z
        rw [tab_len, sizes_len] at z2
        have z3 := Nat.mul_pos (show 0 < W.toNat by first | lia | omega) (show 0 < T'.toNat by first | lia | omega)
        rw [z2] at z3
        exact absurd z3 (Nat.lt_irrefl 0)
      refine ⟨_, rfl, d, _, rfl, ed, ne, lone_tab (by first | lia | omega) (by first | lia | omega) _, fun kp nkp => ?_⟩
      have s2 : Same H1 (upd H1 kp (.dT (tabK (sizes W.toNat T'.toNat) fun p => .int (g p.1 p.2)))) := Same.new nkp
      have kd : kp ≠ d := fun z => by rw [z, ed] at nkp; cases nkp
      refine ⟨_, rfl, .inr (.inr (.inl ⟨rfl, .inr ⟨_, s2 _ _ ed⟩⟩)), d, _, rfl, rfl, s2 _ _ ed, ?_⟩
      have s3 : SameX d H1 (upd (upd H1 kp (.dT (tabK (sizes W.toNat T'.toNat) fun p => .int (g p.1 p.2)))) d (.dT [])) := fun x o nx ex => by rw [upd_ne nx]; exact s2 _ _ ex
      have ekp : (upd (upd H1 kp (.dT (tabK (sizes W.toNat T'.toNat) fun p => .int (g p.1 p.2)))) d (.dT [])) kp = some (.dT (tabK (sizes W.toNat T'.toNat) fun p => .int (g p.1 p.2))) := by rw [upd_ne kd, upd_same]
      generalize (upd (upd H1 kp (.dT (tabK (sizes W.toNat T'.toNat) fun p => .int (g p.1 p.2)))) d (.dT [])) = H3 at s3 ekp ⊢
      have hk3 : KindsAt H3 kn ks := hk.sameX ed s3
      have esd3 : H3 sd = some (.lst [.int W, .int T']) := s3 _ _ (fun z => by rw [z, ed] at esd; cases esd) esd
      refine ⟨_, rfl, sd, _, _, _, rfl, rfl, SqL.of esd3, at2_0, _, rfl, sd, _, _, _, rfl, rfl, SqL.of esd3, at2_1, _, rfl, W, T', kn, ks, rfl, W1, W2, T1, T2, hk3, few, ok, fun c f H4 s4 nc ec F2 => ?_⟩
      refine ⟨_, rfl, c, kp, _, _, rfl, rfl, ec, s4 _ _ ekp, by rw [tab_len, tab_len], fun p hp => ?_, k _⟩
      obtain ⟨z, hz, rfl⟩ := List.mem_map.mp hp
      obtain ⟨a1, a2, b1, b2⟩ := mem_sizes.mp hz
      refine ⟨f z.1 z.2, rfl, ?_⟩
      show valV (tabK (sizes W.toNat T'.toNat) _) (ky z.1 z.2) = _
      rw [tab_val _ _ z hz, f_eq F1 F2 _ z.1 z.2 rfl a1 (by first | lia | omega) b1 (by first | lia | omega)]
    obtain ⟨tB, hB, kB⟩ : ∃ rd, PSs (cxOf CX0 P w K mg base N_law "law" (defScope s_law) f cdv A outer s H E).nox ((defBody s_law).drop 5) rd ∧ ∀ (sd kn hd d : Addr) (W T' : Int) (ks : List Kind) (g : Int → Int → Int) (H1 : Hp), H1 sd = some (.lst [.int W, .int T']) → 1 ≤ W → W ≤ 12 → 1 ≤ T' → T' ≤ 12 → KindsAt H1 kn ks → ks.length ≤ 8 → (∀ k ∈ ks, KOk k) → H1 d = some (.dT (tabK (sizes W.toNat T'.toNat) fun p => .int (g p.1 p.2))) → (∀ x y, 1 ≤ x → x ≤ W → 1 ≤ y → y ≤ T' → FOk ks g x y) →
        rd { nx := fun _ H' => Q .non H', rt := Q } [some (.ref a), some (.ref sd), some (.ref kn), some (.ref hd), some (.ref d), none, none, none] H1 := by
      refine ⟨_, (pss_cons (ps_for PassesOwn.never rfl (pi_range2 rfl T.z_range (pa_cons pe_int (pa_cons (pe_op op_add (pe_ix ix_list (pv 1) pe_int (fun _ _ => rfl)) pe_int) pa_nil))) (pg_name (i := 5) S.nd rfl (Or.inl rfl)) (pss_one (ps_for PassesOwn.never rfl (pi_range2 rfl T.z_range (pa_cons pe_int (pa_cons (pe_op op_add (pe_ix ix_list (pv 1) pe_int (fun _ _ => rfl)) pe_int) pa_nil))) (pg_name (i := 6) S.nd rfl (Or.inl rfl)) (pss_cons (ps_if (PW.pt (pw_or (pt_cmp (pc_dnotin hu (pe_tup (pa_cons (pv 5) (pa_cons (pv 6) pa_nil))) (pv 4))) (pw_or1 (pt_not (pt_val (pe_fn D__law_whole hr (pa_cons (pe_dget hu (pv 4) (pe_tup (pa_cons (pv 5) (pa_cons (pv 6) pa_nil))) (fun _ _ => rfl)) pa_nil))))))) (pss_one (ps_ret pe_bl)) pss_nil)
      (pss_one (ps_if (pt_cmpR op_ne (pe_dget hu (pv 4) (pe_tup (pa_cons (pv 5) (pa_cons (pv 6) pa_nil))) (fun _ _ => rfl)) (pe_callB call_max1 rfl T.z_max rfl (pa_cons (pe_fn D__law_choices hr (pa_cons (pv 4) (pa_cons (pv 2) (pa_cons (pv 5) (pa_cons (pv 6) pa_nil))))) pa_nil)) (nomark _)) (pss_one (ps_ret pe_bl)) pss_nil))))))
      hC), ?_⟩
      intro sd kn hd d W T' ks g H1 esd W1 W2 T1 T2 hk few ok ed F1
      have inL : ∀ x y : Int, 1 ≤ x → x ≤ W → 1 ≤ y → y ≤ T' → (x, y) ∈ sizes W.toNat T'.toNat := fun x y a1 a2 b1 b2 => mem_sizes.mpr ⟨a1, by show x ≤ (W.toNat : Int); first | lia | omega, b1, by show y ≤ (T'.toNat : Int); first | lia | omega⟩
      have look : ∀ {H' : Hp} {c2 : Addr} {x y : Int}, Same H1 H' → H' c2 = some (.tup [.int x, .int y]) → 1 ≤ x → x ≤ W → 1 ≤ y → y ≤ T' → DGet H' d (.ref c2) (some (.int (g x y))) := fun {H' c2 x y} s' e a1 a2 b1 b2 => by
        have dg := DGet.t (k := ky x y) (s' _ _ ed) (show H' c2 = some (.tup ((ky x y).map kV)) from e)
        rw [tab_val _ _ (x, y) (inL x y a1 a2 b1 b2)] at dg
        exact dg
      refine ⟨_, rfl, sd, _, _, _, rfl, rfl, SqL.of esd, at2_0, _, _, rfl, rfl, 1, W + 1, rfl, ⟨by first | lia | omega, by first | lia | omega, by first | lia | omega, by first | lia | omega⟩, for_range (lo := 1) (n := (W + 1 - 1).toNat) (fun i σ H' => (∃ x5 x6, σ = [some (.ref a), some (.ref sd), some (.ref kn), some (.ref hd), some (.ref d), x5, x6, none]) ∧ Same H1 H') ⟨⟨none, none, rfl⟩, Same.refl _⟩ ?_ ?_⟩
      · rintro i σ H2 hi ⟨⟨x5, x6, rfl⟩, s2⟩
        refine ⟨_, rfl, sd, _, _, _, rfl, rfl, SqL.of (s2 _ _ esd), at2_1, _, _, rfl, rfl, 1, T' + 1, rfl, ⟨by first | lia | omega, by first | lia | omega, by first | lia | omega, by first | lia | omega⟩, for_range (lo := 1) (n := (T' + 1 - 1).toNat) (fun j σ H' => (∃ x6, σ = [some (.ref a), some (.ref sd), some (.ref kn), some (.ref hd), some (.ref d), some (.int (1 + (i : Int))), x6, none]) ∧ Same H1 H') ⟨⟨_, rfl⟩, s2⟩ ?_ ?_⟩
        · rintro j σ H3 hj ⟨⟨x6, rfl⟩, s3⟩
          refine ⟨_, rfl, _, rfl, lenOk 2, fun k1 nk1 => ?_⟩
          have y1 : Same H3 (upd H3 k1 (.tup [.int (1 + (i : Int)), .int (1 + (j : Int))])) := Same.new nk1
          have e1 : (upd H3 k1 (.tup [.int (1 + (i : Int)), .int (1 + (j : Int))])) k1 = some (.tup [.int (1 + (i : Int)), .int (1 + (j : Int))]) := upd_same
          generalize (upd H3 k1 (.tup [.int (1 + (i : Int)), .int (1 + (j : Int))])) = H4 at y1 e1 ⊢
          have s4 := s3.trans y1
          refine ⟨_, rfl, d, _, rfl, look s4 e1 (by first | lia | omega) (by first | lia | omega) (by first | lia | omega) (by first | lia | omega), _, rfl, iteF ?_⟩
          refine ⟨_, rfl, _, rfl, _, rfl, lenOk 2, fun k2 nk2 => ?_⟩
          have y2 : Same H4 (upd H4 k2 (.tup [.int (1 + (i : Int)), .int (1 + (j : Int))])) := Same.new nk2
          have e2 : (upd H4 k2 (.tup [.int (1 + (i : Int)), .int (1 + (j : Int))])) k2 = some (.tup [.int (1 + (i : Int)), .int (1 + (j : Int))]) := upd_same
          generalize (upd H4 k2 (.tup [.int (1 + (i : Int)), .int (1 + (j : Int))])) = H5 at y2 e2 ⊢
          have s5 := s4.trans y2
          refine ⟨d, _, rfl, look s5 e2 (by first | lia | omega) (by first | lia | omega) (by first | lia | omega) (by first | lia | omega), _, rfl, _, rfl, iteF ?_⟩
          refine ⟨_, rfl, _, rfl, _, rfl, lenOk 2, fun k3 nk3 => ?_⟩
          have y3 : Same H5 (upd H5 k3 (.tup [.int (1 + (i : Int)), .int (1 + (j : Int))])) := Same.new nk3
          have e3 : (upd H5 k3 (.tup [.int (1 + (i : Int)), .int (1 + (j : Int))])) k3 = some (.tup [.int (1 + (i : Int)), .int (1 + (j : Int))]) := upd_same
          generalize (upd H5 k3 (.tup [.int (1 + (i : Int)), .int (1 + (j : Int))])) = H6 at y3 e3 ⊢
          have s6 := s5.trans y3
          refine ⟨d, _, rfl, look s6 e3 (by first | lia | omega) (by first | lia | omega) (by first | lia | omega) (by first | lia | omega), _, rfl, _, rfl, _, rfl, _, rfl, d, kn, ks, 1 + (i : Int), 1 + (j : Int), _, g, rfl, s6 _ _ ed, hk.same s6, few, by first | lia | omega, by first | lia | omega, by first | lia | omega, by first | lia | omega, fun x y a1 a2 b1 b2 => inL x y a1 (by first | lia | omega) b1 (by first | lia | omega), fun c H7 s7 ec => ?_⟩
          refine ⟨c, _, rfl, SqL.of ec, rfl, law_ne, fun m hm le => ?_⟩
          have em := max_is (F1 (1 + (i : Int)) (1 + (j : Int)) (by first | lia | omega) (by first | lia | omega) (by first | lia | omega) (by first | lia | omega)) hm le
          refine ⟨rfl, _, rfl, iteN (by rw [em, decide_eq_true rfl]; rfl) ?_⟩
          exact ⟨⟨_, rfl⟩, s6.trans s7⟩
        · rintro σ H3 ⟨⟨x6, rfl⟩, s3⟩
          exact ⟨⟨_, _, rfl⟩, s3⟩
      · rintro σ H2 ⟨⟨x5, x6, rfl⟩, s2⟩
        exact kC _ _ sd kn hd d W T' ks g H2 (s2 _ _ esd) W1 W2 T1 T2 (hk.same s2) few ok (s2 _ _ ed) F1
    refine ⟨_, (pss_cons (ps_setComp rfl (pg_name (i := 1) S.nd rfl (Or.inl rfl)) (pi_range1 rfl T.z_range (pa_cons pe_int pa_nil)) (fun _ _ _ _ _ => (pg_name (i := 0) (show List.Nodup (["_law_k", "_law_script"] : List Str) from by decide +kernel) rfl (Or.inl rfl))) (fun _ _ _ _ _ => (pe_op op_add pe_int (pe_op op_mod (pe_op op_fdivL (pe_fn D__law_cell hr (pa_cons (pv 1) (pa_cons (pv 0) pa_nil))) pe_int) (pe_ix (ix_listK (K := K)) (pe_lst (pa_cons pe_int (pa_cons pe_int (pa_cons pe_int pa_nil)))) (pe_op op_mod (pe_fn D__law_cell hr (pa_cons (pv 1) (pa_cons (pv 0) pa_nil))) pe_int) (fun _ _ => rfl))))) (N := ["_law_k", "_law_script"]) (fr := [none, some 0]))
      (pss_cons (ps_setComp rfl (pg_name (i := 2) S.nd rfl (Or.inl rfl)) (pi_list (pe_slice sl_list (pv 0) (po_some pe_int) (po_some (pe_op op_add pe_int (pe_op op_mod (pe_fn D__law_cell hr (pa_cons (pv 0) (pa_cons pe_int pa_nil))) pe_int))))) (fun _ _ _ _ _ => (pg_name (i := 0) (show List.Nodup (["_law_cell_here"] : List Str) from by decide +kernel) rfl (Or.inl rfl))) (fun _ _ _ _ _ => (pe_fn D__law_kind hr (pa_cons (pv 0) pa_nil))) (N := ["_law_cell_here"]) (fr := [none]))
      (pss_cons (ps_set (i := 3) S.nd rfl (Or.inl rfl) (pe_callTy call_list_of rfl T.z_list rfl (pa_cons (pv 2) pa_nil)))
      (pss_cons (ps_set (i := 4) S.nd rfl (Or.inl rfl) (pe_fn D_worths hr (pa_cons (pe_ix ix_list (pv 1) pe_int (fun _ _ => rfl)) (pa_cons (pe_ix ix_list (pv 1) pe_int (fun _ _ => rfl)) (pa_cons (pv 3) pa_nil)))))
      (pss_cons (ps_if (PW.pt (pw_or (pt_cmpR (op_neD hr) (pv 3) (pv 2) (nomark _)) (pw_or (pt_not (pt_val (pe_callB call_isinDT rfl T.z_isinstance rfl (pa_cons (pv 4) (pa_cons (pe_bltn (v := .ty "dict") rfl T.z_dict rfl rfl) pa_nil))))) (pw_or1 (pt_cmpR op_ne (pe_callB call_lenT rfl T.z_len rfl (pa_cons (pv 4) pa_nil)) (pe_op op_mulL (pe_ix ix_list (pv 1) pe_int (fun _ _ => rfl)) (pe_ix ix_list (pv 1) pe_int (fun _ _ => rfl))) (nomark _)))))) (pss_one (ps_ret pe_bl)) pss_nil)
      hB))))), ?_⟩
    refine ⟨2, rfl, by decide, by decide, fun acc na => comp_range (lo := 0) (n := 2) (fun i zs σ H' => (∃ y, σ = [y, some (.ref a)]) ∧ Same H H' ∧ ∃ ms : List Int, zs = ms.map V.int ∧ ∀ m ∈ ms, 1 ≤ m ∧ m ≤ 12) ⟨⟨none, rfl⟩, Same.new na, [], rfl, fun m hm => nomatch hm⟩ ?_ ?_⟩
    · rintro i zs σ H2 hi hz ha ⟨⟨y, rfl⟩, s2, ms, rfl, hms⟩
      refine ⟨_, rfl, _, rfl, a, ns, _, rfl, s2.seq hS, by first | lia | omega, fun z1 => ⟨_, _, rfl, rfl, divL _ (by decide) (by decide), lenOk 3, fun L nL => ?_⟩⟩
      have s3 : Same H2 (upd H2 L (.lst [.int 12, .int 6, .int 6])) := Same.new nL
      have eL : (upd H2 L (.lst [.int 12, .int 6, .int 6])) L = some (.lst [.int 12, .int 6, .int 6]) := upd_same
      generalize upd H2 L (.lst [.int 12, .int 6, .int 6]) = H3 at s3 eL ⊢
      refine ⟨_, rfl, _, rfl, a, ns, _, rfl, (s2.trans s3).seq hS, by first | lia | omega, fun z2 => ⟨_, _, rfl, rfl, (show (0 : Int) < 3 from by decide), ?_⟩⟩
      obtain ⟨v, hv, hm⟩ := atI_in (L := [.int 12, .int 6, .int 6]) (i := z2 % 3) (Int.emod_nonneg _ (by decide)) (Int.emod_lt_of_pos _ (by decide))
      refine ⟨L, _, _, v, rfl, rfl, SqL.of eL, hv, ?_⟩
      obtain ⟨m, rfl, m1, m2⟩ := twelve_of hm
      have r0 := Int.emod_nonneg (z1 / 3) (b := m) (by first | lia | omega)
      have r1 := Int.emod_lt_of_pos (z1 / 3) (b := m) (by first | lia | omega)
      refine ⟨_, _, rfl, rfl, by first | lia | omega, _, _, rfl, rfl, cNx.mk (Nat.le_of_lt (small1000 (by first | lia | omega))) hi hz (s3 _ _ ha) ⟨⟨_, rfl⟩, fun x o e => by rw [upd_ne (ne_of_none e na)]; exact s3 _ _ (s2 x o e), ms ++ [1 + z1 / 3 % m], by rw [List.map_append]; rfl, fun q hq => ?_⟩⟩
      rcases List.mem_append.mp hq with hq | hq
      · exact hms q hq
      · rw [List.mem_singleton.mp hq]; first | lia | omega
    · rintro zs σ H1 hz esd ⟨_, s1, ms, rfl, hms⟩
      obtain ⟨W, T', rfl⟩ : ∃ W T', ms = [W, T'] := by
        match ms, hz with
        | [x, y], _ => exact ⟨x, y, rfl⟩
      obtain ⟨W1, W2⟩ := hms W (by simp)
      obtain ⟨T1, T2⟩ := hms T' (by simp)
      have esd : H1 acc = some (.lst [.int W, .int T']) := esd
      refine ⟨_, rfl, 3, rfl, _, rfl, a, ns, 2, rfl, s1.seq hS, by decide, fun z => ⟨_, _, rfl, rfl, (show (0 : Int) < 9 from by decide), _, _, rfl, rfl, _, rfl, a, ns.map V.int, rfl, s1.seq hS, fun p np => ?_⟩⟩
      obtain ⟨cs, ecs, lcs⟩ := cut_ints ns (z % 9) (Int.emod_nonneg _ (by decide)) (by have := Int.emod_lt_of_pos z (b := 9) (by decide); first | lia | omega)
      rw [ecs]
      have s2 : Same H1 (upd H1 p (.lst (cs.map V.int))) := Same.new np
      have ep : (upd H1 p (.lst (cs.map V.int))) p = some (.lst (cs.map V.int)) := upd_same
      generalize upd H1 p (.lst (cs.map V.int)) = H2 at s2 ep ⊢
      have sz : (cs.map V.int).length ≤ sizeLine := Nat.le_of_lt (small1000 (by rw [List.length_map]; first | lia | omega))
      refine ⟨p, rfl, ⟨_, SqL.of ep⟩, fun kn nk => comp_list (K := K) (a := p) (ys := cs.map V.int) (fun i zs σ H' => (∃ y, σ = [y]) ∧ Same H2 H' ∧ ∃ ts : List (Addr × Kind), zs = refs ts ∧ ∀ t ∈ ts, H' t.1 = some (.tup [.int t.2.1, .int t.2.2.1, .int t.2.2.2.1, .bl t.2.2.2.2]) ∧ KOk t.2) ⟨⟨none, rfl⟩, Same.new nk, [], rfl, fun t ht => nomatch ht⟩ (fun i zs σ H' _ _ hp => SqL.of (hp.2.1 _ _ ep)) ?_ ?_⟩
      · rintro i x zs σ H3 hx hi hz' ha ⟨⟨y, rfl⟩, s3, ts, rfl, hts⟩
        obtain ⟨c, _, rfl⟩ := ints_get hx
        refine ⟨_, rfl, c, rfl, fun kd b H4 s4 eb okb nb => ?_⟩
        have ha4 := s4 _ _ ha
        refine cNx.mk sz hi hz' ha4 ⟨⟨_, rfl⟩, fun x o e => by rw [upd_ne (ne_of_none e nk)]; exact s4 _ _ (s3 x o e), ts ++ [(b, kd)], by rw [refs, refs, List.map_append]; rfl, fun t ht => ?_⟩
        have tup : ∀ {x : Addr} {xs : List V}, H4 x = some (.tup xs) → (upd H4 kn (.lst (refs ts ++ [.ref b]))) x = some (.tup xs) := fun {x xs} e => by
          rw [upd_ne (fun z => by rw [z, ha4] at e; cases e)]
          exact e
        rcases List.mem_append.mp ht with ht | ht
        · exact ⟨tup (s4 _ _ (hts t ht).1), (hts t ht).2⟩
        · rw [List.mem_singleton.mp ht]
          exact ⟨tup eb, okb⟩
      · rintro zs σ H3 hz' ha3 ⟨_, s3, ts, rfl, hts⟩
        rw [refs_len, List.length_map] at hz'
        have few : (ts.map (·.2)).length ≤ 8 := by rw [List.length_map]; first | lia | omega
        have ok : ∀ k ∈ ts.map (·.2), KOk k := fun k hk => by
          obtain ⟨t, ht, rfl⟩ := List.mem_map.mp hk
          exact (hts t ht).2
        have hk3 : KindsAt H3 kn (ts.map (·.2)) := ⟨ts, ha3, fun t ht => (hts t ht).1, rfl⟩
        refine ⟨_, rfl, kn, _, rfl, .inl (SqL.of ha3), fun hd nh => ?_⟩
        have s4 : Same H3 (upd H3 hd (.lst (refs ts))) := Same.new nh
        have hk4 : KindsAt (upd H3 hd (.lst (refs ts))) hd (ts.map (·.2)) := ⟨ts, upd_same, fun t ht => s4 _ _ (hts t ht).1, rfl⟩
        have kn4 := hk3.same s4
        have esd4 := s4 _ _ (s3 _ _ (s2 _ _ esd))
        generalize upd H3 hd (.lst (refs ts)) = H4 at s4 hk4 kn4 esd4 ⊢
        generalize ts.map (·.2) = ks at few ok hk4 kn4
        refine ⟨_, rfl, acc, _, _, _, rfl, rfl, SqL.of esd4, at2_0, _, rfl, acc, _, _, _, rfl, rfl, SqL.of esd4, at2_1, _, rfl, W, T', hd, ks, rfl, W1, W2, T1, T2, hk4, few, ok, fun d g H5 s5 nd ed F1 => ?_⟩
        have hk5 := hk4.same s5
        have kn5 := kn4.same s5
        have esd5 := s5 _ _ esd4
        refine ⟨_, rfl, _, rfl, _, _, hk5.data, kn5.data, ⟨_, rfl⟩, ⟨_, rfl⟩, kindsL_dep _, _, rfl, iteN (by rw [if_pos rfl, deq_refl _ (kn5.data (K := K))]; rfl) ?_⟩
        have lt : ((tabK (sizes W.toNat T'.toNat) fun p => V.int (g p.1 p.2)).length : Int) = W * T' := by
          rw [tab_len, sizes_len, Int.natCast_mul, Int.toNat_of_nonneg (by first | lia | omega), Int.toNat_of_nonneg (by first | lia | omega)]
        refine ⟨_, rfl, d, _, rfl, ed, _, rfl, iteF ?_⟩
        refine ⟨_, rfl, d, _, rfl, ed, _, rfl, acc, _, _, _, rfl, rfl, SqL.of esd5, at2_0, _, rfl, acc, _, _, _, rfl, rfl, SqL.of esd5, at2_1, _, _, rfl, rfl, mul64 (by first | lia | omega) (by first | lia | omega) (by first | lia | omega) (by first | lia | omega), rfl, _, rfl, iteN (by rw [lt, decide_eq_true rfl]; rfl) ?_⟩
        exact kB acc kn hd d W T' ks g H5 esd5 W1 W2 T1 T2 kn5 few ok ed F1
end
theorem all_mk {l : PySem.W.OpenLaw} {w : World} {K : PySem.W.Frag} {h : Heap} {mg : Str → Option Value} {fa : Addr} (X : K.In h) (G : h.Ns mainGlobals mg) (hfa : mg "law" = some (.ref fa))
    {f0 : Addr} {od0 an0 : Option Addr} {sl0 : Array (Option Value)} {oc0 kV0 dc0 pm0 cd0 ct0 : Value} (a0 : PySem.W.nsIn K mainGlobals "is_whole" = some (some (.ref f0))) (l0 : K.lookup f0 = some ⟨oc0, od0, .func (PySem.W.fnOf "is_whole" "is_whole" (defArgs s_is_whole) (defBody s_is_whole) (defScope s_is_whole) .none kV0 dc0 pm0 an0 cd0 ct0), sl0⟩) (c0 : PySem.W.codeIn K cd0 "is_whole" = true) (k0 : PySem.W.keepIn K (.ref f0) = true)
    {f1 : Addr} {od1 an1 : Option Addr} {sl1 : Array (Option Value)} {oc1 kV1 dc1 pm1 cd1 ct1 : Value} (a1 : PySem.W.nsIn K mainGlobals "is_side" = some (some (.ref f1))) (l1 : K.lookup f1 = some ⟨oc1, od1, .func (PySem.W.fnOf "is_side" "is_side" (defArgs s_is_side) (defBody s_is_side) (defScope s_is_side) .none kV1 dc1 pm1 an1 cd1 ct1), sl1⟩) (c1 : PySem.W.codeIn K cd1 "is_side" = true) (k1 : PySem.W.keepIn K (.ref f1) = true)
    {f2 : Addr} {od2 an2 : Option Addr} {sl2 : Array (Option Value)} {oc2 kV2 dc2 pm2 cd2 ct2 : Value} (a2 : PySem.W.nsIn K mainGlobals "size_of" = some (some (.ref f2))) (l2 : K.lookup f2 = some ⟨oc2, od2, .func (PySem.W.fnOf "size_of" "size_of" (defArgs s_size_of) (defBody s_size_of) (defScope s_size_of) .none kV2 dc2 pm2 an2 cd2 ct2), sl2⟩) (c2 : PySem.W.codeIn K cd2 "size_of" = true) (k2 : PySem.W.keepIn K (.ref f2) = true)
    {f3 : Addr} {od3 an3 : Option Addr} {sl3 : Array (Option Value)} {oc3 kV3 dc3 pm3 cd3 ct3 : Value} (a3 : PySem.W.nsIn K mainGlobals "check_sides" = some (some (.ref f3))) (l3 : K.lookup f3 = some ⟨oc3, od3, .func (PySem.W.fnOf "check_sides" "check_sides" (defArgs s_check_sides) (defBody s_check_sides) (defScope s_check_sides) .none kV3 dc3 pm3 an3 cd3 ct3), sl3⟩) (c3 : PySem.W.codeIn K cd3 "check_sides" = true) (k3 : PySem.W.keepIn K (.ref f3) = true)
    {f4 : Addr} {od4 an4 : Option Addr} {sl4 : Array (Option Value)} {oc4 kV4 dc4 pm4 cd4 ct4 : Value} (a4 : PySem.W.nsIn K mainGlobals "first_piece" = some (some (.ref f4))) (l4 : K.lookup f4 = some ⟨oc4, od4, .func (PySem.W.fnOf "first_piece" "first_piece" (defArgs s_first_piece) (defBody s_first_piece) (defScope s_first_piece) .none kV4 dc4 pm4 an4 cd4 ct4), sl4⟩) (c4 : PySem.W.codeIn K cd4 "first_piece" = true) (k4 : PySem.W.keepIn K (.ref f4) = true)
    {f5 : Addr} {od5 an5 : Option Addr} {sl5 : Array (Option Value)} {oc5 kV5 dc5 pm5 cd5 ct5 : Value} (a5 : PySem.W.nsIn K mainGlobals "other_piece" = some (some (.ref f5))) (l5 : K.lookup f5 = some ⟨oc5, od5, .func (PySem.W.fnOf "other_piece" "other_piece" (defArgs s_other_piece) (defBody s_other_piece) (defScope s_other_piece) .none kV5 dc5 pm5 an5 cd5 ct5), sl5⟩) (c5 : PySem.W.codeIn K cd5 "other_piece" = true) (k5 : PySem.W.keepIn K (.ref f5) = true)
    {f6 : Addr} {od6 an6 : Option Addr} {sl6 : Array (Option Value)} {oc6 kV6 dc6 pm6 cd6 ct6 : Value} (a6 : PySem.W.nsIn K mainGlobals "is_kind" = some (some (.ref f6))) (l6 : K.lookup f6 = some ⟨oc6, od6, .func (PySem.W.fnOf "is_kind" "is_kind" (defArgs s_is_kind) (defBody s_is_kind) (defScope s_is_kind) .none kV6 dc6 pm6 an6 cd6 ct6), sl6⟩) (c6 : PySem.W.codeIn K cd6 "is_kind" = true) (k6 : PySem.W.keepIn K (.ref f6) = true)
    {f7 : Addr} {od7 an7 : Option Addr} {sl7 : Array (Option Value)} {oc7 kV7 dc7 pm7 cd7 ct7 : Value} (a7 : PySem.W.nsIn K mainGlobals "check_kinds" = some (some (.ref f7))) (l7 : K.lookup f7 = some ⟨oc7, od7, .func (PySem.W.fnOf "check_kinds" "check_kinds" (defArgs s_check_kinds) (defBody s_check_kinds) (defScope s_check_kinds) .none kV7 dc7 pm7 an7 cd7 ct7), sl7⟩) (c7 : PySem.W.codeIn K cd7 "check_kinds" = true) (k7 : PySem.W.keepIn K (.ref f7) = true)
    {f8 : Addr} {od8 an8 : Option Addr} {sl8 : Array (Option Value)} {oc8 kV8 dc8 pm8 cd8 ct8 : Value} (a8 : PySem.W.nsIn K mainGlobals "has_size" = some (some (.ref f8))) (l8 : K.lookup f8 = some ⟨oc8, od8, .func (PySem.W.fnOf "has_size" "has_size" (defArgs s_has_size) (defBody s_has_size) (defScope s_has_size) .none kV8 dc8 pm8 an8 cd8 ct8), sl8⟩) (c8 : PySem.W.codeIn K cd8 "has_size" = true) (k8 : PySem.W.keepIn K (.ref f8) = true)
    {f9 : Addr} {od9 an9 : Option Addr} {sl9 : Array (Option Value)} {oc9 kV9 dc9 pm9 cd9 ct9 : Value} (a9 : PySem.W.nsIn K mainGlobals "is_of_kind" = some (some (.ref f9))) (l9 : K.lookup f9 = some ⟨oc9, od9, .func (PySem.W.fnOf "is_of_kind" "is_of_kind" (defArgs s_is_of_kind) (defBody s_is_of_kind) (defScope s_is_of_kind) .none kV9 dc9 pm9 an9 cd9 ct9), sl9⟩) (c9 : PySem.W.codeIn K cd9 "is_of_kind" = true) (k9 : PySem.W.keepIn K (.ref f9) = true)
    {f10 : Addr} {od10 an10 : Option Addr} {sl10 : Array (Option Value)} {oc10 kV10 dc10 pm10 cd10 ct10 : Value} (a10 : PySem.W.nsIn K mainGlobals "choice_uncut" = some (some (.ref f10))) (l10 : K.lookup f10 = some ⟨oc10, od10, .func (PySem.W.fnOf "choice_uncut" "choice_uncut" (defArgs s_choice_uncut) (defBody s_choice_uncut) (defScope s_choice_uncut) .none kV10 dc10 pm10 an10 cd10 ct10), sl10⟩) (c10 : PySem.W.codeIn K cd10 "choice_uncut" = true) (k10 : PySem.W.keepIn K (.ref f10) = true)
    {f11 : Addr} {od11 an11 : Option Addr} {sl11 : Array (Option Value)} {oc11 kV11 dc11 pm11 cd11 ct11 : Value} (a11 : PySem.W.nsIn K mainGlobals "cuts_within" = some (some (.ref f11))) (l11 : K.lookup f11 = some ⟨oc11, od11, .func (PySem.W.fnOf "cuts_within" "cuts_within" (defArgs s_cuts_within) (defBody s_cuts_within) (defScope s_cuts_within) .none kV11 dc11 pm11 an11 cd11 ct11), sl11⟩) (c11 : PySem.W.codeIn K cd11 "cuts_within" = true) (k11 : PySem.W.keepIn K (.ref f11) = true)
    {f12 : Addr} {od12 an12 : Option Addr} {sl12 : Array (Option Value)} {oc12 kV12 dc12 pm12 cd12 ct12 : Value} (a12 : PySem.W.nsIn K mainGlobals "best_choice" = some (some (.ref f12))) (l12 : K.lookup f12 = some ⟨oc12, od12, .func (PySem.W.fnOf "best_choice" "best_choice" (defArgs s_best_choice) (defBody s_best_choice) (defScope s_best_choice) .none kV12 dc12 pm12 an12 cd12 ct12), sl12⟩) (c12 : PySem.W.codeIn K cd12 "best_choice" = true) (k12 : PySem.W.keepIn K (.ref f12) = true)
    {f13 : Addr} {od13 an13 : Option Addr} {sl13 : Array (Option Value)} {oc13 kV13 dc13 pm13 cd13 ct13 : Value} (a13 : PySem.W.nsIn K mainGlobals "worths_in" = some (some (.ref f13))) (l13 : K.lookup f13 = some ⟨oc13, od13, .func (PySem.W.fnOf "worths_in" "worths_in" (defArgs s_worths_in) (defBody s_worths_in) (defScope s_worths_in) .none kV13 dc13 pm13 an13 cd13 ct13), sl13⟩) (c13 : PySem.W.codeIn K cd13 "worths_in" = true) (k13 : PySem.W.keepIn K (.ref f13) = true)
    {f14 : Addr} {od14 an14 : Option Addr} {sl14 : Array (Option Value)} {oc14 kV14 dc14 pm14 cd14 ct14 : Value} (a14 : PySem.W.nsIn K mainGlobals "choices_by_size" = some (some (.ref f14))) (l14 : K.lookup f14 = some ⟨oc14, od14, .func (PySem.W.fnOf "choices_by_size" "choices_by_size" (defArgs s_choices_by_size) (defBody s_choices_by_size) (defScope s_choices_by_size) .none kV14 dc14 pm14 an14 cd14 ct14), sl14⟩) (c14 : PySem.W.codeIn K cd14 "choices_by_size" = true) (k14 : PySem.W.keepIn K (.ref f14) = true)
    {f15 : Addr} {od15 an15 : Option Addr} {sl15 : Array (Option Value)} {oc15 kV15 dc15 pm15 cd15 ct15 : Value} (a15 : PySem.W.nsIn K mainGlobals "worths" = some (some (.ref f15))) (l15 : K.lookup f15 = some ⟨oc15, od15, .func (PySem.W.fnOf "worths" "worths" (defArgs s_worths) (defBody s_worths) (defScope s_worths) .none kV15 dc15 pm15 an15 cd15 ct15), sl15⟩) (c15 : PySem.W.codeIn K cd15 "worths" = true) (k15 : PySem.W.keepIn K (.ref f15) = true)
    {f16 : Addr} {od16 an16 : Option Addr} {sl16 : Array (Option Value)} {oc16 kV16 dc16 pm16 cd16 ct16 : Value} (a16 : PySem.W.nsIn K mainGlobals "_law_cell" = some (some (.ref f16))) (l16 : K.lookup f16 = some ⟨oc16, od16, .func (PySem.W.fnOf "_law_cell" "_law_cell" (defArgs s__law_cell) (defBody s__law_cell) (defScope s__law_cell) .none kV16 dc16 pm16 an16 cd16 ct16), sl16⟩) (c16 : PySem.W.codeIn K cd16 "_law_cell" = true) (k16 : PySem.W.keepIn K (.ref f16) = true)
    {f17 : Addr} {od17 an17 : Option Addr} {sl17 : Array (Option Value)} {oc17 kV17 dc17 pm17 cd17 ct17 : Value} (a17 : PySem.W.nsIn K mainGlobals "_law_draw" = some (some (.ref f17))) (l17 : K.lookup f17 = some ⟨oc17, od17, .func (PySem.W.fnOf "_law_draw" "_law_draw" (defArgs s__law_draw) (defBody s__law_draw) (defScope s__law_draw) .none kV17 dc17 pm17 an17 cd17 ct17), sl17⟩) (c17 : PySem.W.codeIn K cd17 "_law_draw" = true) (k17 : PySem.W.keepIn K (.ref f17) = true)
    {f18 : Addr} {od18 an18 : Option Addr} {sl18 : Array (Option Value)} {oc18 kV18 dc18 pm18 cd18 ct18 : Value} (a18 : PySem.W.nsIn K mainGlobals "_law_kind" = some (some (.ref f18))) (l18 : K.lookup f18 = some ⟨oc18, od18, .func (PySem.W.fnOf "_law_kind" "_law_kind" (defArgs s__law_kind) (defBody s__law_kind) (defScope s__law_kind) .none kV18 dc18 pm18 an18 cd18 ct18), sl18⟩) (c18 : PySem.W.codeIn K cd18 "_law_kind" = true) (k18 : PySem.W.keepIn K (.ref f18) = true)
    {f19 : Addr} {od19 an19 : Option Addr} {sl19 : Array (Option Value)} {oc19 kV19 dc19 pm19 cd19 ct19 : Value} (a19 : PySem.W.nsIn K mainGlobals "_law_is_of" = some (some (.ref f19))) (l19 : K.lookup f19 = some ⟨oc19, od19, .func (PySem.W.fnOf "_law_is_of" "_law_is_of" (defArgs s__law_is_of) (defBody s__law_is_of) (defScope s__law_is_of) .none kV19 dc19 pm19 an19 cd19 ct19), sl19⟩) (c19 : PySem.W.codeIn K cd19 "_law_is_of" = true) (k19 : PySem.W.keepIn K (.ref f19) = true)
    {f20 : Addr} {od20 an20 : Option Addr} {sl20 : Array (Option Value)} {oc20 kV20 dc20 pm20 cd20 ct20 : Value} (a20 : PySem.W.nsIn K mainGlobals "_law_whole" = some (some (.ref f20))) (l20 : K.lookup f20 = some ⟨oc20, od20, .func (PySem.W.fnOf "_law_whole" "_law_whole" (defArgs s__law_whole) (defBody s__law_whole) (defScope s__law_whole) .none kV20 dc20 pm20 an20 cd20 ct20), sl20⟩) (c20 : PySem.W.codeIn K cd20 "_law_whole" = true) (k20 : PySem.W.keepIn K (.ref f20) = true)
    {f21 : Addr} {od21 an21 : Option Addr} {sl21 : Array (Option Value)} {oc21 kV21 dc21 pm21 cd21 ct21 : Value} (a21 : PySem.W.nsIn K mainGlobals "_law_choices" = some (some (.ref f21))) (l21 : K.lookup f21 = some ⟨oc21, od21, .func (PySem.W.fnOf "_law_choices" "_law_choices" (defArgs s__law_choices) (defBody s__law_choices) (defScope s__law_choices) .none kV21 dc21 pm21 an21 cd21 ct21), sl21⟩) (c21 : PySem.W.codeIn K cd21 "_law_choices" = true) (k21 : PySem.W.keepIn K (.ref f21) = true)
    {f22 : Addr} {od22 an22 : Option Addr} {sl22 : Array (Option Value)} {oc22 kV22 dc22 pm22 cd22 ct22 : Value} (a22 : PySem.W.nsIn K mainGlobals "law" = some (some (.ref f22))) (l22 : K.lookup f22 = some ⟨oc22, od22, .func (PySem.W.fnOf "law" "law" (defArgs s_law) (defBody s_law) (defScope s_law) .none kV22 dc22 pm22 an22 cd22 ct22), sl22⟩) (c22 : PySem.W.codeIn K cd22 "law" = true) (k22 : PySem.W.keepIn K (.ref f22) = true)
    (z0 : PySem.W.nsIn K mainGlobals "isinstance" = some none)
    (z1 : PySem.W.nsIn K mainGlobals "int" = some none)
    (z2 : PySem.W.nsIn K mainGlobals "bool" = some none)
    (z3 : PySem.W.nsIn K mainGlobals "tuple" = some none)
    (z4 : PySem.W.nsIn K mainGlobals "list" = some none)
    (z5 : PySem.W.nsIn K mainGlobals "dict" = some none)
    (z6 : PySem.W.nsIn K mainGlobals "len" = some none)
    (z7 : PySem.W.nsIn K mainGlobals "enumerate" = some none)
    (z8 : PySem.W.nsIn K mainGlobals "range" = some none)
    (z9 : PySem.W.nsIn K mainGlobals "max" = some none)
    {tk0 : Tok} (g0 : PySem.W.nsIn K mainGlobals "LONGEST_SIDE" = some (some (.int 12 tk0)))
    {tk1 : Tok} (g1 : PySem.W.nsIn K mainGlobals "MOST_KINDS" = some (some (.int 8 tk1)))
    {tk2 : Tok} (g2 : PySem.W.nsIn K mainGlobals "GREATEST_WORTH" = some (some (.int 1000000000 tk2)))
    {tk3 : Tok} (g3 : PySem.W.nsIn K mainGlobals "WHOLE" = some (some (.str "whole" tk3)))
    {tk4 : Tok} (g4 : PySem.W.nsIn K mainGlobals "UPRIGHT" = some (some (.str "upright" tk4)))
    {tk5 : Tok} (g5 : PySem.W.nsIn K mainGlobals "LEVEL" = some (some (.str "level" tk5)))
     (g6 : PySem.W.nsIn K mainGlobals "size_of" = some (some (.ref f2)))
    : ∃ fd : FuncData, (∀ (s : Shared) (v : Value), BindsTo s fd ⟨[v], []⟩ [("_law_script", v)]) ∧ ∀ base : Heap, K.In base → base.Ns mainGlobals mg → FnOk l.prog w K mg base CX0 7 fa fd ["_law_script"] (sp_law K) := by
  have e := hfa.symm.trans (PySem.W.mg_of X G a22)
  cases e
  have T : Txt mg tk0 tk1 tk2 tk3 tk4 tk5 f2 := ⟨PySem.W.mg_none_of X G z0, PySem.W.mg_none_of X G z1, PySem.W.mg_none_of X G z2, PySem.W.mg_none_of X G z3, PySem.W.mg_none_of X G z4, PySem.W.mg_none_of X G z5, PySem.W.mg_none_of X G z6, PySem.W.mg_none_of X G z7, PySem.W.mg_none_of X G z8, PySem.W.mg_none_of X G z9, PySem.W.mg_of X G g0, PySem.W.mg_of X G g1, PySem.W.mg_of X G g2, PySem.W.mg_of X G g3, PySem.W.mg_of X G g4, PySem.W.mg_of X G g5, PySem.W.mg_of X G g6⟩
  have F0 := fun_mk (st := s_is_whole) l0 c0 k0
  have b0 := F0.binds (ps := ["thing"]) fun _ _ _ _ _ _ us hl => match us, hl with | [_], _ => rfl
  have F1 := fun_mk (st := s_is_side) l1 c1 k1
  have b1 := F1.binds (ps := ["thing"]) fun _ _ _ _ _ _ us hl => match us, hl with | [_], _ => rfl
  have F2 := fun_mk (st := s_size_of) l2 c2 k2
  have b2 := F2.binds (ps := ["rectangle"]) fun _ _ _ _ _ _ us hl => match us, hl with | [_], _ => rfl
  have F3 := fun_mk (st := s_check_sides) l3 c3 k3
  have b3 := F3.binds (ps := ["width", "height"]) fun _ _ _ _ _ _ us hl => match us, hl with | [_, _], _ => rfl
  have F4 := fun_mk (st := s_first_piece) l4 c4 k4
  have b4 := F4.binds (ps := ["piece", "word", "at"]) fun _ _ _ _ _ _ us hl => match us, hl with | [_, _, _], _ => rfl
  have F5 := fun_mk (st := s_other_piece) l5 c5 k5
  have b5 := F5.binds (ps := ["piece", "word", "at"]) fun _ _ _ _ _ _ us hl => match us, hl with | [_, _, _], _ => rfl
  have F6 := fun_mk (st := s_is_kind) l6 c6 k6
  have b6 := F6.binds (ps := ["thing"]) fun _ _ _ _ _ _ us hl => match us, hl with | [_], _ => rfl
  have F7 := fun_mk (st := s_check_kinds) l7 c7 k7
  have b7 := F7.binds (ps := ["kinds"]) fun _ _ _ _ _ _ us hl => match us, hl with | [_], _ => rfl
  have F8 := fun_mk (st := s_has_size) l8 c8 k8
  have b8 := F8.binds (ps := ["size", "width", "height", "turns"]) fun _ _ _ _ _ _ us hl => match us, hl with | [_, _, _, _], _ => rfl
  have F9 := fun_mk (st := s_is_of_kind) l9 c9 k9
  have b9 := F9.binds (ps := ["piece", "kind"]) fun _ _ _ _ _ _ us hl => match us, hl with | [_, _], _ => rfl
  have F10 := fun_mk (st := s_choice_uncut) l10 c10 k10
  have b10 := F10.binds (ps := ["piece", "kinds"]) fun _ _ _ _ _ _ us hl => match us, hl with | [_, _], _ => rfl
  have F11 := fun_mk (st := s_cuts_within) l11 c11 k11
  have b11 := F11.binds (ps := ["piece"]) fun _ _ _ _ _ _ us hl => match us, hl with | [_], _ => rfl
  have F12 := fun_mk (st := s_best_choice) l12 c12 k12
  have b12 := F12.binds (ps := ["piece", "uncut", "choices", "key"]) fun _ _ _ _ _ _ us hl => match us, hl with | [_, _, _, _], _ => rfl
  have F13 := fun_mk (st := s_worths_in) l13 c13 k13
  have b13 := F13.binds (ps := ["choices"]) fun _ _ _ _ _ _ us hl => match us, hl with | [_], _ => rfl
  have F14 := fun_mk (st := s_choices_by_size) l14 c14 k14
  have b14 := F14.binds (ps := ["width", "height", "kinds"]) fun _ _ _ _ _ _ us hl => match us, hl with | [_, _, _], _ => rfl
  have F15 := fun_mk (st := s_worths) l15 c15 k15
  have b15 := F15.binds (ps := ["width", "height", "kinds"]) fun _ _ _ _ _ _ us hl => match us, hl with | [_, _, _], _ => rfl
  have F16 := fun_mk (st := s__law_cell) l16 c16 k16
  have b16 := F16.binds (ps := ["_law_script", "_law_k"]) fun _ _ _ _ _ _ us hl => match us, hl with | [_, _], _ => rfl
  have F17 := fun_mk (st := s__law_draw) l17 c17 k17
  have b17 := F17.binds (ps := ["_law_cell_here", "_law_nth", "_law_many"]) fun _ _ _ _ _ _ us hl => match us, hl with | [_, _, _], _ => rfl
  have F18 := fun_mk (st := s__law_kind) l18 c18 k18
  have b18 := F18.binds (ps := ["_law_cell_here"]) fun _ _ _ _ _ _ us hl => match us, hl with | [_], _ => rfl
  have F19 := fun_mk (st := s__law_is_of) l19 c19 k19
  have b19 := F19.binds (ps := ["_law_kind_here", "_law_width", "_law_height"]) fun _ _ _ _ _ _ us hl => match us, hl with | [_, _, _], _ => rfl
  have F20 := fun_mk (st := s__law_whole) l20 c20 k20
  have b20 := F20.binds (ps := ["_law_found"]) fun _ _ _ _ _ _ us hl => match us, hl with | [_], _ => rfl
  have F21 := fun_mk (st := s__law_choices) l21 c21 k21
  have b21 := F21.binds (ps := ["_law_found", "_law_kinds", "_law_width", "_law_height"]) fun _ _ _ _ _ _ us hl => match us, hl with | [_, _, _, _], _ => rfl
  have F22 := fun_mk (st := s_law) l22 c22 k22
  refine ⟨PySem.W.fnOf "law" "law" (defArgs s_law) (defBody s_law) (defScope s_law) .none kV22 dc22 pm22 an22 cd22 ct22, fun s v => .of_eq rfl, fun base _ _ => ?_⟩
  have D_is_whole : DefOk l.prog w K mg base 1 "is_whole" ["thing"] sp_whole := ⟨_, _, ok_is_whole F0 T, PySem.W.mg_of X G a0, k0, b0⟩
  have D_is_side : DefOk l.prog w K mg base 2 "is_side" ["thing"] sp_side := ⟨_, _, ok_is_side F1 T D_is_whole, PySem.W.mg_of X G a1, k1, b1⟩
  have D_size_of : DefOk l.prog w K mg base 1 "size_of" ["rectangle"] sp_size := ⟨_, _, ok_size_of F2, PySem.W.mg_of X G a2, k2, b2⟩
  have D_check_sides : DefOk l.prog w K mg base 3 "check_sides" ["width", "height"] sp_sides := ⟨_, _, ok_check_sides F3 D_is_side, PySem.W.mg_of X G a3, k3, b3⟩
  have D_first_piece : DefOk l.prog w K mg base 1 "first_piece" ["piece", "word", "at"] sp_first := ⟨_, _, ok_first_piece F4 T, PySem.W.mg_of X G a4, k4, b4⟩
  have D_other_piece : DefOk l.prog w K mg base 1 "other_piece" ["piece", "word", "at"] sp_other := ⟨_, _, ok_other_piece F5 T, PySem.W.mg_of X G a5, k5, b5⟩
  have D_is_kind : DefOk l.prog w K mg base 3 "is_kind" ["thing"] sp_kind := ⟨_, _, ok_is_kind F6 T D_is_whole D_is_side, PySem.W.mg_of X G a6, k6, b6⟩
  have D_check_kinds : DefOk l.prog w K mg base 4 "check_kinds" ["kinds"] sp_check := ⟨_, _, ok_check_kinds F7 T D_is_kind, PySem.W.mg_of X G a7, k7, b7⟩
  have D_has_size : DefOk l.prog w K mg base 1 "has_size" ["size", "width", "height", "turns"] sp_has := ⟨_, _, ok_has_size F8, PySem.W.mg_of X G a8, k8, b8⟩
  have D_is_of_kind : DefOk l.prog w K mg base 2 "is_of_kind" ["piece", "kind"] sp_of := ⟨_, _, ok_is_of_kind F9 D_size_of D_has_size, PySem.W.mg_of X G a9, k9, b9⟩
  have D_choice_uncut : DefOk l.prog w K mg base 3 "choice_uncut" ["piece", "kinds"] sp_uncut := ⟨_, _, ok_choice_uncut F10 T D_is_of_kind, PySem.W.mg_of X G a10, k10, b10⟩
  have D_cuts_within : DefOk l.prog w K mg base 2 "cuts_within" ["piece"] sp_cuts := ⟨_, _, ok_cuts_within F11 T D_size_of, PySem.W.mg_of X G a11, k11, b11⟩
  have D_best_choice : DefOk l.prog w K mg base 3 "best_choice" ["piece", "uncut", "choices", "key"] (sp_best mg) := ⟨_, _, ok_best_choice F12 T D_size_of D_first_piece D_other_piece D_cuts_within, PySem.W.mg_of X G a12, k12, b12⟩
  have D_worths_in : DefOk l.prog w K mg base 1 "worths_in" ["choices"] sp_in := ⟨_, _, ok_worths_in F13, PySem.W.mg_of X G a13, k13, b13⟩
  have D_choices_by_size : DefOk l.prog w K mg base 5 "choices_by_size" ["width", "height", "kinds"] sp_choices := ⟨_, _, ok_choices_by_size F14 T D_check_sides D_check_kinds D_choice_uncut D_best_choice, PySem.W.mg_of X G a14, k14, b14⟩
  have D_worths : DefOk l.prog w K mg base 6 "worths" ["width", "height", "kinds"] sp_worths := ⟨_, _, ok_worths F15 D_choices_by_size D_worths_in, PySem.W.mg_of X G a15, k15, b15⟩
  have D__law_cell : DefOk l.prog w K mg base 1 "_law_cell" ["_law_script", "_law_k"] (sp_cell K) := ⟨_, _, ok_law_cell F16 T, PySem.W.mg_of X G a16, k16, b16⟩
  have D__law_draw : DefOk l.prog w K mg base 1 "_law_draw" ["_law_cell_here", "_law_nth", "_law_many"] sp_draw := ⟨_, _, ok_law_draw F17, PySem.W.mg_of X G a17, k17, b17⟩
  have D__law_kind : DefOk l.prog w K mg base 2 "_law_kind" ["_law_cell_here"] sp_lkind := ⟨_, _, ok_law_kind F18 D__law_draw, PySem.W.mg_of X G a18, k18, b18⟩
  have D__law_is_of : DefOk l.prog w K mg base 1 "_law_is_of" ["_law_kind_here", "_law_width", "_law_height"] sp_isof := ⟨_, _, ok_law_is_of F19, PySem.W.mg_of X G a19, k19, b19⟩
  have D__law_whole : DefOk l.prog w K mg base 1 "_law_whole" ["_law_found"] sp_whole := ⟨_, _, ok_law_whole F20 T, PySem.W.mg_of X G a20, k20, b20⟩
  have D__law_choices : DefOk l.prog w K mg base 2 "_law_choices" ["_law_found", "_law_kinds", "_law_width", "_law_height"] sp_lawL := ⟨_, _, ok_law_choices F21 T D__law_is_of, PySem.W.mg_of X G a21, k21, b21⟩
  exact ok_law F22 T D_worths D__law_cell D__law_kind D__law_whole D__law_choices
theorem walk {l : PySem.W.OpenLaw} {q : Program} {loose : List Str} {XP : (Str → Option Value) → Heap → Prop} {YP : World → Heap → Prop} {d : DefRec} {K : Params → PySem.W.Frag} (hn : l.most = some 63) (hdf : d.params.defaults = [])
    (hY : ∀ (w : World) (h : Heap), YP w h → (K w.params).In h)
    (F : ∀ (w : World) (mg : Str → Option Value) (fa : Addr) (h : Heap), (K w.params).In h → h.Ns mainGlobals mg → mg d.name = some (.ref fa) →
      ∃ fd : FuncData, (∀ (s : Shared) (u : Value), BindsTo s fd ⟨[u], []⟩ [("_law_script", u)]) ∧ ∀ base : Heap, (K w.params).In base → base.Ns mainGlobals mg → FnOk l.prog w (K w.params) mg base CX0 7 fa fd ["_law_script"] (sp_law (K w.params))) :
    PySem.W.WalkO q loose XP YP l.row.toRowW d [] (fun f vs => PySem.call f vs) :=
  L2.walk_of (n := 63) (k := 7) (x := "_law_script") (CX := fun _ => CX0) (sp := fun w => sp_law (K w.params)) hn (by decide) hdf ⟨rfl, by decide, by decide⟩ hY F (fun _ _ a ns hl _ hS => ⟨a, ns, rfl, hS, hl, fun _ => rfl⟩) fun _ _ _ _ _ z => z
end K51
open PySem PySem.W PyProof.Rows
set_option maxRecDepth 100000 in
set_option maxHeartbeats 0 in
theorem PySem.Challenge.cw_glazebench_k51_table_of_worths_holds : PySem.Challenge.rw_glazebench_k51_table_of_worths.Holds := by
  w_on; o_law; k_head; (case hw => w_witness2)
  k_fill
  refine K51.walk (l := PySem.Challenge.rw_glazebench_k51_table_of_worths) rfl rfl (fun w h Y => PySem.W.kIn_of Y) ?F
  case F =>
    intro w mg fa h KX G hmg
    refine' K51.all_mk KX G hmg ?my_a0 ?my_l0 ?my_c0 ?my_k0 ?my_a1 ?my_l1 ?my_c1 ?my_k1 ?my_a2 ?my_l2 ?my_c2 ?my_k2 ?my_a3 ?my_l3 ?my_c3 ?my_k3 ?my_a4 ?my_l4 ?my_c4 ?my_k4 ?my_a5 ?my_l5 ?my_c5 ?my_k5 ?my_a6 ?my_l6 ?my_c6 ?my_k6 ?my_a7 ?my_l7 ?my_c7 ?my_k7 ?my_a8 ?my_l8 ?my_c8 ?my_k8 ?my_a9 ?my_l9 ?my_c9 ?my_k9 ?my_a10 ?my_l10 ?my_c10 ?my_k10 ?my_a11 ?my_l11 ?my_c11 ?my_k11 ?my_a12 ?my_l12 ?my_c12 ?my_k12 ?my_a13 ?my_l13 ?my_c13 ?my_k13 ?my_a14 ?my_l14 ?my_c14 ?my_k14 ?my_a15 ?my_l15 ?my_c15 ?my_k15 ?my_a16 ?my_l16 ?my_c16 ?my_k16 ?my_a17 ?my_l17 ?my_c17 ?my_k17 ?my_a18 ?my_l18 ?my_c18 ?my_k18 ?my_a19 ?my_l19 ?my_c19 ?my_k19 ?my_a20 ?my_l20 ?my_c20 ?my_k20 ?my_a21 ?my_l21 ?my_c21 ?my_k21 ?my_a22 ?my_l22 ?my_c22 ?my_k22 ?my_z0 ?my_z1 ?my_z2 ?my_z3 ?my_z4 ?my_z5 ?my_z6 ?my_z7 ?my_z8 ?my_z9 ?my_g0 ?my_g1 ?my_g2 ?my_g3 ?my_g4 ?my_g5 ?my_g6
    (case my_a0 => k_is); (case my_l0 => k_is); (case my_c0 => k_is); (case my_k0 => k_is); (case my_a1 => k_is); (case my_l1 => k_is); (case my_c1 => k_is); (case my_k1 => k_is)
    (case my_a2 => k_is); (case my_l2 => k_is); (case my_c2 => k_is); (case my_k2 => k_is); (case my_a3 => k_is); (case my_l3 => k_is); (case my_c3 => k_is); (case my_k3 => k_is)
    (case my_a4 => k_is); (case my_l4 => k_is); (case my_c4 => k_is); (case my_k4 => k_is); (case my_a5 => k_is); (case my_l5 => k_is); (case my_c5 => k_is); (case my_k5 => k_is)
    (case my_a6 => k_is); (case my_l6 => k_is); (case my_c6 => k_is); (case my_k6 => k_is); (case my_a7 => k_is); (case my_l7 => k_is); (case my_c7 => k_is); (case my_k7 => k_is)
    (case my_a8 => k_is); (case my_l8 => k_is); (case my_c8 => k_is); (case my_k8 => k_is); (case my_a9 => k_is); (case my_l9 => k_is); (case my_c9 => k_is); (case my_k9 => k_is)
    (case my_a10 => k_is); (case my_l10 => k_is); (case my_c10 => k_is); (case my_k10 => k_is); (case my_a11 => k_is); (case my_l11 => k_is); (case my_c11 => k_is); (case my_k11 => k_is)
    (case my_a12 => k_is); (case my_l12 => k_is); (case my_c12 => k_is); (case my_k12 => k_is); (case my_a13 => k_is); (case my_l13 => k_is); (case my_c13 => k_is); (case my_k13 => k_is)
    (case my_a14 => k_is); (case my_l14 => k_is); (case my_c14 => k_is); (case my_k14 => k_is); (case my_a15 => k_is); (case my_l15 => k_is); (case my_c15 => k_is); (case my_k15 => k_is)
    (case my_a16 => k_is); (case my_l16 => k_is); (case my_c16 => k_is); (case my_k16 => k_is); (case my_a17 => k_is); (case my_l17 => k_is); (case my_c17 => k_is); (case my_k17 => k_is)
    (case my_a18 => k_is); (case my_l18 => k_is); (case my_c18 => k_is); (case my_k18 => k_is); (case my_a19 => k_is); (case my_l19 => k_is); (case my_c19 => k_is); (case my_k19 => k_is)
    (case my_a20 => k_is); (case my_l20 => k_is); (case my_c20 => k_is); (case my_k20 => k_is); (case my_a21 => k_is); (case my_l21 => k_is); (case my_c21 => k_is); (case my_k21 => k_is)
    (case my_a22 => k_is); (case my_l22 => k_is); (case my_c22 => k_is); (case my_k22 => k_is); (case my_z0 => k_is); (case my_z1 => k_is); (case my_z2 => k_is); (case my_z3 => k_is)
    (case my_z4 => k_is); (case my_z5 => k_is); (case my_z6 => k_is); (case my_z7 => k_is); (case my_z8 => k_is); (case my_z9 => k_is); (case my_g0 => k_is); (case my_g1 => k_is)
    (case my_g2 => k_is); (case my_g3 => k_is); (case my_g4 => k_is); (case my_g5 => k_is); (case my_g6 => k_is)
