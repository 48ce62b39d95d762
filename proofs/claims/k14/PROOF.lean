import PyProof.Rows.All
import Wide.All
import OpenK.AllK
import Wide.FinOn
import Lean
import PyProof.EqAt
import PyProof.EqKinds
import PyProof.TupleCall
import PyProof.NeKinds
import PyProof.ExcAttrAll.ValueError
import PyProof.StationsW
import PyProof.PassesOwn
import PyProof.RulesAs
import PyProof.NsDelKeeps
import PyProof.CompMap
import KE.KRevIter
import PyProof.Rows.StrJoin2
import PyProof.Rows.StrNews
import PyProof.StrLawsTight
import PyProof.StrWalks
import PyProof.StrBlockH
import KE.KIntText
import KE.LcSums
import PySem.Challenge.RW_glazebench_k14_words_that_are_no_tree
set_option Elab.async false
set_option linter.all false
set_option maxRecDepth 100000
namespace L2
open PySem PySem.Spec PyProof.Rows

/-- a key: an int or a str -/
abbrev Key := Sum Int Str
def keyIs : Key → Value → Bool
  | .inl k, v => Value.isInt k v
  | .inr x, v => Value.isStrOf x v
def keyH (w : World) : Key → Int
  | .inl k => hashInt k
  | .inr x => hashStr w x
theorem keyIs_shape : ∀ {k : Key} {v : Value}, keyIs k v = true → (∃ i t, k = Sum.inl i ∧ v = Value.int i t) ∨ (∃ x t, k = Sum.inr x ∧ v = Value.str x t)
  | .inl i, v, h => by
    obtain ⟨t, e⟩ := Value.isInt_shape (k := i) (v := v) h
    exact .inl ⟨i, t, rfl, e⟩
  | .inr x, v, h => by
    obtain ⟨t, e⟩ := Value.isStrOf_shape (x := x) (v := v) h
    exact .inr ⟨x, t, rfl, e⟩
theorem key_ll (a b : Int) : decide ((Sum.inl a : Key) = Sum.inl b) = (a == b) := by
  by_cases e : a = b
  · subst e; simp
  · have h : ¬ (Sum.inl a : Key) = Sum.inl b := fun q => e (Sum.inl.inj q)
    rw [decide_eq_false h]
    exact (beq_eq_false_iff_ne.mpr e).symm
theorem key_rr (a b : Str) : decide ((Sum.inr a : Key) = Sum.inr b) = decide (a = b) := by
  by_cases e : a = b
  · subst e; simp
  · have h : ¬ (Sum.inr a : Key) = Sum.inr b := fun q => e (Sum.inr.inj q)
    rw [decide_eq_false h, decide_eq_false e]
theorem key_lr (a : Int) (b : Str) : decide ((Sum.inl a : Key) = Sum.inr b) = false := decide_eq_false (fun q => nomatch q)
theorem key_rl (a : Str) (b : Int) : decide ((Sum.inr a : Key) = Sum.inl b) = false := decide_eq_false (fun q => nomatch q)

def mixKind (prog : Program) (w : World) : PySem.KeyKind prog w Key where
  is := keyIs
  hash := keyH w
  inj := fun v a b ha hb => by
    rcases keyIs_shape ha with ⟨i, t, rfl, rfl⟩ | ⟨x, t, rfl, rfl⟩
    · rcases keyIs_shape hb with ⟨j, u, rfl, e⟩ | ⟨y, u, rfl, e⟩
      · injection e with e1 _; rw [e1]
      · exact nomatch e
    · rcases keyIs_shape hb with ⟨j, u, rfl, e⟩ | ⟨y, u, rfl, e⟩
      · exact nomatch e
      · injection e with e1 _; rw [e1]
  byValue := fun k v h => by
    rcases keyIs_shape h with ⟨i, t, rfl, rfl⟩ | ⟨x, t, rfl, rfl⟩ <;> rfl
  pyHash := fun hv h => by
    rcases keyIs_shape hv with ⟨i, t, rfl, rfl⟩ | ⟨x, t, rfl, rfl⟩
    · exact wpAny_pyHash_int h
    · exact wpAny_pyHash_str h
  eqBool := fun hu hv h => by
    rcases keyIs_shape hu with ⟨i, t, rfl, rfl⟩ | ⟨x, t, rfl, rfl⟩
    · rcases keyIs_shape hv with ⟨j, u, rfl, rfl⟩ | ⟨y, u, rfl, rfl⟩
      · rw [key_ll] at h; exact wpAny_eqBool_int h
      · rw [key_lr] at h; exact SeqAt.EqAt.int_str i t y u _ _ _ _ h
    · rcases keyIs_shape hv with ⟨j, u, rfl, rfl⟩ | ⟨y, u, rfl, rfl⟩
      · rw [key_rl] at h; exact SeqAt.EqAt.str_int x t j u _ _ _ _ h
      · rw [key_rr] at h; exact wpAny_eqBool_str h
  «strs» := fun k x t v h => by
    rcases keyIs_shape h with ⟨i, u, rfl, e⟩ | ⟨y, u, rfl, e⟩
    · exact nomatch e
    · injection e with e1 _
      subst e1
      cases v <;> rfl

end L2

namespace L2
open PySem PySem.Spec PyProof.Rows

/-- a value, without the heap -/
inductive V where
  | non | bl (b : Bool) | int (i : Int) | str (x : Str) | byt (b : Array UInt8) | flt (b : UInt64) | ref (a : Addr) | ty (n : String)
  deriving DecidableEq

def RelV : V → Value → Prop
  | .non, u => u = Value.none
  | .bl b, u => u = Value.bool b
  | .int i, u => ∃ t, u = Value.int i t
  | .str x, u => ∃ t, u = Value.str x t
  | .byt b, u => ∃ t, u = Value.bytes b t
  | .flt b, u => ∃ t, u = Value.float b t
  | .ref a, u => u = Value.ref a
  | .ty n, u => u = Value.type n

abbrev Vals : List V → List Value → Prop := Paired RelV
theorem Vals.length {xs : List V} {us : List Value} (r : Vals xs us) : xs.length = us.length := Paired.length r
theorem Vals.get : ∀ {xs : List V} {us : List Value} {i : Nat} {x : V}, Vals xs us → xs[i]? = some x → ∃ u, us[i]? = some u ∧ RelV x u
  | _, _, _, _, .nil, e => by simp at e
  | _, _, 0, _, .cons r _, e => by simp at e; subst e; exact ⟨_, rfl, r⟩
  | _, _, i + 1, x, .cons _ t, e => by
    obtain ⟨u, h1, h2⟩ := Vals.get (i := i) (x := x) t (by simpa using e)
    exact ⟨u, by simpa using h1, h2⟩
theorem Vals.set {x : V} {u : Value} (r : RelV x u) : ∀ {xs : List V} {us : List Value} (i : Nat), Vals xs us → Vals (xs.set i x) (us.set i u)
  | _, _, _, .nil => .nil
  | _, _, 0, .cons _ t => .cons r t
  | _, _, i + 1, .cons q t => .cons q (Vals.set r i t)
theorem Vals.append : ∀ {xs ys : List V} {us ws : List Value}, Vals xs us → Vals ys ws → Vals (xs ++ ys) (us ++ ws)
  | _, _, _, _, .nil, s => s
  | _, _, _, _, .cons r t, s => .cons r (Vals.append t s)
theorem Vals.take : ∀ {xs : List V} {us : List Value} (n : Nat), Vals xs us → Vals (xs.take n) (us.take n)
  | _, _, 0, _ => .nil
  | _, _, _ + 1, .nil => .nil
  | _, _, n + 1, .cons r t => .cons r (Vals.take n t)
theorem Vals.drop : ∀ {xs : List V} {us : List Value} (n : Nat), Vals xs us → Vals (xs.drop n) (us.drop n)
  | _, _, 0, r => r
  | _, _, _ + 1, .nil => .nil
  | _, _, n + 1, .cons _ t => Vals.drop n t
def RelO : Option V → Option Value → Prop
  | some v, some u => RelV v u
  | none, none => True
  | _, _ => False
def KV {κ : Type} : List (κ × V) → List (κ × Value) → Prop := Paired fun (p : κ × V) (q : κ × Value) => p.1 = q.1 ∧ RelV p.2 q.2

/-- a key of a dict (00_mix): an int or a text -/
def kV : Key → V
  | .inl i => .int i
  | .inr x => .str x

/-- what stands at a tracked address -/
inductive HO where
  /-- a list -/
  | lst (xs : List V)
  /-- a tuple (never changes) -/
  | tup (xs : List V)
  /-- a dict whose keys are ints and texts; one whose keys are tuples of ints and texts (the empty one is both) -/
  | dK (kvs : List (Key × V)) | dT (kvs : List (List Key × V))
  /-- a set of ints: its members, its size -/
  | set (S : Int → Bool) (n : Nat)
  /-- an instance of the class at C, its dict at dx, its attributes -/
  | ins (C dx : Addr) (fs : List (Str × V))
  /-- the dict of the instance at x -/
  | own (x : Addr)
  /-- the dict of an exception -/
  | xd (fs : List (Str × V))
  /-- a bound method, f of x -/
  | met (f x : Addr)
  /-- a range object lo, lo + 1, .. below hi -/
  | rng (lo hi : Int)
  /-- a thing that is known to the object (the script; a dict while a loop walks it): read, never written while it is so -/
  | frz (o : Obj) (u : HO)
  /-- a code object's table -/
  | tbl (ps : Array Value)
  /-- any other thing, by what is true of its one object (a def of one's own: SetO a S n := HO.ext fun h => ..) -/
  | ext (φ : Heap → Prop)

abbrev Hp := Addr → Option HO
def upd (H : Hp) (a : Addr) (o : HO) : Hp := fun b => if b = a then some o else H b
theorem upd_same {H : Hp} {a : Addr} {o : HO} : upd H a o a = some o := by unfold upd; rw [if_pos rfl]
theorem upd_ne {H : Hp} {a b : Addr} {o : HO} (h : b ≠ a) : upd H a o b = H b := by unfold upd; rw [if_neg h]
/-- two objects of different content stand apart -/
theorem ne_of {H : Hp} {a b : Addr} {o u : HO} (h : H a = some o) (h' : H b = some u) (d : o ≠ u) : a ≠ b := by
  intro e; subst e; rw [h] at h'; exact d (Option.some.inj h')
theorem ne_of_none {H : Hp} {a b : Addr} {o : HO} (h : H a = some o) (h' : H b = none) : a ≠ b := by
  intro e; subst e; rw [h] at h'; cases h'

section
variable (P : Program) (w : World)
def ObjOk (H : Hp) (h : Heap) (a : Addr) : HO → Prop
  | .lst xs => xs.length ≤ sizeLine ∧ ∃ (its : List Value) (n : Nat), Vals xs its ∧ h.get? a = some { cls := .type "list", data := .seq its.toArray n }
  | .tup xs => xs.length ≤ sizeLine ∧ ∃ its : List Value, Vals xs its ∧ IsTup h a its.toArray
  | .dK kvs => kvs.length ≤ sizeLine ∧ (a == sysModules) = false ∧ ∃ vs, KV kvs vs ∧ h.DictOf (mixKind P w) a vs
  | .dT kvs => kvs.length ≤ sizeLine ∧ (a == sysModules) = false ∧ ∃ xs : List (List Key × Addr × Value),
      Paired (fun (p : List Key × V) (q : List Key × Addr × Value) => p.1 = q.1 ∧ H q.2.1 = some (.tup (p.1.map kV)) ∧ RelV p.2 q.2.2) kvs xs ∧
      ∃ o es ep, h.get? a = some o ∧ o.ExactDict ∧ o.data = .dict es ep ∧ es.toList = xs.map (entryOfKey (tupleKind (mixKind P w))) ∧ (xs.map (·.1)).Nodup
  | .set S n => h.SetOf (intKind P w) a S n
  | .ins C dx fs => H dx = some (.own a) ∧ fs.length ≤ 1000 ∧ dx ≠ a ∧ h.get? a = some (PySem.W.instObj C dx) ∧
      ∃ mA, h.Ns1 dx mA ∧ (∀ f, RelO (fs.lookup f) (mA f)) ∧ PySem.Within mA (fs.map (·.1))
  | .own _ => ∃ o, h.get? a = some o
  | .xd fs => ∃ mA, h.Ns1 a mA ∧ ∀ f, RelO (fs.lookup f) (mA f)
  | .rng lo hi => ∃ t u v, h.get? a = some { cls := .type "range", data := .fields #[.int lo t, .int hi u, .int 1 v] }
  | .frz o u => h.get? a = some o ∧ ObjOk H h a u
  | .tbl ps => h.get? a = some { cls := .none, data := .fields ps }
  | .met f x => h.get? a = some (PySem.W.methodObj (.ref f) (.ref x))
  | .ext φ => φ h ∧ (∃ o, h.get? a = some o) ∧ ∀ h1 h2 : Heap, φ h1 → (∀ o, h1.get? a = some o → h2.get? a = some o) → φ h2
/-- the abstract heap is held -/
def HOk (H : Hp) (h : Heap) : Prop := ∀ a o, H a = some o → ObjOk P w H h a o
end

section
variable {P : Program} {w : World} {H H' : Hp} {h h' : Heap} {a : Addr} {o : HO}
theorem ObjOk.lt (x : ObjOk P w H h a o) : a < h.objs.size := by
  cases o with
  | lst xs => obtain ⟨_, _, _, _, e⟩ := x; exact Heap.lt_size e
  | tup xs => obtain ⟨_, _, _, p⟩ := x; exact p.lt
  | dK kvs => obtain ⟨_, _, _, _, o, _, _, e, _⟩ := x; exact Heap.lt_size e
  | dT kvs => obtain ⟨_, _, _, _, o, _, _, e, _⟩ := x; exact Heap.lt_size e
  | set S n => obtain ⟨o, _, _, _, e, _⟩ := x; exact Heap.lt_size e
  | ins C dx fs => obtain ⟨_, _, _, e, _⟩ := x; exact Heap.lt_size e
  | own y => obtain ⟨_, e⟩ := x; exact Heap.lt_size e
  | xd fs => obtain ⟨_, ⟨_, _, _, e, _⟩, _⟩ := x; exact Heap.lt_size e
  | rng lo hi => obtain ⟨_, _, _, e⟩ := x; exact Heap.lt_size e
  | frz ob u => obtain ⟨e, _⟩ := x; exact Heap.lt_size e
  | tbl ps => exact Heap.lt_size (show h.get? a = some _ from x)
  | met f y => exact Heap.lt_size (show h.get? a = some _ from x)
  | ext φ => obtain ⟨_, ⟨_, e⟩, _⟩ := x; exact Heap.lt_size e
theorem Paired.mapP {α β : Type} {F G : α → β → Prop} : ∀ {l₁ : List α} {l₂ : List β}, Paired F l₁ l₂ → (∀ a b, F a b → G a b) → Paired G l₁ l₂
  | _, _, .nil, _ => .nil
  | _, _, .cons r t, f => .cons (f _ _ r) (Paired.mapP t f)
/-- what an object's description leans on: its own object, its own dict, the tuples -/
theorem ObjOk.stay (x : ObjOk P w H h a o) (k : ∀ b u, (b = a ∨ H b = some (.own a)) → h.get? b = some u → h'.get? b = some u)
    (ho : ∀ b, H b = some (.own a) → H' b = some (.own a)) (ht : ∀ b xs, H b = some (.tup xs) → H' b = some (.tup xs)) : ObjOk P w H' h' a o := by
  induction o with
  | lst xs => obtain ⟨z, its, n, r, e⟩ := x; exact ⟨z, its, n, r, k _ _ (.inl rfl) e⟩
  | tup xs => obtain ⟨z, its, r, ob, e, c⟩ := x; exact ⟨z, its, r, ob, k _ _ (.inl rfl) e, c⟩
  | dK kvs => obtain ⟨z, y, vs, r, ob, es, ep, e, c⟩ := x; exact ⟨z, y, vs, r, ob, es, ep, k _ _ (.inl rfl) e, c⟩
  | dT kvs =>
    obtain ⟨z, y, xs, r, ob, es, ep, e, c⟩ := x
    exact ⟨z, y, xs, Paired.mapP r fun p q z => ⟨z.1, ht _ _ z.2.1, z.2.2⟩, ob, es, ep, k _ _ (.inl rfl) e, c⟩
  | set S n => obtain ⟨ob, es, ep, t, e, c⟩ := x; exact ⟨ob, es, ep, t, k _ _ (.inl rfl) e, c⟩
  | ins C dx fs =>
    obtain ⟨d, z, ne, e, mA, ⟨od, es, ep, e2, c⟩, r⟩ := x
    exact ⟨ho _ d, z, ne, k _ _ (.inl rfl) e, mA, ⟨od, es, ep, k _ _ (.inr d) e2, c⟩, r⟩
  | own y => obtain ⟨ob, e⟩ := x; exact ⟨ob, k _ _ (.inl rfl) e⟩
  | xd fs => obtain ⟨mA, ⟨od, es, ep, e, c⟩, r⟩ := x; exact ⟨mA, ⟨od, es, ep, k _ _ (.inl rfl) e, c⟩, r⟩
  | rng lo hi => obtain ⟨t, u, v, e⟩ := x; exact ⟨t, u, v, k _ _ (.inl rfl) e⟩
  | frz ob u ih => obtain ⟨e, q⟩ := x; exact ⟨k _ _ (.inl rfl) e, ih q⟩
  | tbl ps =>
    have e : h.get? a = some { cls := .none, data := .fields ps } := x
    show h'.get? a = some { cls := .none, data := .fields ps }
    exact k a _ (.inl rfl) e
  | met f y =>
    have e : h.get? a = some (PySem.W.methodObj (.ref f) (.ref y)) := x
    show h'.get? a = some (PySem.W.methodObj (.ref f) (.ref y))
    exact k a _ (.inl rfl) e
  | ext φ => obtain ⟨p, ⟨o, e⟩, st⟩ := x; exact ⟨st _ _ p fun o q => k _ _ (.inl rfl) q, ⟨o, k _ _ (.inl rfl) e⟩, st⟩
theorem HOk.lt (x : HOk P w H h) (e : H a = some o) : a < h.objs.size := (x a o e).lt
theorem HOk.fresh (x : HOk P w H h) (e : h.objs.size ≤ a) : H a = none := by
  cases q : H a with
  | none => rfl
  | some u => exact absurd (Nat.lt_of_lt_of_le (x.lt q) e) (Nat.lt_irrefl _)
/-- every object of the heap is kept -/
theorem HOk.kept (x : HOk P w H h) (k : ∀ b u, h.get? b = some u → h'.get? b = some u) : HOk P w H h' := fun a o e =>
  (x a o e).stay (fun b u _ q => k b u q) (fun _ q => q) fun _ _ q => q
/-- a new object is laid and tracked -/
theorem HOk.laid (x : HOk P w H h) (k : ∀ b u, h.get? b = some u → h'.get? b = some u) (hp : h.objs.size ≤ a) (new : ObjOk P w (upd H a o) h' a o) : HOk P w (upd H a o) h' := fun b u e => by
  have hn := x.fresh hp
  by_cases hb : b = a
  · subst hb; rw [upd_same] at e; cases e; exact new
  · rw [upd_ne hb] at e
    exact (x b u e).stay (fun c v _ q => k c v q) (fun c q => by rw [upd_ne (ne_of_none q hn)]; exact q) fun c xs q => by rw [upd_ne (ne_of_none q hn)]; exact q
end

/-- what may be read as u: it is u, or a known u -/
def Rd (H : Hp) (a : Addr) (u : HO) : Prop := H a = some u ∨ ∃ o, H a = some (.frz o u)
theorem Rd.ok {P : Program} {w : World} {H : Hp} {h : Heap} {a : Addr} {u : HO} (r : Rd H a u) (x : HOk P w H h) : ObjOk P w H h a u := by
  rcases r with r | ⟨o, r⟩
  · exact x a u r
  · obtain ⟨_, q⟩ := x a _ r
    exact q
/-- what may be written -/
def Mut : Option HO → Prop
  | some (.lst _) => True
  | some (.dK _) => True
  | some (.dT _) => True
  | some (.set _ _) => True
  | some (.ins _ _ _) => True
  | some (.ext _) => True
  | _ => False
section
variable {P : Program} {w : World} {H : Hp} {h h' : Heap} {x e : Addr} {o' : HO}
/-- the object at e is changed: x itself, or the dict of the instance x -/
theorem HOk.write (ok : HOk P w H h) (mu : Mut (H x)) (he : e = x ∨ H e = some (.own x)) (k : ∀ b u, b ≠ e → h.get? b = some u → h'.get? b = some u) (heo : ∃ u, h'.get? e = some u)
    (new : ObjOk P w (upd H x o') h' x o') : HOk P w (upd H x o') h' := fun b u q => by
  have nown : ∀ c y, H c = some (.own y) → c ≠ x := fun c y r z => by subst z; rw [r] at mu; exact mu
  have ntup : ∀ c xs, H c = some (.tup xs) → c ≠ x := fun c xs r z => by subst z; rw [r] at mu; exact mu
  by_cases hb : b = x
  · subst hb; rw [upd_same] at q; cases q; exact new
  · rw [upd_ne hb] at q
    by_cases hbe : b = e
    · have q' : H b = some (.own x) := by
        rcases he with z | z
        · exact absurd (hbe.trans z) hb
        · rw [hbe]; exact z
      rw [q] at q'; cases q'
      obtain ⟨v, hv⟩ := heo
      exact ⟨v, by rw [hbe]; exact hv⟩
    · refine (ok b u q).stay (fun c v hc r => k c v ?_ r) (fun c r => by rw [upd_ne (nown c b r)]; exact r) fun c xs r => by rw [upd_ne (ntup c xs r)]; exact r
      rcases hc with rfl | hc
      · exact hbe
      · rintro rfl
        rcases he with z | z
        · exact nown c b hc z
        · rw [hc] at z; cases z; exact hb rfl
end

structure Un (fs ex : List Addr) (H H' : Hp) (h h' : Heap) : Prop where
  keep : ∀ b o, h.get? b = some o → H b = none → b ∉ fs → b ∉ ex → h'.get? b = some o
  slot : ∀ b o, h.get? b = some o → H b = none → b ∈ fs → b ∉ ex → ∃ sl, h'.get? b = some { o with slots := sl }
  free : ∀ b o, h.get? b = some o → H b = none → b ∉ ex → H' b = none
  there : ∀ b o, h.get? b = some o → b ∉ ex → ∃ o', h'.get? b = some o'
  tups : ∀ b xs, H b = some (.tup xs) → H' b = some (.tup xs)
  frzs : ∀ b o u, H b = some (.frz o u) → H' b = some (.frz o u)
  tbls : ∀ b ps, H b = some (.tbl ps) → ∃ more, H' b = some (.tbl (ps ++ more))
section
variable {fs fs' ex ex' : List Addr} {H H1 H2 : Hp} {h h1 h2 h' : Heap} {a x e : Addr} {o : HO}
theorem Un.any (u : Un fs ex H H1 h h1) {b : Addr} {ob : Obj} (q : h.get? b = some ob) (n : H b = none) (hx : b ∉ ex) : ∃ sl, h1.get? b = some { ob with slots := sl } := by
  by_cases hb : b ∈ fs
  · exact u.slot b ob q n hb hx
  · exact ⟨ob.slots, u.keep b ob q n hb hx⟩
theorem Un.kept (k : ∀ b u, h.get? b = some u → h'.get? b = some u) : Un fs ex H H h h' :=
  ⟨fun b ob q _ _ _ => k b ob q, fun b ob q _ _ _ => ⟨ob.slots, k b ob q⟩, fun _ _ _ n _ => n, fun b ob q _ => ⟨ob, k b ob q⟩, fun _ _ q => q, fun _ _ _ q => q, fun _ ps q => ⟨#[], by rw [q]; simp⟩⟩
theorem Un.refl : Un fs ex H H h h := Un.kept fun _ _ q => q
theorem Un.laid (k : ∀ b u, h.get? b = some u → h'.get? b = some u) (hp : h.objs.size ≤ a) (hn : H a = none) : Un fs ex H (upd H a o) h h' where
  keep := fun b u q _ _ _ => k b u q
  slot := fun b u q _ _ _ => ⟨u.slots, k b u q⟩
  free := fun b u q n _ => by rw [upd_ne (Nat.ne_of_lt (Nat.lt_of_lt_of_le (Heap.lt_size q) hp))]; exact n
  there := fun b u q _ => ⟨u, k b u q⟩
  tups := fun b xs q => by rw [upd_ne (ne_of_none q hn)]; exact q
  frzs := fun b u xs q => by rw [upd_ne (ne_of_none q hn)]; exact q
  tbls := fun b ps q => ⟨#[], by rw [upd_ne (ne_of_none q hn), q]; simp⟩
theorem Un.write (mu : Mut (H x)) (he : e = x ∨ H e = some (.own x)) (k : ∀ b u, b ≠ e → h.get? b = some u → h'.get? b = some u) (heo : ∃ u, h'.get? e = some u) : Un fs ex H (upd H x o) h h' := by
  have hx : ∀ b, H b = none → b ≠ x := fun b n z => by subst z; rw [n] at mu; exact mu
  have hb : ∀ b, H b = none → b ≠ e := fun b n z => by
    subst z
    rcases he with r | r
    · exact hx b n r
    · rw [n] at r; cases r
  have hm : ∀ b u, H b = some u → ¬ Mut (some u) → b ≠ x := fun b u q nm z => by subst z; rw [q] at mu; exact nm mu
  refine ⟨fun b u q n _ _ => k b u (hb b n) q, fun b u q n _ _ => ⟨u.slots, k b u (hb b n) q⟩, fun b u q n _ => by rw [upd_ne (hx b n)]; exact n, fun b u q _ => ?_,
    fun b xs q => by rw [upd_ne (hm b _ q fun z => z)]; exact q, fun b u xs q => by rw [upd_ne (hm b _ q fun z => z)]; exact q, fun b ps q => ⟨#[], by rw [upd_ne (hm b _ q fun z => z), q]; simp⟩⟩
  by_cases hbe : b = e
  · subst hbe; exact heo
  · exact ⟨u, k b u hbe q⟩
end

def trk (h : Heap) (H : Hp) : List Addr := (List.range h.objs.size).filter fun a => (H a).isSome
def hidT (h : Heap) (H : Hp) : Heap := PySem.W.hideAll h (trk h H)
theorem hidT_size (h : Heap) (H : Hp) : (hidT h H).objs.size = h.objs.size := PySem.W.hideAll_size _ _
theorem hidT_get {h : Heap} {H : Hp} {b : Addr} {o : Obj} (e : h.get? b = some o) (n : H b = none) : (hidT h H).get? b = some o :=
  PySem.W.hideAll_get _ e fun hm => by
    have q : (H b).isSome = true := (List.mem_filter.mp hm).2
    rw [n] at q; simp at q
theorem of_hidT {h : Heap} {H : Hp} {b : Addr} {o : Obj} (e : (hidT h H).get? b = some o) : h.get? b = some o ∧ H b = none := by
  have e' : h.get? b = some o := PySem.W.of_hideAll (trk h H) e
  refine ⟨e', ?_⟩
  cases q : H b with
  | none => rfl
  | some x =>
    have hm : b ∈ trk h H := List.mem_filter.mpr ⟨List.mem_range.mpr (Heap.lt_size e'), by simp [q]⟩
    have z : (hidT h H).get? b = none := PySem.W.hideAll_none (trk h H) hm
    rw [z] at e; cases e

def allNews (g h : Heap) (L : Addr) : List (Addr × Obj) := (List.range h.objs.size).filterMap fun a => if a = L ∨ (g.get? a).isSome = true then none else (h.get? a).map fun o => (a, o)
def rest (g h : Heap) (L d : Addr) : List (Addr × Obj) := (allNews g h L).filter fun p => decide (p.1 ≠ d)
end L2

namespace L2
open PySem PySem.Spec PyProof.Rows

/-- the module's facts, over the base: the heap at the law's entry without what is tracked there -/
structure Mod (K : PySem.W.Frag) (mg : Str → Option Value) (base : Heap) : Prop where
  kin : K.In base
  glob : base.Ns mainGlobals mg
  blt : ∃ mb, base.Ns builtinsNs mb ∧ ∀ x : Str, x ≠ "__name__" → mb x = bootBuiltins x
  nolimit : base.NoLimit

/-- the context: a def's body (or a comprehension's block) running. base: fixed through the whole law; s₀, H₀: the entry; outer: the frames whose slots others may change (a def's callers); stack: all frames that run;
   ex: iterators that were made ahead of the entry and are walked here (a comprehension's); fn: the names whose cells were made at the entry (a def: all; a comprehension's block: its own); calm: not within an except suite; pn: pins that every state bears; xe: what is wanted of an exception that leaves the code -/
structure Cx where
  prog : Program
  w : World
  K : PySem.W.Frag
  mg : Str → Option Value
  base : Heap
  A : Around
  N : List Str
  s₀ : Shared
  H₀ : Hp
  env : Env
  outer : List Env
  stack : List Env
  ex : List Addr
  fn : Str → Bool
  calm : Bool
  pn : List (Addr × Obj)
  xe : Value → Shared → Prop
/-- the callers' frames -/
def frs (l : List Env) : List Addr := l.filterMap (·.frame)
abbrev Cx.fs (X : Cx) : List Addr := frs X.outer

def Vis (sc : Scope) (x : Str) : Prop := sc.names.lookup x = some .local ∨ sc.names.lookup x = some .cell ∨ sc.names.lookup x = some .free
def Loc (sc : Scope) (x : Str) : Prop := sc.names.lookup x = some .local ∨ sc.names.lookup x = some .cell
def Look (env : Env) (h : Heap) (m : Str → Option Value) (x : Str) (u : Value) : Prop :=
  (env.kindOf x = some .local ∧ m x = some u) ∨ ((env.kindOf x = some .cell ∨ env.kindOf x = some .free) ∧ ∃ c, env.cells.lookup x = some c ∧ h.IsCell c (some u))

structure Cx.Ok (X : Cx) : Prop where
  mod : Mod X.K X.mg X.base
  kind : X.env.scope.kind = .function
  glob : X.env.globals = mainGlobals
  blt : X.env.builtins = builtinsNs
  above : X.s₀.heap.objs.size ≤ X.env.locals
  inj : ∀ x y c, X.env.cells.lookup x = some c → X.env.cells.lookup y = some c → x = y
  has : ∀ x, (X.env.kindOf x = some .cell ∨ X.env.kindOf x = some .free) → ∃ c, X.env.cells.lookup x = some c
  cab : ∀ x c, X.fn x = true → X.env.cells.lookup x = some c → X.s₀.heap.objs.size ≤ c
  hd : X.calm = true → X.A.handled = none
  frames : X.A.frames = some X.stack
  stk : X.stack = X.outer ∨ (X.stack = X.env :: X.outer ∧ X.env.frame = some X.env.locals)
  exf : ∀ b ∈ X.ex, b ≠ X.env.locals ∧ ∀ x c, X.env.cells.lookup x = some c → c ≠ b
  bs : ∀ b o, X.base.get? b = some o → X.s₀.heap.get? b = some o ∧ X.H₀ b = none
  bsz : X.base.objs.size ≤ X.s₀.heap.objs.size
  noex : ∀ b o, X.base.get? b = some o → b ∉ X.ex
  exfs : ∀ b ∈ X.ex, b ∉ X.fs
  funs : X.s₀.heap.FunFrames X.base X.outer
  frf : ∀ b ∈ X.fs, X.H₀ b = none

structure Inv (X : Cx) (pins : List (Addr × Obj)) (σ : List (Option V)) (H : Hp) (s : Shared) : Prop where
  ok : X.Ok
  os : s.os = X.s₀.os
  bare : AllBare s.gens
  base : Un X.fs X.ex X.H₀ H X.s₀.heap s.heap
  loc : ∃ m, s.heap.Ns X.env.locals m ∧ ∀ (i : Nat) (x : Str) (v : V), X.N[i]? = some x → σ[i]? = some (some v) → Vis X.env.scope x → ∃ u, RelV v u ∧ Look X.env s.heap m x u
  cell : ∀ x c, X.env.cells.lookup x = some c → ∃ v, s.heap.IsCell c v
  free : H X.env.locals = none
  freeC : ∀ x c, X.env.cells.lookup x = some c → H c = none
  pin : ∀ p ∈ X.pn ++ pins, s.heap.get? p.1 = some p.2 ∧ H p.1 = none ∧ p.1 ≠ X.env.locals ∧ p.1 ∉ X.fs ∧ ∀ v, p.2.data ≠ .cell v
  hok : HOk X.prog X.w H s.heap
  len : σ.length = X.N.length

section
variable {X : Cx} {pins : List (Addr × Obj)} {σ : List (Option V)} {H H' : Hp} {s : Shared} {h' : Heap}

theorem Cx.Ok.nofr (ok : X.Ok) {b : Addr} {o : Obj} (e : X.base.get? b = some o) : b ∉ X.fs := fun hb => by
  have := (ok.funs.mem hb).1
  rw [e] at this; cases this
theorem Inv.bs (I : Inv X pins σ H s) : ∀ b o, X.base.get? b = some o → s.heap.get? b = some o ∧ H b = none := fun b o e =>
  ⟨I.base.keep b o (I.ok.bs b o e).1 (I.ok.bs b o e).2 (I.ok.nofr e) (I.ok.noex b o e), I.base.free b o (I.ok.bs b o e).1 (I.ok.bs b o e).2 (I.ok.noex b o e)⟩
theorem Inv.bk (I : Inv X pins σ H s) : ∀ b o, X.base.get? b = some o → s.heap.get? b = some o := fun b o e => (I.bs b o e).1
theorem Inv.mod (I : Inv X pins σ H s) : Mod X.K X.mg X.base := I.ok.mod
theorem Inv.kIn (I : Inv X pins σ H s) : X.K.In s.heap := I.ok.mod.kin.keeps I.bk
theorem Inv.lt (I : Inv X pins σ H s) : X.env.locals < s.heap.objs.size := let ⟨_, hn, _⟩ := I.loc; hn.lt
theorem Inv.sz (I : Inv X pins σ H s) : X.s₀.heap.objs.size ≤ s.heap.objs.size := Nat.le_trans I.ok.above (Nat.le_of_lt I.lt)
theorem Inv.nofs (I : Inv X pins σ H s) {a : Addr} (h : s.heap.objs.size ≤ a) : a ∉ X.fs := fun hb => by
  obtain ⟨_, o, ho, _⟩ := I.ok.funs.mem hb
  exact absurd (Nat.lt_of_lt_of_le (Heap.lt_size ho) (Nat.le_trans I.sz h)) (Nat.lt_irrefl _)
theorem Inv.cne (I : Inv X pins σ H s) : ∀ x c, X.env.cells.lookup x = some c → c ≠ X.env.locals := fun x c e z => by
  obtain ⟨v, o, ho, hd⟩ := I.cell x c e
  obtain ⟨m, ⟨o', es, ep, ho', hd', _⟩, _⟩ := I.loc
  rw [z, ho'] at ho; cases ho; rw [hd'] at hd; cases hd
theorem Inv.funs (I : Inv X pins σ H s) : s.heap.FunFrames X.base X.outer := by
  have all : ∀ (l : List Env), (∀ b ∈ frs l, b ∈ X.fs) → X.s₀.heap.FunFrames X.base l → s.heap.FunFrames X.base l := by
    intro l
    induction l with
    | nil => intro _ _; trivial
    | cons env r ih =>
      intro hs hl
      obtain ⟨hk, ⟨L, o, hf, hn, ho, hd⟩, hr⟩ := hl
      have hL : L ∈ X.fs := hs L (by unfold frs; rw [List.filterMap_cons, hf]; exact List.mem_cons_self)
      obtain ⟨sl, e⟩ := I.base.slot L o ho (I.ok.frf L hL) hL fun z => I.ok.exfs L z hL
      exact ⟨hk, ⟨L, _, hf, hn, e, hd⟩, ih (fun b hb => hs b (by unfold frs; rw [List.filterMap_cons, hf]; exact List.mem_cons_of_mem _ hb)) hr⟩
  exact all X.outer (fun _ hb => hb) I.ok.funs

/-- the frames that run, for a call -/
theorem Inv.stack (I : Inv X pins σ H s) : s.heap.FunFrames X.base X.stack := by
  rcases I.ok.stk with e | ⟨e, hf⟩
  · rw [e]; exact I.funs
  · rw [e]
    obtain ⟨m, hn, _⟩ := I.loc
    refine .cons (by rw [I.ok.kind]; decide) hf hn ?_ I.funs
    exact Heap.get?_none_of_le (Nat.le_trans I.ok.bsz I.ok.above)
theorem Inv.stkSub (I : Inv X pins σ H s) : ∀ b ∈ frs X.stack, b ∈ X.env.locals :: X.fs := fun b hb => by
  rcases I.ok.stk with e | ⟨e, hf⟩
  · rw [e] at hb; exact List.mem_cons_of_mem _ hb
  · rw [e] at hb
    unfold frs at hb
    rw [List.filterMap_cons, hf] at hb
    exact hb
theorem Inv.stkFree (I : Inv X pins σ H s) : ∀ b ∈ frs X.stack, H b = none := fun b hb => by
  rcases List.mem_cons.mp (I.stkSub b hb) with e | hb
  · rw [e]; exact I.free
  · obtain ⟨_, o, ho, _⟩ := I.ok.funs.mem hb
    exact I.base.free b o ho (I.ok.frf b hb) fun z => I.ok.exfs b z hb

/-- THE STEP: the untracked objects but the frame and the records at ch are kept (the callers' frames up to slots), the frame's map is kept, the new abstract heap is held -/
theorem Inv.step {g' : Array GenState} {t' : Nat} {d' : Drawn} {ch : List Addr} (I : Inv X pins σ H s)
    (hch : ∀ b ∈ ch, (b ∈ X.ex ∨ X.s₀.heap.objs.size ≤ b) ∧ b ≠ X.env.locals ∧ (∀ x c, X.env.cells.lookup x = some c → c ≠ b) ∧ ∀ p ∈ X.pn ++ pins, p.1 ≠ b)
    (keep : ∀ b o, b ≠ X.env.locals → b ∉ X.fs → b ∉ ch → s.heap.get? b = some o → H b = none → h'.get? b = some o)
    (slot : ∀ b o, b ≠ X.env.locals → b ∈ X.fs → b ∉ ch → s.heap.get? b = some o → H b = none → ∃ sl, h'.get? b = some { o with slots := sl }) (free : ∀ b o, b ∉ ch → s.heap.get? b = some o → H b = none → H' b = none)
    (there : ∀ b o, b ∉ ch → s.heap.get? b = some o → ∃ o', h'.get? b = some o')
    (tups : ∀ b xs, H b = some (.tup xs) → H' b = some (.tup xs)) (frzs : ∀ b o u, H b = some (.frz o u) → H' b = some (.frz o u)) (tbls : ∀ b ps, H b = some (.tbl ps) → ∃ more, H' b = some (.tbl (ps ++ more)))
    (ns : ∀ m, s.heap.Ns X.env.locals m → h'.Ns X.env.locals m) (hok : HOk X.prog X.w H' h') (hg : AllBare g') :
    Inv X pins σ H' { s with heap := h', gens := g', drawn := d', toks := t' } := by
  have neL : ∀ b o, X.s₀.heap.get? b = some o → b ≠ X.env.locals := fun b o e => Nat.ne_of_lt (Nat.lt_of_lt_of_le (Heap.lt_size e) I.ok.above)
  have neC : ∀ b o, X.s₀.heap.get? b = some o → b ∉ X.ex → b ∉ ch := fun b o e hx hb => by
    rcases (hch b hb).1 with z | z
    · exact hx z
    · exact absurd (Nat.lt_of_lt_of_le (Heap.lt_size e) z) (Nat.lt_irrefl _)
  have cellK : ∀ x c, X.env.cells.lookup x = some c → ∀ v, s.heap.IsCell c v → h'.IsCell c v := fun x c e v ⟨o, ho, hd⟩ => by
    have nch : c ∉ ch := fun z => (hch c z).2.2.1 x c e rfl
    by_cases hc : c ∈ X.fs
    · obtain ⟨sl, q⟩ := slot c o (I.cne x c e) hc nch ho (I.freeC x c e)
      exact ⟨_, q, hd⟩
    · exact ⟨o, keep c o (I.cne x c e) hc nch ho (I.freeC x c e), hd⟩
  refine ⟨I.ok, I.os, hg, ⟨fun b o e n hb hx => ?_, fun b o e n hb hx => ?_, fun b o e n hx => ?_, fun b o e hx => ?_, fun b xs e => tups b xs (I.base.tups b xs e), fun b o xs e => frzs b o xs (I.base.frzs b o xs e), fun b ps e => ?_⟩, ?_, fun x c e => ?_, ?_, fun x c e => ?_, fun p hp => ?_, hok, I.len⟩
  · exact keep b o (neL b o e) hb (neC b o e hx) (I.base.keep b o e n hb hx) (I.base.free b o e n hx)
  · obtain ⟨sl, e1⟩ := I.base.slot b o e n hb hx
    obtain ⟨sl', e2⟩ := slot b _ (neL b o e) hb (neC b o e hx) e1 (I.base.free b o e n hx)
    exact ⟨sl', e2⟩
  · obtain ⟨o', e1⟩ := I.base.there b o e hx
    exact free b o' (neC b o e hx) e1 (I.base.free b o e n hx)
  · obtain ⟨o', e1⟩ := I.base.there b o e hx
    exact there b o' (neC b o e hx) e1
  · obtain ⟨m1, e1⟩ := I.base.tbls b ps e
    obtain ⟨m2, e2⟩ := tbls b _ e1
    exact ⟨m1 ++ m2, by rw [e2, Array.append_assoc]⟩
  · obtain ⟨m, hn, hl⟩ := I.loc
    refine ⟨m, ns m hn, fun i x v e1 e2 e3 => ?_⟩
    obtain ⟨u, r, l⟩ := hl i x v e1 e2 e3
    refine ⟨u, r, ?_⟩
    rcases l with l | ⟨k, c, e, z⟩
    · exact .inl l
    · exact .inr ⟨k, c, e, cellK x c e _ z⟩
  · obtain ⟨v, z⟩ := I.cell x c e
    exact ⟨v, cellK x c e v z⟩
  · obtain ⟨m, ⟨o, _, _, ho, _⟩, _⟩ := I.loc
    exact free _ o (fun z => (hch _ z).2.1 rfl) ho I.free
  · obtain ⟨v, o, ho, hd⟩ := I.cell x c e
    exact free c o (fun z => (hch c z).2.2.1 x c e rfl) ho (I.freeC x c e)
  · obtain ⟨e, n, ne, nf, d⟩ := I.pin p hp
    have nch : p.1 ∉ ch := fun z => (hch p.1 z).2.2.2 p hp rfl
    exact ⟨keep p.1 p.2 ne nf nch e n, free p.1 p.2 nch e n, ne, nf, d⟩
/-- .. where the frame's own object is kept too -/
theorem Inv.un {t' : Nat} (I : Inv X pins σ H s) (u : Un X.fs [] H H' s.heap h') (hok : HOk X.prog X.w H' h') : Inv X pins σ H' { s with heap := h', toks := t' } := by
  obtain ⟨m, ⟨o, es, ep, ho, r⟩, _⟩ := id I.loc
  obtain ⟨sl, hL⟩ := u.any ho I.free (by simp)
  exact I.step (g' := s.gens) (d' := s.drawn) (ch := []) (fun _ z => nomatch z) (fun b o _ hb _ e n => u.keep b o e n hb (by simp)) (fun b o _ hb _ e n => u.slot b o e n hb (by simp)) (fun b o _ e n => u.free b o e n (by simp)) (fun b o _ e => u.there b o e (by simp)) u.tups u.frzs u.tbls (fun m' hm => by
    obtain ⟨o', es', ep', ho', r'⟩ := hm
    rw [ho] at ho'; cases ho'
    exact ⟨_, es', ep', hL, r'⟩) hok I.bare
/-- behind a call (or a comprehension's block): the slots of this frame may have changed too, the records at ch may have turned -/
theorem Inv.call {g' : Array GenState} {t' : Nat} {d' : Drawn} {ch : List Addr} (I : Inv X pins σ H s) (u : Un (frs X.stack) ch H H' s.heap h') (hok : HOk X.prog X.w H' h') (hg : AllBare g')
    (hch : ∀ b ∈ ch, (b ∈ X.ex ∨ X.s₀.heap.objs.size ≤ b) ∧ b ≠ X.env.locals ∧ (∀ x c, X.env.cells.lookup x = some c → c ≠ b) ∧ ∀ p ∈ X.pn ++ pins, p.1 ≠ b) :
    Inv X pins σ H' { s with heap := h', gens := g', drawn := d', toks := t' } := by
  obtain ⟨m, ⟨o, es, ep, ho, r⟩, _⟩ := id I.loc
  obtain ⟨sl, hL⟩ := u.any ho I.free fun z => (hch _ z).2.1 rfl
  exact I.step (ch := ch) hch (fun b o hL hb hc e n => u.keep b o e n (fun z => (List.mem_cons.mp (I.stkSub b z)).elim hL hb) hc) (fun b o _ _ hc e n => u.any e n hc) (fun b o hc e n => u.free b o e n hc) (fun b o hc e => u.there b o e hc) u.tups u.frzs u.tbls (fun m' hm => by
    obtain ⟨o', es', ep', ho', r'⟩ := hm
    rw [ho] at ho'; cases ho'
    exact ⟨_, es', ep', hL, r'⟩) hok hg
/-- an untracked record of ours (an iterator) has turned -/
theorem Inv.turned {t' : Nat} {it : Addr} (I : Inv X pins σ H s) (k : ∀ b o, b ≠ it → s.heap.get? b = some o → h'.get? b = some o) (hn : H it = none) (hL : it ≠ X.env.locals)
    (h1 : it ∈ X.ex ∨ X.s₀.heap.objs.size ≤ it) (h2 : ∀ x c, X.env.cells.lookup x = some c → c ≠ it) (h3 : ∀ p ∈ X.pn ++ pins, p.1 ≠ it) : Inv X pins σ H { s with heap := h', toks := t' } := by
  have nit : ∀ b u, H b = some u → b ≠ it := fun b u e z => by rw [z, hn] at e; cases e
  refine I.step (g' := s.gens) (d' := s.drawn) (ch := [it]) (fun b hb => ?_) (fun b o _ _ hc e _ => k b o (fun z => hc (by simp [z])) e) (fun b o _ _ hc e _ => ⟨o.slots, k b o (fun z => hc (by simp [z])) e⟩) (fun _ _ _ _ n => n)
    (fun b o hc e => ⟨o, k b o (fun z => hc (by simp [z])) e⟩) (fun _ _ e => e) (fun _ _ _ e => e) (fun b ps e => ⟨#[], by rw [e]; simp⟩) (fun m hm => ?_) (fun b u e => ?_) I.bare
  · have e : b = it := by simpa using hb
    subst e
    exact ⟨h1, hL, h2, h3⟩
  · obtain ⟨o, es, ep, ho, r⟩ := hm
    exact ⟨o, es, ep, k _ o (Ne.symm hL) ho, r⟩
  · refine (I.hok b u e).stay (fun c v hc q => k c v ?_ q) (fun _ q => q) fun _ _ q => q
    rcases hc with z | z
    · rw [z]; exact nit b u e
    · exact nit c _ z
theorem Inv.tok (I : Inv X pins σ H s) (t : Nat) : Inv X pins σ H { s with toks := t } := I.un (h' := s.heap) (t' := t) Un.refl I.hok
/-- all objects kept -/
theorem Inv.kept {t' : Nat} (I : Inv X pins σ H s) (k : ∀ b u, s.heap.get? b = some u → h'.get? b = some u) : Inv X pins σ H { s with heap := h', toks := t' } := I.un (Un.kept k) (I.hok.kept k)
/-- a new object laid and tracked -/
theorem Inv.laid {a : Addr} {o : HO} {t' : Nat} (I : Inv X pins σ H s) (k : ∀ b u, s.heap.get? b = some u → h'.get? b = some u) (hp : s.heap.objs.size ≤ a) (new : ObjOk X.prog X.w (upd H a o) h' a o) :
    Inv X pins σ (upd H a o) { s with heap := h', toks := t' } := I.un (Un.laid k hp (I.hok.fresh hp)) (I.hok.laid k hp new)
/-- an object written -/
theorem Inv.write {x e : Addr} {o : HO} {t' : Nat} (I : Inv X pins σ H s) (mu : Mut (H x)) (he : e = x ∨ H e = some (.own x)) (k : ∀ b u, b ≠ e → s.heap.get? b = some u → h'.get? b = some u) (heo : ∃ u, h'.get? e = some u)
    (new : ObjOk X.prog X.w (upd H x o) h' x o) : Inv X pins σ (upd H x o) { s with heap := h', toks := t' } := I.un (Un.write mu he k heo) (I.hok.write mu he k heo new)
theorem Inv.pins_of {pins' : List (Addr × Obj)} (I : Inv X pins σ H s) (h : ∀ p ∈ pins', s.heap.get? p.1 = some p.2 ∧ H p.1 = none ∧ p.1 ≠ X.env.locals ∧ p.1 ∉ X.fs ∧ ∀ v, p.2.data ≠ .cell v) : Inv X pins' σ H s :=
  ⟨I.ok, I.os, I.bare, I.base, I.loc, I.cell, I.free, I.freeC, fun p hp => (List.mem_append.mp hp).elim (fun z => I.pin p (List.mem_append_left _ z)) (h p), I.hok, I.len⟩

theorem nodup_ix {N : List Str} (hN : N.Nodup) {i j : Nat} {x : Str} (a : N[i]? = some x) (b : N[j]? = some x) : i = j := by
  obtain ⟨h1, e1⟩ := List.getElem?_eq_some_iff.mp a
  obtain ⟨h2, e2⟩ := List.getElem?_eq_some_iff.mp b
  exact (List.getElem_inj hN).mp (e1.trans e2.symm)

/-- a name is stored; what changed -/
theorem store_ok2 {M : Model} {A : Around} {E : Value → Shared → Prop} {i : Nat} {x : Str} {v : V} {u : Value} {Q : Unit → Shared → Prop} (I : Inv X pins σ H s) (hN : X.N.Nodup) (hi : X.N[i]? = some x) (hx : Loc X.env.scope x) (r : RelV v u)
    (h : ∀ s', Inv X pins (σ.set i (some v)) H s' → (∃ a, Heap.SameBut a s.heap s'.heap ∧ (a = X.env.locals ∨ X.env.cells.lookup x = some a)) → Q () s') (hf : X.fn x = true ∨ X.env.scope.names.lookup x = some .local := by first | exact .inl rfl | exact .inr rfl | assumption) : wpAny M A (storeName X.env x u) Q E s := by
  obtain ⟨m, hn, hl⟩ := id I.loc
  have hcls : (X.env.scope.kind == .class || (X.env.scope.kind == .module && X.env.locals != X.env.globals)) = false := by rw [I.ok.kind]; rfl
  have hiσ : i < σ.length := by rw [I.len]; exact (List.getElem?_eq_some_iff.mp hi).1
  have cne := I.cne
  have tracked : ∀ {a : Addr} {h' : Heap}, (∃ o, s.heap.get? a = some o ∧ H a = none) → Heap.SameBut a s.heap h' → HOk X.prog X.w H h' := fun {a h'} ha hs b ob e => by
    obtain ⟨_, _, hfree⟩ := ha
    refine (I.hok b ob e).stay (fun c w' hc q => (hs.2 c ?_).trans q) (fun _ q => q) fun _ _ q => q
    rintro rfl
    rcases hc with rfl | hc
    · rw [hfree] at e; cases e
    · rw [hfree] at hc; cases hc
  rcases hx with hk | hk
  · refine wpAny_storeName_local hk hn (fun h' hn' hs => ?_) hcls
    obtain ⟨oL, _, _, hoL, _⟩ := id hn
    refine h _ ⟨I.ok, I.os, I.bare, ⟨fun b o e n hb hx => ?_, fun b o e n hb hx => ?_, I.base.free, fun b o e hx => ?_, I.base.tups, I.base.frzs, I.base.tbls⟩, ⟨_, hn', fun j y v' e1 e2 e3 => ?_⟩, fun y c e => ?_, I.free, I.freeC, fun p hp => ?_, tracked ⟨oL, hoL, I.free⟩ hs, by simpa using I.len⟩ ⟨_, hs, .inl rfl⟩
    · exact (hs.2 b (Nat.ne_of_lt (Nat.lt_of_lt_of_le (Heap.lt_size e) I.ok.above))).trans (I.base.keep b o e n hb hx)
    · obtain ⟨sl, e1⟩ := I.base.slot b o e n hb hx
      exact ⟨sl, (hs.2 b (Nat.ne_of_lt (Nat.lt_of_lt_of_le (Heap.lt_size e) I.ok.above))).trans e1⟩
    · obtain ⟨o', e1⟩ := I.base.there b o e hx
      exact ⟨o', (hs.2 b (Nat.ne_of_lt (Nat.lt_of_lt_of_le (Heap.lt_size e) I.ok.above))).trans e1⟩
    · by_cases hj : j = i
      · subst hj
        rw [hi] at e1; cases e1
        rw [List.getElem?_set_self hiσ] at e2
        cases e2
        exact ⟨u, r, .inl ⟨hk, by simp⟩⟩
      · rw [List.getElem?_set_ne (Ne.symm hj)] at e2
        obtain ⟨u', r', q⟩ := hl j y v' e1 e2 e3
        refine ⟨u', r', ?_⟩
        rcases q with ⟨k, e⟩ | ⟨k, c, e, z⟩
        · refine .inl ⟨k, ?_⟩
          have : y ≠ x := fun e => hj (nodup_ix hN e1 (e ▸ hi))
          simp [this, e]
        · exact .inr ⟨k, c, e, z.sameBut hs (cne y c e)⟩
    · obtain ⟨w', z⟩ := I.cell y c e
      exact ⟨w', z.sameBut hs (cne y c e)⟩
    · obtain ⟨e, n, ne, nf, d⟩ := I.pin p hp
      exact ⟨(hs.2 p.1 ne).trans e, n, ne, nf, d⟩
  · have hfn : X.fn x = true := by
      rcases hf with z | z
      · exact z
      · rw [z] at hk; cases hk
    obtain ⟨c, hc⟩ := I.ok.has x (.inl hk)
    obtain ⟨w', z⟩ := I.cell x c hc
    refine wpAny_storeName_cell I.ok.kind hk hc z (fun h' hc' hs => ?_)
    obtain ⟨oc, hoc, hocd⟩ := id z
    refine h { s with heap := h' } ⟨I.ok, I.os, I.bare, ⟨fun b o e n hb hx => ?_, fun b o e n hb hx => ?_, I.base.free, fun b o e hx => ?_, I.base.tups, I.base.frzs, I.base.tbls⟩, ⟨m, hn.sameBut hs (Ne.symm (cne x c hc)), fun j y v' e1 e2 e3 => ?_⟩, fun y c' e => ?_, I.free, I.freeC, fun p hp => ?_, tracked ⟨oc, hoc, I.freeC x c hc⟩ hs, by simpa using I.len⟩ ⟨c, hs, .inr hc⟩
    · exact (hs.2 b (Nat.ne_of_lt (Nat.lt_of_lt_of_le (Heap.lt_size e) (I.ok.cab x c hfn hc)))).trans (I.base.keep b o e n hb hx)
    · obtain ⟨sl, e1⟩ := I.base.slot b o e n hb hx
      exact ⟨sl, (hs.2 b (Nat.ne_of_lt (Nat.lt_of_lt_of_le (Heap.lt_size e) (I.ok.cab x c hfn hc)))).trans e1⟩
    · obtain ⟨o', e1⟩ := I.base.there b o e hx
      exact ⟨o', (hs.2 b (Nat.ne_of_lt (Nat.lt_of_lt_of_le (Heap.lt_size e) (I.ok.cab x c hfn hc)))).trans e1⟩
    · by_cases hj : j = i
      · subst hj
        rw [hi] at e1; cases e1
        rw [List.getElem?_set_self hiσ] at e2
        cases e2
        exact ⟨u, r, .inr ⟨.inl hk, c, hc, hc'⟩⟩
      · rw [List.getElem?_set_ne (Ne.symm hj)] at e2
        obtain ⟨u', r', q⟩ := hl j y v' e1 e2 e3
        refine ⟨u', r', ?_⟩
        rcases q with q | ⟨k, c', e, z'⟩
        · exact .inl q
        · refine .inr ⟨k, c', e, z'.sameBut hs ?_⟩
          rintro rfl
          exact hj (nodup_ix hN e1 (I.ok.inj _ _ _ e hc ▸ hi))
    · by_cases hcc : c' = c
      · subst hcc; exact ⟨_, hc'⟩
      · obtain ⟨w2, z2⟩ := I.cell y c' e
        exact ⟨w2, z2.sameBut hs hcc⟩
    · obtain ⟨e, n, ne, nf, d⟩ := I.pin p hp
      refine ⟨(hs.2 p.1 ?_).trans e, n, ne, nf, d⟩
      intro q
      rw [q, hoc] at e
      have q' : oc = p.2 := Option.some.inj e
      exact d w' (by rw [← q']; exact hocd)
theorem store_ok {M : Model} {A : Around} {E : Value → Shared → Prop} {i : Nat} {x : Str} {v : V} {u : Value} {Q : Unit → Shared → Prop} (I : Inv X pins σ H s) (hN : X.N.Nodup) (hi : X.N[i]? = some x) (hx : Loc X.env.scope x) (r : RelV v u)
    (h : ∀ s', Inv X pins (σ.set i (some v)) H s' → Q () s') (hf : X.fn x = true ∨ X.env.scope.names.lookup x = some .local := by first | exact .inl rfl | exact .inr rfl | assumption) : wpAny M A (storeName X.env x u) Q E s :=
  store_ok2 I hN hi hx r (fun s' I' _ => h s' I') hf
/-- behind a call or a block, the state as it is -/
theorem Inv.call' {s' : Shared} {ch : List Addr} (I : Inv X pins σ H s) (ho : s'.os = s.os) (u : Un (frs X.stack) ch H H' s.heap s'.heap) (hok : HOk X.prog X.w H' s'.heap) (hg : AllBare s'.gens)
    (hch : ∀ b ∈ ch, (b ∈ X.ex ∨ X.s₀.heap.objs.size ≤ b) ∧ b ≠ X.env.locals ∧ (∀ x c, X.env.cells.lookup x = some c → c ≠ b) ∧ ∀ p ∈ X.pn ++ pins, p.1 ≠ b) : Inv X pins σ H' s' := by
  obtain ⟨h', g', d', t', o'⟩ := s'
  have e : o' = s.os := ho
  subst e
  exact I.call (g' := g') (t' := t') (d' := d') u hok hg hch
end

/-- an exception: its class, its own dict's address (where it has one), the abstract heap behind it -/
abbrev XK := Value → Option Addr → Hp → Prop
abbrev St := List (Option V)
abbrev VK := V → Hp → Prop
/-- an expression's reading; a test's; an argument list's -/
abbrev TE := St → Hp → VK → Prop
abbrev TT := St → Hp → (Bool → Hp → Prop) → Prop
abbrev TA := St → Hp → (List V → Hp → Prop) → Prop
/-- what is wanted behind a statement -/
structure Ends where
  nx : St → Hp → Prop
  rt : VK
  bk : St → Hp → Prop := fun _ _ => False
  ct : St → Hp → Prop := fun _ _ => False
abbrev TS := Ends → St → Hp → Prop

def EP (X : Cx) (pins : List (Addr × Obj)) (σ : St) (Q : VK) (u : Value) (s' : Shared) : Prop := ∃ v H', Inv X pins σ H' s' ∧ RelV v u ∧ Q v H'
def TP (X : Cx) (pins : List (Addr × Obj)) (σ : St) (Q : Bool → Hp → Prop) (b : Bool) (s' : Shared) : Prop := ∃ H', Inv X pins σ H' s' ∧ Q b H'
def AP (X : Cx) (pins : List (Addr × Obj)) (σ : St) (Q : List V → Hp → Prop) (us : List Value) (s' : Shared) : Prop := ∃ vs H', Inv X pins σ H' s' ∧ Vals vs us ∧ Q vs H'
def SP (X : Cx) (pins : List (Addr × Obj)) (D : Ends) (f : Flow) (s' : Shared) : Prop :=
  match f with
  | .next => ∃ σ' H', Inv X pins σ' H' s' ∧ D.nx σ' H'
  | .brk => ∃ σ' H', Inv X pins σ' H' s' ∧ D.bk σ' H'
  | .cont => ∃ σ' H', Inv X pins σ' H' s' ∧ D.ct σ' H'
  | .ret u => ∃ v σ' H', Inv X pins σ' H' s' ∧ RelV v u ∧ D.rt v H'

def PE (X : Cx) (e : Expr) (t : TE) : Prop :=
  ∀ (pins : List (Addr × Obj)) (s : Shared) (σ : St) (H : Hp) (Q : VK), Inv X pins σ H s → t σ H Q → wpAny (model X.prog X.w) X.A (eval e X.env) (EP X pins σ Q) X.xe s
def PT (X : Cx) (e : Expr) (t : TT) : Prop :=
  ∀ (pins : List (Addr × Obj)) (s : Shared) (σ : St) (H : Hp) (Q : Bool → Hp → Prop), Inv X pins σ H s → t σ H Q → wpAny (model X.prog X.w) X.A (isTrue e X.env (eval e X.env)) (TP X pins σ Q) X.xe s
/-- a test whatever its 'whole' is (and, or) -/
def PW (X : Cx) (e : Expr) (t : TT) : Prop :=
  ∀ (whole : Sem Value) (pins : List (Addr × Obj)) (s : Shared) (σ : St) (H : Hp) (Q : Bool → Hp → Prop), Inv X pins σ H s → t σ H Q → wpAny (model X.prog X.w) X.A (isTrue e X.env whole) (TP X pins σ Q) X.xe s
theorem PW.pt {X : Cx} {e : Expr} {t : TT} (h : PW X e t) : PT X e t := h _
/-- an argument list (no star), from the left -/
def PA (X : Cx) (es : List Expr) (t : TA) : Prop :=
  ∀ (pos : Pos) (pins : List (Addr × Obj)) (s : Shared) (σ : St) (H : Hp) (Q : List V → Hp → Prop), Inv X pins σ H s → t σ H Q → wpAny (model X.prog X.w) X.A (spliced (backTo pos (starEach es X.env))) (AP X pins σ Q) X.xe s
def PS (X : Cx) (st : Stmt) (t : TS) : Prop :=
  ∀ (pins : List (Addr × Obj)) (s : Shared) (σ : St) (H : Hp) (D : Ends), Inv X pins σ H s → t D σ H → wpAny (model X.prog X.w) X.A (exec st X.env) (SP X pins D) X.xe s
def PSs (X : Cx) (st : List Stmt) (t : TS) : Prop :=
  ∀ (pins : List (Addr × Obj)) (s : Shared) (σ : St) (H : Hp) (D : Ends), Inv X pins σ H s → t D σ H → wpAny (model X.prog X.w) X.A (execs st X.env) (SP X pins D) X.xe s
/-- weaken the end -/
theorem thn {α : Type} {t : Sem α} {Q Q' : α → Shared → Prop} {M : Model} {A : Around} {E : Value → Shared → Prop} {s : Shared} (h : wpAny M A t Q E s) (hQ : ∀ a s, Q a s → Q' a s) : wpAny M A t Q' E s := wpAny_mono h hQ fun _ _ x => x
end L2

namespace L2
open PySem PySem.Spec PyProof.Rows
section
variable {X : Cx}

def tVar (i : Nat) : TE := fun σ H Q => ∃ v, σ[i]? = some (some v) ∧ Q v H
def tC (v : V) : TE := fun _ H Q => Q v H
theorem pe_var {i : Nat} {x : Str} {pos : Pos} (hN : X.N[i]? = some x) (hv : Vis X.env.scope x) (hd : (x == ("__debug__" : Str)) = false := by decide) (hcd : (x == ("__classdict__" : Str)) = false := by decide) : PE X (.Name x pos) (tVar i) := by
  intro pins s σ H Q I h
  obtain ⟨v, e, h⟩ := h
  obtain ⟨m, hn, hl⟩ := I.loc
  obtain ⟨u, r, l⟩ := hl i x v hN e hv
  have fin : EP X pins σ Q u s := ⟨v, H, I, r, h⟩
  rcases l with ⟨hk, hm⟩ | ⟨hk, c, hc, hcell⟩
  · exact wpAny_Name (wpAny_loadName_local I.ok.kind hk hn hm fin) hd
  · rcases hk with hk | hk
    · exact wpAny_Name (wpAny_loadName_cell I.ok.kind hk hc hcell fin) hd
    · exact wpAny_Name (wpAny_loadName_free I.ok.kind hk hc hcell fin hcd) hd
theorem pe_int {i j pos} : PE X (.Constant (.int i) j pos) (tC (.int i)) := fun _ _ _ H _ I h => wpAny_Constant_int ⟨.int i, H, I.tok _, ⟨_, rfl⟩, h⟩
theorem pe_bl {b j pos} : PE X (.Constant (.bool b) j pos) (tC (.bl b)) := fun _ _ _ H _ I h => Constant_bool ⟨.bl b, H, I, rfl, h⟩
theorem pe_non {j pos} : PE X (.Constant .none j pos) (tC .non) := fun _ _ _ H _ I h => Constant_none ⟨.non, H, I, rfl, h⟩
theorem pe_str {x j pos} : PE X (.Constant (.str x) j pos) (tC (.str x)) := fun _ _ _ H _ I h => Calls.Constant_str ⟨.str x, H, I.tok _, ⟨_, rfl⟩, h⟩

/-- a global name of the def -/
def Gl (X : Cx) (x : Str) : Prop := X.env.kindOf x = some .globalImplicit
theorem ld_glob {E : Value → Shared → Prop} {pins : List (Addr × Obj)} {s : Shared} {σ : St} {H : Hp} {x : Str} {u : Value} {pos : Pos} {Q : Value → Shared → Prop} (I : Inv X pins σ H s) (hg : Gl X x) (hm : X.mg x = some u) (h : Q u s)
    (hd : (x == ("__debug__" : Str)) = false := by decide) : wpAny (model X.prog X.w) X.A (eval (.Name x pos) X.env) Q E s :=
  Calls.Name_function_global I.ok.kind hg (Calls.loadGlobal_global (by rw [I.ok.glob]; exact I.mod.glob.keeps I.bk) hm h) hd
theorem ld_blt {E : Value → Shared → Prop} {pins : List (Addr × Obj)} {s : Shared} {σ : St} {H : Hp} {x : Str} {u : Value} {pos : Pos} {Q : Value → Shared → Prop} (I : Inv X pins σ H s) (hg : Gl X x) (hm : X.mg x = none) (hv : bootBuiltins x = some u) (h : Q u s)
    (hn : x ≠ "__name__" := by decide) (hd : (x == ("__debug__" : Str)) = false := by decide) : wpAny (model X.prog X.w) X.A (eval (.Name x pos) X.env) Q E s := by
  obtain ⟨mb, h1, h2⟩ := I.mod.blt
  exact Calls.Name_function_global I.ok.kind hg (Calls.loadGlobal_builtin (by rw [I.ok.glob]; exact I.mod.glob.keeps I.bk) hm (by rw [I.ok.blt]; exact h1.keeps I.bk) ((h2 x hn).trans hv) h) hd
/-- a module's constant, a class, a function, as a value -/
theorem pe_glob {x : Str} {v : V} {u : Value} {pos : Pos} (hg : Gl X x) (hm : X.mg x = some u) (r : RelV v u) (hd : (x == ("__debug__" : Str)) = false := by decide) : PE X (.Name x pos) (tC v) :=
  fun _ _ _ H _ I h => ld_glob I hg hm ⟨v, H, I, r, h⟩ hd
theorem pe_bltn {x : Str} {v : V} {u : Value} {pos : Pos} (hg : Gl X x) (hm : X.mg x = none) (hv : bootBuiltins x = some u) (r : RelV v u) (hn : x ≠ "__name__" := by decide) (hd : (x == ("__debug__" : Str)) = false := by decide) : PE X (.Name x pos) (tC v) :=
  fun _ _ _ H _ I h => ld_blt I hg hm hv ⟨v, H, I, r, h⟩ hn hd

variable {a b : Expr} {ta tb : TE} {pos : Pos}
/-- a comparison as a value, as a test -/
def tB (t : TE) : TT := fun σ H Q => t σ H fun x H1 => ∃ c, x = .bl c ∧ Q c H1
/-- an expression whose value is a bool, as a test -/
theorem pt_val {e : Expr} {t : TE} (h : PE X e t) (he : ∀ whole, isTrue e X.env whole = (do let v ← whole; standAt e.pos; holding [v] (truthy v)) := by intro _; rfl) : PT X e (tB t) := by
  intro pins s σ H Q I hw
  refine isTrue_plain (thn (h pins s σ H _ I hw) fun v s1 ⟨x, H1, I1, r1, q1⟩ => ?_) (he _)
  obtain ⟨d, rfl, q⟩ := q1
  cases r1
  exact wpAny_truthy_bool ⟨H1, I1, q⟩

variable {tA tB' : TT} {rest : List Expr}
def tAnd (t u : TT) : TT := fun σ H Q => t σ H fun c H1 => if c = true then u σ H1 Q else Q false H1
def tOr (t u : TT) : TT := fun σ H Q => t σ H fun c H1 => if c = true then Q true H1 else u σ H1 Q
def tNot (t : TT) : TT := fun σ H Q => t σ H fun c H1 => Q (!c) H1
theorem pw_and1 (ha : PT X a tA) : PW X (.BoolOp .And [a] pos) tA := by
  intro wh pins s σ H Q I h
  refine isTrue_and (thn (ha pins s σ H Q I h) fun c s1 e => ?_)
  cases c with
  | true => exact isTrue_and_nil e
  | false => exact e
theorem pw_or1 (ha : PT X a tA) : PW X (.BoolOp .Or [a] pos) tA := by
  intro wh pins s σ H Q I h
  refine isTrue_or (thn (ha pins s σ H Q I h) fun c s1 e => ?_)
  cases c with
  | false => exact isTrue_or_nil e
  | true => exact e
theorem pw_and (ha : PT X a tA) (hb : PW X (.BoolOp .And (b :: rest) pos) tB') : PW X (.BoolOp .And (a :: b :: rest) pos) (tAnd tA tB') := by
  intro wh pins s σ H Q I h
  refine isTrue_and (thn (ha pins s σ H _ I h) fun c s1 ⟨H1, I1, q1⟩ => ?_)
  cases c with
  | true => exact hb wh pins s1 σ H1 Q I1 q1
  | false => exact ⟨H1, I1, q1⟩
theorem pw_or (ha : PT X a tA) (hb : PW X (.BoolOp .Or (b :: rest) pos) tB') : PW X (.BoolOp .Or (a :: b :: rest) pos) (tOr tA tB') := by
  intro wh pins s σ H Q I h
  refine isTrue_or (thn (ha pins s σ H _ I h) fun c s1 ⟨H1, I1, q1⟩ => ?_)
  cases c with
  | true => exact ⟨H1, I1, q1⟩
  | false => exact hb wh pins s1 σ H1 Q I1 q1
theorem pt_not (ha : PT X a tA) : PT X (.UnaryOp .Not a pos) (tNot tA) := by
  intro pins s σ H Q I h
  exact isTrue_not (ha pins s σ H (fun c H1 => Q (!c) H1) I h)
/-- .. as values (bools) -/
def tAndV (ta tb : TE) : TE := fun σ H Q => ta σ H fun x H1 => ∃ c, x = .bl c ∧ if c = true then tb σ H1 Q else Q (.bl false) H1
def tOrV (ta tb : TE) : TE := fun σ H Q => ta σ H fun x H1 => ∃ c, x = .bl c ∧ if c = true then Q (.bl true) H1 else tb σ H1 Q
def tNotV (ta : TE) : TE := fun σ H Q => ta σ H fun x H1 => ∃ c, x = .bl c ∧ Q (.bl (!c)) H1
theorem pe_one {op} {t : TE} (h : PE X a t) : PE X (.BoolOp op [a] pos) t := fun pins s σ H Q I hw => BoolOp_one (h pins s σ H Q I hw)
theorem pe_and (ha : PE X a ta) (hb : PE X (.BoolOp .And (b :: rest) pos) tb) : PE X (.BoolOp .And (a :: b :: rest) pos) (tAndV ta tb) := by
  intro pins s σ H Q I h
  refine BoolOp_and (thn (ha pins s σ H _ I h) fun v s1 ⟨x, H1, I1, r1, q1⟩ => ?_)
  obtain ⟨c, rfl, q1⟩ := q1
  cases r1
  refine wpAny_truthy_bool ?_
  cases c with
  | true => exact hb pins s1 σ H1 Q I1 q1
  | false => exact ⟨.bl false, H1, I1, rfl, q1⟩
theorem pe_or (ha : PE X a ta) (hb : PE X (.BoolOp .Or (b :: rest) pos) tb) : PE X (.BoolOp .Or (a :: b :: rest) pos) (tOrV ta tb) := by
  intro pins s σ H Q I h
  refine BoolOp_or (thn (ha pins s σ H _ I h) fun v s1 ⟨x, H1, I1, r1, q1⟩ => ?_)
  obtain ⟨c, rfl, q1⟩ := q1
  cases r1
  refine wpAny_truthy_bool ?_
  cases c with
  | false => exact hb pins s1 σ H1 Q I1 q1
  | true => exact ⟨.bl true, H1, I1, rfl, q1⟩
theorem pe_not (ha : PE X a ta) : PE X (.UnaryOp .Not a pos) (tNotV ta) := by
  intro pins s σ H Q I h
  refine UnaryOp_ (thn (ha pins s σ H _ I h) fun v s1 ⟨x, H1, I1, r1, q1⟩ => ?_)
  obtain ⟨c, rfl, q1⟩ := q1
  cases r1
  exact not_of (wpAny_truthy_bool ⟨.bl (!c), H1, I1, rfl, q1⟩)
/-- a if t else b -/
def tIf (t : TT) (ta tb : TE) : TE := fun σ H Q => t σ H fun c H1 => if c = true then ta σ H1 Q else tb σ H1 Q
theorem pe_ifExp {c : Expr} (hc : PT X c tA) (ha : PE X a ta) (hb : PE X b tb) : PE X (.IfExp c a b pos) (tIf tA ta tb) := by
  intro pins s σ H Q I h
  refine wpAny_IfExp (thn (hc pins s σ H _ I h) fun d s1 ⟨H1, I1, q1⟩ => ?_)
  cases d with
  | true => exact ha pins s1 σ H1 Q I1 q1
  | false => exact hb pins s1 σ H1 Q I1 q1
end
end L2

namespace L2
open PySem PySem.Spec PyProof.Rows

def SqL (K : PySem.W.Frag) (H : Hp) (a : Addr) (xs : List V) : Prop :=
  Rd H a (.lst xs) ∨
    ∃ (o : Obj) (its : Array Value) (n : Nat), K.lookup a = some o ∧ o.cls = .type "list" ∧ o.dict = none ∧ o.data = .seq its n ∧ its.size ≤ sizeLine ∧ Vals xs its.toList
def SqT (K : PySem.W.Frag) (H : Hp) (a : Addr) (xs : List V) : Prop :=
  Rd H a (.tup xs) ∨
    ∃ (o : Obj) (its : Array Value) (n : Nat), K.lookup a = some o ∧ o.cls = .type "tuple" ∧ o.data = .seq its n ∧ its.size ≤ sizeLine ∧ Vals xs its.toList
def absV : Value → Option V
  | .none => some .non
  | .bool b => some (.bl b)
  | .int i _ => some (.int i)
  | .str x _ => some (.str x)
  | .bytes b _ => some (.byt b)
  | .float b _ => some (.flt b)
  | .ref a => some (.ref a)
  | .type n => some (.ty n)
  | _ => none
theorem RelV.abs {x : V} {u : Value} (r : RelV x u) : absV u = some x := by
  cases x with
  | non => cases r; rfl
  | bl _ => cases r; rfl
  | int _ => obtain ⟨t, rfl⟩ := r; rfl
  | str _ => obtain ⟨t, rfl⟩ := r; rfl
  | byt _ => obtain ⟨t, rfl⟩ := r; rfl
  | flt _ => obtain ⟨t, rfl⟩ := r; rfl
  | ref _ => cases r; rfl
  | ty _ => cases r; rfl
theorem RelV.inj {x y : V} {u : Value} (r : RelV x u) (q : RelV y u) : x = y := Option.some.inj (r.abs.symm.trans q.abs)
theorem Vals.inj : ∀ {xs ys : List V} {us : List Value}, Vals xs us → Vals ys us → xs = ys
  | _, _, _, .nil, .nil => rfl
  | _, _, _, .cons r t, .cons r' t' => by rw [r.inj r', Vals.inj t t']
section
variable {X : Cx} {pins : List (Addr × Obj)} {σ : St} {H : Hp} {s : Shared} {a : Addr} {xs ys : List V}
theorem SqL.of {K : PySem.W.Frag} (h : H a = some (.lst xs)) : SqL K H a xs := .inl (.inl h)
theorem SqT.of {K : PySem.W.Frag} (h : H a = some (.tup xs)) : SqT K H a xs := .inl (.inl h)
theorem Inv.list (I : Inv X pins σ H s) (h : SqL X.K H a xs) : ∃ its : List Value, Vals xs its ∧ PlainL s.heap a its.toArray ∧ xs.length ≤ sizeLine := by
  rcases h with h | ⟨o, its, n, hk, hc, hd, hs, hz, r⟩
  · obtain ⟨z, its, n, r, e⟩ := h.ok I.hok
    exact ⟨its, r, ⟨_, n, e, rfl, rfl, rfl⟩, z⟩
  · refine ⟨its.toList, r, ⟨o, n, I.kIn a o hk, hc, hd, by simpa using hs⟩, ?_⟩
    have e := r.length
    simp only [Array.length_toList] at e
    first | lia | omega
theorem Inv.tuple (I : Inv X pins σ H s) (h : SqT X.K H a xs) : ∃ its : List Value, Vals xs its ∧ IsTup s.heap a its.toArray ∧ xs.length ≤ sizeLine := by
  rcases h with h | ⟨o, its, n, hk, hc, hs, hz, r⟩
  · obtain ⟨z, its, r, p⟩ := h.ok I.hok
    exact ⟨its, r, p, z⟩
  · refine ⟨its.toList, r, ⟨o, I.kIn a o hk, hc, n, by simpa using hs⟩, ?_⟩
    have e := r.length
    simp only [Array.length_toList] at e
    first | lia | omega
theorem Inv.list_inj (I : Inv X pins σ H s) (h : SqL X.K H a xs) (h' : SqL X.K H a ys) : xs = ys := by
  obtain ⟨its, r, ⟨o, n, e, _, _, d⟩, _⟩ := I.list h
  obtain ⟨its', r', ⟨o', n', e', _, _, d'⟩, _⟩ := I.list h'
  rw [e] at e'; cases e'
  rw [d] at d'
  injection d' with d1 _
  have : its = its' := by simpa using congrArg Array.toList d1
  subst this
  exact r.inj r'
theorem Inv.tuple_inj (I : Inv X pins σ H s) (h : SqT X.K H a xs) (h' : SqT X.K H a ys) : xs = ys := by
  obtain ⟨its, r, ⟨o, e, _, n, d⟩, _⟩ := I.tuple h
  obtain ⟨its', r', ⟨o', e', _, n', d'⟩, _⟩ := I.tuple h'
  rw [e] at e'; cases e'
  rw [d] at d'
  injection d' with d1 _
  have : its = its' := by simpa using congrArg Array.toList d1
  subst this
  exact r.inj r'
end

abbrev Cx.wish (X : Cx) (E : Value → Shared → Prop) : Cx := { X with xe := E }
/-- no exception leaves -/
abbrev Cx.nox (X : Cx) : Cx := X.wish fun _ _ => False
theorem Cx.Ok.wish {X : Cx} (ok : X.Ok) (E : Value → Shared → Prop) : (X.wish E).Ok :=
  ⟨ok.mod, ok.kind, ok.glob, ok.blt, ok.above, ok.inj, ok.has, ok.cab, ok.hd, ok.frames, ok.stk, ok.exf, ok.bs, ok.bsz, ok.noex, ok.exfs, ok.funs, ok.frf⟩
theorem Cx.Ok.unwish {X : Cx} {E : Value → Shared → Prop} (ok : (X.wish E).Ok) : X.Ok :=
  ⟨ok.mod, ok.kind, ok.glob, ok.blt, ok.above, ok.inj, ok.has, ok.cab, ok.hd, ok.frames, ok.stk, ok.exf, ok.bs, ok.bsz, ok.noex, ok.exfs, ok.funs, ok.frf⟩
section
variable {X : Cx} {pins : List (Addr × Obj)} {σ : St} {H : Hp} {s : Shared} {E : Value → Shared → Prop}
theorem Inv.wish (I : Inv X pins σ H s) (E : Value → Shared → Prop) : Inv (X.wish E) pins σ H s := ⟨I.ok.wish E, I.os, I.bare, I.base, I.loc, I.cell, I.free, I.freeC, I.pin, I.hok, I.len⟩
theorem Inv.unwish (I : Inv (X.wish E) pins σ H s) : Inv X pins σ H s := ⟨I.ok.unwish, I.os, I.bare, I.base, I.loc, I.cell, I.free, I.freeC, I.pin, I.hok, I.len⟩
theorem SP.unwish {D : Ends} {f : Flow} {s' : Shared} (h : SP (X.wish E) pins D f s') : SP X pins D f s' := by
  cases f with
  | next => obtain ⟨σ', H', I, q⟩ := h; exact ⟨σ', H', I.unwish, q⟩
  | brk => obtain ⟨σ', H', I, q⟩ := h; exact ⟨σ', H', I.unwish, q⟩
  | cont => obtain ⟨σ', H', I, q⟩ := h; exact ⟨σ', H', I.unwish, q⟩
  | ret u => obtain ⟨v, σ', H', I, r, q⟩ := h; exact ⟨v, σ', H', I.unwish, r, q⟩
theorem PSs.nox {st : List Stmt} {t : TS} (h : PSs X.nox st t) : PSs X st t := fun pins s σ H D I hw =>
  wpAny_mono (h pins s σ H D (I.wish _) hw) (fun _ _ q => q.unwish) fun _ _ z => False.elim z
end

section
variable {X : Cx} {st : Stmt} {rest : List Stmt} {t u : TS} {e : Expr} {te : TE} {pos : Pos}
def tNext : TS := fun D σ H => D.nx σ H
def tSeq (t u : TS) : TS := fun D σ H => t { D with nx := u D } σ H
theorem pss_nil : PSs X [] tNext := fun _ _ σ H _ I h => wpAny_execs_nil ⟨σ, H, I, h⟩
theorem pss_cons (h1 : PS X st t) (h2 : PSs X rest u) : PSs X (st :: rest) (tSeq t u) := by
  intro pins s σ H D I h
  refine wpAny_execs_cons (thn (h1 pins s σ H { D with nx := u D } I h) fun f s1 q => ?_)
  cases f with
  | next =>
    obtain ⟨σ', H', I', q⟩ := q
    exact h2 pins s1 σ' H' D I' q
  | ret v => exact q
  | brk => exact q
  | cont => exact q
theorem pss_one (h1 : PS X st t) : PSs X [st] t := by
  intro pins s σ H D I h
  refine wpAny_execs_cons (thn (h1 pins s σ H D I h) fun f s1 q => ?_)
  cases f with
  | next => exact wpAny_execs_nil q
  | ret v => exact q
  | brk => exact q
  | cont => exact q
/-- in a def's body nothing is shown -/
theorem Inv.quiet {pins : List (Addr × Obj)} {σ : St} {H : Hp} {s : Shared} (I : Inv X pins σ H s) : interactive X.env = false := by simp [interactive, I.ok.kind]
/-- an expression whose value is dropped -/
def tDrop (te : TE) : TS := fun D σ H => te σ H fun _ H1 => D.nx σ H1
theorem ps_expr (he : PE X e te) (hs : swapsWith e none pos.line X.env = pure false := by rfl) : PS X (.Expr e pos) (tDrop te) := by
  intro pins s σ H D I h
  exact wpAny_Expr_any (thn (he pins s σ H _ I h) fun v s1 ⟨x, H1, I1, r1, q1⟩ => ⟨σ, H1, I1, q1⟩) I.quiet hs
def tRet (te : TE) : TS := fun D σ H => te σ H D.rt
theorem ps_ret (he : PE X e te) : PS X (.Return (some e) pos) (tRet te) := by
  intro pins s σ H D I h
  exact wpAny_Return_some (thn (he pins s σ H _ I h) fun v s1 ⟨x, H1, I1, r1, q1⟩ => ⟨x, σ, H1, I1, r1, q1⟩)
def tIfS (c : TT) (t u : TS) : TS := fun D σ H => c σ H fun b H1 => if b = true then t D σ H1 else u D σ H1
theorem ps_if {c : Expr} {a b : List Stmt} {tc : TT} (hc : PT X c tc) (ha : PSs X a t) (hb : PSs X b u) : PS X (.If c a b pos) (tIfS tc t u) := by
  intro pins s σ H D I h
  refine wpAny_If (thn (hc pins s σ H _ I h) fun d s1 ⟨H1, I1, q1⟩ => ?_)
  cases d with
  | true => exact ha pins s1 σ H1 D I1 q1
  | false => exact hb pins s1 σ H1 D I1 q1
end

abbrev TG := V → St → Hp → (St → Hp → Prop) → Prop
abbrev TGs := List V → St → Hp → (St → Hp → Prop) → Prop
def PG (X : Cx) (target : Expr) (t : TG) : Prop :=
  ∀ (pins : List (Addr × Obj)) (s : Shared) (σ : St) (H : Hp) (v : V) (u : Value) (Q : St → Hp → Prop), Inv X pins σ H s → RelV v u → t v σ H Q →
    wpAny (model X.prog X.w) X.A (assign target X.env u) (fun _ s' => ∃ σ' H', Inv X pins σ' H' s' ∧ Q σ' H') X.xe s
/-- several targets, one after another -/
def PGs (X : Cx) (ts : List Expr) (t : TGs) : Prop :=
  ∀ (pins : List (Addr × Obj)) (s : Shared) (σ : St) (H : Hp) (vs : List V) (us : List Value) (Q : St → Hp → Prop), Inv X pins σ H s → Vals vs us → t vs σ H Q →
    wpAny (model X.prog X.w) X.A (assignInOrder ((assignEach ts X.env).map (·.2)) us) (fun _ s' => ∃ σ' H', Inv X pins σ' H' s' ∧ Q σ' H') X.xe s
/-- o[i] = v, by values -/
abbrev TSet := V → V → V → Hp → (Hp → Prop) → Prop
def PSet (X : Cx) (t : TSet) : Prop :=
  ∀ (pins : List (Addr × Obj)) (s : Shared) (σ : St) (H : Hp) (o i v : V) (ov iv u : Value) (Q : Hp → Prop), Inv X pins σ H s → RelV o ov → RelV i iv → RelV v u → t o i v H Q →
    wpAny (model X.prog X.w) X.A (setItem ov iv u) (fun _ s' => ∃ H', Inv X pins σ H' s' ∧ Q H') X.xe s
/-- a op= b, by values -/
abbrev TIp := V → V → Hp → VK → Prop
def PIp (X : Cx) (op : Operator) (t : TIp) : Prop :=
  ∀ (pins : List (Addr × Obj)) (s : Shared) (σ : St) (H : Hp) (x y : V) (v u : Value) (Q : VK), Inv X pins σ H s → RelV x v → RelV y u → t x y H Q →
    wpAny (model X.prog X.w) X.A (inplaceOp op v u) (EP X pins σ Q) X.xe s
section
variable {X : Cx} {pos : Pos}
def gName (i : Nat) : TG := fun v σ H Q => Q (σ.set i (some v)) H
theorem pg_name {i : Nat} {x : Str} (hN : X.N.Nodup) (hi : X.N[i]? = some x) (hx : Loc X.env.scope x) (hf : X.fn x = true ∨ X.env.scope.names.lookup x = some .local := by first | exact .inl rfl | exact .inr rfl | assumption) : PG X (.Name x pos) (gName i) := by
  intro pins s σ H v u Q I r h
  exact wpAny_assign_Name (store_ok I hN hi hx r (fun s' I' => ⟨_, H, I', h⟩) hf)
def gNil : TGs := fun vs σ H Q => vs = [] ∧ Q σ H
def gCons (t : TG) (u : TGs) : TGs := fun vs σ H Q => ∃ v r, vs = v :: r ∧ t v σ H fun σ' H' => u r σ' H' Q
theorem pgs_nil : PGs X [] gNil := by
  intro pins s σ H vs us Q I r h
  obtain ⟨e, h⟩ := h
  subst e
  cases r
  exact assignInOrder_nil ⟨σ, H, I, h⟩
theorem pgs_cons {e : Expr} {es : List Expr} {t : TG} {u : TGs} (h1 : PG X e t) (h2 : PGs X es u)
    (hs : (assignEach (e :: es) X.env).map (·.2) = assign e X.env :: (assignEach es X.env).map (·.2) := by rfl) : PGs X (e :: es) (gCons t u) := by
  intro pins s σ H vs us Q I r h
  obtain ⟨v, vr, e1, h⟩ := h
  subst e1
  cases r with
  | cons r rr =>
    rw [hs]
    refine assignInOrder_cons (thn (h1 pins s σ H _ _ _ I r h) fun _ s1 ⟨σ1, H1, I1, q1⟩ => ?_)
    exact h2 pins s1 σ1 H1 _ _ Q I1 rr q1
/-- (a, b, ..) = a tuple of that length -/
def gTup (K : PySem.W.Frag) (n : Nat) (t : TGs) : TG := fun v σ H Q => ∃ a xs, v = .ref a ∧ SqT K H a xs ∧ xs.length = n ∧ t xs σ H Q
theorem pg_tup {es : List Expr} {k : Nat} {t : TGs} {n : Nat} (hc : X.calm = true) (h : PGs X es t)
    (hn : (assignEach es X.env).length = n := by rfl) (hst : (assignEach es X.env).findIdx? (·.1) = none := by rfl) : PG X (.Tuple es k pos) (gTup X.K n t) := by
  intro pins s σ H v u Q I r hw
  obtain ⟨a, xs, e1, hq, hl, hw⟩ := hw
  subst e1
  cases r
  obtain ⟨its, rv, ht, hz⟩ := I.tuple hq
  refine assign_Tuple_tuple (I.ok.hd hc) ht (by simp [hn, ← hl, rv.length]) hst fun h' hx => ?_
  have I1 : Inv X pins σ H { s with heap := h' } := I.kept (t' := s.toks) fun b o e => hx b o (Nat.ne_of_lt (Heap.lt_size e)) e
  exact h pins _ σ H xs _ Q I1 (by simpa using rv) hw
/-- o[i] = .. -/
def gSub (to ti : TE) (t : TSet) : TG := fun v σ H Q => to σ H fun o H1 => ti σ H1 fun i H2 => t o i v H2 fun H3 => Q σ H3
theorem pg_sub {o i : Expr} {to ti : TE} {t : TSet} (ho : PE X o to) (hi : PE X i ti) (hs : PSet X t)
    (ha : ∀ v, assign (.Subscript o i pos) X.env v = (do
      let ov ← holding [v] (eval o X.env)
      let iv ← holding [v, ov] (eval i X.env)
      standAt pos
      holding [v, ov, iv] (setItem ov iv v)
      release [v, ov, iv] []) := by intro _; rfl) : PG X (.Subscript o i pos) (gSub to ti t) := by
  intro pins s σ H v u Q I r h
  rw [ha]
  refine wpAny_bind (wpAny_holding (thn (ho pins s σ H _ I h) fun ov s1 ⟨x, H1, I1, r1, q1⟩ => ?_))
  refine wpAny_bind (wpAny_holding (thn (hi pins s1 σ H1 _ I1 q1) fun iv s2 ⟨y, H2, I2, r2, q2⟩ => ?_))
  refine wpAny_bind (wpAny_standAt (wpAny_bind (wpAny_holding (thn (hs pins s2 σ H2 x y v ov iv u _ I2 r1 r2 r q2) fun _ s3 ⟨H3, I3, q3⟩ => ?_))))
  exact wpAny_release ⟨σ, H3, I3, q3⟩
/-- target = value -/
def tAsg (te : TE) (g : TG) : TS := fun D σ H => te σ H fun x H1 => g x σ H1 D.nx
theorem ps_asg {tg e : Expr} {te : TE} {g : TG} (he : PE X e te) (hg : PG X tg g) (hs : swapsWithSole [tg] e pos.line X.env = pure false := by rfl) (hw : swappedStores [tg] e X.env = pure none := by rfl)
    (h1 : (assignEach [tg] X.env).map (·.2) = [assign tg X.env] := by rfl) : PS X (.Assign [tg] e pos) (tAsg te g) := by
  intro pins s σ H D I h
  refine wpAny_Assign_stores (thn (he pins s σ H _ I h) fun v s1 ⟨x, H1, I1, r1, q1⟩ => ?_) hs hw
  rw [h1]
  exact thn (hg pins s1 σ H1 x v _ I1 r1 q1) fun _ s2 q => q
/-- name = value -/
theorem ps_set {i : Nat} {x : Str} {e : Expr} {te : TE} {pos' : Pos} (hN : X.N.Nodup) (hi : X.N[i]? = some x) (hx : Loc X.env.scope x) (he : PE X e te) (hs : swapsWith e (some (.Name x pos')) pos.line X.env = pure false := by rfl) (hf : X.fn x = true ∨ X.env.scope.names.lookup x = some .local := by first | exact .inl rfl | exact .inr rfl | assumption) :
    PS X (.Assign [.Name x pos'] e pos) (tAsg te (gName i)) := by
  intro pins s σ H D I h
  refine wpAny_Assign_Name (thn (he pins s σ H _ I h) fun v s1 ⟨y, H1, I1, r1, q1⟩ => ?_) hs
  exact store_ok I1 hN hi hx r1 (fun s2 I2 => ⟨_, H1, I2, q1⟩) hf
/-- name op= e -/
def tAug (i : Nat) (te : TE) (ti : TIp) : TS := fun D σ H => ∃ x, σ[i]? = some (some x) ∧ te σ H fun y H1 => ti x y H1 fun z H2 => D.nx (σ.set i (some z)) H2
theorem ps_aug {i : Nat} {x : Str} {e : Expr} {te : TE} {op : Operator} {ti : TIp} {pos' : Pos} (hN : X.N.Nodup) (hi : X.N[i]? = some x) (hx : Loc X.env.scope x) (he : PE X e te) (ho : PIp X op ti) (hf : X.fn x = true ∨ X.env.scope.names.lookup x = some .local := by first | exact .inl rfl | exact .inr rfl | assumption) :
    PS X (.AugAssign (.Name x pos') op e pos) (tAug i te ti) := by
  intro pins s σ H D I h
  obtain ⟨v, e1, h⟩ := h
  obtain ⟨m, hn, hl⟩ := I.loc
  have vis : Vis X.env.scope x := by rcases hx with k | k; exact .inl k; exact .inr (.inl k)
  obtain ⟨u, r, l⟩ := hl i x v hi e1 vis
  refine wpAny_AugAssign_Name ?_
  have go : wpAny (model X.prog X.w) X.A (eval e X.env) (fun w s₂ => wpAny (model X.prog X.w) X.A (inplaceOp op u w) (fun r s₃ => wpAny (model X.prog X.w) X.A (storeName X.env x r) (fun _ => SP X pins D .next) X.xe s₃) X.xe s₂) X.xe s := by
    refine thn (he pins s σ H _ I h) fun w s1 ⟨y, H1, I1, r1, q1⟩ => ?_
    refine thn (ho pins s1 σ H1 v y u w _ I1 r r1 q1) fun z s2 ⟨zv, H2, I2, r2, q2⟩ => ?_
    exact store_ok I2 hN hi hx r2 (fun s3 I3 => ⟨_, H2, I3, q2⟩) hf
  rcases l with ⟨hk, hm⟩ | ⟨hk, c, hc, hcell⟩
  · exact wpAny_loadName_local I.ok.kind hk hn hm go
  · rcases hk with hk | hk
    · exact wpAny_loadName_cell I.ok.kind hk hc hcell go
    · rcases hx with k | k
      · have : X.env.scope.names.lookup x = some .free := hk
        rw [k] at this; cases this
      · have : X.env.scope.names.lookup x = some .free := hk
        rw [k] at this; cases this
/-- ints -/
def ipI (f : Int → Int → Int) : TIp := fun x y H Q => ∃ i j, x = .int i ∧ y = .int j ∧ Q (.int (f i j)) H
theorem ip_add : PIp X .Add (ipI fun i j => i + j) := by
  intro pins s σ H x y v u Q I r1 r2 h
  obtain ⟨i, j, e1, e2, q⟩ := h
  subst e1; subst e2
  obtain ⟨t, rfl⟩ := r1
  obtain ⟨t', rfl⟩ := r2
  exact iadd_int ⟨.int _, H, I.tok _, ⟨_, rfl⟩, q⟩
end

section
variable {X : Cx} {pos : Pos}
end

/-- at turn i: it yields x (the heap may grow), or it stops -/
structure It where
  go : Nat → Hp → Prop
  yld : Nat → Hp → V → Hp → Prop
  stop : Nat → Hp → Prop
/-- the iterator's own objects may turn: they are not the frame's, not pinned, younger than the entry (or a comprehension's own) -/
def FpOk (X : Cx) (pins : List (Addr × Obj)) (H : Hp) (b : Addr) : Prop :=
  H b = none ∧ b ≠ X.env.locals ∧ b ∉ X.fs ∧ (b ∈ X.ex ∨ X.s₀.heap.objs.size ≤ b) ∧ (∀ x c, X.env.cells.lookup x = some c → c ≠ b) ∧ ∀ p ∈ X.pn ++ pins, p.1 ≠ b
theorem Inv.fpOk {X : Cx} {pins : List (Addr × Obj)} {σ : St} {H H' : Hp} {s : Shared} {b : Addr} (I : Inv X pins σ H s) (hb : s.heap.objs.size ≤ b) (hn : H' b = none) : FpOk X pins H' b := by
  refine ⟨hn, Nat.ne_of_gt (Nat.lt_of_lt_of_le I.lt hb), I.nofs hb, .inr (Nat.le_trans I.sz hb), fun x c e z => ?_, fun p hp z => ?_⟩
  · obtain ⟨v, q⟩ := I.cell x c e
    exact absurd (Nat.lt_of_lt_of_le q.lt (by rw [z]; exact hb)) (Nat.lt_irrefl _)
  · exact absurd (Nat.lt_of_lt_of_le (Heap.lt_size (I.pin p hp).1) (by rw [z]; exact hb)) (Nat.lt_irrefl _)
structure Turn (P : Program) (w : World) (K : PySem.W.Frag) (tg : Expr) (J : It) (fp : List Addr) (it : Addr) (tn : Nat → Heap → Prop) : Prop where
  mem : it ∈ fp
  obj : ∀ i h, tn i h → ∀ b ∈ fp, ∃ o, h.get? b = some o ∧ ∀ v, o.data ≠ .cell v
  keep : ∀ i h h', tn i h → (∀ b ∈ fp, ∀ o, h.get? b = some o → h'.get? b = some o) → tn i h'
  item : ∀ (X : Cx), X.prog = P → X.w = w → X.K = K → X.calm = true → ∀ (i : Nat) (pins : List (Addr × Obj)) (s : Shared) (σ : St) (H : Hp) (E : Value → Shared → Prop), Inv X pins σ H s → (∀ b ∈ fp, FpOk X pins H b) → tn i s.heap → J.go i H →
    wpAny (model P w) X.A (pyNext (.ref it)) (fun r s1 => ∃ u, r = some u ∧
      wpAny (model P w) X.A (letOwnedTupleGo tg (.ref it) u) (fun _ s2 => ∃ x H', Inv X pins σ H' s2 ∧ RelV x u ∧ J.yld i H x H' ∧ tn (i + 1) s2.heap ∧ ∀ b ∈ fp, H' b = none) E s1) E s
  done : ∀ (X : Cx), X.prog = P → X.w = w → X.K = K → X.calm = true → ∀ (i : Nat) (pins : List (Addr × Obj)) (s : Shared) (σ : St) (H : Hp) (E : Value → Shared → Prop), Inv X pins σ H s → (∀ b ∈ fp, FpOk X pins H b) → tn i s.heap → J.stop i H →
    wpAny (model P w) X.A (pyNext (.ref it)) (fun r s1 => r = none ∧ Inv X pins σ H s1) E s
  self : ∀ (A : Around) (i : Nat) (s : Shared) (Q : Value → Shared → Prop) (E : Value → Shared → Prop), tn i s.heap → Q (.ref it) s → wpAny (model P w) A (pyIter (.ref it)) Q E s
abbrev TI := St → Hp → (It → Hp → Prop) → Prop
/-- an iterator has come -/
def PIE (X : Cx) (pins : List (Addr × Obj)) (σ : St) (tg : Expr) (R : It → Hp → Prop) (itv : Value) (s2 : Shared) : Prop :=
  ∃ (it : Addr) (fp : List Addr) (tn : Nat → Heap → Prop) (J : It) (H' : Hp), itv = .ref it ∧ Inv X pins σ H' s2 ∧ Turn X.prog X.w X.K tg J fp it tn ∧ tn 0 s2.heap ∧ (∀ b ∈ fp, FpOk X pins H' b) ∧ R J H'
def PI (X : Cx) (tg iter : Expr) (wi : TI) : Prop :=
  ∀ (pins : List (Addr × Obj)) (s : Shared) (σ : St) (H : Hp) (R : It → Hp → Prop), Inv X pins σ H s → wi σ H R →
    wpAny (model X.prog X.w) X.A (eval iter X.env) (fun v s1 => wpAny (model X.prog X.w) X.A (pyIter v) (PIE X pins σ tg R) X.xe s1) X.xe s

/-- the step ahead of the store is nothing for an iterator that keeps no tuple -/
theorem go_of {M : Model} {A : Around} {E : Value → Shared → Prop} {s : Shared} {tg : Expr} {it : Addr} {u : Value} {o : Obj} {n : String} {vs : Array Value} {Q : Unit → Shared → Prop} (ho : s.heap.get? it = some o) (hc : o.cls = .type n) (hd : o.data = .fields vs)
    (hn : ["enumerate", "zip", "dict_itemiterator", "dict_reverseitemiterator", "odict_iterator", "itertools.zip_longest", "itertools.pairwise"].contains n = false) (hQ : Q () s) : wpAny M A (letOwnedTupleGo tg (.ref it) u) Q E s := by
  unfold letOwnedTupleGo
  cases tg <;> first
    | exact wpAny_pure hQ
    | (cases u <;> first
        | exact wpAny_pure hQ
        | (refine wpAny_bind (wpAny_load ho ?_)
           rw [hc, hd]
           show wpAny M A (if (["enumerate", "zip", "dict_itemiterator", "dict_reverseitemiterator", "odict_iterator", "itertools.zip_longest", "itertools.pairwise"].contains n && vs[0]? == some (rawInt _)) = true then _ else _) Q E s
           rw [if_neg (by intro h; rw [hn, Bool.false_and] at h; cases h)]
           exact wpAny_pure hQ))

/-- the list at a, as it stands at each turn (a loop may append to it) -/
def Itl (K : PySem.W.Frag) (a : Addr) : It :=
  ⟨fun i H => ∃ xs x, SqL K H a xs ∧ xs[i]? = some x, fun i H x H' => H' = H ∧ ∀ xs, SqL K H a xs → xs[i]? = some x, fun i H => ∃ xs, SqL K H a xs ∧ xs.length ≤ i⟩
/-- lo, lo + 1, .. (n of them) -/
def Itr (lo : Int) (n : Nat) : It := ⟨fun i _ => i < n, fun i H x H' => H' = H ∧ x = .int (lo + i), fun i _ => n ≤ i⟩
theorem turn_list {P : Program} {w : World} {K : PySem.W.Frag} {tg : Expr} (a it : Addr) : Turn P w K tg (Itl K a) [it] it (fun i h => h.IsListIter it a i) where
  mem := by simp
  obj := fun i h st b hb => by
    have e : b = it := by simpa using hb
    subst e
    obtain ⟨o, e, c, d⟩ := st
    exact ⟨o, e, fun v z => by rw [d] at z; cases z⟩
  keep := fun i h h' st k => st.at fun o e => k it (by simp) o e
  item := by
    intro X hP hw hK hc i pins s σ H E I hf st hg
    subst hP hw hK
    obtain ⟨xs, x, hq, hx⟩ := hg
    obtain ⟨its, rv, p, hz⟩ := I.list hq
    obtain ⟨u, hu, ru⟩ := rv.get hx
    obtain ⟨f0, f1, f2, f3, f4, f5⟩ := hf it (by simp)
    refine wpAny_pyNext_list_item st p.isList (x := u) (by simpa using hu) fun h' st' sb => ?_
    have I1 : Inv X pins σ H { s with heap := h' } := I.turned (t' := s.toks) (fun b o hb e => (sb.2 b hb).trans e) f0 f1 f3 f4 f5
    obtain ⟨o, e, c, d⟩ := id st'
    exact ⟨u, rfl, go_of (s := { s with heap := h' }) e c d (by decide) ⟨x, H, I1, ru, ⟨rfl, fun ys hy => by rw [I.list_inj hy hq]; exact hx⟩, st', fun b hb => (hf b hb).1⟩⟩
  done := by
    intro X hP hw hK hc i pins s σ H E I hf st hg
    subst hP hw hK
    obtain ⟨xs, hq, hx⟩ := hg
    obtain ⟨its, rv, p, hz⟩ := I.list hq
    obtain ⟨f0, f1, f2, f3, f4, f5⟩ := hf it (by simp)
    have hl := rv.length
    exact wpAny_pyNext_list_end (I.ok.hd hc) st p.isList (by simp; first | lia | omega) fun h' eb => ⟨rfl, I.turned (t' := s.toks) (fun b o hb e => eb b o hb e) f0 f1 f3 f4 f5⟩
  self := fun _ _ _ _ _ st h => wpAny_pyIter_listiter st h
theorem turn_range {P : Program} {w : World} {K : PySem.W.Frag} {tg : Expr} (it : Addr) (lo : Int) (n : Nat) : Turn P w K tg (Itr lo n) [it] it (fun i h => IsRangeIter h it (lo + (i : Nat) * 1) ((n : Int) - (i : Nat)) 1) where
  mem := by simp
  obj := fun i h st b hb => by
    have e : b = it := by simpa using hb
    subst e
    exact ⟨_, st, fun v z => by
      have z' : Data.fields _ = Data.cell v := z
      cases z'⟩
  keep := fun i h h' st k => k it (by simp) _ st
  item := by
    intro X hP hw hK hc i pins s σ H E I hf st hg
    subst hP hw hK
    obtain ⟨f0, f1, f2, f3, f4, f5⟩ := hf it (by simp)
    have W := Walks.range (prog := X.prog) (w := X.w) (I.ok.hd hc) it lo 1 n
    refine W.item i s _ _ hg st fun v h' tk hv st' kk => ?_
    obtain ⟨t, rfl⟩ := hv
    have I1 : Inv X pins σ H { s with heap := h', toks := tk } := I.turned (fun b o hb e => kk b o (by simpa using hb) e) f0 f1 f3 f4 f5
    refine ⟨_, rfl, go_of (s := { s with heap := h', toks := tk }) (n := "range_iterator") st' rfl rfl (by decide) ⟨.int (lo + i), H, I1, ⟨t, ?_⟩, ⟨rfl, rfl⟩, st', fun b hb => (hf b hb).1⟩⟩
    rw [Int.mul_one]
  done := by
    intro X hP hw hK hc i pins s σ H E I hf st hg
    subst hP hw hK
    obtain ⟨f0, f1, f2, f3, f4, f5⟩ := hf it (by simp)
    exact wpAny_pyNext_range_end (I.ok.hd hc) st (by have : n ≤ i := hg; first | lia | omega) fun h' eb => ⟨rfl, I.turned (t' := s.toks) (fun b o hb e => eb b o hb e) f0 f1 f3 f4 f5⟩
  self := fun _ _ _ _ _ st h => wpAny_pyIter_rangeiter st h
end L2

namespace L2
open PySem PySem.Spec PyProof.Rows
section
variable {X : Cx} {tg : Expr}
def iList (K : PySem.W.Frag) (tl : TE) : TI := fun σ H R => tl σ H fun x H1 => ∃ a, x = .ref a ∧ (∃ xs, SqL K H1 a xs) ∧ R (Itl K a) H1
theorem pi_list {l : Expr} {tl : TE} (hl : PE X l tl) : PI X tg l (iList X.K tl) := by
  intro pins s σ H R I h
  refine thn (hl pins s σ H _ I h) fun v s1 ⟨x, H1, I1, r1, q1⟩ => ?_
  obtain ⟨a, e, ⟨xs, hq⟩, q⟩ := q1
  subst e
  cases r1
  obtain ⟨its, rv, p, hz⟩ := I1.list hq
  refine wpAny_pyIter_list p.isList ?_
  refine ⟨s1.heap.objs.size, [s1.heap.objs.size], _, _, H1, rfl, I1.kept (t' := s1.toks) fun b o e => Heap.get?_push_of_some _ e, turn_list a _, ⟨_, Heap.get?_push_size _ rfl, rfl, rfl⟩, fun b hb => ?_, q⟩
  have e : b = s1.heap.objs.size := by simpa using hb
  subst e
  exact I1.fpOk (Nat.le_refl _) (I1.hok.fresh (Nat.le_refl _))
/-- a range object just made, walked -/
theorem range_it {pins : List (Addr × Obj)} {σ : St} {H : Hp} {s : Shared} {R : It → Hp → Prop} {E : Value → Shared → Prop} {lo hi : Int} {t u v : Tok} {tk : Nat} (I : Inv X pins σ H s) (h1 : -(2 ^ 62) ≤ lo) (h2 : lo < 2 ^ 62) (h3 : -(2 ^ 62) ≤ hi) (h4 : hi < 2 ^ 62)
    (q : R (Itr lo (hi - lo).toNat) H) : wpAny (model X.prog X.w) X.A (pyIter (.ref s.heap.objs.size)) (PIE X pins σ tg R) E { s with heap := s.heap.push { cls := .type "range", data := .fields #[.int lo t, .int hi u, .int 1 v] }, toks := tk } := by
  refine wpAny_pyIter_range (IsRange.new ..) (small_one h1 h2 h3 h4) ?_
  have I1 : Inv X pins σ H { s with heap := s.heap.push { cls := .type "range", data := .fields #[.int lo t, .int hi u, .int 1 v] }, toks := tk } := I.kept fun b o e => Heap.get?_push_of_some _ e
  refine ⟨(s.heap.push { cls := .type "range", data := .fields #[.int lo t, .int hi u, .int 1 v] }).objs.size, [(s.heap.push { cls := .type "range", data := .fields #[.int lo t, .int hi u, .int 1 v] }).objs.size], _, _, H, rfl,
    I1.kept (t' := tk) fun b o e => Heap.get?_push_of_some _ e, turn_range _ lo (hi - lo).toNat, ?_, fun b hb => ?_, q⟩
  · have e1 : lo + ((0 : Nat) : Int) * 1 = lo := by simp
    have e2 : (((hi - lo).toNat : Nat) : Int) - ((0 : Nat) : Int) = Builtin.Range.rangeSize lo hi 1 := by rw [rangeSize_one]; split <;> first | lia | omega
    show IsRangeIter _ _ (lo + ((0 : Nat) : Int) * 1) ((((hi - lo).toNat : Nat) : Int) - ((0 : Nat) : Int)) 1
    rw [e1, e2]
    exact Heap.get?_push_size _ rfl
  · have e : b = (s.heap.push { cls := .type "range", data := .fields #[.int lo t, .int hi u, .int 1 v] }).objs.size := by simpa using hb
    subst e
    exact I1.fpOk (Nat.le_refl _) (I1.hok.fresh (Nat.le_refl _))
def iRng1 (ta : TA) : TI := fun σ H R => ta σ H fun vs H1 => ∃ j : Int, vs = [.int j] ∧ -(2 ^ 62) ≤ j ∧ j < 2 ^ 62 ∧ R (Itr 0 j.toNat) H1
theorem pi_range1 {a : Expr} {ta : TA} {p pos : Pos} (hg : Gl X "range") (hm : X.mg "range" = none) (ha : PA X [a] ta) (hs : starEach [a] X.env = [(false, eval a X.env)] := by rfl) : PI X tg (.Call (.Name "range" p) [a] [] pos) (iRng1 ta) := by
  intro pins s σ H R I h
  refine Call_ (ld_blt I hg hm boot_range (PyProof.Rows.callWith_type1 (thn (ha pos pins s σ H _ I h) fun us s1 ⟨vs, H1, I1, r1, q1⟩ => ?_) hs rfl))
  obtain ⟨j, e, q1, q2, q⟩ := q1
  subst e
  cases r1 with
  | cons r rr =>
    cases rr
    obtain ⟨t, rfl⟩ := r
    exact call_range_1 (range_it I1 (by first | lia | omega) (by first | lia | omega) q1 q2 (by simpa using q))
/-- W: the invariant by the turn and a measure; N: what the body is to reach -/
def tFor (wi : TI) (g : TG) (tb : TS) : TS := fun D σ H => wi σ H fun J H1 => ∃ W : Nat → Nat → St → Hp → Prop, (∃ m, W 0 m σ H1) ∧ ∀ i m σ H, W i m σ H →
  (J.stop i H ∧ D.nx σ H) ∨ (J.go i H ∧ ∃ N : St → Hp → Prop, (∀ σ' H', N σ' H' → ∃ m', m' < m ∧ W (i + 1) m' σ' H') ∧ ∀ x H', J.yld i H x H' → g x σ H' fun σ2 H2 => tb { D with nx := N, ct := N, bk := D.nx } σ2 H2)
/-- the records at fp as they stand -/
def pinsAt (fp : List Addr) (h : Heap) : List (Addr × Obj) := fp.filterMap fun b => (h.get? b).map fun o => (b, o)
theorem mem_pinsAt {fp : List Addr} {h : Heap} {b : Addr} {o : Obj} (hb : b ∈ fp) (e : h.get? b = some o) : (b, o) ∈ pinsAt fp h := List.mem_filterMap.mpr ⟨b, hb, by rw [e]; rfl⟩
theorem of_pinsAt {fp : List Addr} {h : Heap} {p : Addr × Obj} (hp : p ∈ pinsAt fp h) : p.1 ∈ fp ∧ h.get? p.1 = some p.2 := by
  obtain ⟨b, hb, e⟩ := List.mem_filterMap.mp hp
  cases q : h.get? b with
  | none => rw [q] at e; cases e
  | some o =>
    rw [q] at e
    have e' : (b, o) = p := Option.some.inj e
    subst e'
    exact ⟨hb, q⟩
theorem Inv.pinned {pins : List (Addr × Obj)} {σ : St} {H : Hp} {s : Shared} {fp : List Addr} (I : Inv X pins σ H s) (hf : ∀ b ∈ fp, FpOk X pins H b) (ho : ∀ b ∈ fp, ∃ o, s.heap.get? b = some o ∧ ∀ v, o.data ≠ .cell v) : Inv X (pins ++ pinsAt fp s.heap) σ H s :=
  I.pins_of fun p hp => (List.mem_append.mp hp).elim (fun z => I.pin p (List.mem_append_right _ z)) fun z => by
    obtain ⟨hb, e⟩ := of_pinsAt z
    obtain ⟨f0, f1, f2, _⟩ := hf p.1 hb
    obtain ⟨o, e', d⟩ := ho p.1 hb
    rw [e] at e'; cases e'
    exact ⟨e, f0, f1, f2, d⟩
theorem Inv.unpinned {pins pl : List (Addr × Obj)} {σ : St} {H : Hp} {s : Shared} (I : Inv X (pins ++ pl) σ H s) : Inv X pins σ H s := I.pins_of fun p hp => I.pin p (List.mem_append_right _ (List.mem_append_left _ hp))
theorem ps_for {iter : Expr} {body : List Stmt} {wi : TI} {g : TG} {tb : TS} {pos : Pos} (hp : PassesOwn (model X.prog X.w) X.A X.env X.xe) (hc : X.calm = true) (hi : PI X tg iter wi) (hg : PG X tg g) (hb : PSs X body tb)
    (hs : ∀ x, foldedSetIterable iter X.env x = pure x := by intro _; rfl) : PS X (.For tg iter body [] pos) (tFor wi g tb) := by
  intro pins s σ H D I h
  refine wpAny_For (thn (hi pins s σ H _ I h) fun v s1 h1 => thn h1 fun itv s2 h2 => ?_) hs
  obtain ⟨it, fp, tn, J, H2, e, I2, T, st2, f2, W, ⟨m0, w0⟩, turn⟩ := h2
  subst e
  -- what stays true of the iterator's objects through the loop
  have stat : ∀ {H' : Hp}, (∀ b ∈ fp, H' b = none) → ∀ b ∈ fp, FpOk X pins H' b := fun hn b hb => ⟨hn b hb, (f2 b hb).2⟩
  refine codeAny_forLoop_any (fun n s' => ∃ i σ' H', Inv X pins σ' H' s' ∧ tn i s'.heap ∧ (∀ b ∈ fp, H' b = none) ∧ W i n σ' H') ?_ m0 ⟨0, σ, H2, I2, st2, fun b hb => (f2 b hb).1, w0⟩
  rintro n s3 ⟨i, σ3, H3, I3, st3, fr3, w3⟩
  rcases turn i n σ3 H3 w3 with ⟨stop, qn⟩ | ⟨go, N, hN, step⟩
  · refine wpAny_passesOwn hp (thn (T.done X rfl rfl rfl hc i pins s3 σ3 H3 X.xe I3 (stat fr3) st3 stop) fun r s4 ⟨hr, I4⟩ => ?_)
    subst hr
    exact wpAny_execs_nil ⟨σ3, H3, I4, qn⟩
  · refine wpAny_passesOwn hp (thn (T.item X rfl rfl rfl hc i pins s3 σ3 H3 X.xe I3 (stat fr3) st3 go) fun r s4 ⟨u, hr, h4⟩ => ?_)
    subst hr
    refine wpAny_passesOwn hp (thn h4 fun _ s5 ⟨x, H5, I5, r5, y5, st5, fr5⟩ => ?_)
    have I5' := I5.pinned (stat fr5) (T.obj _ _ st5)
    refine wpAny_passesOwn hp (thn (hg _ s5 σ3 H5 x u _ I5' r5 (step x H5 y5)) fun _ s6 ⟨σ6, H6, I6, q6⟩ => ?_)
    refine wpAny_passesOwn hp (thn (hb _ s6 σ6 H6 _ I6 q6) fun f s7 q7 => ?_)
    have again : ∀ {σ7 : St} {H7 : Hp}, Inv X (pins ++ pinsAt fp s5.heap) σ7 H7 s7 → N σ7 H7 → ∃ m, m < n ∧ ∃ i σ' H', Inv X pins σ' H' s7 ∧ tn i s7.heap ∧ (∀ b ∈ fp, H' b = none) ∧ W i m σ' H' := fun {σ7 H7} I7 n7 => by
      obtain ⟨m', hm, w7⟩ := hN σ7 H7 n7
      refine ⟨m', hm, i + 1, σ7, H7, I7.unpinned, T.keep _ _ _ st5 fun b hb o e => (I7.pin (b, o) (List.mem_append_right _ (List.mem_append_right _ (mem_pinsAt hb e)))).1, fun b hb => ?_, w7⟩
      obtain ⟨o, e, d⟩ := T.obj _ _ st5 b hb
      exact (I7.pin (b, o) (List.mem_append_right _ (List.mem_append_right _ (mem_pinsAt hb e)))).2.1
    cases f with
    | next => obtain ⟨σ7, H7, I7, n7⟩ := q7; exact again I7 n7
    | cont => obtain ⟨σ7, H7, I7, n7⟩ := q7; exact again I7 n7
    | brk => obtain ⟨σ7, H7, I7, q7⟩ := q7; exact ⟨σ7, H7, I7.unpinned, q7⟩
    | ret v => obtain ⟨x7, σ7, H7, I7, r7, q7⟩ := q7; exact ⟨x7, σ7, H7, I7.unpinned, r7, q7⟩
end

/-- over a list that the body leaves as it is -/
theorem for_list {K : PySem.W.Frag} {a : Addr} {xs : List V} {g : TG} {tb : TS} {D : Ends} {σ : St} {H : Hp} (Pv : Nat → St → Hp → Prop) (h0 : Pv 0 σ H) (hl : ∀ i σ H, i ≤ xs.length → Pv i σ H → SqL K H a xs)
    (hs : ∀ i x σ H, xs[i]? = some x → Pv i σ H → g x σ H fun σ2 H2 => tb { D with nx := Pv (i + 1), ct := Pv (i + 1), bk := D.nx } σ2 H2) (hd : ∀ σ H, Pv xs.length σ H → D.nx σ H) :
    ∃ W : Nat → Nat → St → Hp → Prop, (∃ m, W 0 m σ H) ∧ ∀ i m σ H, W i m σ H →
      ((Itl K a).stop i H ∧ D.nx σ H) ∨ ((Itl K a).go i H ∧ ∃ N : St → Hp → Prop, (∀ σ' H', N σ' H' → ∃ m', m' < m ∧ W (i + 1) m' σ' H') ∧ ∀ x H', (Itl K a).yld i H x H' → g x σ H' fun σ2 H2 => tb { D with nx := N, ct := N, bk := D.nx } σ2 H2) := by
  refine ⟨fun i m σ H => m = xs.length - i ∧ i ≤ xs.length ∧ Pv i σ H, ⟨xs.length, by simp, Nat.zero_le _, h0⟩, ?_⟩
  rintro i m σ H ⟨rfl, hi, p⟩
  have q := hl i σ H hi p
  by_cases hlt : i < xs.length
  · refine .inr ⟨⟨xs, xs[i], q, by simp [hlt]⟩, Pv (i + 1), fun σ' H' p' => ⟨xs.length - (i + 1), by first | lia | omega, rfl, hlt, p'⟩, fun x H' y => ?_⟩
    obtain ⟨e, y⟩ := y
    subst e
    exact hs i x σ _ (y xs q) p
  · have e : i = xs.length := by first | lia | omega
    subst e
    exact .inl ⟨⟨xs, q, Nat.le_refl _⟩, hd σ H p⟩
theorem for_range {lo : Int} {n : Nat} {g : TG} {tb : TS} {D : Ends} {σ : St} {H : Hp} (Pv : Nat → St → Hp → Prop) (h0 : Pv 0 σ H)
    (hs : ∀ i σ H, i < n → Pv i σ H → g (.int (lo + i)) σ H fun σ2 H2 => tb { D with nx := Pv (i + 1), ct := Pv (i + 1), bk := D.nx } σ2 H2) (hd : ∀ σ H, Pv n σ H → D.nx σ H) :
    ∃ W : Nat → Nat → St → Hp → Prop, (∃ m, W 0 m σ H) ∧ ∀ i m σ H, W i m σ H →
      ((Itr lo n).stop i H ∧ D.nx σ H) ∨ ((Itr lo n).go i H ∧ ∃ N : St → Hp → Prop, (∀ σ' H', N σ' H' → ∃ m', m' < m ∧ W (i + 1) m' σ' H') ∧ ∀ x H', (Itr lo n).yld i H x H' → g x σ H' fun σ2 H2 => tb { D with nx := N, ct := N, bk := D.nx } σ2 H2) := by
  refine ⟨fun i m σ H => m = n - i ∧ i ≤ n ∧ Pv i σ H, ⟨n, by simp, Nat.zero_le _, h0⟩, ?_⟩
  rintro i m σ H ⟨rfl, hi, p⟩
  by_cases hlt : i < n
  · refine .inr ⟨hlt, Pv (i + 1), fun σ' H' p' => ⟨n - (i + 1), by first | lia | omega, rfl, hlt, p'⟩, fun x H' y => ?_⟩
    obtain ⟨e, y⟩ := y
    subst e y
    exact hs i σ _ hlt p
  · have e : i = n := by first | lia | omega
    subst e
    exact .inl ⟨Nat.le_refl _, hd σ H p⟩
end L2

namespace L2
open PySem PySem.Spec PyProof.Rows

abbrev R2 := V → V → Hp → VK → Prop
/-- a two-place operation on values: f is binaryOp op, inplaceOp op or compareOp op -/
def OpR (X : Cx) (f : Value → Value → Sem Value) (r : R2) : Prop :=
  ∀ (pins : List (Addr × Obj)) (s : Shared) (σ : St) (H : Hp) (x y : V) (v u : Value) (Q : VK), Inv X pins σ H s → RelV x v → RelV y u → r x y H Q →
    wpAny (model X.prog X.w) X.A (f v u) (EP X pins σ Q) X.xe s
/-- a one-place operation -/
def UnR (X : Cx) (f : Value → Sem Value) (r : V → Hp → VK → Prop) : Prop :=
  ∀ (pins : List (Addr × Obj)) (s : Shared) (σ : St) (H : Hp) (x : V) (v : Value) (Q : VK), Inv X pins σ H s → RelV x v → r x H Q →
    wpAny (model X.prog X.w) X.A (f v) (EP X pins σ Q) X.xe s
/-- a call of a value that is known (a builtin, a type) with values -/
def CallR (X : Cx) (f : Value) (r : List V → Hp → VK → Prop) : Prop :=
  ∀ (pins : List (Addr × Obj)) (s : Shared) (σ : St) (H : Hp) (xs : List V) (us : List Value) (Q : VK), Inv X pins σ H s → Vals xs us → r xs H Q →
    wpAny (model X.prog X.w) X.A (call f us) (EP X pins σ Q) X.xe s
def tOp (r : R2) (ta tb : TE) : TE := fun σ H Q => ta σ H fun x H1 => tb σ H1 fun y H2 => r x y H2 Q
def tUn (r : V → Hp → VK → Prop) (ta : TE) : TE := fun σ H Q => ta σ H fun x H1 => r x H1 Q
/-- ints in, under C, and a value out -/
def rI (C : Int → Int → Prop) (g : Int → Int → V) : R2 := fun x y H Q => ∃ i j, x = .int i ∧ y = .int j ∧ C i j ∧ Q (g i j) H
def rI0 (g : Int → Int → V) : R2 := fun x y H Q => ∃ i j, x = .int i ∧ y = .int j ∧ Q (g i j) H
def rU (g : Int → V) : V → Hp → VK → Prop := fun x H Q => ∃ i, x = .int i ∧ Q (g i) H

section
variable {X : Cx} {a b c : Expr} {ta tb tc : TE} {pos : Pos}

theorem binT (ha : PE X a ta) (hb : PE X b tb) {pins : List (Addr × Obj)} {s : Shared} {σ : St} {H : Hp} {R : V → V → Hp → Prop} (I : Inv X pins σ H s)
    (h : ta σ H fun x H1 => tb σ H1 fun y H2 => R x y H2) {Q : Value → Shared → Prop} {f : Value → Value → Sem Value}
    (hf : ∀ v u s2 x y H2, Inv X pins σ H2 s2 → RelV x v → RelV y u → R x y H2 → wpAny (model X.prog X.w) X.A (f v u) Q X.xe s2) :
    wpAny (model X.prog X.w) X.A (eval a X.env) (fun v s₁ => wpAny (model X.prog X.w) X.A (eval b X.env) (fun u s₂ => wpAny (model X.prog X.w) X.A (f v u) Q X.xe s₂) X.xe s₁) X.xe s := by
  refine thn (ha pins s σ H _ I h) fun v s1 ⟨x, H1, I1, r1, q1⟩ => ?_
  refine thn (hb pins s1 σ H1 _ I1 q1) fun u s2 ⟨y, H2, I2, r2, q2⟩ => ?_
  exact hf v u s2 x y H2 I2 r1 r2 q2

theorem pe_op {op : Operator} {r : R2} (ho : OpR X (binaryOp op) r) (ha : PE X a ta) (hb : PE X b tb) : PE X (.BinOp a op b pos) (tOp r ta tb) := by
  intro pins s σ H Q I h
  exact wpAny_BinOp (binT ha hb I h fun v u s2 x y H2 I2 rx ry q => ho pins s2 σ H2 x y v u Q I2 rx ry q)
theorem pe_un {op : UnaryOp} {r : V → Hp → VK → Prop} (ho : UnR X (unaryOp op) r) (ha : PE X a ta) : PE X (.UnaryOp op a pos) (tUn r ta) := by
  intro pins s σ H Q I h
  exact UnaryOp_ (thn (ha pins s σ H _ I h) fun v s1 ⟨x, H1, I1, r1, q1⟩ => ho pins s1 σ H1 x v Q I1 r1 q1)
theorem opI {f : Value → Value → Sem Value} {C : Int → Int → Prop} {g : Int → Int → Int}
    (rule : ∀ (i j : Int) (t u : Tok) (s : Shared) (Q : Value → Shared → Prop) (E : Value → Shared → Prop), C i j → Q (.int (g i j) s.toks) { s with toks := s.toks + 1 } → wpAny (model X.prog X.w) X.A (f (.int i t) (.int j u)) Q E s) :
    OpR X f (rI C fun i j => .int (g i j)) := by
  intro pins s σ H x y v u Q I rx ry h
  obtain ⟨i, j, rfl, rfl, hc, q⟩ := h
  obtain ⟨t, rfl⟩ := rx
  obtain ⟨t', rfl⟩ := ry
  exact rule i j t t' s _ _ hc ⟨.int (g i j), H, I.tok _, ⟨_, rfl⟩, q⟩
theorem opI0 {f : Value → Value → Sem Value} {g : Int → Int → Int}
    (rule : ∀ (i j : Int) (t u : Tok) (s : Shared) (Q : Value → Shared → Prop) (E : Value → Shared → Prop), Q (.int (g i j) s.toks) { s with toks := s.toks + 1 } → wpAny (model X.prog X.w) X.A (f (.int i t) (.int j u)) Q E s) :
    OpR X f (rI0 fun i j => .int (g i j)) := by
  intro pins s σ H x y v u Q I rx ry h
  obtain ⟨i, j, rfl, rfl, q⟩ := h
  obtain ⟨t, rfl⟩ := rx
  obtain ⟨t', rfl⟩ := ry
  exact rule i j t t' s _ _ ⟨.int (g i j), H, I.tok _, ⟨_, rfl⟩, q⟩
theorem opB0 {f : Value → Value → Sem Value} {g : Int → Int → Bool}
    (rule : ∀ (i j : Int) (t u : Tok) (s : Shared) (Q : Value → Shared → Prop) (E : Value → Shared → Prop), Q (.bool (g i j)) s → wpAny (model X.prog X.w) X.A (f (.int i t) (.int j u)) Q E s) :
    OpR X f (rI0 fun i j => .bl (g i j)) := by
  intro pins s σ H x y v u Q I rx ry h
  obtain ⟨i, j, rfl, rfl, q⟩ := h
  obtain ⟨t, rfl⟩ := rx
  obtain ⟨t', rfl⟩ := ry
  exact rule i j t t' s _ _ ⟨.bl (g i j), H, I, rfl, q⟩

def CPow (i j : Int) : Prop := 0 ≤ j ∧ j ≤ 1000000 ∧ i.natAbs < 2 ^ 64
theorem op_add : OpR X (binaryOp .Add) (rI0 fun i j => .int (i + j)) := opI0 fun _ _ _ _ _ _ _ q => add_int q
theorem op_sub : OpR X (binaryOp .Sub) (rI0 fun i j => .int (i - j)) := opI0 fun _ _ _ _ _ _ _ q => sub_int q
/-- % by a positive divisor of any size -/
theorem op_mod : OpR X (binaryOp .Mod) (rI (fun _ j => 0 < j) fun i j => .int (i % j)) := opI fun i j _ _ _ _ _ hc q => by
  have h1 : (0 : Int) < j := hc
  exact mod_int' (by first | lia | omega) (by rw [Int.fmod_eq_emod_of_nonneg i (by first | lia | omega)]; exact q)
theorem op_pow : OpR X (binaryOp .Pow) (rI CPow fun i j => .int (i ^ j.toNat)) := opI fun _ _ _ _ _ _ _ hc q => pow_int_small hc.1 hc.2.1 hc.2.2 q
theorem unI {f : Value → Sem Value} {g : Int → Int}
    (rule : ∀ (i : Int) (t : Tok) (s : Shared) (Q : Value → Shared → Prop) (E : Value → Shared → Prop), Q (.int (g i) s.toks) { s with toks := s.toks + 1 } → wpAny (model X.prog X.w) X.A (f (.int i t)) Q E s) :
    UnR X f (rU fun i => .int (g i)) := by
  intro pins s σ H x v Q I rx h
  obtain ⟨i, rfl, q⟩ := h
  obtain ⟨t, rfl⟩ := rx
  exact rule i t s _ _ ⟨.int (g i), H, I.tok _, ⟨_, rfl⟩, q⟩
theorem un_neg : UnR X (unaryOp .USub) (rU fun i => .int (-i)) := unI fun _ _ _ _ _ q => neg_int q
end

/-- the scalars that == tells apart as data does -/
def scal : V → V → Bool
  | .non, .non => true | .non, .int _ => true | .int _, .non => true | .non, .bl _ => true | .bl _, .non => true | .non, .str _ => true | .str _, .non => true
  | .int _, .int _ => true | .bl _, .bl _ => true | .str _, .str _ => true | .byt _, .byt _ => true
  | .int _, .str _ => true | .str _, .int _ => true | .bl _, .str _ => true | .str _, .bl _ => true
  | _, _ => false
def rEq : R2 := fun x y H Q => scal x y = true ∧ Q (.bl (decide (x = y))) H
def rNe : R2 := fun x y H Q => scal x y = true ∧ Q (.bl (!decide (x = y))) H

theorem dec_int {i j : Int} : decide (V.int i = V.int j) = (i == j) := by
  rw [Bool.eq_iff_iff]
  simp
theorem dec_bl {i j : Bool} : decide (V.bl i = V.bl j) = (i == j) := by
  rw [Bool.eq_iff_iff]
  simp
theorem dec_str {i j : Str} : decide (V.str i = V.str j) = (i == j) := by
  rw [Bool.eq_iff_iff]
  simp
theorem dec_byt {i j : Array UInt8} : decide (V.byt i = V.byt j) = (i.toList == j.toList) := by
  rw [Bool.eq_iff_iff]
  cases i
  cases j
  simp

section
variable {X : Cx} {a b c : Expr} {ta tb tc : TE} {pos : Pos}
theorem fin_bl {pins : List (Addr × Obj)} {σ : St} {H : Hp} {s : Shared} {Q : VK} {k k' : Bool} (I : Inv X pins σ H s) (q : Q (.bl k) H) (e : k = k') : EP X pins σ Q (.bool k') s := by
  subst e
  exact ⟨.bl k, H, I, rfl, q⟩
theorem op_eq : OpR X (compareOp .Eq) rEq := by
  intro pins s σ H x y v u Q I rx ry h
  obtain ⟨hs, q⟩ := h
  cases x with
  | non =>
    cases rx
    cases y with
    | non => cases ry; exact PySem.EqNone.eq_none_none (fin_bl I q (by simp))
    | bl j => cases ry; exact PySem.EqNone.eq_none_bool (fin_bl I q (by simp))
    | int j => obtain ⟨t', rfl⟩ := ry; exact PySem.EqNone.eq_none_int (fin_bl I q (by simp))
    | str j => obtain ⟨t', rfl⟩ := ry; exact PySem.EqNone.eq_none_str (fin_bl I q (by simp))
    | _ => exact absurd (show false = true from hs) Bool.false_ne_true
  | bl i =>
    cases rx
    cases y with
    | non => cases ry; exact PySem.EqNone.eq_bool_none (fin_bl I q (by simp))
    | bl j => cases ry; exact eq_bool (fin_bl I q dec_bl)
    | str j => obtain ⟨t', rfl⟩ := ry; exact PySem.EqMixed.eq_bool_str (fin_bl I q (by simp))
    | _ => exact absurd (show false = true from hs) Bool.false_ne_true
  | int i =>
    obtain ⟨t, rfl⟩ := rx
    cases y with
    | non => cases ry; exact PySem.EqNone.eq_int_none (fin_bl I q (by simp))
    | int j => obtain ⟨t', rfl⟩ := ry; exact eq_int (fin_bl I q dec_int)
    | str j => obtain ⟨t', rfl⟩ := ry; exact PySem.EqMixed.eq_int_str (fin_bl I q (by simp))
    | _ => exact absurd (show false = true from hs) Bool.false_ne_true
  | str i =>
    obtain ⟨t, rfl⟩ := rx
    cases y with
    | non => cases ry; exact PySem.EqNone.eq_str_none (fin_bl I q (by simp))
    | bl j => cases ry; exact PySem.EqMixed.eq_str_bool (fin_bl I q (by simp))
    | int j => obtain ⟨t', rfl⟩ := ry; exact PySem.EqMixed.eq_str_int (fin_bl I q (by simp))
    | str j => obtain ⟨t', rfl⟩ := ry; exact eq_str (fin_bl I q dec_str)
    | _ => exact absurd (show false = true from hs) Bool.false_ne_true
  | byt i =>
    obtain ⟨t, rfl⟩ := rx
    cases y with
    | byt j => obtain ⟨t', rfl⟩ := ry; exact PySem.W.eq_bytes (fin_bl I q dec_byt)
    | _ => exact absurd (show false = true from hs) Bool.false_ne_true
  | _ => cases y <;> exact absurd (show false = true from hs) Bool.false_ne_true
theorem op_ne : OpR X (compareOp .NotEq) rNe := by
  intro pins s σ H x y v u Q I rx ry h
  obtain ⟨hs, q⟩ := h
  cases x with
  | non =>
    cases rx
    cases y with
    | non => cases ry; exact PySem.EqNone.ne_none_none (fin_bl I q (by simp))
    | bl j => cases ry; exact PySem.EqNone.ne_none_bool (fin_bl I q (by simp))
    | int j => obtain ⟨t', rfl⟩ := ry; exact PySem.EqNone.ne_none_int (fin_bl I q (by simp))
    | str j => obtain ⟨t', rfl⟩ := ry; exact PySem.EqNone.ne_none_str (fin_bl I q (by simp))
    | _ => exact absurd (show false = true from hs) Bool.false_ne_true
  | bl i =>
    cases rx
    cases y with
    | non => cases ry; exact PySem.EqNone.ne_bool_none (fin_bl I q (by simp))
    | bl j => cases ry; exact ne_bool (fin_bl I q (congrArg not dec_bl))
    | str j => obtain ⟨t', rfl⟩ := ry; exact PySem.EqMixed.ne_bool_str (fin_bl I q (by simp))
    | _ => exact absurd (show false = true from hs) Bool.false_ne_true
  | int i =>
    obtain ⟨t, rfl⟩ := rx
    cases y with
    | non => cases ry; exact PySem.EqNone.ne_int_none (fin_bl I q (by simp))
    | int j => obtain ⟨t', rfl⟩ := ry; exact ne_int (fin_bl I q (congrArg not dec_int))
    | str j => obtain ⟨t', rfl⟩ := ry; exact PySem.EqMixed.ne_int_str (fin_bl I q (by simp))
    | _ => exact absurd (show false = true from hs) Bool.false_ne_true
  | str i =>
    obtain ⟨t, rfl⟩ := rx
    cases y with
    | non => cases ry; exact PySem.EqNone.ne_str_none (fin_bl I q (by simp))
    | bl j => cases ry; exact PySem.EqMixed.ne_str_bool (fin_bl I q (by simp))
    | int j => obtain ⟨t', rfl⟩ := ry; exact PySem.EqMixed.ne_str_int (fin_bl I q (by simp))
    | str j => obtain ⟨t', rfl⟩ := ry; exact ne_str (fin_bl I q (congrArg not dec_str))
    | _ => exact absurd (show false = true from hs) Bool.false_ne_true
  | byt i =>
    obtain ⟨t, rfl⟩ := rx
    cases y with
    | byt j => obtain ⟨t', rfl⟩ := ry; exact PySem.W.ne_bytes (fin_bl I q (congrArg not dec_byt))
    | _ => exact absurd (show false = true from hs) Bool.false_ne_true
  | _ => cases y <;> exact absurd (show false = true from hs) Bool.false_ne_true

theorem op_lt : OpR X (compareOp .Lt) (rI0 fun i j => .bl (decide (i < j))) := opB0 fun _ _ _ _ _ _ _ q => lt_int q
theorem op_le : OpR X (compareOp .LtE) (rI0 fun i j => .bl (decide (i ≤ j))) := opB0 fun _ _ _ _ _ _ _ q => le_int q
theorem op_gt : OpR X (compareOp .Gt) (rI0 fun i j => .bl (decide (j < i))) := opB0 fun _ _ _ _ _ _ _ q => gt_int q
theorem op_ge : OpR X (compareOp .GtE) (rI0 fun i j => .bl (decide (j ≤ i))) := opB0 fun _ _ _ _ _ _ _ q => ge_int q
/-- the one string within the other -/
theorem op_in_str : OpR X (compareOp .In) (fun x y H Q => ∃ i j, x = .str i ∧ y = .str j ∧ Q (.bl (!(Builtin.Str.occurrences j i 0 j.length 1).isEmpty)) H) := by
  intro pins s σ H x y v u Q I rx ry h
  obtain ⟨i, j, rfl, rfl, q⟩ := h
  obtain ⟨t, rfl⟩ := rx
  obtain ⟨t', rfl⟩ := ry
  exact in_str (fin_bl I q rfl)

/-- is None, is not None: the right side a value none -/
theorem op_isN : OpR X (compareOp .Is) (fun x y H Q => y = .non ∧ Q (.bl (decide (x = .non))) H) := by
  intro pins s σ H x y v u Q I rx ry h
  obtain ⟨rfl, q⟩ := h
  cases ry
  refine is_none_gen (fin_bl I q ?_)
  cases x <;> first
    | (cases rx; rfl)
    | (obtain ⟨t, rfl⟩ := rx; rfl)
theorem op_notN : OpR X (compareOp .IsNot) (fun x y H Q => y = .non ∧ Q (.bl (!decide (x = .non))) H) := by
  intro pins s σ H x y v u Q I rx ry h
  obtain ⟨rfl, q⟩ := h
  cases ry
  refine isnot_none_gen (fin_bl I q ?_)
  cases x <;> first
    | (cases rx; rfl)
    | (obtain ⟨t, rfl⟩ := rx; rfl)

theorem op_notin_str : OpR X (compareOp .NotIn) (fun x y H Q => ∃ i j, x = .str i ∧ y = .str j ∧ Q (.bl (!(!(Builtin.Str.occurrences j i 0 j.length 1).isEmpty))) H) := by
  intro pins s σ H x y v u Q I rx ry h
  obtain ⟨i, j, rfl, rfl, q⟩ := h
  obtain ⟨t, rfl⟩ := rx
  obtain ⟨t', rfl⟩ := ry
  exact notIn_str (fin_bl I q rfl)
theorem nomark (b : Expr) {op : CmpOp} (h : op ≠ .In := by decide) (h2 : op ≠ .NotIn := by decide) : behindInMarks op b = false := by
  have e1 : (op == CmpOp.In) = false := by cases op <;> first | rfl | exact absurd rfl h
  have e2 : (op == CmpOp.NotIn) = false := by cases op <;> first | rfl | exact absurd rfl h2
  cases b <;> simp [behindInMarks, e1, e2]
/-- a comparison as a value; hm: nomark b, or (for in, not in) by with_unfolding_all rfl -/
theorem pe_cmpR {op : CmpOp} {r : R2} (ho : OpR X (compareOp op) r) (ha : PE X a ta) (hb : PE X b tb) (hm : behindInMarks op b = false) : PE X (.Compare a [op] [b] pos) (tOp r ta tb) := by
  intro pins s σ H Q I h
  exact wpAny_Compare1 (binT ha hb I h fun v u s2 x y H2 I2 rx ry q => ho pins s2 σ H2 x y v u Q I2 rx ry q) hm
/-- a reading of a value as a test -/
def tTest (t : TE) : TT := fun σ H Q => t σ H fun x H' => ∃ k, x = .bl k ∧ Q k H'
theorem pt_cmpR {op : CmpOp} {r : R2} (ho : OpR X (compareOp op) r) (ha : PE X a ta) (hb : PE X b tb) (hm : behindInMarks op b = false) : PT X (.Compare a [op] [b] pos) (tTest (tOp r ta tb)) := by
  intro pins s σ H Q I h
  refine wpAny_isTrue_Compare1 (thn (ha pins s σ H _ I h) fun v s1 ⟨x, H1, I1, r1, q1⟩ => thn (hb pins s1 σ H1 _ I1 q1) fun u s2 ⟨y, H2, I2, r2, q2⟩ =>
    thn (ho pins s2 σ H2 x y v u _ I2 r1 r2 q2) fun c s3 ⟨z, H3, I3, r3, k, e, q3⟩ => ?_) hm
  subst e
  cases r3
  exact wpAny_truthy_bool ⟨H3, I3, q3⟩
/-- a op1 b op2 c -/
def tChain (r r' : R2) (ta tb tc : TE) : TE := fun σ H Q => ta σ H fun x H1 => tb σ H1 fun y H2 => r x y H2 fun z H3 => ∃ k, z = .bl k ∧
  (if k = true then tc σ H3 fun w' H4 => r' y w' H4 Q else Q (.bl false) H3)
theorem pe_chain {op op' : CmpOp} {r r' : R2} (ho : OpR X (compareOp op) r) (ho' : OpR X (compareOp op') r') (ha : PE X a ta) (hb : PE X b tb) (hc : PE X c tc)
    (hm : lastMarks [op, op'] [b, c] = false := by with_unfolding_all rfl) : PE X (.Compare a [op, op'] [b, c] pos) (tChain r r' ta tb tc) := by
  intro pins s σ H Q I h
  refine Compare_chain (thn (ha pins s σ H _ I h) fun v s1 ⟨x, H1, I1, r1, q1⟩ => chain_link (thn (hb pins s1 σ H1 _ I1 q1) fun u s2 ⟨y, H2, I2, r2, q2⟩ =>
    thn (ho pins s2 σ H2 x y v u _ I2 r1 r2 q2) fun d s3 ⟨z, H3, I3, r3, k, e, q3⟩ => ?_)) hm
  subst e
  cases r3
  refine wpAny_truthy_bool ?_
  cases k with
  | false => exact ite_ff ⟨.bl false, H3, I3, rfl, q3⟩
  | true => exact ite_tt (chain_last (thn (hc pins s3 σ H3 _ I3 q3) fun w' s4 ⟨z', H4, I4, r4, q4⟩ => ho' pins s4 σ H4 y z' u w' Q I4 r2 r4 q4))
theorem pt_chain {op op' : CmpOp} {r r' : R2} (ho : OpR X (compareOp op) r) (ho' : OpR X (compareOp op') r') (ha : PE X a ta) (hb : PE X b tb) (hc : PE X c tc)
    (hm : lastMarks [op, op'] [b, c] = false := by with_unfolding_all rfl) : PT X (.Compare a [op, op'] [b, c] pos) (tTest (tChain r r' ta tb tc)) := by
  intro pins s σ H Q I h
  refine isTrue_chain (thn (ha pins s σ H _ I h) fun v s1 ⟨x, H1, I1, r1, q1⟩ => test_link (thn (hb pins s1 σ H1 _ I1 q1) fun u s2 ⟨y, H2, I2, r2, q2⟩ =>
    thn (ho pins s2 σ H2 x y v u _ I2 r1 r2 q2) fun d s3 ⟨z, H3, I3, r3, k, e, q3⟩ => ?_)) hm
  subst e
  cases r3
  refine wpAny_truthy_bool ?_
  cases k with
  | false =>
    obtain ⟨k', e', q'⟩ := q3
    cases e'
    exact ite_ff ⟨H3, I3, q'⟩
  | true =>
    refine ite_tt (test_last (thn (hc pins s3 σ H3 _ I3 q3) fun w' s4 ⟨z', H4, I4, r4, q4⟩ => thn (ho' pins s4 σ H4 y z' u w' _ I4 r2 r4 q4) fun d' s5 ⟨z2, H5, I5, r5, k2, e2, q5⟩ => ?_))
    subst e2
    cases r5
    exact wpAny_truthy_bool ⟨H5, I5, q5⟩

theorem line63 : (sizeLine : Nat) < 2 ^ 63 := by rw [sizeLine_eq]; decide
theorem op_add_str : OpR X (binaryOp .Add) (fun x y H Q => ∃ i j, x = .str i ∧ y = .str j ∧ i.length + j.length ≤ sizeLine ∧ Q (.str (i ++ j)) H) := by
  intro pins s σ H x y v u Q I rx ry h
  obtain ⟨i, j, rfl, rfl, hz, q⟩ := h
  obtain ⟨t, rfl⟩ := rx
  obtain ⟨t', rfl⟩ := ry
  exact add_str (fun t' tk => ⟨.str (i ++ j), H, I.tok _, ⟨_, rfl⟩, q⟩) hz
def PlainIxT (b : Expr) : Prop := ∀ o i, subscripted b false o i = operate [o, i] (getItem o i)
/-- s[i], 0 ≤ i < len -/
theorem pe_item_str (ha : PE X a ta) (hb : PE X b tb) (hs : PlainIxT b) :
    PE X (.Subscript a b pos) (tOp (fun x y H Q => ∃ z i c, x = .str z ∧ y = .int i ∧ 0 ≤ i ∧ i < 2 ^ 63 ∧ i < z.length ∧ z.cps[i.toNat]? = some c ∧ Q (.str ⟨#[c]⟩) H) ta tb) := by
  intro pins s σ H Q I h
  refine Subscript_ (binT ha hb I h fun v u s2 x y H2 I2 rx ry q => ?_)
  obtain ⟨z, i, c, rfl, rfl, h0, h63, h1, hc, q⟩ := q
  obtain ⟨t, rfl⟩ := rx
  obtain ⟨t', rfl⟩ := ry
  have e : seqIndex? i z.length = some i.toNat := PySem.StrLaws.seqIndex_nonneg h0 h1
  exact tail_any (typeIs_str s2 z t) slot_str_getitem.lookup (getItem_str (c := c) (by
    have e1 : decide (i < -(2 ^ 63 : Int)) = false := decide_eq_false (by first | lia | omega)
    have e2 : decide (i ≥ 2 ^ 63) = false := decide_eq_false (by first | lia | omega)
    rw [e1, e2] <;> rfl) (by rw [e]; exact hc) ⟨.str ⟨#[c]⟩, H2, I2.tok _, ⟨_, rfl⟩, q⟩) (hs _ _)
theorem vals1 {x : V} {us : List Value} (r : Vals [x] us) : ∃ u, us = [u] ∧ RelV x u := by
  cases r with
  | cons r1 r2 => cases r2; exact ⟨_, rfl, r1⟩
theorem vals2 {x y : V} {us : List Value} (r : Vals [x, y] us) : ∃ u w', us = [u, w'] ∧ RelV x u ∧ RelV y w' := by
  cases r with
  | cons r1 r2 =>
    cases r2 with
    | cons r3 r4 => cases r4; exact ⟨_, _, rfl, r1, r3⟩
theorem call_abs : CallR X (.builtin "abs") (fun xs H Q => ∃ i, xs = [.int i] ∧ Q (.int (if i < 0 then -i else i)) H) := by
  intro pins s σ H xs us Q I r h
  obtain ⟨i, rfl, q⟩ := h
  obtain ⟨u, rfl, t, rfl⟩ := vals1 r
  exact call_abs_int fun u tk => ⟨.int (if i < 0 then -i else i), H, I.tok _, ⟨_, rfl⟩, q⟩
theorem call_max2 (hc : X.calm = true) : CallR X (.builtin "max") (fun xs H Q => ∃ i j, xs = [.int i, .int j] ∧ Q (.int (if j > i then j else i)) H) := by
  intro pins s σ H xs us Q I r h
  obtain ⟨i, j, rfl, q⟩ := h
  obtain ⟨u, w', rfl, ⟨t, rfl⟩, ⟨t', rfl⟩⟩ := vals2 r
  refine max_two_ints (I.ok.hd hc) fun h' tk k => ⟨_, H, I.kept k, ?_, q⟩
  by_cases hj : j > i
  · rw [if_pos hj, if_pos hj]; exact ⟨_, rfl⟩
  · rw [if_neg hj, if_neg hj]; exact ⟨_, rfl⟩
theorem call_int1 : CallR X (.type "int") (fun xs H Q => (∃ i, xs = [.int i] ∧ Q (.int i) H) ∨ ∃ k, xs = [.bl k] ∧ Q (.int (if k then 1 else 0)) H) := by
  intro pins s σ H xs us Q I r h
  rcases h with ⟨i, rfl, q⟩ | ⟨k, rfl, q⟩
  · obtain ⟨u, rfl, t, rfl⟩ := vals1 r
    exact call_int_int ⟨.int i, H, I, ⟨_, rfl⟩, q⟩
  · obtain ⟨u, rfl, r1⟩ := vals1 r
    cases r1
    exact call_int_bool ⟨.int (if k then 1 else 0), H, I.tok _, ⟨_, rfl⟩, q⟩
theorem call_str_int : CallR X (.type "str") (fun xs H Q => ∃ i, xs = [.int i] ∧ i.natAbs.log2 < 1920 ∧ Q (.str (toString i)) H) := by
  intro pins s σ H xs us Q I r h
  obtain ⟨i, rfl, hz, q⟩ := h
  obtain ⟨u, rfl, t, rfl⟩ := vals1 r
  exact PySem.P.str_of_int hz ⟨.str _, H, I.tok _, ⟨_, rfl⟩, q⟩
end
end L2

namespace L2
open PySem PySem.Spec PyProof.Rows

structure ObjM (h : Heap) (x dx C : Addr) (mA : Str → Option Value) : Prop where
  obj : h.get? x = some (PySem.W.instObj C dx)
  ns : h.Ns1 dx mA
  ne : dx ≠ x

theorem lookIn_ns {h : Heap} {dx : Addr} {mA : Str → Option Value} (n : h.Ns1 dx mA) : ∃ od, h.get? dx = some od ∧ ∀ name, PySem.W.lookIn name od = some (mA name) := by
  obtain ⟨o, es, ep, ho, hd, hk, _, hm⟩ := n
  refine ⟨o, ho, fun name => ?_⟩
  have e := hm name
  unfold nsFind findBy at e
  rw [← Array.find?_toList] at e
  unfold PySem.W.lookIn
  rw [hd]
  dsimp only
  split
  · rename_i y q
    rw [q] at e
    exact congrArg some e
  · rename_i q
    rw [q] at e
    have a : es.toList.any (·.refKey) = false := by
      rw [List.any_eq_false]
      intro y hy
      obtain ⟨z, t, hkey⟩ := hk y (Array.mem_toList_iff.mp hy)
      simp [DictEntry.refKey, hkey]
    have a' : ¬ es.toList.any (·.refKey) = true := by rw [a]; exact Bool.false_ne_true
    rw [if_neg a']
    exact congrArg some e

theorem ObjM.look {h : Heap} {x dx C : Addr} {mA : Str → Option Value} (I : ObjM h x dx C mA) : ∃ od, PySem.W.InstAt h x (PySem.W.instObj C dx) C (some od) ∧ ∀ name, PySem.W.lookIn name od = some (mA name) :=
  let ⟨od, ho, hl⟩ := lookIn_ns I.ns
  ⟨od, ⟨I.obj, rfl, rfl, ho⟩, hl⟩

section
variable {prog : Program} {w : World} {A : Around} {E : Value → Shared → Prop} {s : Shared} {K : PySem.W.Frag} {x dx C f : Addr} {mA : Str → Option Value} {name : Str} {v : Value}

theorem get_map {expr : Bool} {Q : Value → Shared → Prop} (X : K.In s.heap) (I : ObjM s.heap x dx C mA) (hg : PySem.W.plainGet K C name = true) (hh : PySem.W.hasDictIn K C = true)
    (ha : PySem.W.findIn K (.ref C) name = some none) (hv : mA name = some v) (hv' : PySem.W.handedIn v = true) (h : Q v { s with toks := s.toks + 1 }) :
    wpAny (model prog w) A (getAttr (.ref x) name expr) Q E s := by
  obtain ⟨od, J, hl⟩ := I.look
  exact PySem.W.get_value X J (PySem.W.plainGet_of hg).1 (PySem.W.findObj_own hh ha rfl (by rw [hl, hv])) hv' h

theorem set_map {ns : List Str} {Q : Unit → Shared → Prop} (X : K.In s.heap) (I : ObjM s.heap x dx C mA)
    (hs : PySem.W.findIn K (.ref C) "__setattr__" = some (some (.builtin "object.__setattr__"))) (hp : PySem.W.plainOver K C = true) (ht : PySem.W.takerIn K C name = some none) (hh : PySem.W.hasDictIn K C = true)
    (hw : PySem.Within mA ns) (hsz : ns.length ≤ sizeLine)
    (h : ∀ h', ObjM h' x dx C (fun y => if y = name then some v else mA y) → Heap.SameBut dx s.heap h' → Q () { s with heap := h', toks := s.toks + 2 }) :
    wpAny (model prog w) A (setAttr (.ref x) name v) Q E s := by
  obtain ⟨od, J, hl⟩ := I.look
  refine PySem.W.set_plain X J hs (PySem.W.osa_open (s := { s with toks := s.toks + 1 }) (r := none) X J hp ht fun b => ?_)
  obtain ⟨cd, hc, hd'⟩ := PySem.W.any_some hh
  have hx : s.heap.get? x = some ⟨.ref C, some dx, .plain, #[]⟩ := I.obj
  refine wpAny_bind (wpAny_pure (wpAny_bind (wpAny_bind (wpAny_loadPart hx (wpAny_bind (PySem.W.Looks.here (s := { s with toks := s.toks + 1 }) (PySem.W.looks_clsIn X hc) ?_))))))
  rw [hd']
  refine wpAny_pure (a := some dx) (wpAny_bind (wpAny_pure (wpAny_bind ?_)))
  refine wpAny_nsSet1 (s := { s with toks := s.toks + 1 }) I.ns fun h' hn2 hs2 => ?_
  obtain ⟨oD, esD, epD, hoD, hdD, hcD⟩ := hn2.count (PySem.Within.cons name v hw)
  refine wpAny_bind (wpAny_lookBehind hoD (by rw [hdD]; exact pastItsLine_dict (Nat.le_trans hcD (by rw [List.length_cons]; first | lia | omega))) ?_)
  exact wpAny_pure (h _ ⟨(hs2.2 _ (Ne.symm I.ne)).trans I.obj, hn2, I.ne⟩ hs2)

/-- C(..): the dict at the heap's end, the instance behind it; then its __init__ -/
theorem make_map {R : Result → Shared → Prop} {vs : List Value} {kw : List (Str × Value)} (X : K.In s.heap) (hm : PySem.W.makesIn K C = true)
    (hi : PySem.W.findIn K (.ref C) "__init__" = some (some (.ref f))) (hf : PySem.W.typeIn K (.ref f) = some (.type "function"))
    (h : codeAny (model prog w) (A.under (.builtin "type.__call__" ⟨.ref C :: vs, kw⟩)) (.call (.ref f) ⟨.ref (s.heap.objs.size + 1) :: vs, kw⟩) (PySem.W.InitBack (s.heap.objs.size + 1) R)
      { s with heap := (s.heap.push PySem.W.emptyDict).push (PySem.W.instObj C s.heap.objs.size) }) :
    codeAny (model prog w) A (.call (.ref C) ⟨vs, kw⟩) R s := by
  obtain ⟨hh, g, d, t, os⟩ := s
  exact PySem.W.make_core (PySem.W.makes_of X hm) (PySem.W.looks_findIn X hi) (fun self => PySem.W.bind_fn X self hf) (.inl rfl) h
end

def putF (f : Str) (v : V) : List (Str × V) → List (Str × V)
  | [] => [(f, v)]
  | (g, x) :: r => if g = f then (g, v) :: r else (g, x) :: putF f v r
theorem lookup_putF (f g : Str) (v : V) : ∀ fs : List (Str × V), (putF f v fs).lookup g = if g = f then some v else fs.lookup g
  | [] => by
    show List.lookup g [(f, v)] = _
    by_cases h : g = f
    · have hb : (g == f) = true := beq_iff_eq.mpr h
      simp only [List.lookup, hb, if_pos h]
    · have hb : (g == f) = false := beq_eq_false_iff_ne.mpr h
      simp only [List.lookup, hb, if_neg h]
  | (k, x) :: r => by
    have ih := lookup_putF f g v r
    rw [show putF f v ((k, x) :: r) = (if k = f then (k, v) :: r else (k, x) :: putF f v r) from rfl]
    by_cases hk : k = f
    · rw [if_pos hk]
      by_cases h : g = k
      · have hb : (g == k) = true := beq_iff_eq.mpr h
        simp only [List.lookup, hb, if_pos (h.trans hk)]
      · have hb : (g == k) = false := beq_eq_false_iff_ne.mpr h
        simp only [List.lookup, hb, if_neg (fun e : g = f => h (e.trans hk.symm))]
    · rw [if_neg hk]
      by_cases h : g = k
      · have hb : (g == k) = true := beq_iff_eq.mpr h
        simp only [List.lookup, hb, if_neg (fun e : g = f => hk (h.symm.trans e))]
      · have hb : (g == k) = false := beq_eq_false_iff_ne.mpr h
        simp only [List.lookup, hb]
        exact ih
theorem keys_putF (f : Str) (v : V) : ∀ fs : List (Str × V), f ∈ (putF f v fs).map (·.1) ∧ ∀ g, g ∈ fs.map (·.1) → g ∈ (putF f v fs).map (·.1)
  | [] => ⟨by simp [putF], fun g h => by simp at h⟩
  | (k, x) :: r => by
    obtain ⟨i1, i2⟩ := keys_putF f v r
    rw [show putF f v ((k, x) :: r) = (if k = f then (k, v) :: r else (k, x) :: putF f v r) from rfl]
    by_cases hk : k = f
    · rw [if_pos hk]
      subst hk
      exact ⟨by simp, fun g h => by simpa using h⟩
    · rw [if_neg hk]
      refine ⟨?_, fun g h => ?_⟩
      · rw [List.map_cons]
        exact List.mem_cons_of_mem _ i1
      · rw [List.map_cons] at h ⊢
        rcases List.mem_cons.mp h with e | e
        · exact List.mem_cons.mpr (.inl e)
        · exact List.mem_cons_of_mem _ (i2 g e)
theorem length_putF (f : Str) (v : V) : ∀ fs : List (Str × V), (putF f v fs).length ≤ fs.length + 1
  | [] => by simp [putF]
  | (k, x) :: r => by
    have ih := length_putF f v r
    rw [show putF f v ((k, x) :: r) = (if k = f then (k, v) :: r else (k, x) :: putF f v r) from rfl]
    by_cases hk : k = f
    · rw [if_pos hk, List.length_cons, List.length_cons]; first | lia | omega
    · rw [if_neg hk, List.length_cons, List.length_cons]; first | lia | omega

theorem RelO.some_of {v : V} {o : Option Value} (r : RelO (some v) o) : ∃ u, o = some u ∧ RelV v u := by
  cases o with
  | none => exact (show False from r).elim
  | some u => exact ⟨u, rfl, r⟩
theorem handed_of {v : V} {u : Value} (r : RelV v u) : PySem.W.handedIn u = true := by
  cases v with
  | non => cases (show u = Value.none from r); rfl
  | bl b => cases (show u = Value.bool b from r); rfl
  | int i => obtain ⟨t, e⟩ := (show ∃ t, u = Value.int i t from r); cases e; rfl
  | str x => obtain ⟨t, e⟩ := (show ∃ t, u = Value.str x t from r); cases e; rfl
  | byt b => obtain ⟨t, e⟩ := (show ∃ t, u = Value.bytes b t from r); cases e; rfl
  | flt b => obtain ⟨t, e⟩ := (show ∃ t, u = Value.float b t from r); cases e; rfl
  | ref a => cases (show u = Value.ref a from r); rfl
  | ty n => cases (show u = Value.type n from r); rfl

section
variable {P : Program} {w : World} {H H' : Hp} {h h' : Heap} {a C dx : Addr} {fs fs' : List (Str × V)}
theorem ins_get (hok : HOk P w H h) (e : H a = some (.ins C dx fs)) : ∃ mA, ObjM h a dx C mA ∧ (∀ f, RelO (fs.lookup f) (mA f)) ∧ PySem.Within mA (fs.map (·.1)) ∧ fs.length ≤ 1000 ∧ H dx = some (.own a) := by
  obtain ⟨d, z, ne, ob, mA, n, r, q⟩ := (show ObjOk P w H h a (.ins C dx fs) from hok a _ e)
  exact ⟨mA, ⟨ob, n, ne⟩, r, q, z, d⟩
end

structure Cls (K : PySem.W.Frag) (C : Addr) : Prop where
  pg : PySem.W.plainGet K C Str.empty = true
  hd : PySem.W.hasDictIn K C = true
  po : PySem.W.plainOver K C = true
  sa : PySem.W.findIn K (.ref C) "__setattr__" = some (some (.builtin "object.__setattr__"))
theorem Cls.get {K : PySem.W.Frag} {C : Addr} (c : Cls K C) (f : Str) : PySem.W.plainGet K C f = true := c.pg
/-- no class of it has the name -/
def NoAttr (K : PySem.W.Frag) (C : Addr) (f : Str) : Prop := PySem.W.findIn K (.ref C) f = some none
theorem NoAttr.taker {K : PySem.W.Frag} {C : Addr} {f : Str} (n : NoAttr K C f) : PySem.W.takerIn K C f = some none := by
  unfold PySem.W.takerIn
  rw [show PySem.W.findIn K (.ref C) f = some none from n]
  rfl
section
variable {X : Cx} {pins : List (Addr × Obj)} {σ : St} {H : Hp} {s : Shared} {a C dx : Addr} {fs : List (Str × V)} {f : Str} {v : V} {A : Around} {E : Value → Shared → Prop}

theorem getattr_ok {b : Bool} {Q : Value → Shared → Prop} (I : Inv X pins σ H s) (e : H a = some (.ins C dx fs)) (c : Cls X.K C) (n : NoAttr X.K C f) (l : fs.lookup f = some v)
    (h : ∀ u s', Inv X pins σ H s' → RelV v u → Q u s') : wpAny (model X.prog X.w) A (getAttr (.ref a) f b) Q E s := by
  obtain ⟨mA, O, r, _, _, _⟩ := ins_get I.hok e
  obtain ⟨u, hu, ru⟩ := RelO.some_of (v := v) (o := mA f) (by rw [← l]; exact r f)
  exact get_map I.kIn O (c.get f) c.hd n hu (handed_of ru) (h u _ (I.tok _) ru)

theorem setattr_ok {y : V} {u : Value} {Q : Unit → Shared → Prop} (I : Inv X pins σ H s) (e : H a = some (.ins C dx fs)) (c : Cls X.K C) (n : NoAttr X.K C f) (hl : fs.length < 1000) (ry : RelV y u)
    (h : ∀ s', Inv X pins σ (upd H a (.ins C dx (putF f y fs))) s' → Q () s') : wpAny (model X.prog X.w) A (setAttr (.ref a) f u) Q E s := by
  obtain ⟨mA, O, r, wi, _, ho⟩ := ins_get I.hok e
  have hz : (fs.map (·.1)).length ≤ sizeLine := by rw [List.length_map, sizeLine_eq]; first | lia | omega
  refine set_map I.kIn O c.sa c.po n.taker c.hd wi hz fun h' O' sb => h _ ?_
  have hd : ∃ o, h'.get? dx = some o := let ⟨o, _, _, e', _⟩ := O'.ns; ⟨o, e'⟩
  refine I.write (x := a) (e := dx) (by rw [e]; exact True.intro) (.inr ho) (fun b q hb z => (sb.2 b hb).trans z) hd ?_
  refine ⟨by rw [upd_ne O.ne]; exact ho, ?_, O.ne, O'.obj, _, O'.ns, fun g => ?_, fun g hg => ?_⟩
  · have := length_putF f y fs; first | lia | omega
  · show RelO ((putF f y fs).lookup g) (if g = f then some u else mA g)
    rw [lookup_putF]
    by_cases q : g = f
    · rw [if_pos q, if_pos q]; exact ry
    · rw [if_neg q, if_neg q]; exact r g
  · by_cases q : g = f
    · rw [q]; exact (keys_putF f y fs).1
    · refine (keys_putF f y fs).2 g (wi g fun z => hg ?_)
      show (if g = f then some u else mA g) = none
      rw [if_neg q]; exact z

/-- a new instance, tracked, without attributes -/
theorem Inv.made (I : Inv X pins σ H s) : Inv X pins σ (upd (upd H s.heap.objs.size (.own (s.heap.objs.size + 1))) (s.heap.objs.size + 1) (.ins C s.heap.objs.size []))
    { s with heap := (s.heap.push PySem.W.emptyDict).push (PySem.W.instObj C s.heap.objs.size) } := by
  have e1 : (s.heap.push PySem.W.emptyDict).get? s.heap.objs.size = some PySem.W.emptyDict := Heap.get?_push_size s.heap rfl
  have e2 : ((s.heap.push PySem.W.emptyDict).push (PySem.W.instObj C s.heap.objs.size)).get? (s.heap.objs.size + 1) = some (PySem.W.instObj C s.heap.objs.size) := by
    have := Heap.get?_push_size (s.heap.push PySem.W.emptyDict) (o := PySem.W.instObj C s.heap.objs.size) rfl
    rwa [Heap.size_push] at this
  have e3 : (s.heap.push PySem.W.emptyDict).Ns s.heap.objs.size (fun _ => none) := ⟨PySem.W.emptyDict, #[], _, e1, rfl, (fun e he => absurd he (by simp)), fun _ => rfl⟩
  have I1 := I.laid (a := s.heap.objs.size) (o := .own (s.heap.objs.size + 1)) (h' := s.heap.push PySem.W.emptyDict) (t' := s.toks) (fun b u q => Heap.get?_push_of_some _ q) (Nat.le_refl _) ⟨_, e1⟩
  refine I1.laid (a := s.heap.objs.size + 1) (o := .ins C s.heap.objs.size []) (t' := s.toks) (fun b u q => Heap.get?_push_of_some _ q) (Nat.le_of_eq (Heap.size_push _ _)) ?_
  have ne : s.heap.objs.size ≠ s.heap.objs.size + 1 := Nat.ne_of_lt (Nat.lt_succ_self _)
  refine ⟨by rw [upd_ne ne, upd_same], Nat.zero_le _, ne, e2, fun _ => none, (Heap.Ns1.of_empty e3).at fun o q => Heap.get?_push_of_some _ q, fun _ => True.intro, fun y hy => absurd rfl hy⟩

/-- e.f where nothing but the object is asked: through attributeBase (super) and the last hold -/
theorem attr_of {prog : Program} {w : World} {env : Env} {e : Expr} {f : Str} {pos : Pos} {s : Shared} {Q : Value → Shared → Prop} (hb : attributeBase e f env (eval e env) = eval e env)
    (h : wpAny (model prog w) A (eval e env) (fun o s₁ => wpAny (model prog w) A (getAttr o f true) Q E s₁) E s) : wpAny (model prog w) A (eval (.Attribute e f pos) env) Q E s :=
  Attribute_any_ h (by rw [arm_eval_Attribute, hb])
end

/-- e.f, an attribute of the instance -/
def tFld (K : PySem.W.Frag) (ta : TE) (f : Str) : TE := fun σ H Q => ta σ H fun x H1 => ∃ a C dx fs v, x = .ref a ∧ H1 a = some (.ins C dx fs) ∧ Cls K C ∧ NoAttr K C f ∧ fs.lookup f = some v ∧ Q v H1
/-- e.f = value -/
def sFld (K : PySem.W.Frag) (ta tv : TE) (f : Str) : TS := fun D σ H => tv σ H fun y H1 => ta σ H1 fun x H2 => ∃ a C dx fs, x = .ref a ∧ H2 a = some (.ins C dx fs) ∧ Cls K C ∧ NoAttr K C f ∧ fs.length < 1000 ∧
  D.nx σ (upd H2 a (.ins C dx (putF f y fs)))
section
variable {X : Cx} {o e value : Expr} {f : Str} {pos pos' tpos : Pos} {ta tv : TE}
theorem pe_fld (he : PE X e ta) (hb : attributeBase e f X.env (eval e X.env) = eval e X.env) : PE X (.Attribute e f pos) (tFld X.K ta f) := by
  intro pins s σ H Q I h
  refine attr_of hb (thn (he pins s σ H _ I h) fun u s1 ⟨x, H1, I1, rx, a, C, dx, fs, v, ex, ea, c, n, l, q⟩ => ?_)
  subst ex
  obtain rfl : u = Value.ref a := rx
  exact getattr_ok I1 ea c n l fun u' s2 I2 ru => ⟨v, H1, I2, ru, q⟩
theorem ps_fld (ha : PE X o ta) (hv : PE X value tv) (hs : swapsWith value (some (.Attribute o f pos')) pos.line X.env = pure false) : PS X (.Assign [.Attribute o f pos'] value pos) (sFld X.K ta tv f) := by
  intro pins s σ H D I h
  refine plainObj_wpAny_Assign_Attribute (thn (hv pins s σ H _ I h) fun u s1 ⟨y, H1, I1, ry, q⟩ => thn (ha pins s1 σ H1 _ I1 q) fun ov s2 ⟨x, H2, I2, rx, a, C, dx, fs, ex, ea, c, n, l, q2⟩ => ?_) hs
  subst ex
  obtain rfl : ov = Value.ref a := rx
  exact setattr_ok I2 ea c n l ry fun s3 I3 => ⟨σ, _, I3, q2⟩
end

section
variable {X : Cx} {pins : List (Addr × Obj)} {σ : St} {H : Hp} {s : Shared} {A : Around} {E : Value → Shared → Prop} {Q : Value → Shared → Prop} {c : Value} {b : Bool}
/-- the type of a value, as the fragment's deciders take it; for an instance its class -/
inductive TyOf (K : PySem.W.Frag) (H : Hp) : V → Value → Prop where
  | non : TyOf K H .non (.type "NoneType")
  | bl (x : Bool) : TyOf K H (.bl x) (.type "bool")
  | int (i : Int) : TyOf K H (.int i) (.type "int")
  | str (x : Str) : TyOf K H (.str x) (.type "str")
  | flt (x : UInt64) : TyOf K H (.flt x) (.type "float")
  | lst {a : Addr} {xs : List V} (e : H a = some (.lst xs)) : TyOf K H (.ref a) (.type "list")
  | frz {a : Addr} {o : Obj} {xs : List V} (e : H a = some (.frz o (.lst xs))) : TyOf K H (.ref a) (.type "list")
  | tup {a : Addr} {xs : List V} (e : H a = some (.tup xs)) : TyOf K H (.ref a) (.type "tuple")
  | dK {a : Addr} {kvs : List (Key × V)} (e : H a = some (.dK kvs)) : TyOf K H (.ref a) (.type "dict")
  | dT {a : Addr} {kvs : List (List Key × V)} (e : H a = some (.dT kvs)) : TyOf K H (.ref a) (.type "dict")
  | ins {a C dx : Addr} {fs : List (Str × V)} (e : H a = some (.ins C dx fs)) (cl : Cls K C) (ha : PySem.W.findIn K (.ref C) "__class__" = some (some (.builtin "object.__class__")))
      (hn : PySem.W.specialIn K (.builtin "object.__class__") "__get__" = some (some (.builtin "getset_descriptor.__get__"))) (htk : PySem.W.takesIn K (.builtin "object.__class__") = some true)
      (hm : PySem.W.mroIn K C (.type "object") = some true) : TyOf K H (.ref a) (.ref C)
/-- isinstance(x, c) for one class c, a built-in or an own one: kitOne's answer -/
theorem isinst_ok {x : V} {u t : Value} (I : Inv X pins σ H s) (rx : RelV x u) (ty : TyOf X.K H x t) (e : PySem.W.kitOne X.K t c = some b) (h : ∀ tk, Q (.bool b) { s with toks := tk }) :
    wpAny (model X.prog X.w) A (call (.builtin "isinstance") [u, c]) Q E s := by
  cases ty with
  | non => cases (show u = Value.none from rx); exact PySem.W.kia_one PySem.W.kitx_none I.kIn True.intro e (fun z => nomatch z) h
  | bl y => cases (show u = Value.bool y from rx); exact PySem.W.kia_one PySem.W.kitx_bool I.kIn True.intro e (fun z => nomatch z) h
  | int i => obtain ⟨t, q⟩ := (show ∃ t, u = Value.int i t from rx); cases q; exact PySem.W.kia_one PySem.W.kitx_int I.kIn True.intro e (fun z => nomatch z) h
  | str y => obtain ⟨t, q⟩ := (show ∃ t, u = Value.str y t from rx); cases q; exact PySem.W.kia_one PySem.W.kitx_str I.kIn True.intro e (fun z => nomatch z) h
  | flt y => obtain ⟨t, q⟩ := (show ∃ t, u = Value.float y t from rx); cases q; exact PySem.W.kia_one PySem.W.kitx_float I.kIn True.intro e (fun z => nomatch z) h
  | @lst a xs ea =>
    cases (show u = Value.ref a from rx)
    obtain ⟨_, _, n, _, h1⟩ := (show ObjOk X.prog X.w H s.heap a (.lst xs) from I.hok a _ ea)
    exact PySem.W.kia_one PySem.W.kitx_list I.kIn ⟨_, h1, rfl⟩ e (fun z => nomatch z) h
  | @frz a ob xs ea =>
    cases (show u = Value.ref a from rx)
    obtain ⟨_, _, _, n, _, h1⟩ := (show ObjOk X.prog X.w H s.heap a (.frz ob (.lst xs)) from I.hok a _ ea)
    exact PySem.W.kia_one PySem.W.kitx_list I.kIn ⟨_, h1, rfl⟩ e (fun z => nomatch z) h
  | @tup a xs ea =>
    cases (show u = Value.ref a from rx)
    obtain ⟨_, _, _, p⟩ := (show ObjOk X.prog X.w H s.heap a (.tup xs) from I.hok a _ ea)
    obtain ⟨o, h1, h2, _⟩ := p
    exact PySem.W.kia_one PySem.W.kitx_tuple I.kIn ⟨o, h1, h2⟩ e (fun z => nomatch z) h
  | @dK a kvs ea =>
    cases (show u = Value.ref a from rx)
    obtain ⟨_, _, vs, _, p⟩ := (show ObjOk X.prog X.w H s.heap a (.dK kvs) from I.hok a _ ea)
    obtain ⟨o, es, ep, h1, h2, _⟩ := p
    exact PySem.W.kia_one PySem.W.kitx_dict I.kIn ⟨o, h1, h2.1⟩ e (fun z => nomatch z) h
  | @dT a kvs ea =>
    cases (show u = Value.ref a from rx)
    obtain ⟨_, _, xs, _, o, es, ep, h1, h2, _⟩ := (show ObjOk X.prog X.w H s.heap a (.dT kvs) from I.hok a _ ea)
    exact PySem.W.kia_one PySem.W.kitx_dict I.kIn ⟨o, h1, h2.1⟩ e (fun z => nomatch z) h
  | @ins a C dx fs ea cl ha hn htk hm =>
    cases (show u = Value.ref a from rx)
    obtain ⟨mA, O, _⟩ := ins_get I.hok ea
    obtain ⟨od, J, _⟩ := O.look
    exact PySem.W.kia_one (PySem.W.kitx_own (cl.get _) cl.hd ha hn htk hm) I.kIn J e (fun z => nomatch z) h
end
end L2

namespace L2
open PySem PySem.Spec PyProof.Rows

structure Room (k : Nat) (A : Around) : Prop where
  hd : A.handled = none
  dp : A.depth + 3 * k + 5 < recursionLimit
  un : A.units + 16 * k + 200 < cLine
theorem Room.mono {j k : Nat} {A : Around} (r : Room k A) (h : j ≤ k) : Room j A := ⟨r.hd, by have := r.dp; first | lia | omega, by have := r.un; first | lia | omega⟩
theorem Room.deeper {k : Nat} {A : Around} (r : Room (k + 1) A) (env : Env) : Room k (A.deeper env) :=
  ⟨r.hd, by have := r.dp; show A.depth + 1 + 3 * k + 5 < _; first | lia | omega, by have := r.un; show A.units + 3 + 16 * k + 200 < _; first | lia | omega⟩
theorem make_depth {A : Around} {C : Addr} {us : List Value} {kw : List (Str × Value)} : (A.under (.builtin "type.__call__" ⟨.ref C :: us, kw⟩)).depth = A.depth + 1 := by
  first | rfl | simp [Around.under, Code.weight, Code.isCreation, Code.isGuard, Code.isCaller, Code.frames, Code.isFrame, guardIds]
theorem make_units {A : Around} {C : Addr} {us : List Value} {kw : List (Str × Value)} : (A.under (.builtin "type.__call__" ⟨.ref C :: us, kw⟩)).units = A.units + 1 := by
  first | rfl | simp [Around.under, Code.cUnits, Code.frames, Code.isFrame]
theorem Room.make {k : Nat} {A : Around} (r : Room (k + 1) A) (C : Addr) (us : List Value) (kw : List (Str × Value)) : Room k (A.under (.builtin "type.__call__" ⟨.ref C :: us, kw⟩)) :=
  ⟨r.hd, by have := r.dp; rw [make_depth]; first | lia | omega, by have := r.un; rw [make_units]; first | lia | omega⟩
theorem Room.depth {k : Nat} {A : Around} (r : Room k A) : A.depth < recursionLimit := by have := r.dp; first | lia | omega
theorem Room.units {k : Nat} {A : Around} (r : Room k A) : A.units + 64 < cLine := by have := r.un; first | lia | omega
def tNil : TA := fun _ H Q => Q [] H
def tCons (ta : TE) (tr : TA) : TA := fun σ H Q => ta σ H fun x H1 => tr σ H1 fun xs H2 => Q (x :: xs) H2
section
variable {X : Cx} {e : Expr} {es : List Expr} {te : TE} {t : TA} {pos : Pos}
theorem pa_nil : PA X [] tNil := fun _ _ _ _ H Q I h => Calls.spliced_nil ⟨[], H, I, .nil, h⟩
theorem pa_cons (ha : PE X e te) (hr : PA X es t) (hs : starEach (e :: es) X.env = (false, eval e X.env) :: starEach es X.env := by rfl) : PA X (e :: es) (tCons te t) := by
  intro pos pins s σ H Q I h
  rw [hs]
  show wpAny _ _ (spliced ((false, eval e X.env) :: backTo pos (starEach es X.env))) _ _ s
  refine Calls.spliced_cons (thn (ha pins s σ H _ I h) fun u s1 ⟨x, H1, I1, r1, q1⟩ => ?_)
  exact thn (hr pos pins s1 σ H1 _ I1 q1) fun us s2 ⟨xs, H2, I2, r2, q2⟩ => ⟨x :: xs, H2, I2, .cons r1 r2, q2⟩

/-- a tuple, a list of written items -/
def tTup (t : TA) : TE := fun σ H Q => t σ H fun xs H1 => xs.length ≤ sizeLine ∧ ∀ p, H1 p = none → Q (.ref p) (upd H1 p (.tup xs))
def tLst (t : TA) : TE := fun σ H Q => t σ H fun xs H1 => xs.length ≤ sizeLine ∧ ∀ p, H1 p = none → Q (.ref p) (upd H1 p (.lst xs))
theorem pe_tup {x1} (h : PA X es t) : PE X (.Tuple es x1 pos) (tTup t) := by
  intro pins s σ H Q I hq
  refine wpAny_Tuple_spliced (thn (h pos pins s σ H _ I hq) fun us s1 ⟨xs, H1, I1, r, z, q⟩ => ⟨by rw [← r.length]; exact z, ?_⟩)
  have hf : H1 s1.heap.objs.size = none := I1.hok.fresh (Nat.le_refl _)
  refine ⟨.ref s1.heap.objs.size, upd H1 s1.heap.objs.size (.tup xs), I1.laid (t' := s1.toks) (fun b u e => Heap.get?_push_of_some _ e) (Nat.le_refl _) ?_, rfl, q _ hf⟩
  exact ⟨z, us, r, ⟨_, Heap.get?_push_size _ rfl, rfl, _, rfl⟩⟩
theorem pe_lst (h : PA X es t) : PE X (.List es pos) (tLst t) := by
  intro pins s σ H Q I hq
  refine wpAny_List_spliced (thn (h pos pins s σ H _ I hq) fun us s1 ⟨xs, H1, I1, r, z, q⟩ => ⟨by rw [← r.length]; exact z, ?_⟩)
  have hf : H1 s1.heap.objs.size = none := I1.hok.fresh (Nat.le_refl _)
  refine ⟨.ref s1.heap.objs.size, upd H1 s1.heap.objs.size (.lst xs), I1.laid (t' := s1.toks) (fun b u e => Heap.get?_push_of_some _ e) (Nat.le_refl _) ?_, rfl, q _ hf⟩
  exact ⟨z, us, 0, r, Heap.get?_push_size _ rfl⟩
end

/-- a def's promise: the bound arguments in the parameters' order, the heap, the wanted end, the wanted exception -/
abbrev Sp := List V → Hp → VK → XK → Prop
/-- how an exception lies behind a call (file 08 gives it): the callers' frames, abstract heap and state ahead of the call, the wish, the exception, the state -/
abbrev CXT := List Env → Hp → Shared → XK → Value → Shared → Prop

/-- the state at a call -/
structure Env0 (P : Program) (w : World) (K : PySem.W.Frag) (mg : Str → Option Value) (base : Heap) (A : Around) (outer : List Env) (s : Shared) (H : Hp) : Prop where
  frames : A.frames = some outer
  mod : Mod K mg base
  bs : ∀ b o, base.get? b = some o → s.heap.get? b = some o ∧ H b = none
  bsz : base.objs.size ≤ s.heap.objs.size
  funs : s.heap.FunFrames base outer
  frf : ∀ b ∈ frs outer, H b = none
  hok : HOk P w H s.heap
  bare : AllBare s.gens
/-- a call's end -/
def CE (outer : List Env) (P : Program) (w : World) (H : Hp) (s : Shared) (Q : VK) (u : Value) (s' : Shared) : Prop :=
  ∃ v H', s'.os = s.os ∧ AllBare s'.gens ∧ Un (frs outer) [] H H' s.heap s'.heap ∧ HOk P w H' s'.heap ∧ RelV v u ∧ Q v H'
def CR (CX : CXT) (outer : List Env) (P : Program) (w : World) (H : Hp) (s : Shared) (Q : VK) (E : XK) (r : Result) (s' : Shared) : Prop :=
  match r with
  | .ok (.ret u) => CE outer P w H s Q u s'
  | .ok _ => False
  | .error e => CX outer H s E e s'
structure FnOk (P : Program) (w : World) (K : PySem.W.Frag) (mg : Str → Option Value) (base : Heap) (CX : CXT) (k : Nat) (f : Addr) (fd : FuncData) (ps : List Str) (sp : Sp) : Prop where
  len : ∀ vs H Q E, sp vs H Q E → vs.length = ps.length
  run : ∀ (A : Around) (outer : List Env) (s : Shared) (H : Hp) (args : Args) (us : List Value) (vs : List V) (Q : VK) (E : XK), Room k A → Env0 P w K mg base A outer s H → BindsTo s fd args (ps.zip us) → Vals vs us → sp vs H Q E →
    codeAny (model P w) A (.call (.ref f) args) (CR CX outer P w H s Q E) s
theorem Env0.make {P : Program} {w : World} {K : PySem.W.Frag} {mg : Str → Option Value} {base : Heap} {A : Around} {outer : List Env} {s : Shared} {H : Hp} (e : Env0 P w K mg base A outer s H) (C : Addr) (us : List Value) (kw : List (Str × Value)) :
    Env0 P w K mg base (A.under (.builtin "type.__call__" ⟨.ref C :: us, kw⟩)) outer s H := ⟨by first | exact e.frames | (simpa [Around.under, Code.envs, Code.isFrame, pushEnvs] using e.frames), e.mod, e.bs, e.bsz, e.funs, e.frf, e.hok, e.bare⟩
section
variable {X : Cx} {pins : List (Addr × Obj)} {σ : St} {H : Hp} {s s' : Shared}
/-- from a body: what a callee wants -/
theorem Inv.env0 (I : Inv X pins σ H s) : Env0 X.prog X.w X.K X.mg X.base X.A X.stack s H :=
  ⟨I.ok.frames, I.ok.mod, I.bs, Nat.le_trans I.ok.bsz I.sz, I.stack, I.stkFree, I.hok, I.bare⟩
/-- behind a call -/
theorem Inv.after {Q : VK} {u : Value} (I : Inv X pins σ H s) (h : CE X.stack X.prog X.w H s Q u s') : EP X pins σ Q u s' := by
  obtain ⟨v, H', os, bare, un, hok, r, q⟩ := h
  obtain ⟨hh, g, d, t, os'⟩ := s'
  obtain rfl : os' = s.os := os
  exact ⟨v, H', I.call (h' := hh) (g' := g) (d' := d) (t' := t) (ch := []) un hok bare (fun b z => absurd z (by simp)), r, q⟩
end

/-- f(..): the written arguments, then the defaults dvs; E: what is wanted of an exception -/
def tCall (sp : Sp) (dvs : List V) (E : XK) (t : TA) : TE := fun σ H Q => t σ H fun vs H1 => sp (vs ++ dvs) H1 Q E
/-- C(..): a new instance and its dict, then __init__ -/
def tMake (C : Addr) (sp : Sp) (dvs : List V) (E : XK) (t : TA) : TE := fun σ H Q => t σ H fun vs H1 => ∀ x dx, H1 x = none → H1 dx = none → dx ≠ x →
  sp (.ref x :: (vs ++ dvs)) (upd (upd H1 dx (.own x)) x (.ins C dx [])) (fun v H2 => v = .non ∧ Q (.ref x) H2) E

/-- how the parameters are bound: us the positional arguments, kw the keywords' values by name, ds the defaults that fill up -/
def Binds (K : PySem.W.Frag) (fd : FuncData) (ps : List Str) (ds : List Value) : Prop :=
  ∀ (s : Shared) (us : List Value), K.In s.heap → (us ++ ds).length = ps.length → BindsTo s fd ⟨us, []⟩ (ps.zip (us ++ ds))
/-- every parameter is given -/
theorem Binds.all {K : PySem.W.Frag} {fd : FuncData} {ps : List Str} (h : ∀ us : List Value, us.length = ps.length → bindArgs fd ⟨us, []⟩ = pure (ps.zip us)) : Binds K fd ps [] := fun s us _ hl => by
  rw [List.append_nil] at hl ⊢
  exact .of_eq (h us hl)

/-- an exception of a callee reaches what this body wants of exceptions -/
def Passes (CX : CXT) (X : Cx) (E : XK) : Prop := ∀ (pins : List (Addr × Obj)) (σ : St) (H : Hp) (s : Shared) (e : Value) (s' : Shared), Inv X pins σ H s → CX X.stack H s E e s' → X.xe e s'

section
variable {X : Cx} {CX : CXT} {k : Nat} {f C : Addr} {fd : FuncData} {ps : List Str} {sp : Sp} {dvs : List V} {ds : List Value} {E : XK} {x m : Str} {p pos apos : Pos} {e o : Expr} {es : List Expr} {ta : TE} {t : TA}

/-- the callee runs -/
theorem run_fn {pins : List (Addr × Obj)} {σ : St} {H : Hp} {s : Shared} {Q : VK} {us : List Value} {vs : List V} (F : FnOk X.prog X.w X.K X.mg X.base CX k f fd ps sp) (hr : Room k X.A) (hb : Binds X.K fd ps ds) (hd : Vals dvs ds) (hx : Passes CX X E)
    (I : Inv X pins σ H s) (r : Vals vs us) (h : sp (vs ++ dvs) H Q E) : wpAny (model X.prog X.w) X.A (call (.ref f) us) (EP X pins σ Q) X.xe s := by
  have r2 : Vals (vs ++ dvs) (us ++ ds) := r.append hd
  have hl : (us ++ ds).length = ps.length := by rw [← r2.length]; exact F.len _ _ _ _ h
  refine wpAny_call (codeAny_mono (F.run X.A X.stack s H ⟨us, []⟩ (us ++ ds) (vs ++ dvs) Q E hr I.env0 (hb s us I.kIn hl) r2 h) fun r s' hq => ?_)
  cases r with
  | error e => exact hx pins σ H s e s' I hq
  | ok fl =>
    cases fl with
    | ret u => exact I.after hq
    | next => exact False.elim hq
    | brk => exact False.elim hq
    | cont => exact False.elim hq

theorem pe_call (F : FnOk X.prog X.w X.K X.mg X.base CX k f fd ps sp) (hr : Room k X.A) (hg : Gl X x) (hm : X.mg x = some (.ref f)) (hk : PySem.W.keepIn X.K (.ref f) = true) (hb : Binds X.K fd ps ds) (hd : Vals dvs ds) (hx : Passes CX X E)
    (ha : PA X (e :: es) t) (hdb : (x == ("__debug__" : Str)) = false := by decide) (he : starEach (e :: es) X.env = (false, eval e X.env) :: starEach es X.env := by rfl) (hpl : (backTo pos (starEach es X.env)).any (·.1) = false := by rfl) :
    PE X (.Call (.Name x p) (e :: es) [] pos) (tCall sp dvs E t) := by
  intro pins s σ H Q I h
  refine wpAny_Call_Name_kw (ld_glob I hg hm ?_ hdb)
  refine PySem.W.callWith_K (h₀ := X.base) I.ok.mod.kin hk (thn (ha pos pins s σ H _ I h) fun us s1 ⟨vs, H1, I1, r, q⟩ => ⟨I1.kIn, ?_⟩) he hpl
  exact run_fn F hr hb hd hx I1 r q
/-- what a class must have to be made -/
structure Mk (K : PySem.W.Frag) (C f : Addr) : Prop where
  makes : PySem.W.makesIn K C = true
  init : PySem.W.findIn K (.ref C) "__init__" = some (some (.ref f))
  fn : PySem.W.isFn K (.ref f) = true
  kp : PySem.W.keepIn K (.ref C) = true

theorem run_make {pins : List (Addr × Obj)} {σ : St} {H : Hp} {s : Shared} {Q : VK} {us : List Value} {vs : List V} (M : Mk X.K C f) (F : FnOk X.prog X.w X.K X.mg X.base CX k f fd ps sp) (hr : Room (k + 1) X.A) (hb : Binds X.K fd ps ds) (hd : Vals dvs ds)
    (hx : Passes CX X E) (I : Inv X pins σ H s) (r : Vals vs us)
    (h : ∀ x dx, H x = none → H dx = none → dx ≠ x → sp (.ref x :: (vs ++ dvs)) (upd (upd H dx (.own x)) x (.ins C dx [])) (fun v H2 => v = .non ∧ Q (.ref x) H2) E) :
    wpAny (model X.prog X.w) X.A (call (.ref C) us) (EP X pins σ Q) X.xe s := by
  have hq := h (s.heap.objs.size + 1) s.heap.objs.size (I.hok.fresh (Nat.le_succ _)) (I.hok.fresh (Nat.le_refl _)) (Nat.ne_of_lt (Nat.lt_succ_self _))
  have I2 := Inv.made (C := C) I
  have r2 : Vals (V.ref (s.heap.objs.size + 1) :: (vs ++ dvs)) (Value.ref (s.heap.objs.size + 1) :: (us ++ ds)) := .cons rfl (r.append hd)
  have hl : (Value.ref (s.heap.objs.size + 1) :: us ++ ds).length = ps.length := by
    have e := r2.length
    rw [F.len _ _ _ _ hq] at e
    exact e.symm
  refine wpAny_call (make_map (f := f) I.kIn M.makes M.init (beq_iff_eq.mp M.fn) (codeAny_mono (F.run _ X.stack _ _ ⟨Value.ref (s.heap.objs.size + 1) :: us, []⟩ (Value.ref (s.heap.objs.size + 1) :: (us ++ ds)) _ _ E (hr.make C us [])
    (I2.env0.make C us []) (hb _ (Value.ref (s.heap.objs.size + 1) :: us) I2.kIn hl) r2 hq) fun r s' hq' => ?_))
  cases r with
  | error e => exact hx pins σ _ _ e s' I2 hq'
  | ok fl =>
    cases fl with
    | ret u =>
      obtain ⟨v, H', I3, rv, ev, q3⟩ := I2.after hq'
      subst ev
      exact ⟨rv, ⟨V.ref (s.heap.objs.size + 1), H', I3, rfl, q3⟩⟩
    | next => exact False.elim hq'
    | brk => exact False.elim hq'
    | cont => exact False.elim hq'
theorem pe_make (M : Mk X.K C f) (F : FnOk X.prog X.w X.K X.mg X.base CX k f fd ps sp) (hr : Room (k + 1) X.A) (hg : Gl X x) (hm : X.mg x = some (.ref C)) (hb : Binds X.K fd ps ds) (hd : Vals dvs ds) (hx : Passes CX X E)
    (ha : PA X (e :: es) t) (hdb : (x == ("__debug__" : Str)) = false := by decide) (he : starEach (e :: es) X.env = (false, eval e X.env) :: starEach es X.env := by rfl) (hpl : (backTo pos (starEach es X.env)).any (·.1) = false := by rfl) :
    PE X (.Call (.Name x p) (e :: es) [] pos) (tMake C sp dvs E t) := by
  intro pins s σ H Q I h
  refine wpAny_Call_Name_kw (ld_glob I hg hm ?_ hdb)
  refine PySem.W.callWith_K (h₀ := X.base) I.ok.mod.kin M.kp (thn (ha pos pins s σ H _ I h) fun us s1 ⟨vs, H1, I1, r, q⟩ => ⟨I1.kIn, ?_⟩) he hpl
  exact run_make M F hr hb hd hx I1 r q
end

section
variable {X : Cx} {CX : CXT} {k : Nat} {f C : Addr} {fd : FuncData} {ps ks : List Str} {sp : Sp} {E : XK} {x m : Str} {p pos apos kpos : Pos} {e o : Expr} {es : List Expr} {kws : List Keyword} {te ta : TE} {t tk : TA} {nm : Option Str}
variable {g : List Value → List Value → List Value} {gV : List V → List V → List V}
end

/-- names: the parameters first -/
structure FnScope (N P : List Str) (sc : Scope) : Prop where
  kind : sc.kind = .function
  co : sc.isCoroutine = false
  gen : sc.isGenerator = false
  nd : N.Nodup
  pre : N.take P.length = P
  par : ∀ x ∈ P, sc.names.lookup x = some .local ∨ sc.names.lookup x = some .cell
  nofree : ∀ y ∈ sc.names, y.2 ≠ .free

theorem bindL_out {kindOf : Str → Option NameKind} {x : Str} : ∀ {binds : List (Str × Value)} {m : Str → Option Value}, (∀ v, (x, v) ∉ binds) → bindL kindOf binds m x = m x
  | [], _, _ => rfl
  | (n, v) :: r, m, h => by
    unfold bindL
    rw [bindL_out fun w hw => h w (List.mem_cons_of_mem _ hw)]
    split
    · have : x ≠ n := by rintro rfl; exact h v List.mem_cons_self
      simp [this]
    · rfl
theorem bindC_out {kindOf : Str → Option NameKind} {x : Str} : ∀ {binds : List (Str × Value)} {m : Str → Option Value}, (∀ v, (x, v) ∉ binds) → bindC kindOf binds m x = m x
  | [], _, _ => rfl
  | (n, v) :: r, m, h => by
    unfold bindC
    rw [bindC_out fun w hw => h w (List.mem_cons_of_mem _ hw)]
    split
    · rfl
    · have : x ≠ n := by rintro rfl; exact h v List.mem_cons_self
      simp [this]
theorem bindL_get {kindOf : Str → Option NameKind} {x : Str} {v : Value} : ∀ {P : List Str} {vs : List Value} {i : Nat} {m : Str → Option Value}, P.Nodup → P[i]? = some x → vs[i]? = some v → kindOf x = some .local →
    bindL kindOf (P.zip vs) m x = some v
  | [], _, _, _, _, h, _, _ => by simp at h
  | _ :: _, [], _, _, _, _, h, _ => by simp at h
  | p :: P, w :: vs, 0, m, nd, h1, h2, hk => by
    simp at h1 h2; subst h1; subst h2
    show bindL kindOf ((p, w) :: P.zip vs) m p = _
    unfold bindL
    rw [bindL_out fun v hv => (List.nodup_cons.mp nd).1 (List.of_mem_zip hv).1, if_pos hk]
    simp
  | p :: P, w :: vs, i + 1, m, nd, h1, h2, hk => by
    show bindL kindOf ((p, w) :: P.zip vs) m x = _
    unfold bindL
    exact bindL_get (i := i) (List.nodup_cons.mp nd).2 (by simpa using h1) (by simpa using h2) hk
theorem bindC_get {kindOf : Str → Option NameKind} {x : Str} {v : Value} : ∀ {P : List Str} {vs : List Value} {i : Nat} {m : Str → Option Value}, P.Nodup → P[i]? = some x → vs[i]? = some v → kindOf x ≠ some .local →
    bindC kindOf (P.zip vs) m x = some v
  | [], _, _, _, _, h, _, _ => by simp at h
  | _ :: _, [], _, _, _, _, h, _ => by simp at h
  | p :: P, w :: vs, 0, m, nd, h1, h2, hk => by
    simp at h1 h2; subst h1; subst h2
    show bindC kindOf ((p, w) :: P.zip vs) m p = _
    unfold bindC
    rw [bindC_out fun v hv => (List.nodup_cons.mp nd).1 (List.of_mem_zip hv).1, if_neg hk]
    simp
  | p :: P, w :: vs, i + 1, m, nd, h1, h2, hk => by
    show bindC kindOf ((p, w) :: P.zip vs) m x = _
    unfold bindC
    exact bindC_get (i := i) (List.nodup_cons.mp nd).2 (by simpa using h1) (by simpa using h2) hk

/-- the names' values at the entry -/
def start (N : List Str) (vs : List V) : St := vs.map some ++ List.replicate (N.length - vs.length) none

/-- the context of a def's body, at its entry; an exception leaves the frame, then lies as CX says -/
def cxOf (CX : CXT) (P : Program) (w : World) (K : PySem.W.Frag) (mg : Str → Option Value) (base : Heap) (N : List Str) (qual : Str) (scope : Scope) (f : Addr) (cd : Value) (A : Around) (outer : List Env) (s : Shared) (H : Hp) (E : XK) : Cx where
  prog := P
  w := w
  K := K
  mg := mg
  base := base
  A := A.deeper (envOfC qual scope s.heap.objs.size f cd)
  N := N
  s₀ := s
  H₀ := H
  env := envOfC qual scope s.heap.objs.size f cd
  outer := outer
  stack := envOfC qual scope s.heap.objs.size f cd :: outer
  ex := []
  calm := true
  fn := fun _ => true
  pn := []
  xe := fun e s' => wpAny (model P w) (A.deeper (envOfC qual scope s.heap.objs.size f cd)) (leaving (envOfC qual scope s.heap.objs.size f cd) e) (fun _ s'' => CX outer H s E e s'') (fun e' s'' => CX outer H s E e' s'') s'

theorem cell_has {sc : Scope} {n : Nat} {x : Str} (h : sc.names.lookup x = some .cell) : ∃ c, (cellsFrom n sc.names []).lookup x = some c := by
  have q := PySem.W.cellsFrom_some sc.names n [] (.inl h)
  exact Option.isSome_iff_exists.mp q

theorem inv_start {CX : CXT} {P : Program} {w : World} {K : PySem.W.Frag} {mg : Str → Option Value} {base : Heap} {N ps : List Str} {qual : Str} {scope : Scope} {f : Addr} {cd : Value} {A : Around} {outer : List Env} {s s1 : Shared} {H : Hp} {E : XK} {us : List Value} {vs : List V}
    (S : FnScope N ps scope) (hd : A.handled = none) (e0 : Env0 P w K mg base A outer s H) (hl : vs.length = ps.length) (r : Vals vs us)
    (x : InCallC s s.heap.objs.size (bindL (envOfC qual scope s.heap.objs.size f cd).kindOf (ps.zip us) fun _ => none) (cellsFrom (s.heap.objs.size + 1) scope.names []) (bindC (envOfC qual scope s.heap.objs.size f cd).kindOf (ps.zip us) fun _ => none) s1) :
    Inv (cxOf CX P w K mg base N qual scope f cd A outer s H E) [] (start N vs) H s1 := by
  have hpl : ps.length ≤ N.length := by have := congrArg List.length S.pre; rw [List.length_take] at this; first | lia | omega
  obtain ⟨h1, tk, rfl, hk⟩ := x.done
  have noA : ∀ b : Addr, b ∉ (cxOf CX P w K mg base N qual scope f cd A outer s H E).ex := fun b z => absurd (show b ∈ ([] : List Addr) from z) (by simp)
  refine ⟨⟨e0.mod, S.kind, rfl, rfl, Nat.le_refl _, fun y z c h1 h2 => ?_, fun y hy => ?_, fun y c _ h => ?_, fun _ => hd, Around.frames_deeper e0.frames, .inr ⟨rfl, rfl⟩, fun b z => absurd z (noA b), e0.bs, e0.bsz, fun b _ _ => noA b, fun b z => absurd z (noA b), e0.funs, e0.frf⟩,
    rfl, e0.bare, Un.kept hk, ⟨_, x.toInCall.ns, fun i y v h1 h2 h3 => ?_⟩, fun y c h => ⟨_, x.cell y c h⟩, e0.hok.fresh (Nat.le_refl _), fun y c h => ?_, fun p hp => absurd (show p ∈ ([] : List (Addr × Obj)) from hp) (by simp), e0.hok.kept hk, ?_⟩
  · exact name_of_addr x.apart (PySem.mem_of_lookup h1) (PySem.mem_of_lookup h2)
  · have hy : scope.names.lookup y = some .cell ∨ scope.names.lookup y = some .free := hy
    rcases hy with hy | hy
    · exact cell_has hy
    · exact absurd rfl (S.nofree _ (PySem.mem_of_lookup hy))
  · exact Nat.le_of_lt (x.above y c (PySem.mem_of_lookup h))
  · have hi : i < vs.length := by
      unfold start at h2
      by_cases hi : i < vs.length
      · exact hi
      · rw [List.getElem?_append_right (by simpa using hi)] at h2
        rw [List.getElem?_replicate] at h2
        split at h2 <;> cases h2
    have ha : vs[i]? = some v := by
      unfold start at h2
      rw [List.getElem?_append_left (by simpa using hi), List.getElem?_map] at h2
      cases e : vs[i]? with
      | none => rw [e] at h2; cases h2
      | some a => rw [e] at h2; cases h2; rfl
    obtain ⟨u, hu, rv⟩ := r.get ha
    have hp : ps[i]? = some y := by
      rw [← S.pre, List.getElem?_take_of_lt (by first | lia | omega)]; exact h1
    have ndP : ps.Nodup := by rw [← S.pre]; exact S.nd.sublist (List.take_sublist _ _)
    refine ⟨u, rv, ?_⟩
    rcases S.par y (List.mem_of_getElem? hp) with k | k
    · exact .inl ⟨k, bindL_get ndP hp hu k⟩
    · obtain ⟨c, e⟩ := cell_has (n := s.heap.objs.size + 1) k
      refine .inr ⟨.inl k, c, e, ?_⟩
      have q := x.cell y c e
      rw [bindC_get ndP hp hu (by show scope.names.lookup y ≠ _; rw [k]; decide)] at q
      exact q
  · exact e0.hok.fresh (Nat.le_of_lt (x.above y c (PySem.mem_of_lookup h)))
  · unfold start
    show _ = N.length
    rw [List.length_append, List.length_map, List.length_replicate]
    first | lia | omega

/-- THE RULE: a def (or a method) of the text, by its body. The body's reading t is chosen for each entry; it is run at the parameters' values -/
theorem fn_of {CX : CXT} {P : Program} {w : World} {K : PySem.W.Frag} {mg : Str → Option Value} {base : Heap} {k : Nat} {f : Addr} {name qual : Str} {params : Arguments} {body : List Stmt} {scope : Scope} {dV kV doc pm cdv ct oc : Value} {an od : Option Addr}
    {osl : Array (Option Value)} {N ps : List Str} {sp : Sp} (lk : K.lookup f = some ⟨oc, od, .func (PySem.W.fnOf name qual params body scope dV kV doc pm an cdv ct), osl⟩) (hcd : PySem.W.codeIn K cdv qual = true) (S : FnScope N ps scope)
    (len : ∀ vs H Q E, sp vs H Q E → vs.length = ps.length)
    (hbody : ∀ (A : Around) (outer : List Env) (s : Shared) (H : Hp) (vs : List V) (Q : VK) (E : XK), Room k (A.deeper (envOfC qual scope s.heap.objs.size f cdv)) → sp vs H Q E →
      ∃ t, PSs (cxOf CX P w K mg base N qual scope f cdv A outer s H E) body t ∧ t { nx := fun _ H' => Q .non H', rt := Q } (start N vs) H) :
    FnOk P w K mg base CX (k + 1) f (PySem.W.fnOf name qual params body scope dV kV doc pm an cdv ct) ps sp := by
  refine ⟨len, fun A outer s H args us vs Q E hr e0 hb r hsp => ?_⟩
  have hl := len _ _ _ _ hsp
  have KX : K.In s.heap := e0.mod.kin.keeps fun b o e => (e0.bs b o e).1
  have lim : s.heap.NoLimit := e0.mod.nolimit.keeps fun b o e => (e0.bs b o e).1
  have hkind : ∀ y ∈ ps.zip us, scope.names.lookup y.1 = some .local ∨ (scope.names.lookup y.1 = some .cell ∧ ((cellsFrom (s.heap.objs.size + 1) scope.names []).lookup y.1).isSome = true) := fun ⟨n, v⟩ hy => by
    rcases S.par n (List.of_mem_zip hy).1 with q | q
    · exact .inl q
    · exact .inr ⟨q, PySem.W.cellsFrom_some _ _ _ (.inl q)⟩
  refine codeAny_call_function hr.depth (KX _ _ lk) rfl S.co S.gen rfl (PySem.W.codeRec_of KX hcd) (hb _ _ _ _ ?_)
  refine wpAny_newFunctionEnv_cells S.kind hkind fun env he s1 x => ?_
  subst he
  refine ⟨lim.keeps x.toInCall.keep, codeAny_func ?_⟩
  obtain ⟨t, ht, hq⟩ := hbody A outer s H vs Q E (hr.deeper _) hsp
  have I : Inv (cxOf CX P w K mg base N qual scope f cdv A outer s H E) [] (start N vs) H s1 := inv_start S hr.hd e0 hl r x
  refine wpAny_mono (ht [] s1 (start N vs) H _ I hq) (fun fl s' hs => ?_) fun e s' hs => hs
  have fin : ∀ {σ' : St} {H' : Hp} {v : V} {u : Value}, Inv (cxOf CX P w K mg base N qual scope f cdv A outer s H E) [] σ' H' s' → RelV v u → Q v H' → CE outer P w H s Q u s' :=
    fun {σ' H' v u} J rv q => ⟨v, H', J.os, J.bare, J.base, J.hok, rv, q⟩
  cases fl with
  | ret u =>
    obtain ⟨v, σ', H', J, rv, q⟩ := hs
    exact fin J rv q
  | next =>
    obtain ⟨σ', H', J, q⟩ := hs
    exact fin (v := V.non) (u := Value.none) J rfl q
  | brk =>
    obtain ⟨_, _, _, q⟩ := hs
    exact False.elim q
  | cont =>
    obtain ⟨_, _, _, q⟩ := hs
    exact False.elim q
end L2

namespace L2
open PySem PySem.Spec PyProof.Rows
section
variable {X : Cx} {x : Str} {p pos : Pos} {e : Expr} {es : List Expr} {t : TA} {id T : String} {r : List V → Hp → VK → Prop}

def tCB (r : List V → Hp → VK → Prop) (t : TA) : TE := fun σ H Q => t σ H fun vs H1 => r vs H1 Q
/-- f(e, ..), f a built-in function -/
theorem pe_callB (hc : CallR X (.builtin id) r) (hg : Gl X x) (hm : X.mg x = none) (hv : bootBuiltins x = some (.builtin id)) (ha : PA X (e :: es) t) (hn : x ≠ "__name__" := by decide) (hdb : (x == ("__debug__" : Str)) = false := by decide)
    (he : starEach (e :: es) X.env = (false, eval e X.env) :: starEach es X.env := by rfl) (hpl : (backTo pos (starEach es X.env)).any (·.1) = false := by rfl) : PE X (.Call (.Name x p) (e :: es) [] pos) (tCB r t) := by
  intro pins s σ H Q I h
  refine wpAny_Call_Name_kw (ld_blt I hg hm hv ?_ hn hdb)
  exact PyProof.Rows.callWith_builtin1 (thn (ha pos pins s σ H _ I h) fun us s1 ⟨vs, H1, I1, r1, q1⟩ => hc pins s1 σ H1 vs us Q I1 r1 q1) he hpl
/-- T(e, ..), T a built-in type -/
theorem pe_callTy (hc : CallR X (.type T) r) (hg : Gl X x) (hm : X.mg x = none) (hv : bootBuiltins x = some (.type T)) (ha : PA X (e :: es) t) (hn : x ≠ "__name__" := by decide) (hdb : (x == ("__debug__" : Str)) = false := by decide)
    (he : starEach (e :: es) X.env = (false, eval e X.env) :: starEach es X.env := by rfl) (hpl : (backTo pos (starEach es X.env)).any (·.1) = false := by rfl) : PE X (.Call (.Name x p) (e :: es) [] pos) (tCB r t) := by
  intro pins s σ H Q I h
  refine wpAny_Call_Name_kw (ld_blt I hg hm hv ?_ hn hdb)
  exact PyProof.Rows.callWith_type1 (thn (ha pos pins s σ H _ I h) fun us s1 ⟨vs, H1, I1, r1, q1⟩ => hc pins s1 σ H1 vs us Q I1 r1 q1) he hpl
end
end L2

namespace HT
open PySem PyProof.Rows

section
open PySem.SeqAt
open PySem.AutoSeq1 (wpAny_loadPart')
open PySem.MeetsSeq PySem.MeetsSeq2 PySem.MeetsSeq3

end

section
variable {prog : Program} {w : World} {A : Around} {E : Value → Shared → Prop} {s : Shared}

/-- a slice's bound as a place among n (d where it is left out) -/
def sIx (n d : Nat) : Option Int → Nat
  | none => d
  | some v => if v < 0 then (v + (n : Int)).toNat else min v.toNat n
end
end HT

namespace L2
open PySem PySem.Spec PyProof.Rows

abbrev TO := St → Hp → (Option Int → Hp → Prop) → Prop
/-- a slice's part (left out, or an int) -/
def PO (X : Cx) (e : Option Expr) (t : TO) : Prop :=
  ∀ (pins : List (Addr × Obj)) (s : Shared) (σ : St) (H : Hp) (Q : Option Int → Hp → Prop), Inv X pins σ H s → t σ H Q →
    wpAny (model X.prog X.w) X.A (evalPart e X.env) (fun u s' => ∃ o H', Inv X pins σ H' s' ∧ IsPart u o ∧ Q o H') X.xe s
def tNoPart : TO := fun _ H Q => Q none H
def tPart (t : TE) : TO := fun σ H Q => t σ H fun x H1 => ∃ i, x = .int i ∧ Q (some i) H1

theorem intsAre_of {ns : List Int} : ∀ {us : List Value}, Vals (ns.map V.int) us → IntsAre us ns := by
  induction ns with
  | nil => intro us r; rw [List.map_nil] at r; cases r; exact .nil
  | cons n ns ih =>
    intro us r
    rw [List.map_cons] at r
    cases r with
    | cons r1 r2 =>
      obtain ⟨t, e⟩ := r1
      subst e
      exact .cons n t (ih r2)

section
variable {X : Cx} {e : Expr} {te : TE} {lo hi : Option Expr} {tl th : TO} {pos p2 : Pos}

theorem po_none : PO X none tNoPart := by
  intro pins s σ H Q I h
  rw [evalPart_none]
  exact wpAny_pure ⟨none, H, I, .none, h⟩
theorem po_some (h : PE X e te) : PO X (some e) (tPart te) := by
  intro pins s σ H Q I hw
  rw [evalPart_some]
  refine thn (h pins s σ H _ I hw) fun u s1 ⟨x, H1, I1, r1, q1⟩ => ?_
  obtain ⟨i, rfl, q⟩ := q1
  obtain ⟨t, rfl⟩ := r1
  exact ⟨some i, H1, I1, .int i t, q⟩

/-- what a slice of a value is, by values: the slice object stands at sl -/
def SlR (X : Cx) (r : V → Option Int → Option Int → Hp → VK → Prop) : Prop :=
  ∀ (pins : List (Addr × Obj)) (s : Shared) (σ : St) (H : Hp) (x : V) (v vl vu : Value) (lo hi : Option Int) (sl : Addr) (Q : VK), Inv X pins σ H s → RelV x v → s.heap.IsSliceOf sl vl vu .none → IsPart vl lo → IsPart vu hi → r x lo hi H Q →
    ∃ T id, typeLookup (.type T) "__getitem__" = pure (some (.builtin id)) ∧ s.TypeIs v T ∧ wpAny (model X.prog X.w) X.A (getItem v (.ref sl)) (EP X pins σ Q) X.xe s
def tSl (r : V → Option Int → Option Int → Hp → VK → Prop) (te : TE) (tl th : TO) : TE := fun σ H Q => te σ H fun x H1 => tl σ H1 fun l H2 => th σ H2 fun u H3 => r x l u H3 Q
/-- a[lo:hi], any a -/
theorem pe_slice {r : V → Option Int → Option Int → Hp → VK → Prop} (hr : SlR X r) (he : PE X e te) (hl : PO X lo tl) (hu : PO X hi th) : PE X (.Subscript e (.Slice lo hi none p2) pos) (tSl r te tl th) := by
  intro pins s σ H Q I h
  refine Subscript_ (thn (he pins s σ H _ I h) fun v s1 ⟨x, H1, I1, r1, q1⟩ => ?_)
  refine wpAny_Slice (thn (hl pins s1 σ H1 _ I1 q1) fun vl s2 ⟨l, H2, I2, pl, q2⟩ => thn (hu pins s2 σ H2 _ I2 q2) fun vu s3 ⟨u, H3, I3, pu, q3⟩ => ?_)
  rw [evalPart_none]
  refine wpAny_pure ?_
  have I4 : Inv X pins σ H3 { s3 with heap := s3.heap.push { cls := .type "slice", data := .fields #[vl, vu, .none] } } := I3.kept (t' := s3.toks) fun b ob q => Heap.get?_push_of_some _ q
  obtain ⟨T, id, hT, ht, hg⟩ := hr pins { s3 with heap := s3.heap.push { cls := .type "slice", data := .fields #[vl, vu, .none] } } σ H3 x v vl vu l u s3.heap.objs.size Q I4 r1 (Heap.IsSliceOf.new ..) pl pu q3
  show wpAny (model X.prog X.w) X.A (subscriptTail e (.Slice lo hi none p2) v (.ref s3.heap.objs.size)) (EP X pins σ Q) X.xe { s3 with heap := s3.heap.push { cls := .type "slice", data := .fields #[vl, vu, .none] } }
  exact tail_any (ops := [.ref s3.heap.objs.size, v]) ht hT hg (by with_unfolding_all rfl)

/-- the items of xs[lo:hi] -/
def cutV (xs : List V) (lo hi : Option Int) : List V := (xs.drop (HT.sIx xs.length 0 lo)).take (HT.sIx xs.length xs.length hi - HT.sIx xs.length 0 lo)
theorem cutV_length (xs : List V) (lo hi : Option Int) : (cutV xs lo hi).length ≤ xs.length := by
  unfold cutV
  rw [List.length_take, List.length_drop]
  first | lia | omega
end
end L2

namespace L2
open PySem PySem.Spec PyProof.Rows

/-- the place that an index of any sign means -/
def ixN (n : Nat) (i : Int) : Option Nat := if 0 ≤ i then (if i < n then some i.toNat else none) else if -(n : Int) ≤ i then some (i + n).toNat else none
def atI {α : Type} (xs : List α) (i : Int) : Option α := (ixN xs.length i).bind fun j => xs[j]?
theorem ixN_seq {n : Nat} {i : Int} {j : Nat} (h : ixN n i = some j) : seqIndex? i n = some j ∧ j < n ∧ -(n : Int) ≤ i ∧ i < n := by
  unfold ixN at h
  by_cases h0 : 0 ≤ i
  · rw [if_pos h0] at h
    by_cases h1 : i < n
    · rw [if_pos h1] at h
      have e : i.toNat = j := Option.some.inj h
      exact ⟨by rw [seqIndex_of h0 h1, e], by first | lia | omega, by first | lia | omega, h1⟩
    · rw [if_neg h1] at h; cases h
  · rw [if_neg h0] at h
    by_cases h1 : -(n : Int) ≤ i
    · rw [if_pos h1] at h
      have e : (i + n).toNat = j := Option.some.inj h
      exact ⟨by rw [seqIndex_neg (by first | lia | omega) h1, e], by first | lia | omega, h1, by first | lia | omega⟩
    · rw [if_neg h1] at h; cases h
theorem atI_get {α : Type} {xs : List α} {i : Int} {v : α} (h : atI xs i = some v) : ∃ j, seqIndex? i xs.length = some j ∧ xs[j]? = some v ∧ j < xs.length ∧ -(xs.length : Int) ≤ i ∧ i < xs.length := by
  unfold atI at h
  cases e : ixN xs.length i with
  | none => rw [e] at h; cases h
  | some j =>
    rw [e] at h
    obtain ⟨h1, h2, h3, h4⟩ := ixN_seq e
    exact ⟨j, h1, h, h2, h3, h4⟩
theorem atI_nat {α : Type} {xs : List α} {j : Nat} {v : α} (h : xs[j]? = some v) : atI xs (j : Int) = some v := by
  have hj : j < xs.length := (List.getElem?_eq_some_iff.mp h).1
  have e : ixN xs.length (j : Int) = some j := by
    unfold ixN
    rw [if_pos (by first | lia | omega), if_pos (by first | lia | omega)]; simp
  unfold atI; rw [e]; exact h
/-- what stands as an index of a plain subscript -/
def PlainIx (b : Expr) : Prop := ∀ o i, subscripted b false o i = operate [o, i] (getItem o i)
/-- a subscript by values -/
def IxR (X : Cx) (r : R2) : Prop :=
  ∀ (value slice : Expr) (pins : List (Addr × Obj)) (s : Shared) (σ : St) (H : Hp) (x y : V) (v u : Value) (Q : VK), Inv X pins σ H s → RelV x v → RelV y u → r x y H Q →
    subscripted slice false v u = operate [v, u] (getItem v u) → wpAny (model X.prog X.w) X.A (subscriptTail value slice v u) (EP X pins σ Q) X.xe s
/-- a call of a builtin's method by values: the receiver, the arguments -/
def MtR (X : Cx) (id : String) (r : V → List V → Hp → VK → Prop) : Prop :=
  ∀ (pins : List (Addr × Obj)) (s : Shared) (σ : St) (H : Hp) (x : V) (xs : List V) (v : Value) (us : List Value) (Q : VK), Inv X pins σ H s → RelV x v → Vals xs us → r x xs H Q →
    wpAny (model X.prog X.w) X.A (call (.builtin id) (v :: us)) (EP X pins σ Q) X.xe s
section
variable {X : Cx} {a b : Expr} {ta tb : TE} {pos : Pos}
/-- a[b] -/
theorem pe_ix {r : R2} (hr : IxR X r) (ha : PE X a ta) (hb : PE X b tb) (hs : PlainIx b) : PE X (.Subscript a b pos) (tOp r ta tb) := by
  intro pins s σ H Q I h
  exact Subscript_ (binT ha hb I h fun v u s2 x y H2 I2 rx ry q => hr a b pins s2 σ H2 x y v u Q I2 rx ry q (hs _ _))

def rIxL (K : PySem.W.Frag) : R2 := fun x y H Q => ∃ p xs i v, x = .ref p ∧ y = .int i ∧ SqL K H p xs ∧ atI xs i = some v ∧ Q v H
def rIxT (K : PySem.W.Frag) : R2 := fun x y H Q => ∃ p xs i v, x = .ref p ∧ y = .int i ∧ SqT K H p xs ∧ atI xs i = some v ∧ Q v H
theorem ix_list : IxR X (rIxL X.K) := by
  intro value slice pins s σ H x y v u Q I rx ry h hs
  obtain ⟨p, xs, i, z, rfl, rfl, hq, he, q⟩ := h
  cases rx
  obtain ⟨t, rfl⟩ := ry
  obtain ⟨its, r, pl, hz⟩ := I.list hq
  obtain ⟨j, h1, h2, h3, h4, h5⟩ := atI_get he
  obtain ⟨w, ew, rw'⟩ := r.get h2
  have hl := r.length
  have hn := line63
  have fin : EP X pins σ Q w s := ⟨z, H, I, rw', q⟩
  by_cases h0 : 0 ≤ i
  · have hj : i.toNat = j := by
      rw [seqIndex_of h0 h5] at h1
      exact Option.some.inj h1
    exact item_listR pl.isList h0 (by first | lia | omega) (by rw [hj]; simpa using ew) fin hs
  · have hj : (i + (its.toArray.size : Int)).toNat = j := by
      rw [seqIndex_neg (by first | lia | omega) h4] at h1
      rw [List.size_toArray, ← hl]
      exact Option.some.inj h1
    exact subscriptTail_builtinR (x := w) pl.isList.typeIs slot_list_getitem.lookup
      (wpAny_getItem_list_neg (Q := fun r s' => r = w ∧ EP X pins σ Q r s') pl.isList (by first | lia | omega) (by rw [List.size_toArray] <;> first | lia | omega) (by first | lia | omega) (by rw [hj]; simpa using ew) ⟨rfl, fin⟩) hs
theorem ix_tup : IxR X (rIxT X.K) := by
  intro value slice pins s σ H x y v u Q I rx ry h hs
  obtain ⟨p, xs, i, z, rfl, rfl, hq, he, q⟩ := h
  cases rx
  obtain ⟨t, rfl⟩ := ry
  obtain ⟨its, r, pl, hz⟩ := I.tuple hq
  obtain ⟨j, h1, h2, h3, h4, h5⟩ := atI_get he
  obtain ⟨w, ew, rw'⟩ := r.get h2
  have hl := r.length
  have hn := line63
  have fin : EP X pins σ Q w s := ⟨z, H, I, rw', q⟩
  exact subscriptTail_builtinR (x := w) pl.typeIs slot_tuple_getitem.lookup
    (getItem_tuple (j := j) (Q := fun r s' => r = w ∧ EP X pins σ Q r s') pl (by first | lia | omega) (by first | lia | omega) (by rw [List.size_toArray, ← hl]; exact h1) (by simpa using ew) ⟨rfl, fin⟩) hs
/-- the list's object behind a store -/
theorem mapSeq_set (its : List Value) (n j : Nat) (u : Value) : Obj.mapSeq (·.setIfInBounds j u) { cls := .type "list", data := .seq its.toArray n } = { cls := .type "list", data := .seq (its.set j u).toArray n } := by
  simp [Obj.mapSeq]
theorem Inv.lst {pins : List (Addr × Obj)} {σ : St} {H : Hp} {s : Shared} {p : Addr} {xs : List V} (I : Inv X pins σ H s) (h : H p = some (.lst xs)) :
    ∃ (its : List Value) (n : Nat), Vals xs its ∧ s.heap.get? p = some { cls := .type "list", data := .seq its.toArray n } ∧ xs.length ≤ sizeLine := by
  obtain ⟨z, its, n, r, e⟩ := I.hok p _ h
  exact ⟨its, n, r, e, z⟩
/-- the list at p is written by an update of its object -/
theorem Inv.lstUpd {pins : List (Addr × Obj)} {σ : St} {H : Hp} {s : Shared} {p : Addr} {xs ys : List V} {its its' : List Value} {n n' : Nat} {f : Obj → Obj} (I : Inv X pins σ H s) (h : H p = some (.lst xs))
    (ho : s.heap.get? p = some { cls := .type "list", data := .seq its.toArray n }) (hf : f { cls := .type "list", data := .seq its.toArray n } = { cls := .type "list", data := .seq its'.toArray n' }) (r : Vals ys its') (hz : ys.length ≤ sizeLine) (t : Nat) :
    Inv X pins σ (upd H p (.lst ys)) { s with heap := s.heap.update p f, toks := t } := by
  have e : (s.heap.update p f).get? p = some { cls := .type "list", data := .seq its'.toArray n' } := by
    rw [Heap.get?_update_self f ho (by rw [hf] <;> rfl), hf]
  refine I.write (x := p) (e := p) (by rw [h]; trivial) (.inl rfl) (fun b u hb q => (Heap.get?_update_other _ _ (Ne.symm hb)).trans q) ⟨_, e⟩ ?_
  exact ⟨hz, its', n', r, e⟩
def rSetL : V → V → V → Hp → (Hp → Prop) → Prop := fun o i v H Q => ∃ p xs k j, o = .ref p ∧ i = .int k ∧ H p = some (.lst xs) ∧ ixN xs.length k = some j ∧ Q (upd H p (.lst (xs.set j v)))
theorem set_list : PSet X rSetL := by
  intro pins s σ H o i v ov iv u Q I ro ri rv h
  obtain ⟨p, xs, k, j, rfl, rfl, hp, hj, q⟩ := h
  cases ro
  obtain ⟨t, rfl⟩ := ri
  obtain ⟨its, n, r, ho, hz⟩ := I.lst hp
  obtain ⟨h1, h2, h3, h4⟩ := ixN_seq hj
  have hl := r.length
  have hn := line63
  have I' : Inv X pins σ (upd H p (.lst (xs.set j v))) { s with heap := s.heap.update p (Obj.mapSeq (·.setIfInBounds j u)) } :=
    I.lstUpd hp ho (mapSeq_set its n j u) (r.set rv j) (by rw [List.length_set]; exact hz) s.toks
  by_cases h0 : 0 ≤ k
  · have hk : k.toNat = j := by
      rw [seqIndex_of h0 h4] at h1
      exact Option.some.inj h1
    exact PySem.W.ki_setAt ho h0 (by first | lia | omega) (by rw [List.size_toArray, ← hl]; exact h4) (by rw [hk]; exact ⟨_, I', q⟩)
  · have hk : (k + (its.toArray.size : Int)).toNat = j := by
      rw [seqIndex_neg (by first | lia | omega) h3] at h1
      rw [List.size_toArray, ← hl]
      exact Option.some.inj h1
    exact PySem.W.ki_setBack ho (by first | lia | omega) (by rw [List.size_toArray, ← hl]; exact h3) (by first | lia | omega) (by rw [hk]; exact ⟨_, I', q⟩)

theorem slice_bounds (lo hi : Option Int) (n : Nat) : (sliceBounds lo hi none n).1 = ((HT.sIx n 0 lo : Nat) : Int) ∧ (sliceBounds lo hi none n).2.1 = ((HT.sIx n n hi : Nat) : Int) ∧ (sliceBounds lo hi none n).2.2 = 1 := by
  refine ⟨?_, ?_, rfl⟩
  · cases lo with
    | none => simp [sliceBounds, HT.sIx]
    | some i =>
      simp only [sliceBounds, HT.sIx, Option.getD_none, show (1 : Int) > 0 by decide, if_true]
      by_cases h : i < 0
      · simp only [h, if_true] <;> first | lia | omega
      · simp only [h, if_false] <;> first | lia | omega
  · cases hi with
    | none => simp [sliceBounds, HT.sIx]
    | some i =>
      simp only [sliceBounds, HT.sIx, Option.getD_none, show (1 : Int) > 0 by decide, if_true]
      by_cases h : i < 0
      · simp only [h, if_true] <;> first | lia | omega
      · simp only [h, if_false] <;> first | lia | omega
theorem slicePick_cut (its : List Value) (lo hi : Option Int) : slicePick its.toArray lo hi none = ((its.drop (HT.sIx its.length 0 lo)).take (HT.sIx its.length its.length hi - HT.sIx its.length 0 lo)).toArray := by
  obtain ⟨h1, h2, h3⟩ := slice_bounds lo hi its.toArray.size
  unfold slicePick
  rw [h1, h2, h3]
  simp only [sliceRange_one, pick_run, List.size_toArray] <;> rfl
/-- xs[lo:hi] of a list: a new list -/
def rSlL (K : PySem.W.Frag) : V → Option Int → Option Int → Hp → VK → Prop := fun x lo hi H Q => ∃ a xs, x = .ref a ∧ SqL K H a xs ∧ ∀ p, H p = none → Q (.ref p) (upd H p (.lst (cutV xs lo hi)))
theorem sl_list : SlR X (rSlL X.K) := by
  intro pins s σ H x v vl vu lo hi sl Q I rx hs pl pu h
  obtain ⟨a, xs, rfl, hx, q⟩ := h
  cases rx
  obtain ⟨its, r, ht, hz⟩ := I.list hx
  have hlen := r.length
  refine ⟨"list", _, slot_list_getitem.lookup, ht.isList.typeIs, ?_⟩
  refine wpAny_getItem_list_slice ht.isList hs pl pu .none (by simp) ?_ (by rw [List.size_toArray] <;> first | lia | omega)
  rw [slicePick_cut, ← hlen]
  refine ⟨.ref s.heap.objs.size, _, I.laid (t' := s.toks) (o := .lst (cutV xs lo hi)) (fun b ob q => Heap.get?_push_of_some _ q) (Nat.le_refl _) ?_, rfl, q _ (I.hok.fresh (Nat.le_refl _))⟩
  exact ⟨Nat.le_trans (cutV_length xs lo hi) hz, _, 0, (r.drop (HT.sIx xs.length 0 lo)).take (HT.sIx xs.length xs.length hi - HT.sIx xs.length 0 lo), Heap.get?_push_size _ rfl⟩

def flatV : V → Bool
  | .non => true
  | .bl _ => true
  | .int _ => true
  | .str _ => true
  | _ => false
/-- == of flat values -/
def eqV : V → V → Bool
  | .non, .non => true
  | .bl a, .bl b => a == b
  | .bl a, .int b => (if a then 1 else 0) == b
  | .int a, .bl b => a == (if b then 1 else 0)
  | .int a, .int b => a == b
  | .str a, .str b => a == b
  | _, _ => false
theorem eqAt_V {A : Around} {s : Shared} {y x : V} {u v : Value} (ry : RelV y u) (rx : RelV x v) (fy : flatV y = true) (fx : flatV x = true) : SeqAt.EqAt A s u v (eqV y x) := by
  cases y with
  | non =>
    cases ry
    cases x with
    | non => cases rx; exact SeqAt.EqAt.same _
    | bl b => cases rx; exact SeqAt.EqAt.none_bool b
    | int b => obtain ⟨t, rfl⟩ := rx; exact SeqAt.EqAt.none_int b t
    | str b => obtain ⟨t, rfl⟩ := rx; exact SeqAt.EqAt.none_str b t
    | _ => exact absurd (show false = true from fx) Bool.false_ne_true
  | bl a =>
    cases ry
    cases x with
    | non => cases rx; exact SeqAt.EqAt.bool_none a
    | bl b => cases rx; exact SeqAt.EqAt.bool_bool a b
    | int b => obtain ⟨t, rfl⟩ := rx; exact SeqAt.EqAt.bool_int a b t
    | str b => obtain ⟨t, rfl⟩ := rx; exact SeqAt.EqAt.bool_str a b t
    | _ => exact absurd (show false = true from fx) Bool.false_ne_true
  | int a =>
    obtain ⟨t', rfl⟩ := ry
    cases x with
    | non => cases rx; exact SeqAt.EqAt.int_none a t'
    | bl b => cases rx; exact SeqAt.EqAt.int_bool a t' b
    | int b => obtain ⟨t, rfl⟩ := rx; exact SeqAt.EqAt.int_int a t' b t
    | str b => obtain ⟨t, rfl⟩ := rx; exact SeqAt.EqAt.int_str a t' b t
    | _ => exact absurd (show false = true from fx) Bool.false_ne_true
  | str a =>
    obtain ⟨t', rfl⟩ := ry
    cases x with
    | non => cases rx; exact SeqAt.EqAt.str_none a t'
    | bl b => cases rx; exact SeqAt.EqAt.str_bool a t' b
    | int b => obtain ⟨t, rfl⟩ := rx; exact SeqAt.EqAt.str_int a t' b t
    | str b => obtain ⟨t, rfl⟩ := rx; exact SeqAt.EqAt.str_str a t' b t
    | _ => exact absurd (show false = true from fx) Bool.false_ne_true
  | _ => exact absurd (show false = true from fy) Bool.false_ne_true
/-- the items' answers, read off the values (a value's own answer does not lean on its token) -/
def eqU (x : V) (u : Value) : Bool := match u with
  | .none => eqV .non x
  | .bool b => eqV (.bl b) x
  | .int i _ => eqV (.int i) x
  | .str z _ => eqV (.str z) x
  | _ => false
theorem eqU_of {x y : V} {u : Value} (r : RelV y u) (f : flatV y = true) : eqU x u = eqV y x := by
  cases y with
  | non => cases r; rfl
  | bl b => cases r; rfl
  | int i => obtain ⟨t, rfl⟩ := r; rfl
  | str z => obtain ⟨t, rfl⟩ := r; rfl
  | _ => exact absurd (show false = true from f) Bool.false_ne_true
theorem any_eqU {x : V} : ∀ {xs : List V} {us : List Value}, Vals xs us → xs.all flatV = true → us.any (eqU x) = xs.any fun y => eqV y x
  | _, _, .nil, _ => rfl
  | y :: xs, u :: us, .cons r t, f => by
    rw [List.all_cons, Bool.and_eq_true] at f
    rw [List.any_cons, List.any_cons, eqU_of r f.1, any_eqU t f.2]
theorem mem_eqAt {A : Around} {s : Shared} {x : V} {v : Value} (rx : RelV x v) (fx : flatV x = true) : ∀ {xs : List V} {us : List Value}, Vals xs us → xs.all flatV = true → ∀ u ∈ us, SeqAt.EqAt A s u v (eqU x u)
  | _, _, .nil, _ => fun u hu => by cases hu
  | y :: xs, u :: us, .cons r t, f => fun u' hu => by
    rw [List.all_cons, Bool.and_eq_true] at f
    rcases List.mem_cons.mp hu with rfl | hu
    · rw [eqU_of r f.1]; exact eqAt_V r rx f.1 fx
    · exact mem_eqAt rx fx t f.2 u' hu
def inV (x : V) (xs : List V) : Bool := xs.any fun y => eqV y x
/-- x in a list or tuple of flat items -/
def rIn (K : PySem.W.Frag) (neg : Bool) : R2 := fun x y H Q => ∃ p xs, y = .ref p ∧ (SqL K H p xs ∨ SqT K H p xs) ∧ flatV x = true ∧ xs.all flatV = true ∧ Q (.bl (if neg then !inV x xs else inV x xs)) H
theorem op_in_seq : OpR X (compareOp .In) (rIn X.K false) := by
  intro pins s σ H x y v u Q I rx ry h
  obtain ⟨p, xs, rfl, hq, fx, fs, q⟩ := h
  cases ry
  rcases hq with hq | hq
  · obtain ⟨its, r, pl, hz⟩ := I.list hq
    refine SeqAt.in_listAt (eqU x) pl.isList (fun w hw => mem_eqAt rx fx r fs w (by simpa using hw)) ⟨.bl _, H, I, rfl, ?_⟩
    rw [show its.toArray.any (eqU x) = its.any (eqU x) by simp, any_eqU r fs]
    exact q
  · obtain ⟨its, r, pl, hz⟩ := I.tuple hq
    refine SeqAt.in_tupleAt (eqU x) pl (fun w hw => mem_eqAt rx fx r fs w (by simpa using hw)) ⟨.bl _, H, I, rfl, ?_⟩
    rw [show its.toArray.any (eqU x) = its.any (eqU x) by simp, any_eqU r fs]
    exact q
theorem call_len_seq : CallR X (.builtin "len") (fun xs H Q => ∃ p ys, xs = [.ref p] ∧ (SqL X.K H p ys ∨ SqT X.K H p ys) ∧ Q (.int ys.length) H) := by
  intro pins s σ H xs us Q I r h
  obtain ⟨p, ys, rfl, hq, q⟩ := h
  obtain ⟨u, rfl, rx⟩ := vals1 r
  cases rx
  have hn := line63
  rcases hq with hq | hq
  · obtain ⟨its, r', pl, hz⟩ := I.list hq
    have hlen := r'.length
    exact Calls.call_len_list pl.isList (by simp only [List.size_toArray] <;> first | lia | omega) ⟨.int ys.length, H, I.tok _, ⟨s.toks + 1, by rw [List.size_toArray, hlen]⟩, q⟩
  · obtain ⟨its, r', pl, hz⟩ := I.tuple hq
    have hlen := r'.length
    exact len_tuple pl (by simp only [List.size_toArray] <;> first | lia | omega) ⟨.int ys.length, H, I.tok _, ⟨s.toks + 1, by rw [List.size_toArray, hlen]⟩, q⟩
theorem call_len_str : CallR X (.builtin "len") (fun xs H Q => ∃ z, xs = [.str z] ∧ z.length ≤ sizeLine ∧ Q (.int z.length) H) := by
  intro pins s σ H xs us Q I r h
  obtain ⟨z, rfl, hz, q⟩ := h
  obtain ⟨u, rfl, t, rfl⟩ := vals1 r
  have hn := line63
  exact len_str (by first | lia | omega) ⟨.int z.length, H, I.tok _, ⟨_, rfl⟩, q⟩
/-- the value is of that builtin type -/
def tyV (K : PySem.W.Frag) (T : String) (x : V) (H : Hp) : Prop := match x with
  | .str _ => T = "str"
  | .int _ => T = "int"
  | .ref p => (T = "list" ∧ ∃ xs, SqL K H p xs) ∨ (T = "tuple" ∧ ∃ o, K.lookup p = some o ∧ o.cls = .type "tuple" ∧ o.dict = none) ∨
      (T = "dict" ∧ ((∃ kvs, H p = some (.dK kvs)) ∨ ∃ kvs, H p = some (.dT kvs))) ∨ (T = "set" ∧ ∃ S n, H p = some (.set S n))
  | _ => False
theorem tyV_is {pins : List (Addr × Obj)} {σ : St} {H : Hp} {s : Shared} {T : String} {x : V} {v : Value} (I : Inv X pins σ H s) (r : RelV x v) (ty : tyV X.K T x H) :
    s.TypeIs v T ∧ ∀ a, v = .ref a → ∃ ob, s.heap.get? a = some ob ∧ ob.dict = none := by
  cases x with
  | str z =>
    obtain ⟨t, rfl⟩ := r
    cases (show T = "str" from ty)
    exact ⟨typeIs_str s z t, fun _ e => nomatch e⟩
  | int i =>
    obtain ⟨t, rfl⟩ := r
    cases (show T = "int" from ty)
    exact ⟨typeIs_int s i t, fun _ e => nomatch e⟩
  | ref p =>
    cases r
    rcases ty with ⟨rfl, xs, hq⟩ | ⟨rfl, o, hk, hc, hd⟩ | ⟨rfl, hk⟩ | ⟨rfl, S, n, hk⟩
    · obtain ⟨its, _, pl, _⟩ := I.list hq
      refine ⟨pl.isList.typeIs, fun a e => ?_⟩
      cases e
      obtain ⟨o, n, e, c, hd, _⟩ := pl
      exact ⟨o, e, hd⟩
    · refine ⟨⟨o, I.kIn p o hk, hc⟩, fun a e => ?_⟩
      cases e
      exact ⟨o, I.kIn _ o hk, hd⟩
    · have z : ∃ o, s.heap.get? p = some o ∧ o.ExactDict := by
        rcases hk with ⟨kvs, hk⟩ | ⟨kvs, hk⟩
        · obtain ⟨_, _, _, _, o, _, _, e, ex, _⟩ := I.hok p _ hk
          exact ⟨o, e, ex⟩
        · obtain ⟨_, _, _, _, o, _, _, e, ex, _⟩ := I.hok p _ hk
          exact ⟨o, e, ex⟩
      obtain ⟨o, e, ex⟩ := z
      refine ⟨⟨o, e, ex.1⟩, fun a e2 => ?_⟩
      cases e2
      exact ⟨o, e, ex.2.1⟩
    · obtain ⟨o, _, _, _, e, ex, _⟩ := I.hok p _ hk
      refine ⟨⟨o, e, ex.1⟩, fun a e2 => ?_⟩
      cases e2
      exact ⟨o, e, ex.2.1⟩
  | _ => exact False.elim ty
def tBM0 (K : PySem.W.Frag) (T : String) (r : V → List V → Hp → VK → Prop) (to : TE) : TE := fun σ H Q => to σ H fun x H1 => tyV K T x H1 ∧ r x [] H1 Q
def tBM (K : PySem.W.Frag) (T : String) (r : V → List V → Hp → VK → Prop) (to : TE) (t : TA) : TE := fun σ H Q => to σ H fun x H1 => tyV K T x H1 ∧ t σ H1 fun xs H2 => r x xs H2 Q
variable {o e : Expr} {es : List Expr} {to : TE} {t : TA} {name : Str} {apos cpos : Pos} {T id : String} {r : V → List V → Hp → VK → Prop}
theorem pe_bm0 (pa : PlainAttrs T) (slot : Slot T name id) (hty : typeOf (.builtin id) = pure (.type "method_descriptor")) (hm : MtR X id r) (ho : PE X o to)
    (hbase : attributeBase o name X.env (eval o X.env) = eval o X.env := by rfl) (hline : (apos.endLine == cpos.line) = true := by rfl) : PE X (.Call (.Attribute o name apos) [] [] cpos) (tBM0 X.K T r to) := by
  intro pins s σ H Q I h
  refine wpAny_Call_method0_late hbase hline (thn (ho pins s σ H _ I h) fun v s1 ⟨x, H1, I1, r1, ty, q1⟩ => ?_)
  obtain ⟨h1, h2⟩ := tyV_is I1 r1 ty
  exact ⟨T, id, pa, slot, hty, h1, h2, Calls.callWith_builtin rfl (PySem.evalArgs_none (hm pins s1 σ H1 x [] v [] Q I1 r1 .nil q1))⟩
theorem pe_bm (pa : PlainAttrs T) (slot : Slot T name id) (hty : typeOf (.builtin id) = pure (.type "method_descriptor")) (hm : MtR X id r) (ho : PE X o to) (ha : PA X (e :: es) t)
    (hbase : attributeBase o name X.env (eval o X.env) = eval o X.env := by rfl)
    (hfew : ((backTo cpos (starEach (e :: es) X.env)).all (fun x => !x.1) && (backToKw cpos (keywordEach [] X.env)).all (fun x => x.1.isSome)
      && decide ((e :: es).length + ([] : List Keyword).length + (if ([] : List Keyword).isEmpty then 0 else 1) < 30)) = true := by rfl)
    (hline : (apos.endLine == cpos.line) = true := by rfl) (hs : starEach (e :: es) X.env = (false, eval e X.env) :: starEach es X.env := by rfl) (hplain : (backTo cpos (starEach es X.env)).any (·.1) = false := by rfl) :
    PE X (.Call (.Attribute o name apos) (e :: es) [] cpos) (tBM X.K T r to t) := by
  intro pins s σ H Q I h
  refine wpAny_Call_method_late hbase hfew hline rfl (thn (ho pins s σ H _ I h) fun v s1 ⟨x, H1, I1, r1, ty, q1⟩ => ?_)
  obtain ⟨h1, h2⟩ := tyV_is I1 r1 ty
  refine ⟨T, id, pa, slot, hty, h1, h2, ?_⟩
  have hA := ha cpos pins s1 σ H1 _ I1 q1
  rw [hs] at hA ⊢
  refine Calls.callWith_builtin (by show (false || (backTo cpos (starEach es X.env)).any (·.1)) = false; rw [hplain] <;> rfl) (Calls.evalArgs_plain ?_)
  exact thn hA fun us s2 ⟨vs, H2, I2, r2, q2⟩ => hm pins s2 σ H2 x vs v us Q I2 r1 r2 q2
/- xs.append(e), list.index on a module's tuple .. are MtR facts of 06m -/
end
end L2

namespace L2
open PySem PySem.Spec PyProof.Rows

def MtM (X : Cx) (id : String) (r : V → List V → Hp → VK → Prop) : Prop :=
  ∀ (pins : List (Addr × Obj)) (s : Shared) (σ : St) (H : Hp) (x : V) (xs : List V) (v : Value) (us : List Value) (Q : VK), Inv X pins σ H s → RelV x v → Vals xs us → r x xs H Q →
    wpAny (model X.prog X.w) X.A (call (.builtin id) (v :: us)) (EP X pins σ Q) X.xe s

theorem Vals.one : ∀ {x : V} {us : List Value}, Vals [x] us → ∃ u, us = [u] ∧ RelV x u
  | _, _, .cons r .nil => ⟨_, rfl, r⟩
theorem Vals.zero : ∀ {us : List Value}, Vals [] us → us = []
  | _, .nil => rfl
theorem Vals.dropLast {xs : List V} {us : List Value} (h : Vals xs us) : Vals xs.dropLast us.dropLast := by
  induction h with
  | nil => exact .nil
  | cons r t ih =>
    cases t with
    | nil => exact .nil
    | cons q t' => exact .cons r ih
theorem Vals.rep {xs : List V} {us : List Value} (h : Vals xs us) : ∀ k : Nat, Vals (List.replicate k xs).flatten (List.replicate k us).flatten
  | 0 => .nil
  | k + 1 => by
    rw [List.replicate_succ, List.replicate_succ, List.flatten_cons, List.flatten_cons]
    exact Vals.append h (Vals.rep h k)
theorem erase_last {α : Type} (l : List α) : l.eraseIdx (l.length - 1) = l.dropLast := by
  induction l with
  | nil => rfl
  | cons a r ih =>
    cases r with
    | nil => rfl
    | cons b r =>
      have e : (a :: b :: r).length - 1 = ((b :: r).length - 1) + 1 := by
        have h1 : (a :: b :: r).length = r.length + 2 := rfl
        have h2 : (b :: r).length = r.length + 1 := rfl
        first | lia | omega
      rw [e, List.eraseIdx_cons_succ, ih]
      all_goals rfl
theorem foldl_rep (its : List Value) : ∀ (k : Nat) (acc : List Value),
    List.foldl (fun x1 x2 => x1 ++ x2) acc.toArray (List.replicate k its.toArray) = (acc ++ (List.replicate k its).flatten).toArray
  | 0, acc => by simp
  | k + 1, acc => by
    have e : acc.toArray ++ its.toArray = (acc ++ its).toArray := by simp
    have e2 : (acc ++ its) ++ (List.replicate k its).flatten = acc ++ (List.replicate (k + 1) its).flatten := by
      rw [List.replicate_succ, List.flatten_cons, List.append_assoc]
    rw [← e2, ← foldl_rep its k (acc ++ its), ← e, List.replicate_succ, List.foldl_cons]

section
variable {X : Cx} {pins : List (Addr × Obj)} {σ : St} {H : Hp} {s : Shared} {l b : Addr} {xs ys zs : List V}

theorem Inv.lset {its its' : List Value} {n : Nat} {f : Array Value → Array Value} {t' : Nat} (I : Inv X pins σ H s) (hH : H l = some (.lst xs))
    (e : s.heap.get? l = some { cls := .type "list", data := .seq its.toArray n }) (hf : f its.toArray = its'.toArray) (hv : Vals ys its') (hz : ys.length ≤ sizeLine) :
    Inv X pins σ (upd H l (.lst ys)) { s with heap := s.heap.update l (Obj.mapSeq f), toks := t' } := by
  have q := PySem.IsL.update e f
  rw [hf] at q
  refine I.write (x := l) (e := l) (by rw [hH]; exact trivial) (.inl rfl) (fun b' u hb hu => (Heap.get?_update_other s.heap (Obj.mapSeq f) (Ne.symm hb)).trans hu) ⟨_, q⟩ ?_
  exact ⟨hz, its', _, hv, q⟩
theorem Inv.lnew {its : List Value} {t' : Nat} (I : Inv X pins σ H s) (hv : Vals ys its) (hz : ys.length ≤ sizeLine) :
    Inv X pins σ (upd H s.heap.objs.size (.lst ys)) { s with heap := s.heap.push { cls := .type "list", data := .seq its.toArray }, toks := t' } :=
  I.laid (fun _ _ q => Heap.get?_push_of_some _ q) (Nat.le_refl _) ⟨hz, its, 0, hv, Heap.get?_push_size _ rfl⟩
theorem Inv.fresh (I : Inv X pins σ H s) : H s.heap.objs.size = none := I.hok.fresh (Nat.le_refl _)
theorem Inv.lstM (I : Inv X pins σ H s) (hH : H l = some (.lst xs)) : xs.length ≤ sizeLine ∧ ∃ (its : List Value) (n : Nat), Vals xs its ∧ xs.length = its.length ∧ s.heap.get? l = some { cls := .type "list", data := .seq its.toArray n } := by
  obtain ⟨z, its, n, r, e⟩ := I.hok l _ hH
  exact ⟨z, its, n, r, r.length, e⟩

theorem notLongL {n : Nat} (h : n ≤ sizeLine) : Builtin.List.listTooLong n = false := by
  unfold Builtin.List.listTooLong
  exact decide_eq_false (by first | lia | omega)
end

section
variable {X : Cx}

def rAppend : V → List V → Hp → VK → Prop := fun x vs H Q => ∃ l xs y, x = .ref l ∧ vs = [y] ∧ H l = some (.lst xs) ∧ xs.length < sizeLine ∧ Q .non (upd H l (.lst (xs ++ [y])))
theorem mt_append : MtM X "list.append" rAppend := by
  intro pins s σ H x vs v us Q I rx rv h
  obtain ⟨l, xs, y, rfl, rfl, hH, hz, q⟩ := h
  cases rx
  obtain ⟨u, rfl, ru⟩ := rv.one
  obtain ⟨z, its, n, r, hl, e⟩ := I.lstM hH
  refine call_meets F.slot_list_append ⟨_, e, rfl⟩ F.entry_list_append (F.args_list_append_2 _ _) (PySem.list_append l its.toArray n u (by rw [List.size_toArray]; first | lia | omega)) ⟨e, ?_⟩
  refine ⟨.non, _, I.lset (its' := its ++ [u]) hH e (by simp) (r.append (.cons ru .nil)) ?_, rfl, q⟩
  rw [List.length_append, List.length_singleton]
  first | lia | omega

def rPop : V → List V → Hp → VK → Prop := fun x vs H Q => ∃ l xs y, x = .ref l ∧ vs = [] ∧ H l = some (.lst xs) ∧ xs[xs.length - 1]? = some y ∧ Q y (upd H l (.lst xs.dropLast))
theorem mt_pop : MtM X "list.pop" rPop := by
  intro pins s σ H x vs v us Q I rx rv h
  obtain ⟨l, xs, y, rfl, rfl, hH, hy, q⟩ := h
  cases rx
  have hus := rv.zero
  subst hus
  obtain ⟨z, its, n, r, hl, e⟩ := I.lstM hH
  obtain ⟨u, hu, ru⟩ := r.get hy
  have hy' : its.toArray[its.toArray.size - 1]? = some u := by
    show its.toArray[its.length - 1]? = some u
    rw [← Array.getElem?_toList, ← hl]
    exact hu
  refine call_meets F.slot_list_pop ⟨_, e, rfl⟩ F.entry_list_pop (F.args_list_pop_1 _) (MeetsSeq.list_pop_last l its.toArray n u hy' (by rw [List.size_toArray]; first | lia | omega)) ⟨e, ?_⟩
  refine ⟨y, _, I.lset (its' := its.dropLast) hH e ?_ r.dropLast ?_, ru, q⟩
  · show its.toArray.eraseIdxIfInBounds (its.toArray.size - 1) = its.dropLast.toArray
    rw [List.size_toArray, List.eraseIdxIfInBounds_toArray, erase_last]
  · rw [List.length_dropLast]
    first | lia | omega

def rCat : R2 := fun x y H Q => ∃ l b xs zs, x = .ref l ∧ y = .ref b ∧ H l = some (.lst xs) ∧ H b = some (.lst zs) ∧ xs.length + zs.length ≤ sizeLine ∧ ∀ p, H p = none → Q (.ref p) (upd H p (.lst (xs ++ zs)))
theorem op_cat : OpR X (binaryOp .Add) rCat := by
  intro pins s σ H x y v u Q I rx ry h
  obtain ⟨l, b, xs, zs, rfl, rfl, hH, hB, hz, q⟩ := h
  cases rx
  cases ry
  obtain ⟨z, its, n, r, hl, e⟩ := I.lstM hH
  obtain ⟨z2, its2, n2, r2, hl2, e2⟩ := I.lstM hB
  refine PySem.P.add_list e e2 ?_ (by rw [List.size_toArray, List.size_toArray]; first | lia | omega)
  have ea : its.toArray ++ its2.toArray = (its ++ its2).toArray := by simp
  rw [ea]
  exact ⟨.ref _, _, I.lnew (t' := s.toks) (r.append r2) (by rw [List.length_append]; first | lia | omega), rfl, q _ I.fresh⟩
/-- a list times an int (a negative one is nothing) -/
def rRep : R2 := fun x y H Q => ∃ l k xs, x = .ref l ∧ y = .int k ∧ H l = some (.lst xs) ∧ -(2 ^ 63) ≤ k ∧ k < 2 ^ 63 ∧ xs.length * k.toNat ≤ sizeLine ∧
  ∀ p, H p = none → Q (.ref p) (upd H p (.lst (List.replicate k.toNat xs).flatten))
theorem len_rep {α : Type} (xs : List α) (k : Nat) : (List.replicate k xs).flatten.length = k * xs.length := by
  induction k with
  | zero => simp
  | succ k ih => rw [List.replicate_succ, List.flatten_cons, List.length_append, ih, Nat.succ_mul, Nat.add_comm]
theorem op_rep : OpR X (binaryOp .Mult) rRep := by
  intro pins s σ H x y v u Q I rx ry h
  obtain ⟨l, k, xs, rfl, rfl, hH, h1, h2, hz, q⟩ := h
  cases rx
  obtain ⟨t, rfl⟩ := ry
  obtain ⟨z, its, n, r, hl, e⟩ := I.lstM hH
  have hlen : its.toArray.size * k.toNat ≤ sizeLine := by rw [List.size_toArray, ← hl]; exact hz
  have hcap : ¬ its.toArray.size * k.toNat > (2 ^ 63 - 1) / 8 := by
    have : (sizeLine : Nat) ≤ (2 ^ 63 - 1) / 8 := by decide
    first | lia | omega
  have hfit : ¬ (!Builtin.List.listFitsIndex k) = true := by
    rw [fitsIndex_both h1 h2]
    exact Bool.false_ne_true
  have hlong : ¬ Builtin.List.listTooLong (its.toArray.size * k.toNat) = true := by
    rw [notLongL hlen]
    exact Bool.false_ne_true
  have hnew : List.foldl (fun x1 x2 => x1 ++ x2) #[] (List.replicate (if its.toArray.isEmpty = true then 0 else k.toNat) its.toArray) = (List.replicate k.toNat its).flatten.toArray := by
    have f0 : ∀ m : Nat, List.foldl (fun x1 x2 => x1 ++ x2) #[] (List.replicate m its.toArray) = (List.replicate m its).flatten.toArray := fun m => by
      have := foldl_rep its m []
      rw [List.nil_append] at this
      exact this
    rw [f0]
    cases its with
    | nil => simp
    | cons a r' => rw [if_neg (by simp)]
  refine wpAny_binaryOp_repeat_ref (T := "list") (U := "int") (by decide) ⟨_, e, rfl⟩ (fun s' => typeIs_int s' k t) noFill_list_mul F.fills_int_mul F.slot_int_rmul repeat_list F.slot_int_index.lookup
    (call_meets F.slot_int_rmul (typeIs_int s k t) F.entry_int_rmul (F.args_int_rmul_2 _ _) (int___rmul___int_list k t l its.toArray n)
      ⟨e, rfl, ⟨_, e, rfl⟩, call_meets F.slot_list_mul ⟨_, e, rfl⟩ F.entry_list_mul (F.args_list_mul_2 _ _) (AutoListH.list___mul___list_int_3 l its.toArray n k t hfit hcap hlong) ⟨e, ?_⟩⟩)
  rw [hnew]
  exact ⟨.ref _, _, I.lnew (t' := s.toks) (r.rep k.toNat) (by rw [len_rep, Nat.mul_comm]; exact hz), rfl, q _ I.fresh⟩

end

section
variable {prog : Program} {w : World} {A : Around} {E : Value → Shared → Prop} {s : Shared}
end

section
variable {X : Cx}
end
end L2

namespace Att
open PySem PySem.W PySem.Calls PyProof.Rows

theorem ints_of_wellAll {P : Params} {h : Heap} : ∀ (ns : List Int) (vs : List Value), WellAll P h vs (ns.map WData.int) → IntsAre vs ns := by
  intro ns
  induction ns with
  | nil =>
    intro vs w
    rw [List.map_nil] at w
    cases w
    exact .nil
  | cons n ns ih =>
    intro vs w
    rw [List.map_cons] at w
    cases w with
    | cons a b =>
      cases a
      exact .cons _ _ (ih _ b)

theorem script_of {l : OpenLaw} {n : Nat} (hn : l.most = some n) {P : Params} {h : Heap} {args : List WData} {vals : List Value}
    (hpre : l.row.toRowW.claim.pre args = true) (hwl : WellAll P h vals args) :
    ∃ a vs ns, vals = [Value.ref a] ∧ args = [WData.list (ns.map WData.int)] ∧ h.get? a = some { cls := .type "list", data := .seq vs.toArray } ∧ IntsAre vs ns ∧ ns.length ≤ n := by
  have hsh : WShape.hasAll [] args [.list .int] = true := (pre_splitW hpre).1
  have hc : l.pre.holds [] { args := args } = true := (pre_splitW hpre).2
  obtain ⟨d, r, rfl, h1, h2⟩ := hasAllW_cons hsh
  obtain rfl := hasAllW_nil h2
  obtain ⟨xs, rfl, h3⟩ := hasW_list h1
  obtain ⟨ns, rfl⟩ := items_int h3
  have hlen : ns.length ≤ n := by
    unfold OpenLaw.pre at hc
    have h4 : (WTm.not (.lt (.lit (.int (n : Int))) (.len (.arg 0)))).holds [] { args := [.list (ns.map .int)] } = true := by
      have h4 := (holds_andW hc).1
      rw [hn] at h4
      exact h4
    have h5 := condW_of h4 (w_not (w_lt w_lit (w_len_list (w_arg rfl))))
    rw [List.length_map] at h5
    refine Nat.le_of_not_lt fun q => ?_
    have q' : (n : Int) < ((ns.length : Nat) : Int) := by first | lia | omega
    first
      | (rw [decide_eq_true q'] at h5; exact absurd h5 (by decide))
      | (simp at h5; first | lia | omega)
  cases hwl with
  | cons w1 w2 =>
    cases w2
    cases w1 with
    | list ho hall => exact ⟨_, _, ns, rfl, rfl, ho, ints_of_wellAll ns _ hall, hlen⟩

theorem post_true (l : OpenLaw) (args : List WData) : l.row.toRowW.claim.post args (.bool true) args = true :=
  postW_of (r := l.row.toRowW) (X := (true == true))
    (show WShape.has [] (.bool true) .bool = true by first | rfl | decide | simp [WShape.has, WShape.arms, WShape.armsAll])
    (show (WTm.eq .res (.lit (.bool true))).value [] { args := args, res := some (.bool true), after := args } = some (.bool (true == true)) from w_eq_bool (w_res rfl) w_lit) rfl

/-- the same from a codeAny of the CALL (for a layer whose function contracts speak of calls) -/
theorem attach_call {l : OpenLaw} {n : Nat} {q : Program} {loose : List Str} {XP : (Str → Option Value) → Heap → Prop} {YP : World → Heap → Prop} {d : DefRec}
    (hn : l.most = some n) (hdf : d.params.defaults = [])
    (call : ∀ (w : World) (s₀ s₁ : Shared) (mg mb : Str → Option Value) (fa : Addr) (o : Obj) (pm cd doc : Value) (a : Addr) (vs : List Value) (ns : List Int),
      Ground q loose [] XP w s₀ mg mb s₁.heap → YP w s₁.heap →
      s₁.heap.get? fa = some o → o.data = .func (docDef d.name d.params d.body d.scope pm cd doc) → s₁.heap.CodeRec cd d.name → mg d.name = some (.ref fa) →
      s₁.heap.get? a = some { cls := .type "list", data := .seq vs.toArray } → IntsAre vs ns → ns.length ≤ n → s₁.gens = #[] →
      codeAny (model l.prog w) callerA (.call (.ref fa) ⟨[.ref a], []⟩) (fun r s' => r = .ok (.ret (.bool true)) ∧ OldK s₁.heap s'.heap ∧ s'.os = s₁.os ∧ AllBare s'.gens) s₁) :
    WalkO q loose XP YP l.row.toRowW d [] (fun f vs => PySem.call f vs) := by
  intro w s₀ s₁ mg mb G Y fa o pm cd doc dV kV ho hd hcd hD hmg hg args vals as hpre hlay hrd hwl hlo
  obtain rfl : dV = .none := Dflts.none hD hdf
  obtain rfl : kV = .none := Dflts.noKw hD
  obtain ⟨a, vs, ns, rfl, rfl, hobj, hints, hlen⟩ := script_of hn hpre hwl
  refine enter_call (codeAny_mono (call w s₀ s₁ mg mb fa o pm cd doc a vs ns G Y ho (fd_plain hd) hcd hmg hobj hints hlen hg) fun r s' hq => ?_)
  obtain ⟨rfl, h2, h3, h4⟩ := hq
  exact ⟨.inl ⟨.bool true, .bool true, [], rfl, fun _ => rfl, .bool true, post_true l _, fun _ => ⟨List.Pairwise.nil, fun _ hm => (nomatch hm)⟩⟩, h2, h3, h4⟩

section
variable {prog : Program} {w : World} {A : Around} {E : Value → Shared → Prop} {s : Shared} {K : Frag}

end
end Att

namespace L2
open PySem PySem.Spec PyProof.Rows

theorem vals_ints : ∀ {vs : List Value} {ns : List Int}, IntsAre vs ns → Vals (ns.map V.int) vs
  | _, _, .nil => .nil
  | _, _, .cons n t h => .cons ⟨t, rfl⟩ (vals_ints h)

/-- nothing is tracked but the script, known to the object (or it is an object of the module) -/
def Only (H : Hp) : Prop := ∀ b, H b = none ∨ ∃ o xs, H b = some (.frz o (.lst xs))

/-- THE HEAD: the law's promise, at the heap behind the top. F, the promise of the law's def, may use that base is part of the heap (so K.In base, base.Ns mainGlobals mg stand in Mod) -/
theorem law_call {P : Program} {w : World} {K : PySem.W.Frag} {mg mb : Str → Option Value} {CX : CXT} {k : Nat} {fa a : Addr} {fd : FuncData} {x : Str} {sp : Sp} {s₁ : Shared} {vs : List Value} {ns : List Int}
    (KX : K.In s₁.heap) (hns : s₁.heap.Ns mainGlobals mg) (hb : s₁.heap.Ns builtinsNs mb) (hbb : ∀ x : Str, x ≠ "__name__" → mb x = bootBuiltins x) (hlim : s₁.heap.NoLimit) (hg : s₁.gens = #[])
    (ha : s₁.heap.get? a = some { cls := .type "list", data := .seq vs.toArray }) (hi : IntsAre vs ns) (hl : ns.length ≤ sizeLine) (hr : Room k callerA)
    (F : ∀ base : Heap, K.In base → base.Ns mainGlobals mg → FnOk P w K mg base CX k fa fd [x] sp) (hbind : ∀ (s : Shared) (u : Value), BindsTo s fd ⟨[u], []⟩ [(x, u)])
    (hsp : ∀ H : Hp, Only H → SqL K H a (ns.map V.int) → sp [.ref a] H (fun v _ => v = .bl true) fun _ _ _ => False)
    (hCX : ∀ H e s', CX [] H s₁ (fun _ _ _ => False) e s' → False) :
    codeAny (model P w) callerA (.call (.ref fa) ⟨[.ref a], []⟩) (fun r s' => r = .ok (.ret (.bool true)) ∧ OldK s₁.heap s'.heap ∧ s'.os = s₁.os ∧ AllBare s'.gens) s₁ := by
  have rv := vals_ints hi
  have lenV := hi.length
  -- from an abstract heap in which nothing but the script may be tracked
  have core : ∀ H : Hp, Only H → SqL K H a (ns.map V.int) → HOk P w H s₁.heap → (∀ b, H b ≠ none → b = a) → (H a ≠ none → K.lookup a = none) →
      codeAny (model P w) callerA (.call (.ref fa) ⟨[.ref a], []⟩) (fun r s' => r = .ok (.ret (.bool true)) ∧ OldK s₁.heap s'.heap ∧ s'.os = s₁.os ∧ AllBare s'.gens) s₁ := by
    intro H hO hS hok hA hK
    have base_of : ∀ {b : Addr} {o : Obj}, s₁.heap.get? b = some o → H b = none → (hidT s₁.heap H).get? b = some o := fun e n => hidT_get e n
    have noA : ∀ {b : Addr} {o : Obj} {es : Array DictEntry} {ep : Nat}, s₁.heap.get? b = some o → o.data = .dict es ep → H b = none := fun {b o es ep} e d => by
      cases q : H b with
      | none => rfl
      | some u =>
        have e' : b = a := hA b (by rw [q]; simp)
        subst e'
        rw [ha] at e; cases e
        have d' : Data.seq vs.toArray _ = Data.dict es ep := d
        cases d'
    have nsK : ∀ {b : Addr} {m : Str → Option Value}, s₁.heap.Ns b m → (hidT s₁.heap H).Ns b m := fun {b m} ⟨o, es, ep, e, d, r⟩ => ⟨o, es, ep, base_of e (noA e d), d, r⟩
    have hKb : K.In (hidT s₁.heap H) := fun b o e => base_of (KX b o e) (by
      cases q : H b with
      | none => rfl
      | some u =>
        have e' : b = a := hA b (by rw [q]; simp)
        subst e'
        rw [hK (by rw [q]; simp)] at e; cases e)
    have hM : Mod K mg (hidT s₁.heap H) := ⟨hKb, nsK hns, ⟨mb, nsK hb, hbb⟩, let ⟨mc, h1, h2⟩ := hlim; ⟨mc, nsK h1, h2⟩⟩
    have e0 : Env0 P w K mg (hidT s₁.heap H) callerA [] s₁ H := ⟨rfl, hM, fun b o e => of_hidT e, Nat.le_of_eq (hidT_size _ _), trivial, fun b hb => absurd (show b ∈ ([] : List Addr) from hb) (by simp), hok, .of_eq hg⟩
    refine codeAny_mono ((F _ hKb (nsK hns)).run callerA [] s₁ H ⟨[.ref a], []⟩ [.ref a] [.ref a] _ _ hr e0 (hbind s₁ (.ref a)) (.cons rfl .nil) (hsp H hO hS)) fun r s' h => ?_
    cases r with
    | error e => exact (hCX H e s' h).elim
    | ok fl =>
      cases fl with
      | next => exact False.elim h
      | brk => exact False.elim h
      | cont => exact False.elim h
      | ret u =>
        obtain ⟨v, H', os, bare, un, hok', r', q⟩ := h
        have q' : v = .bl true := q
        subst q'
        obtain rfl : u = Value.bool true := r'
        refine ⟨rfl, OldK.of_keep fun b o e => ?_, os, bare⟩
        cases q : H b with
        | none => exact un.keep b o e q (by intro z; exact absurd (show b ∈ ([] : List Addr) from z) (by simp)) (by simp)
        | some u =>
          rcases hO b with z | ⟨ob, xs, z⟩
          · rw [q] at z; cases z
          · have z2 := un.frzs b ob _ z
            obtain ⟨e1, _⟩ := hok b _ z
            obtain ⟨e2, _⟩ := hok' b _ z2
            rw [e] at e1; cases e1
            exact e2
  cases hk : K.lookup a with
  | some o =>
    -- the script is one of the module's own objects
    have e := KX a o hk
    rw [ha] at e
    cases e
    refine core (fun _ => none) (fun _ => .inl rfl) (.inr ⟨_, vs.toArray, _, hk, rfl, rfl, rfl, by rw [List.size_toArray, lenV]; exact hl, by simpa using rv⟩) (fun b u z => by have z' : (none : Option HO) = some u := z; cases z') (fun b z => absurd rfl z) fun z => absurd rfl z
  | none =>
    refine core (fun b => if b = a then some (.frz { cls := .type "list", data := .seq vs.toArray } (.lst (ns.map V.int))) else none) (fun b => ?_) (.inl (.inr ⟨{ cls := .type "list", data := .seq vs.toArray }, if_pos rfl⟩)) (fun b u z => ?_) (fun b z => ?_) fun _ => hk
    · by_cases hb : b = a
      · exact .inr ⟨_, _, if_pos hb⟩
      · exact .inl (if_neg hb)
    · by_cases hb : b = a
      · have z' := (if_pos hb).symm.trans z
        cases z'
        subst hb
        exact ⟨ha, by rw [List.length_map]; exact hl, vs, _, rv, ha⟩
      · have z' := (if_neg hb).symm.trans z
        cases z'
    · by_cases hb : b = a
      · exact hb
      · exact absurd (if_neg hb) z
end L2

namespace L2
open PySem PySem.Spec PyProof.Rows

abbrev KOf {K : PySem.W.Frag} {h : Heap} (_ : K.In h) : PySem.W.Frag := K

/-- the goal that k_head leaves (case hc), from the law's promise. F gives the function object fd (K's own) once, then the promise over every base -/
theorem walk_of {l : PySem.W.OpenLaw} {n k : Nat} {q : Program} {loose : List Str} {XP : (Str → Option Value) → Heap → Prop} {YP : World → Heap → Prop} {d : DefRec} {K : Params → PySem.W.Frag} {CX : World → CXT} {sp : World → Sp} {x : Str}
    (hn : l.most = some n) (hn2 : n ≤ sizeLine) (hdf : d.params.defaults = []) (hr : Room k callerA)
    (hY : ∀ (w : World) (h : Heap), YP w h → (K w.params).In h)
    (F : ∀ (w : World) (mg : Str → Option Value) (fa : Addr) (h : Heap), (K w.params).In h → h.Ns mainGlobals mg → mg d.name = some (.ref fa) →
      ∃ fd : FuncData, (∀ (s : Shared) (u : Value), BindsTo s fd ⟨[u], []⟩ [(x, u)]) ∧
        ∀ base : Heap, (K w.params).In base → base.Ns mainGlobals mg → FnOk l.prog w (K w.params) mg base (CX w) k fa fd [x] (sp w))
    (hsp : ∀ (w : World) (H : Hp) (a : Addr) (ns : List Int), ns.length ≤ n → Only H → SqL (K w.params) H a (ns.map V.int) → sp w [.ref a] H (fun v _ => v = .bl true) fun _ _ _ => False)
    (hCX : ∀ (w : World) (H : Hp) (s : Shared) (e : Value) (s' : Shared), CX w [] H s (fun _ _ _ => False) e s' → False) :
    PySem.W.WalkO q loose XP YP l.row.toRowW d [] (fun f vs => PySem.call f vs) := by
  refine Att.attach_call hn hdf fun w s₀ s₁ mg mb fa o pm cd doc a vs ns G Y ho hd hcd hmg hobj hints hlen hg => ?_
  have KX := hY w _ Y
  obtain ⟨fd, hb, hF⟩ := F w mg fa _ KX G.T.g hmg
  exact law_call KX G.T.g G.T.b G.T.builtins G.T.nolimit hg hobj hints (Nat.le_trans hlen hn2) hr hF hb (fun H hO hS => hsp w H a ns hlen hO hS) fun H e s' => hCX w H s₁ e s'
end L2

/- THE LAST THEOREM (shape; LID, My.* are yours):
   My.Adr: a structure of the addresses that your layer names (classes, functions); My.Txt K t: a structure (Prop) of the equations over K;
   My.txt_mk : {K} {implicit addresses ..} (e1 : nsIn K mainGlobals "law" = some (some (.ref f))) (e2 : K.lookup f = some ⟨oc, od, .func (fnOf "law" "law" params body scope dV kV doc pm an cdv ct), sl⟩) (e3 : codeIn K cdv "law" = true) .. : ∃ t, My.Txt K t

set_option maxRecDepth 100000 in
set_option maxHeartbeats 0 in
theorem PySem.Challenge.cw_LID_holds : PySem.Challenge.rw_LID.Holds := by
  w_on; o_law; k_head; (case hw => w_witness2)
  k_fill
  refine L2.walk_of (l := PySem.Challenge.rw_LID) (n := 63) (k := 40) (x := "script") (CX := fun w => ..) (sp := fun _ => My.sp_law) rfl (by decide) rfl ⟨rfl, by decide, by decide⟩ (fun w h Y => PySem.W.kIn_of Y) ?F ?S ?C
  case F =>
    intro w mg fa h KX G hmg
    have T : ∃ t, My.Txt (L2.KOf KX) t := by
      dsimp only [L2.KOf]                          -- K must stand as «<heap const> w.params» for k_is
      refine' My.txt_mk ?e1 ?e2 ?e3 ..
      (case e1 => PySem.W.k_is)                    -- in the order: a name -> its address -> its object -> its parts
      (case e2 => PySem.W.k_is)
      ..
    obtain ⟨t, T⟩ := T
    have e0 := hmg.symm.trans (PySem.W.mg_of KX G T.law)
    cases e0                                       -- fa is the law's own address
    exact ⟨_, fun s u => .of_eq rfl, fun base kb nb => My.law_fn T kb nb⟩     -- if «.of_eq rfl» comes too early: refine' ⟨_, ?b, fun base kb nb => My.law_fn T kb nb⟩; exact fun s u => .of_eq rfl
  case S => exact fun w H a ns hl hO hS => ..
  case C => exact ..
(the tactic k_is has no namespace: write k_is) -/

namespace L2
open PySem PySem.Spec PyProof.Rows

/-- the j-th statement of a class's body -/
def inClass (s : Stmt) (j : Nat) : Stmt := match s with
  | .ClassDef _ _ _ body _ _ _ _ _ _ _ => body.getD j (.Pass ⟨0, 0, 0, 0⟩)
  | _ => .Pass ⟨0, 0, 0, 0⟩
def defArgs (s : Stmt) : Arguments := match s with
  | .FunctionDef _ a _ _ _ _ _ _ _ _ => a
  | _ => { posonlyargs := [], args := [], vararg := none, kwonlyargs := [], kw_defaults := [], kwarg := none, defaults := [] }
def defBody (s : Stmt) : List Stmt := match s with
  | .FunctionDef _ _ b _ _ _ _ _ _ _ => b
  | _ => []
def defScope (s : Stmt) : Scope := match s with
  | .FunctionDef _ _ _ _ _ _ sc _ _ _ => sc
  | _ => { kind := .function, names := [], isGenerator := false, isCoroutine := false }

abbrev CX0 : CXT := fun _ _ _ _ _ _ => False
abbrev E0 : XK := fun _ _ _ => False
theorem pass0 {X : Cx} : Passes CX0 X E0 := fun _ _ _ _ _ _ _ h => h.elim

structure Fun (K : PySem.W.Frag) (x qual : Str) (st : Stmt) (f : Addr) (fd : FuncData) : Prop where
  ex : ∃ (oc : Value) (od : Option Addr) (kV doc pm : Value) (an : Option Addr) (cdv ct : Value) (osl : Array (Option Value)),
    fd = PySem.W.fnOf x qual (defArgs st) (defBody st) (defScope st) .none kV doc pm an cdv ct ∧ K.lookup f = some ⟨oc, od, .func fd, osl⟩ ∧ PySem.W.codeIn K cdv qual = true
  kp : PySem.W.keepIn K (.ref f) = true
section
variable {P : Program} {w : World} {K : PySem.W.Frag} {mg : Str → Option Value} {base : Heap}
/-- THE RULE for a def: its body as a term of rules, and the reading of that term -/
theorem Fun.ok {x qual : Str} {st : Stmt} {f : Addr} {fd : FuncData} {N ps : List Str} {k : Nat} {sp : Sp} (F : Fun K x qual st f fd) (S : FnScope N ps (defScope st)) (len : ∀ vs H Q E, sp vs H Q E → vs.length = ps.length)
    (hbody : ∀ (cdv : Value) (A : Around) (outer : List Env) (s : Shared) (H : Hp) (vs : List V) (Q : VK) (E : XK), Room k (A.deeper (envOfC qual (defScope st) s.heap.objs.size f cdv)) → sp vs H Q E →
      ∃ t, PSs (cxOf CX0 P w K mg base N qual (defScope st) f cdv A outer s H E).nox (defBody st) t ∧ t { nx := fun _ H' => Q .non H', rt := Q } (start N vs) H) : FnOk P w K mg base CX0 (k + 1) f fd ps sp := by
  obtain ⟨oc, od, kV, doc, pm, an, cdv, ct, osl, rfl, lk, hcd⟩ := F.ex
  refine fn_of lk hcd S len fun A outer s H vs Q E hr hsp => ?_
  obtain ⟨t, h, q⟩ := hbody cdv A outer s H vs Q E hr hsp
  exact ⟨t, h.nox, q⟩
/-- how its arguments bind (no defaults): h is «fun _ _ _ _ _ _ us hl => match us, hl with | [_, _], _ => rfl», one _ a parameter -/
theorem Fun.binds {x qual : Str} {st : Stmt} {f : Addr} {fd : FuncData} {ps : List Str} (F : Fun K x qual st f fd)
    (h : ∀ (kV doc pm : Value) (an : Option Addr) (cdv ct : Value) (us : List Value), us.length = ps.length → bindArgs (PySem.W.fnOf x qual (defArgs st) (defBody st) (defScope st) .none kV doc pm an cdv ct) ⟨us, []⟩ = pure (ps.zip us)) : Binds K fd ps [] := by
  obtain ⟨oc, od, kV, doc, pm, an, cdv, ct, osl, rfl, lk, hcd⟩ := F.ex
  exact .all (h kV doc pm an cdv ct)
theorem fun_mk {x qual : Str} {st : Stmt} {f : Addr} {oc : Value} {od an : Option Addr} {osl : Array (Option Value)} {kV doc pm cdv ct : Value} (l : K.lookup f = some ⟨oc, od, .func (PySem.W.fnOf x qual (defArgs st) (defBody st) (defScope st) .none kV doc pm an cdv ct), osl⟩)
    (c : PySem.W.codeIn K cdv qual = true) (k : PySem.W.keepIn K (.ref f) = true) : Fun K x qual st f (PySem.W.fnOf x qual (defArgs st) (defBody st) (defScope st) .none kV doc pm an cdv ct) := ⟨⟨oc, od, kV, doc, pm, an, cdv, ct, osl, rfl, l, c⟩, k⟩
end
theorem small1000 {n : Nat} (h : n ≤ 1000) : n < sizeLine := Nat.lt_of_le_of_lt h (by decide)

section
variable {X : Cx}
theorem pv (i : Nat) {x : Str} {pos : Pos} (hN : X.N[i]? = some x := by rfl) (hv : Vis X.env.scope x := by first | exact Or.inl rfl | exact Or.inr (Or.inl rfl) | exact Or.inr (Or.inr rfl)) (hd : (x == ("__debug__" : Str)) = false := by decide)
    (hcd : (x == ("__classdict__" : Str)) = false := by decide) : PE X (.Name x pos) (tVar i) := pe_var hN hv hd hcd
end

theorem iteF {A B : Prop} (h : B) : if false = true then A else B := by
  rw [if_neg Bool.false_ne_true]
  exact h
theorem iteT {A B : Prop} (h : A) : if true = true then A else B := by
  rw [if_pos rfl]
  exact h
/-- all that was tracked is as it was -/
def Same (H H' : Hp) : Prop := ∀ b o, H b = some o → H' b = some o
theorem Same.refl (H : Hp) : Same H H := fun _ _ h => h
theorem Same.trans {H H1 H2 : Hp} (a : Same H H1) (b : Same H1 H2) : Same H H2 := fun c o h => b c o (a c o h)
theorem Same.free {H H' : Hp} (e : Same H H') {l : Addr} (h : H' l = Option.none) : H l = Option.none := by
  cases q : H l with
  | none => rfl
  | some o =>
    rw [e l o q] at h
    cases h
theorem Same.seq {K : PySem.W.Frag} {H H' : Hp} {a : Addr} {xs : List V} (e : Same H H') (h : SqL K H a xs) : SqL K H' a xs := by
  rcases h with (h | ⟨o, h⟩) | h
  · exact .inl (.inl (e _ _ h))
  · exact .inl (.inr ⟨o, e _ _ h⟩)
  · exact .inr h

end L2

set_option maxHeartbeats 4000000
namespace L2
open PySem PySem.Spec PyProof.Rows

def isCF : Option NameKind → Bool
  | some .cell => true
  | some .free => true
  | _ => false
theorem isCF_of {o : Option NameKind} (h : isCF o = true) : o = some .cell ∨ o = some .free := by
  match o, h with
  | some .cell, _ => exact .inl rfl
  | some .free, _ => exact .inr rfl

theorem closure_go (env : Env) : ∀ (l : List (Str × NameKind)) (acc : List (Str × Addr)), (∀ y ∈ l, y.2 = .free → ∃ c, env.cells.lookup y.1 = some c) →
    (∀ x c, acc.lookup x = some c → env.cells.lookup x = some c) →
    ∃ cl, (forIn l acc (fun (x : Str × NameKind) (r : List (Str × Addr)) => if (x.2 == .free) = true then (cellOf env x.1 >>= fun c => pure (ForInStep.yield ((x.1, c) :: r))) else pure (ForInStep.yield r)) : Sem (List (Str × Addr))) = pure cl ∧
      (∀ x c, cl.lookup x = some c → env.cells.lookup x = some c) ∧ (∀ x, ((∃ c, acc.lookup x = some c) ∨ (x, NameKind.free) ∈ l) → ∃ c, cl.lookup x = some c)
  | [], acc, _, ha => ⟨acc, by rfl, ha, fun x h => h.elim id fun z => nomatch z⟩
  | (n, k) :: l, acc, hl, ha => by
    have hl' : ∀ y ∈ l, y.2 = .free → ∃ c, env.cells.lookup y.1 = some c := fun y hy => hl y (List.mem_cons_of_mem _ hy)
    by_cases hk : k = .free
    · subst hk
      obtain ⟨c, hc⟩ := hl (n, .free) List.mem_cons_self rfl
      have hc' : env.cells.lookup n = some c := hc
      have look : ∀ x, ((n, c) :: acc).lookup x = if x = n then some c else acc.lookup x := fun x => by
        rw [List.lookup_cons]
        by_cases e : x = n
        · subst e; simp
        · rw [if_neg e, show (x == n) = false by simpa using e]
      have ha' : ∀ x d, ((n, c) :: acc).lookup x = some d → env.cells.lookup x = some d := fun x d e => by
        rw [look] at e
        split at e
        · rename_i q; subst q; rw [hc']; exact e
        · exact ha x d e
      obtain ⟨cl, e, h1, h2⟩ := closure_go env l ((n, c) :: acc) hl' ha'
      refine ⟨cl, ?_, h1, fun x h => h2 x ?_⟩
      · rw [← e, List.forIn_cons]
        have ec : cellOf env n = pure c := by unfold cellOf; rw [hc']
        show ((cellOf env n >>= fun c => pure (ForInStep.yield ((n, c) :: acc))) >>= _ : Sem (List (Str × Addr))) = _
        rw [ec]
        rfl
      · rcases h with ⟨d, q⟩ | h
        · left
          rw [look]
          by_cases z : x = n
          · exact ⟨c, by rw [if_pos z]⟩
          · exact ⟨d, by rw [if_neg z]; exact q⟩
        · rcases List.mem_cons.mp h with z | z
          · left
            rw [look]
            exact ⟨c, by rw [if_pos (congrArg Prod.fst z)]⟩
          · exact .inr z
    · obtain ⟨cl, e, h1, h2⟩ := closure_go env l acc hl' ha
      refine ⟨cl, ?_, h1, fun x h => h2 x ?_⟩
      · rw [← e, List.forIn_cons]
        have hb : (k == NameKind.free) = false := by simpa using hk
        show ((if (k == NameKind.free) = true then _ else pure (ForInStep.yield acc)) >>= _ : Sem (List (Str × Addr))) = _
        rw [hb]
        rfl
      · rcases h with h | h
        · exact .inl h
        · rcases List.mem_cons.mp h with z | z
          · exact absurd (congrArg Prod.snd z).symm hk
          · exact .inr z
theorem closure_of {scope : Scope} {env : Env} (h : ∀ y ∈ scope.names, y.2 = .free → ∃ c, env.cells.lookup y.1 = some c) :
    ∃ cl, closureFor scope env = pure cl ∧ (∀ x c, cl.lookup x = some c → env.cells.lookup x = some c) ∧ (∀ x, (x, NameKind.free) ∈ scope.names → ∃ c, cl.lookup x = some c) := by
  obtain ⟨cl, e, h1, h2⟩ := closure_go env scope.names [] h (fun x c e => by simp at e)
  refine ⟨cl, ?_, h1, fun x hx => h2 x (.inr hx)⟩
  have e2 : closureFor scope env = (forIn scope.names [] (fun (x : Str × NameKind) (r : List (Str × Addr)) => if (x.2 == .free) = true then (cellOf env x.1 >>= fun c => pure (ForInStep.yield ((x.1, c) :: r))) else pure (ForInStep.yield r)) >>= fun r => pure r : Sem (List (Str × Addr))) := by
    rfl
  rw [e2, e]
  rfl

/-- a comprehension's block: its context -/
abbrev compCx (X : Cx) (scope : Scope) (cl : List (Str × Addr)) (N : List Str) (C : Addr) (s : Shared) (H : Hp) (ex : List Addr) : Cx :=
  { X with N := N, s₀ := s, H₀ := H, env := compEnvC scope cl C X.env, outer := X.stack, ex := ex, fn := fun _ => false, pn := [], xe := fun _ _ => False }

/-- what is asked of the two scopes: fr tells for each name of the block the slot of the def (none: the block's own) -/
def compChk (osc : Scope) (oN : List Str) (sc : Scope) (N : List Str) (fr : List (Option Nat)) : Bool :=
  decide (sc.kind = .function) && sc.names.all (fun y => decide (y.2 ≠ .cell)) && sc.names.all (fun y => decide (y.2 ≠ .free) || isCF (osc.names.lookup y.1)) &&
  sc.names.all (fun y => decide (y.2 ≠ .local) || decide (sc.names.lookup y.1 = some .local)) &&
  (N.zip fr).all (fun y => match y.2 with
    | none => true
    | some i => decide (oN[i]? = some y.1) && isCF (osc.names.lookup y.1) && decide (sc.names.lookup y.1 = some .free)) && decide (N.length = fr.length)
structure CompChk (osc : Scope) (oN : List Str) (sc : Scope) (N : List Str) (fr : List (Option Nat)) : Prop where
  kind : sc.kind = .function
  nocell : ∀ y ∈ sc.names, y.2 ≠ .cell
  free : ∀ y ∈ sc.names, y.2 = .free → isCF (osc.names.lookup y.1) = true
  loc : ∀ y ∈ sc.names, y.2 = .local → sc.names.lookup y.1 = some .local
  slots : ∀ (j : Nat) (x : Str) (i : Nat), N[j]? = some x → fr[j]? = some (some i) → oN[i]? = some x ∧ isCF (osc.names.lookup x) = true ∧ sc.names.lookup x = some .free
  len : N.length = fr.length
theorem compChk_of {osc : Scope} {oN : List Str} {sc : Scope} {N : List Str} {fr : List (Option Nat)} (h : compChk osc oN sc N fr = true) : CompChk osc oN sc N fr := by
  unfold compChk at h
  simp only [Bool.and_eq_true, List.all_eq_true, decide_eq_true_eq, Bool.or_eq_true] at h
  obtain ⟨⟨⟨⟨⟨h1, h2⟩, h3⟩, h4⟩, h5⟩, h6⟩ := h
  refine ⟨h1, h2, fun y hy e => (h3 y hy).resolve_left fun z => z e, fun y hy e => (h4 y hy).resolve_left fun z => z e, fun j x i e1 e2 => ?_, h6⟩
  have hm : (x, some i) ∈ N.zip fr := by
    have : (N.zip fr)[j]? = some (x, some i) := by rw [List.getElem?_zip_eq_some]; exact ⟨e1, e2⟩
    exact List.mem_of_getElem? this
  have := h5 _ hm
  simp only [Bool.and_eq_true, decide_eq_true_eq] at this
  exact ⟨this.1.1, this.1.2, this.2⟩

/-- the block's slots at its entry -/
def stC (fr : List (Option Nat)) (σ : St) : St := fr.map fun o => o.bind fun i => (σ[i]?).join

/-- [elt for tg in ..] : the invariant W by the turn, a measure, the block's slots and the heap; the new list stands at acc -/
def tComp (wi : TI) (g : TG) (te : TE) (fr : List (Option Nat)) : TE := fun σ H Q => wi σ H fun J H1 => ∀ acc, H1 acc = none → ∃ W : Nat → Nat → St → Hp → Prop, (∃ m, W 0 m (stC fr σ) (upd H1 acc (.lst []))) ∧ ∀ i m σ1 H2, W i m σ1 H2 →
  (J.stop i H2 ∧ Q (.ref acc) H2) ∨ (J.go i H2 ∧ ∀ x H3, J.yld i H2 x H3 → g x σ1 H3 fun σ4 H4 => te σ4 H4 fun v H5 => ∃ xs, H5 acc = some (.lst xs) ∧ xs.length < sizeLine ∧ ∃ m', m' < m ∧ W (i + 1) m' σ4 (upd H5 acc (.lst (xs ++ [v]))))

section
variable {prog : Program} {w : World} {A : Around} {R : Result → Shared → Prop} {s : Shared}
theorem compLoop_any {elt target iter : Expr} {scope : Scope} {pos : Pos} {it acc : Value} {env : Env} (I : Nat → Shared → Prop)
    (turn : ∀ n s, I n s → wpAny (model prog w) A (pyNext it) (fun r s₁ => match r with
      | none => R (.ok .next) s₁
      | some v => wpAny (model prog w) A (letOwnedTupleGo target it v) (fun _ s₁ => wpAny (model prog w) A (assign target env v) (fun _ s₂ => wpAny (model prog w) A (eval elt env) (fun x s₃ =>
          wpAny (model prog w) A (call (.builtin "list.append") [acc, x]) (fun _ s₄ => ∃ m, m < n ∧ I m s₄) (notedBy (model prog w) A env fun e s' => R (.error e) s') s₃)
          (notedBy (model prog w) A env fun e s' => R (.error e) s') s₂) (notedBy (model prog w) A env fun e s' => R (.error e) s') s₁) (notedBy (model prog w) A env fun e s' => R (.error e) s') s₁) (notedBy (model prog w) A env fun e s' => R (.error e) s') s)
    (n : Nat) (h : I n s) :
    codeAny (model prog w) A (.compLoop (.ListComp elt [⟨target, iter, [], 0⟩] scope pos) 0 it acc env) R s := by
  refine codeAny_loop rfl I (fun n s hI => ?_) n h
  show wpAny _ _ ((compTurn (.ListComp elt [⟨target, iter, [], 0⟩] scope pos) 0 it acc env).onRaise (fun x => do noteFrame x env; theTreesLotGoes x)) _ _ s
  refine wpAny_noted ?_
  rw [compTurn_list1]
  refine wpAny_bind (wpAny_standAt (wpAny_bind (wpAny_mono (turn n s hI) (fun r s₁ h₁ => ?_) fun _ _ h' => h')))
  cases r with
  | none => exact wpAny_pure h₁
  | some v =>
    refine wpAny_bind (wpAny_mono h₁ (fun _ s₁ h₁ => ?_) fun _ _ h' => h')
    exact wpAny_bind (wpAny_mono h₁ (fun _ s₂ h₂ => wpAny_bind (wpAny_bind (wpAny_mono h₂ (fun x s₃ h₃ => wpAny_bind (wpAny_mono h₃
      (fun _ s₄ h₄ => wpAny_pure (wpAny_pure ⟨rfl, h₄⟩)) fun _ _ h' => h')) fun _ _ h' => h'))) fun _ _ h' => h')
end

theorem wpFalse {α : Type} {M : Model} {A : Around} {t : Sem α} {Q : α → Shared → Prop} {E : Value → Shared → Prop} {s : Shared} (h : wpAny M A t Q (fun _ _ => False) s) : wpAny M A t Q E s :=
  wpAny_mono h (fun _ _ q => q) fun _ _ z => z.elim

theorem relabel_CF {scope : Scope} {env : Env} (hc : ∀ y ∈ scope.names, y.2 ≠ .cell) {x : Str} (h : (relabel scope env).names.lookup x = some .cell ∨ (relabel scope env).names.lookup x = some .free) : (x, NameKind.free) ∈ scope.names := by
  have key : ∀ (l : List (Str × NameKind)), (∀ y ∈ l, y.2 ≠ .cell) → ((l.map fun (n, k) => if (k == NameKind.free && env.scope.kind == .function && env.kindOf n == some .cell) then (n, NameKind.cell) else (n, k)).lookup x = some .cell ∨
      (l.map fun (n, k) => if (k == NameKind.free && env.scope.kind == .function && env.kindOf n == some .cell) then (n, NameKind.cell) else (n, k)).lookup x = some .free) → (x, NameKind.free) ∈ l := by
    intro l
    induction l with
    | nil => intro _ h; simp at h
    | cons y r ih =>
      obtain ⟨n, k⟩ := y
      intro hc h
      have hr : ∀ y ∈ r, y.2 ≠ .cell := fun y hy => hc y (List.mem_cons_of_mem _ hy)
      have hk : k ≠ .cell := hc (n, k) List.mem_cons_self
      rw [List.map_cons] at h
      by_cases hxn : x = n
      · subst hxn
        have hkf : k = .free := by
          by_cases hb : (k == NameKind.free && env.scope.kind == .function && env.kindOf x == some .cell) = true
          · simp only [Bool.and_eq_true, beq_iff_eq] at hb
            exact hb.1.1
          · simp only [hb, if_neg, Bool.false_eq_true, if_false] at h
            simp only [List.lookup_cons, beq_self_eq_true] at h
            rcases h with h | h
            · exact absurd (Option.some.inj h) hk
            · exact Option.some.inj h
        rw [hkf]
        exact List.mem_cons_self
      · have hb : (x == n) = false := by simpa using hxn
        refine List.mem_cons_of_mem _ (ih hr ?_)
        by_cases hq : (k == NameKind.free && env.scope.kind == .function && env.kindOf n == some .cell) = true
        · simp only [hq, if_true, List.lookup_cons, hb] at h
          exact h
        · simp only [hq, Bool.false_eq_true, if_false, List.lookup_cons, hb] at h
          exact h
  exact key scope.names hc h
theorem relabel_free {env : Env} {x : Str} : ∀ {l : List (Str × NameKind)}, l.lookup x = some .free →
    ((l.map fun (n, k) => if (k == NameKind.free && env.scope.kind == .function && env.kindOf n == some .cell) then (n, NameKind.cell) else (n, k)).lookup x = some .cell ∨
     (l.map fun (n, k) => if (k == NameKind.free && env.scope.kind == .function && env.kindOf n == some .cell) then (n, NameKind.cell) else (n, k)).lookup x = some .free)
  | [], h => by simp at h
  | (n, k) :: r, h => by
    rw [List.map_cons]
    by_cases hxn : x = n
    · subst hxn
      simp only [List.lookup_cons, beq_self_eq_true] at h
      have hk := Option.some.inj h
      subst hk
      by_cases hq : (NameKind.free == NameKind.free && env.scope.kind == .function && env.kindOf x == some .cell) = true
      · left
        show List.lookup x ((if (NameKind.free == NameKind.free && env.scope.kind == .function && env.kindOf x == some .cell) = true then (x, NameKind.cell) else (x, NameKind.free)) :: _) = _
        rw [if_pos hq, List.lookup_cons, beq_self_eq_true]
      · right
        show List.lookup x ((if (NameKind.free == NameKind.free && env.scope.kind == .function && env.kindOf x == some .cell) = true then (x, NameKind.cell) else (x, NameKind.free)) :: _) = _
        rw [if_neg hq, List.lookup_cons, beq_self_eq_true]
    · have hb : (x == n) = false := by simpa using hxn
      simp only [List.lookup_cons, hb] at h
      have ih := relabel_free (env := env) h
      by_cases hq : (k == NameKind.free && env.scope.kind == .function && env.kindOf n == some .cell) = true
      · simp only [hq, if_true, List.lookup_cons, hb]; exact ih
      · simp only [hq, Bool.false_eq_true, if_false, List.lookup_cons, hb]; exact ih

theorem mem_look {x : Str} {k : NameKind} : ∀ {l : List (Str × NameKind)}, l.lookup x = some k → (x, k) ∈ l
  | [], h => by simp at h
  | (n, j) :: r, h => by
    by_cases e : x = n
    · subst e
      simp only [List.lookup_cons, beq_self_eq_true] at h
      rw [← Option.some.inj h]
      exact List.mem_cons_self
    · have hb : (x == n) = false := by simpa using e
      simp only [List.lookup_cons, hb] at h
      exact List.mem_cons_of_mem _ (mem_look h)
section
variable {X : Cx} {elt tg iter : Expr} {scope : Scope} {pos : Pos} {wi : TI} {g : TG} {te : TE} {N : List Str} {fr : List (Option Nat)}
/-- the block: its state at the entry -/
theorem comp_entry {pins : List (Addr × Obj)} {σ : St} {H : Hp} {s s1 : Shared} {cl : List (Str × Addr)} {ex : List Addr} {C : Addr} {m : Str → Option Value} (I : Inv X pins σ H s) (ck : CompChk X.env.scope X.N scope N fr)
    (c1 : ∀ x c, cl.lookup x = some c → X.env.cells.lookup x = some c) (c2 : ∀ x, (x, NameKind.free) ∈ scope.names → ∃ c, cl.lookup x = some c) (hex : ∀ b ∈ ex, FpOk X pins H b ∧ b < s.heap.objs.size) (hC : s.heap.objs.size ≤ C)
    (hn : s1.heap.Ns C m) (k : ∀ b o, s.heap.get? b = some o → s1.heap.get? b = some o) (ho : s1.os = s.os) (hg : s1.gens = s.gens) :
    Inv (compCx X scope cl N C s H ex) [] (stC fr σ) H s1 := by
  have lt_ne : ∀ {b : Addr} {o : Obj}, s.heap.get? b = some o → b ≠ C := fun e => Nat.ne_of_lt (Nat.lt_of_lt_of_le (Heap.lt_size e) hC)
  have ok : (compCx X scope cl N C s H ex).Ok :=
    { mod := I.ok.mod
      kind := ck.kind
      glob := I.ok.glob
      blt := I.ok.blt
      above := hC
      inj := fun x y c e1 e2 => I.ok.inj x y c (c1 x c e1) (c1 y c e2)
      has := fun x h => c2 x (relabel_CF ck.nocell h)
      cab := fun x c z => by cases z
      hd := I.ok.hd
      frames := I.ok.frames
      stk := .inl rfl
      exf := fun b hb => ⟨Nat.ne_of_lt (Nat.lt_of_lt_of_le (hex b hb).2 hC), fun x c e => (hex b hb).1.2.2.2.2.1 x c (c1 x c e)⟩
      bs := I.bs
      bsz := Nat.le_trans I.ok.bsz I.sz
      noex := fun b o e hb => by
        rcases (hex b hb).1.2.2.2.1 with z | z
        · exact I.ok.noex b o e z
        · exact absurd (Nat.lt_of_lt_of_le (Heap.lt_size e) (Nat.le_trans I.ok.bsz z)) (Nat.lt_irrefl _)
      exfs := fun b hb hz => by
        rcases List.mem_cons.mp (I.stkSub b hz) with z | z
        · exact (hex b hb).1.2.1 z
        · exact (hex b hb).1.2.2.1 z
      funs := I.stack
      frf := I.stkFree }
  refine ⟨ok, ho, by rw [hg]; exact I.bare, Un.kept k, ⟨m, hn, fun j x v e1 e2 e3 => ?_⟩, fun x c e => ?_, I.hok.fresh hC, fun x c e => I.freeC x c (c1 x c e), fun p hp => by simp at hp, I.hok.kept k, ?_⟩
  · have e1' : N[j]? = some x := e1
    unfold stC at e2
    rw [List.getElem?_map] at e2
    cases q : fr[j]? with
    | none => rw [q] at e2; cases e2
    | some o =>
      rw [q] at e2
      cases o with
      | none =>
        have : (none : Option V) = some v := Option.some.inj e2
        cases this
      | some i =>
        have e2' : (σ[i]?).join = some v := Option.some.inj e2
        obtain ⟨s1', s2', s3'⟩ := ck.slots j x i e1' q
        have hσ : σ[i]? = some (some v) := by
          cases z : σ[i]? with
          | none => rw [z] at e2'; cases e2'
          | some y => rw [z] at e2'; exact congrArg some e2'
        have hcf := isCF_of s2'
        obtain ⟨m0, hn0, hl⟩ := I.loc
        obtain ⟨u, r, lk⟩ := hl i x v s1' hσ (Or.inr hcf)
        refine ⟨u, r, Or.inr ⟨relabel_free s3', ?_⟩⟩
        obtain ⟨c, hc⟩ := c2 x (mem_look s3')
        refine ⟨c, hc, ?_⟩
        rcases lk with ⟨z, _⟩ | ⟨_, c', hc', hv⟩
        · rcases hcf with y | y
          · have z' : X.env.scope.names.lookup x = some .local := z
            rw [y] at z'; cases z'
          · have z' : X.env.scope.names.lookup x = some .local := z
            rw [y] at z'; cases z'
        · have := c1 x c hc
          rw [hc'] at this
          cases this
          exact hv.keeps k
  · obtain ⟨v, z⟩ := I.cell x c (c1 x c e)
    exact ⟨v, z.keeps k⟩
  · unfold stC
    rw [List.length_map]
    exact ck.len.symm

theorem comp_core {pins : List (Addr × Obj)} {σ : St} {H : Hp} {s : Shared} {Q : VK} {cl : List (Str × Addr)} {R : Value → Addr → Result → Shared → Prop} (hc : X.calm = true) (I : Inv X pins σ H s) (hi : PI X tg iter wi)
    (hg : ∀ cl C s H ex, PG (compCx X scope cl N C s H ex) tg g) (he : ∀ cl C s H ex, PE (compCx X scope cl N C s H ex) elt te) (ck : CompChk X.env.scope X.N scope N fr)
    (c1 : ∀ x c, cl.lookup x = some c → X.env.cells.lookup x = some c) (c2 : ∀ x, (x, NameKind.free) ∈ scope.names → ∃ c, cl.lookup x = some c)
    (h : tComp wi g te fr σ H Q)
    (hR : ∀ acc C s' H' m, s'.heap.Ns C m → FpOk X pins H' C → Inv X pins σ H' s' → Q (.ref acc) H' → R (.ref acc) C (.ok .next) s') :
    wpAny (model X.prog X.w) X.A (eval iter X.env) (fun x s₁ => wpAny (model X.prog X.w) X.A (pyIter x) (fun it s₂ => wpAny (model X.prog X.w) X.A (newList []) (fun acc s₃ =>
      wpAny (model X.prog X.w) X.A (newFunctionEnv scope X.env.globals cl [] X.env.qual none .none (some X.env)) (fun cenv s₄ =>
        codeAny (model X.prog X.w) X.A (.compStart (.ListComp elt [⟨tg, iter, [], 0⟩] scope pos) 0 it acc { cenv with scope := relabel scope X.env }) (R acc cenv.locals) s₄) X.xe s₃) X.xe s₂) X.xe s₁) X.xe s := by
  refine thn (hi pins s σ H _ I h) fun v s1 h1 => thn h1 fun itv s2 h2 => ?_
  obtain ⟨it, fp, tn, J, H2, e, I2, T, st2, f2, q2⟩ := h2
  subst e
  refine wpAny_newObj_type (wpAny_newFunctionEnv ck.nocell (by intro y hy; simp at hy) (fun h₁ hns₁ hsb₁ => ?_) ck.kind)
  dsimp only at hns₁ hsb₁ ⊢
  have I3 : Inv X pins σ (upd H2 s2.heap.objs.size (.lst [])) { s2 with heap := s2.heap.push { cls := .type "list", dict := none, data := .seq ([] : List Value).toArray } } := I2.lnew (t' := s2.toks) (its := []) .nil (Nat.zero_le _)
  have acc0 : H2 s2.heap.objs.size = none := I2.fresh
  obtain ⟨W, ⟨m0, w0⟩, turn⟩ := q2 s2.heap.objs.size acc0
  generalize hH3 : s2.heap.push { cls := .type "list", dict := none, data := .seq ([] : List Value).toArray } = h3 at hns₁ hsb₁ I3 ⊢
  have hz3 : h3.objs.size = s2.heap.objs.size + 1 := by rw [← hH3, Heap.size_push]
  have k23 : ∀ b o, s2.heap.get? b = some o → h3.get? b = some o := fun b o e => by rw [← hH3]; exact Heap.get?_push_of_some _ e
  have k34 : ∀ b o, h3.get? b = some o → h₁.get? b = some o := fun b o e => hsb₁.extBut b o (Nat.ne_of_lt (Heap.lt_size e)) (Heap.get?_push_of_some _ e)
  have fpo : ∀ b ∈ fp, ∃ o, s2.heap.get? b = some o ∧ ∀ v, o.data ≠ .cell v := T.obj 0 _ st2
  have hex : ∀ b ∈ fp, FpOk X pins (upd H2 s2.heap.objs.size (.lst [])) b ∧ b < h3.objs.size := fun b hb => by
    obtain ⟨o, eo, _⟩ := fpo b hb
    have lt := Heap.lt_size eo
    obtain ⟨f0, fr'⟩ := f2 b hb
    exact ⟨⟨by rw [upd_ne (Nat.ne_of_lt lt)]; exact f0, fr'⟩, by rw [hz3]; exact Nat.lt_succ_of_lt lt⟩
  have I4 : Inv (compCx X scope cl N h3.objs.size { s2 with heap := h3 } (upd H2 s2.heap.objs.size (.lst [])) fp) [] (stC fr σ) (upd H2 s2.heap.objs.size (.lst [])) { s2 with heap := h₁, toks := s2.toks + ([] : List (Str × Value)).length } :=
    comp_entry I3 ck c1 c2 hex (Nat.le_refl _) hns₁ k34 rfl rfl
  have stat : ∀ {H' : Hp}, (∀ b ∈ fp, H' b = none) → ∀ b ∈ fp, FpOk (compCx X scope cl N h3.objs.size { s2 with heap := h3 } (upd H2 s2.heap.objs.size (.lst [])) fp) [] H' b := fun hn b hb =>
    ⟨hn b hb, (I4.ok.exf b hb).1, I4.ok.exfs b hb, .inl hb, (I4.ok.exf b hb).2, fun p hp => by simp at hp⟩
  have stn : ∀ i h h', tn i h → (∀ b o, h.get? b = some o → h'.get? b = some o) → tn i h' := fun i h h' st kk => T.keep i h h' st fun b _ o e => kk b o e
  have loop : codeAny (model X.prog X.w) X.A (.compLoop (.ListComp elt [⟨tg, iter, [], 0⟩] scope pos) 0 (.ref it) (.ref s2.heap.objs.size) (compEnvC scope cl h3.objs.size X.env)) (R (.ref s2.heap.objs.size) h3.objs.size)
      { s2 with heap := h₁, toks := s2.toks + ([] : List (Str × Value)).length } := by
    refine compLoop_any (fun n s' => ∃ i σ' H', Inv (compCx X scope cl N h3.objs.size { s2 with heap := h3 } (upd H2 s2.heap.objs.size (.lst [])) fp) [] σ' H' s' ∧ tn i s'.heap ∧ (∀ b ∈ fp, H' b = none) ∧ W i n σ' H') ?_ m0
      ⟨0, _, _, I4, stn _ _ _ st2 fun b o e => k34 b o (k23 b o e), fun b hb => (hex b hb).1.1, w0⟩
    rintro n s3 ⟨i, σ3, H3, J3, st3, fr3, w3⟩
    rcases turn i n σ3 H3 w3 with ⟨stop, qn⟩ | ⟨go, step⟩
    · refine wpFalse (thn (T.done (compCx X scope cl N h3.objs.size { s2 with heap := h3 } (upd H2 s2.heap.objs.size (.lst [])) fp) rfl rfl rfl hc i [] s3 σ3 H3 (fun _ _ => False) J3 (stat fr3) st3 stop) fun r s4 ⟨hr, J4⟩ => ?_)
      subst hr
      obtain ⟨mc, hmc, _⟩ := J4.loc
      have I5 : Inv X pins σ H3 s4 := I3.call' (ch := fp) J4.os J4.base J4.hok J4.bare fun b hb => ⟨(hex b hb).1.2.2.2.1, (hex b hb).1.2.1, (hex b hb).1.2.2.2.2.1, (hex b hb).1.2.2.2.2.2⟩
      exact hR _ _ s4 H3 mc hmc (I3.fpOk (Nat.le_refl _) J4.free) I5 qn
    · refine wpFalse (thn (T.item (compCx X scope cl N h3.objs.size { s2 with heap := h3 } (upd H2 s2.heap.objs.size (.lst [])) fp) rfl rfl rfl hc i [] s3 σ3 H3 (fun _ _ => False) J3 (stat fr3) st3 go) fun r s4 ⟨u, hr, h4⟩ => ?_)
      subst hr
      refine wpFalse (thn h4 fun _ s5 ⟨x, H5, J5, r5, y5, st5, fr5⟩ => ?_)
      have J5' := J5.pinned (stat fr5) (T.obj _ _ st5)
      refine wpFalse (thn (hg _ _ _ _ _ _ s5 σ3 H5 x u _ J5' r5 (step x H5 y5)) fun _ s6 ⟨σ6, H6, J6, q6⟩ => ?_)
      refine wpFalse (thn (he _ _ _ _ _ _ s6 σ6 H6 _ J6 q6) fun y s7 ⟨v7, H7, J7, r7, xs, hx, hz, m', hm', w7⟩ => ?_)
      refine wpFalse (thn (mt_append _ s7 σ6 H7 (.ref s2.heap.objs.size) [v7] (.ref s2.heap.objs.size) [y] (fun v H8 => H8 = upd H7 s2.heap.objs.size (.lst (xs ++ [v7]))) J7 rfl (.cons r7 .nil) ⟨_, xs, v7, rfl, rfl, hx, hz, rfl⟩) fun _ s8 ⟨_, H8, J8, _, e8⟩ => ?_)
      subst e8
      refine ⟨m', hm', i + 1, σ6, _, J8.unpinned, T.keep _ _ _ st5 fun b hb o e => (J8.pin (b, o) (List.mem_append_right _ (List.mem_append_right _ (mem_pinsAt hb e)))).1, fun b hb => ?_, w7⟩
      obtain ⟨o, e, d⟩ := T.obj _ _ st5 b hb
      exact (J8.pin (b, o) (List.mem_append_right _ (List.mem_append_right _ (mem_pinsAt hb e)))).2.1
  exact codeAny_compStart_list loop (T.self _ 0 _ _ _ (stn _ _ _ st2 fun b o e => k34 b o (k23 b o e)) loop)

theorem comp_cl (I : X.Ok) (ck : CompChk X.env.scope X.N scope N fr) : ∃ cl, closureFor scope X.env = pure cl ∧ (∀ x c, cl.lookup x = some c → X.env.cells.lookup x = some c) ∧ (∀ x, (x, NameKind.free) ∈ scope.names → ∃ c, cl.lookup x = some c) :=
  closure_of fun y hy e => I.has y.1 (isCF_of (ck.free y hy e))

theorem pe_comp (hc : X.calm = true) (hi : PI X tg iter wi) (hg : ∀ cl C s H ex, PG (compCx X scope cl N C s H ex) tg g) (he : ∀ cl C s H ex, PE (compCx X scope cl N C s H ex) elt te)
    (hk : compChk X.env.scope X.N scope N fr = true := by rfl) (hs : ∀ x, foldedSetIterable iter X.env x = pure x := by intro _; rfl) : PE X (.ListComp elt [⟨tg, iter, [], 0⟩] scope pos) (tComp wi g te fr) := by
  intro pins s σ H Q I h
  have ck := compChk_of hk
  obtain ⟨cl, e1, c1, c2⟩ := comp_cl I.ok ck
  rw [eval_ListComp]
  refine wpAny_comprehension_free (use := none) (Q := EP X pins σ Q) rfl hs e1 ck.kind ck.loc (comp_core (R := fun acc C => compPost (model X.prog X.w) X.A X.xe none (EP X pins σ Q) acc C) hc I hi hg he ck c1 c2 h fun acc C s' H' m hn f I' q => ?_)
  obtain ⟨f0, f1, f2, f3, f4, f5⟩ := f
  exact ⟨m, hn, fun h' hs' => ⟨.ref acc, H', I'.turned (t' := s'.toks) (fun b o hb e => hs'.extBut b o hb e) f0 f1 f3 f4 f5, rfl, q⟩⟩

/-- name = [..]: the name is stored ahead of the block's end -/
theorem ps_setComp {y : Str} {py spos : Pos} {gy : TG} (hc : X.calm = true) (hy : PG X (.Name y py) gy) (hi : PI X tg iter wi) (hg : ∀ cl C s H ex, PG (compCx X scope cl N C s H ex) tg g) (he : ∀ cl C s H ex, PE (compCx X scope cl N C s H ex) elt te)
    (hk : compChk X.env.scope X.N scope N fr = true := by rfl) (hsw : swapsWith (.ListComp elt [⟨tg, iter, [], 0⟩] scope pos) (some (.Name y py)) spos.line X.env = pure true := by rfl) (hs : ∀ x, foldedSetIterable iter X.env x = pure x := by intro _; rfl) :
    PS X (.Assign [.Name y py] (.ListComp elt [⟨tg, iter, [], 0⟩] scope pos) spos) (tAsg (tComp wi g te fr) gy) := by
  intro pins s σ H D I h
  have ck := compChk_of hk
  obtain ⟨cl, e1, c1, c2⟩ := comp_cl I.ok ck
  rw [exec_Assign_Name_used _ _ _ _ hsw]
  refine wpAny_bind (wpAny_standAt (wpAny_bind ?_))
  show wpAny _ X.A (do let _ ← comprehension (.ListComp elt [⟨tg, iter, [], 0⟩] scope pos) scope X.env _ (newList []) false (eval iter X.env) (some (assign (.Name y py) X.env))) _ _ s
  refine wpAny_bind (wpAny_mono (wpAny_comprehension_free (use := some (assign (.Name y py) X.env)) (Q := fun _ s' => SP X pins D .next s') rfl hs e1 ck.kind ck.loc
    (comp_core (R := fun acc C => compPost (model X.prog X.w) X.A X.xe (some (assign (.Name y py) X.env)) (fun _ s' => SP X pins D .next s') acc C) hc I hi hg he ck c1 c2 h fun acc C s' H' m hn f I' q => ?_)) (fun _ s' hq => wpAny_pure (wpAny_pure hq)) fun _ _ e => e)
  show wpAny _ X.A (assign (.Name y py) X.env (.ref acc)) _ _ _
  obtain ⟨oC, es, ep, hoC, hdC, hrC⟩ := id hn
  have IP := I'.pinned (fp := [C]) (fun b hb => by rw [List.mem_singleton.mp hb]; exact f) (fun b hb => by rw [List.mem_singleton.mp hb]; exact ⟨oC, hoC, fun v z => by rw [hdC] at z; cases z⟩)
  refine thn (hy _ s' σ H' (.ref acc) (.ref acc) _ IP rfl q) fun _ s'' ⟨σ6, H6, I6, q6⟩ => ?_
  have pC := I6.pin (C, oC) (List.mem_append_right _ (List.mem_append_right _ (mem_pinsAt (List.mem_singleton.mpr rfl) hoC)))
  obtain ⟨f0, f1, f2, f3, f4, f5⟩ := f
  exact ⟨m, ⟨oC, es, ep, pC.1, hdC, hrC⟩, fun h' hs' => ⟨σ6, H6, I6.unpinned.turned (t' := s''.toks) (fun b o hb e => hs'.extBut b o hb e) pC.2.1 f1 f3 f4 f5, q6⟩⟩
end
end L2
namespace L2
open PySem PySem.Spec PyProof.Rows
section
variable {X : Cx}
def CDivL (_ j : Int) : Prop := 0 < j ∧ j.natAbs.log2 < 9000
theorem op_fdivL : OpR X (binaryOp .FloorDiv) (rI CDivL fun i j => .int (i / j)) := opI fun i j _ _ _ _ _ hc q => by
  have h1 : (0 : Int) < j := hc.1
  exact floordiv_int (by first | lia | omega) (by rw [Int.fdiv_eq_ediv_of_nonneg i (by first | lia | omega)]; exact q) (.inl (PyProof.noPylong_of_log2 hc.2))
theorem op_mulL : OpR X (binaryOp .Mult) (rI IntMulOk fun i j => .int (i * j)) := opI fun _ _ _ _ _ _ _ hc q => mul_int q hc
theorem log2_lt_of {n k : Nat} (hk : 0 < k) (h : n < 2 ^ k) : n.log2 < k := by
  rcases Nat.eq_zero_or_pos n with h0 | hp
  · rw [h0]; simpa using hk
  · exact (Nat.log2_lt (Nat.ne_of_gt hp)).mpr h
theorem intBits_le {z : Int} {k : Nat} (hk : 0 < k) (h : z.natAbs < 2 ^ k) : Builtin.Int.intBits z ≤ k := by
  unfold Builtin.Int.intBits
  split
  · exact Nat.zero_le _
  · exact log2_lt_of hk h
theorem mulOk_of {a b : Int} (h1 : a.natAbs < 2 ^ 128) (h2 : b.natAbs < 2 ^ 128) : IntMulOk a b := by
  have e1 := intBits_le (by decide) h1
  have e2 := intBits_le (by decide) h2
  unfold IntMulOk Builtin.Int.intTooBig
  intro h
  simp only [Bool.and_eq_true, decide_eq_true_eq] at h
  have h3 := h.2
  have hb : (256 : Int) ≤ (bitsLine : Int) := by decide +kernel
  first | lia | omega

def tyO : Option HO → Option String
  | some (.lst _) => some "list"
  | some (.frz _ (.lst _)) => some "list"
  | some (.tup _) => some "tuple"
  | some (.dK _) => some "dict"
  | some (.dT _) => some "dict"
  | _ => none
def tyS (H : Hp) : V → Option String
  | .non => some "NoneType"
  | .bl _ => some "bool"
  | .int _ => some "int"
  | .str _ => some "str"
  | .ref a => tyO (H a)
  | _ => none
theorem tyS_of {K : PySem.W.Frag} {H : Hp} {x : V} {T : String} (h : tyS H x = some T) : TyOf K H x (.type T) ∧ (T = "NoneType" ∨ T = "bool" ∨ T = "int" ∨ T = "str" ∨ T = "list" ∨ T = "tuple" ∨ T = "dict") := by
  unfold tyS at h
  split at h
  · cases h; exact ⟨.non, by simp⟩
  · cases h; exact ⟨.bl _, by simp⟩
  · cases h; exact ⟨.int _, by simp⟩
  · cases h; exact ⟨.str _, by simp⟩
  · unfold tyO at h
    split at h
    · rename_i e; cases h; exact ⟨.lst e, by simp⟩
    · rename_i e; cases h; exact ⟨.frz e, by simp⟩
    · rename_i e; cases h; exact ⟨.tup e, by simp⟩
    · rename_i e; cases h; exact ⟨.dK e, by simp⟩
    · rename_i e; cases h; exact ⟨.dT e, by simp⟩
    · cases h
  · cases h
def isB (T c : String) : Bool := decide (T = c) || (decide (T = "bool") && decide (c = "int"))
theorem kit_isB {K : PySem.W.Frag} {T c : String} (h : T = "NoneType" ∨ T = "bool" ∨ T = "int" ∨ T = "str" ∨ T = "list" ∨ T = "tuple" ∨ T = "dict") (hc : c = "int" ∨ c = "bool" ∨ c = "tuple" ∨ c = "list" ∨ c = "str") :
    PySem.W.kitOne K (.type T) (.type c) = some (isB T c) := by
  rcases h with rfl | rfl | rfl | rfl | rfl | rfl | rfl <;> rcases hc with rfl | rfl | rfl | rfl | rfl <;> rfl
theorem call_isin : CallR X (.builtin "isinstance") (fun xs H Q => ∃ x T c, xs = [x, .ty c] ∧ tyS H x = some T ∧ (c = "int" ∨ c = "bool" ∨ c = "tuple" ∨ c = "list" ∨ c = "str") ∧ Q (.bl (isB T c)) H) := by
  intro pins s σ H xs us Q I r h
  obtain ⟨x, T, c, rfl, hT, hc, q⟩ := h
  obtain ⟨u, w', rfl, rx, ry⟩ := vals2 r
  cases (show w' = Value.type c from ry)
  obtain ⟨ty, hl⟩ := tyS_of (K := X.K) hT
  exact isinst_ok I rx ty (kit_isB hl hc) fun tk => ⟨.bl (isB T c), H, I.tok tk, rfl, q⟩

theorem bools_get {bs : List Bool} {its : List Value} (r : Vals (bs.map V.bl) its) {i : Nat} {v : Value} (h : its.toArray[i]? = some v) : v = .bool (bs.getD i false) := by
  have hl := r.length
  have hi : i < its.length := by
    have := (Array.getElem?_eq_some_iff.mp h).1
    simpa using this
  have hb : bs[i]? = some (bs.getD i false) := by
    have : i < bs.length := by rw [List.length_map] at hl; first | lia | omega
    rw [List.getD_eq_getElem?_getD, List.getElem?_eq_getElem this]; rfl
  obtain ⟨u, hu, ru⟩ := r.get (i := i) (x := .bl (bs.getD i false)) (by rw [List.getElem?_map, hb]; rfl)
  have h' : its[i]? = some v := by simpa using h
  rw [h'] at hu
  cases hu
  exact ru
theorem range_all {α : Type} (bs : List Bool) : (List.range bs.length).all (fun i => bs.getD i false) = bs.all id := by
  have e : (List.range bs.length).map (fun i => bs.getD i false) = bs := by
    apply List.ext_getElem?
    intro i
    rw [List.getElem?_map]
    by_cases h : i < bs.length
    · rw [List.getElem?_range h, List.getElem?_eq_getElem h, Option.map_some, List.getD_eq_getElem?_getD, List.getElem?_eq_getElem h]; rfl
    · rw [List.getElem?_eq_none (by simpa using h), List.getElem?_eq_none (by first | lia | omega)]; rfl
  conv => rhs; rw [← e]
  rw [List.all_map]; rfl
theorem truth_bools {prog : Program} {w : World} {A : Around} {bs : List Bool} {its : List Value} (r : Vals (bs.map V.bl) its) : TruthOf prog w A (fun i v => its.toArray[i]? = some v) (fun i => bs.getD i false) := by
  intro i v s Q E hv hq
  have e := bools_get r hv
  subst e
  exact wpAny_truthy_bool hq
theorem call_all : CallR X (.builtin "all") (fun xs H Q => ∃ (p : Addr) (bs : List Bool), xs = [.ref p] ∧ SqL X.K H p (bs.map V.bl) ∧ X.calm = true ∧ Q (.bl (bs.all id)) H) := by
  intro pins s σ H xs us Q I r h
  obtain ⟨p, bs, rfl, hp, hc, q⟩ := h
  obtain ⟨u, rfl, ru⟩ := vals1 r
  cases ru
  obtain ⟨its, rv, pl, hz⟩ := I.list hp
  have hl := rv.length
  rw [List.length_map] at hl
  refine call_all_walk (wpAny_pyIter_list pl.isList ?_)
  have hlt : p < s.heap.objs.size := by obtain ⟨o, ho, _⟩ := pl.isList; exact Heap.lt_size ho
  refine ⟨s.heap.objs.size, _, _, _, _, _, _, rfl, Walks.list (show X.A.in1.handled = none from I.ok.hd hc) s.heap.objs.size p (Nat.ne_of_lt hlt) its.toArray, ⟨⟨_, Heap.get?_push_size _ rfl, rfl, rfl⟩, let ⟨o, ho, r⟩ := pl.isList; ⟨o, Heap.get?_push_of_some _ ho, r⟩⟩, truth_bools rv, fun h' tk k => ?_⟩
  refine ⟨.bl (bs.all id), H, I.kept (t' := tk) fun b o e => k b o (fun z => ?_) (Heap.get?_push_of_some _ e), ?_, q⟩
  · have : b = s.heap.objs.size := by simpa using z
    exact absurd (this ▸ Heap.lt_size e) (Nat.lt_irrefl _)
  · show Value.bool _ = Value.bool _
    rw [List.size_toArray, ← hl, range_all (α := Nat)]
end

section
variable {X : Cx}
end
end L2
namespace L2
open PySem PySem.Spec PyProof.Rows
structure DefOk (P : Program) (w : World) (K : PySem.W.Frag) (mg : Str → Option Value) (base : Heap) (k : Nat) (x : Str) (ps : List Str) (sp : Sp) : Prop where
  ex : ∃ (f : Addr) (fd : FuncData), FnOk P w K mg base CX0 k f fd ps sp ∧ mg x = some (.ref f) ∧ PySem.W.keepIn K (.ref f) = true ∧ Binds K fd ps []
section
variable {X : Cx} {k j : Nat} {x : Str} {ps : List Str} {sp : Sp} {p pos : Pos} {e : Expr} {es : List Expr} {t : TA}
theorem pe_fn (D : DefOk X.prog X.w X.K X.mg X.base k x ps sp) (hr : Room j X.A) (ha : PA X (e :: es) t) (hj : k ≤ j := by decide) (hg : Gl X x := by rfl) (hdb : (x == ("__debug__" : Str)) = false := by decide)
    (he : starEach (e :: es) X.env = (false, eval e X.env) :: starEach es X.env := by rfl) (hpl : (backTo pos (starEach es X.env)).any (·.1) = false := by rfl) : PE X (.Call (.Name x p) (e :: es) [] pos) (tCall sp [] E0 t) := by
  obtain ⟨f, fd, F, hm, hk, hb⟩ := D.ex
  exact pe_call F (hr.mono hj) hg hm hk hb .nil pass0 ha hdb he hpl
end
theorem lenOk {xs : List V} (n : Nat) (h : xs.length = n := by rfl) (h2 : n ≤ 1000 := by decide) : xs.length ≤ sizeLine := by rw [h]; exact Nat.le_of_lt (small1000 h2)
theorem iteP {c : Bool} {A B : Prop} (h : c = true) (a : A) : if c = true then A else B := by rw [if_pos h]; exact a
theorem iteN {c : Bool} {A B : Prop} (h : c = false) (b : B) : if c = true then A else B := by rw [if_neg (by rw [h]; exact Bool.false_ne_true)]; exact b
theorem ite3 {c : Bool} {A B : Prop} (h1 : c = true → A) (h2 : c = false → B) : if c = true then A else B := by
  cases c with
  | true => exact iteT (h1 rfl)
  | false => exact iteF (h2 rfl)
/-- all but p is as it was -/
def SameX (p : Addr) (H H' : Hp) : Prop := ∀ b o, b ≠ p → H b = some o → H' b = some o
theorem SameX.trans {p : Addr} {H H1 H2 : Hp} (a : SameX p H H1) (b : SameX p H1 H2) : SameX p H H2 := fun c o n h => b c o n (a c o n h)
theorem SameX.upd {p : Addr} {H : Hp} {o : HO} : SameX p H (upd H p o) := fun b u n h => by rw [upd_ne n]; exact h
theorem Same.new {l : Addr} {H : Hp} {o : HO} (h : H l = none) : Same H (L2.upd H l o) := fun b u e => by rw [upd_ne (ne_of_none e h)]; exact e
/-- the invariant of a comprehension of n turns: at turn i the new list holds xs, i of them -/
def cW (acc : Addr) (n : Nat) (Pv : Nat → List V → St → Hp → Prop) (i m : Nat) (σ : St) (H : Hp) : Prop := i ≤ n ∧ m = n - i ∧ ∃ xs, xs.length = i ∧ H acc = some (.lst xs) ∧ Pv i xs σ H
/-- what is wanted behind the element of turn i -/
def cNx (acc : Addr) (n : Nat) (Pv : Nat → List V → St → Hp → Prop) (i : Nat) (σ : St) (v : V) (H : Hp) : Prop := ∃ xs, H acc = some (.lst xs) ∧ xs.length < sizeLine ∧ ∃ m', m' < n - i ∧ cW acc n Pv (i + 1) m' σ (upd H acc (.lst (xs ++ [v])))
theorem cNx.mk {acc : Addr} {n : Nat} {Pv : Nat → List V → St → Hp → Prop} {i : Nat} {σ : St} {v : V} {H : Hp} {xs : List V} (hn : n ≤ sizeLine) (hi : i < n) (hl : xs.length = i) (ha : H acc = some (.lst xs)) (hp : Pv (i + 1) (xs ++ [v]) σ (upd H acc (.lst (xs ++ [v])))) :
    cNx acc n Pv i σ v H := ⟨xs, ha, by first | lia | omega, n - (i + 1), by first | lia | omega, hi, rfl, xs ++ [v], by rw [List.length_append, hl]; rfl, upd_same, hp⟩
theorem comp_range {lo : Int} {n : Nat} {g : TG} {te : TE} {σ : St} {H1 : Hp} {acc : Addr} {Qr : Hp → Prop} (Pv : Nat → List V → St → Hp → Prop) (h0 : Pv 0 [] σ (upd H1 acc (.lst [])))
    (hs : ∀ i xs σ H, i < n → xs.length = i → H acc = some (.lst xs) → Pv i xs σ H → g (.int (lo + i)) σ H fun σ2 H2 => te σ2 H2 fun v H3 => cNx acc n Pv i σ2 v H3)
    (hd : ∀ xs σ H, xs.length = n → H acc = some (.lst xs) → Pv n xs σ H → Qr H) :
    ∃ W : Nat → Nat → St → Hp → Prop, (∃ m, W 0 m σ (upd H1 acc (.lst []))) ∧ ∀ i m σ1 H2, W i m σ1 H2 →
      ((Itr lo n).stop i H2 ∧ Qr H2) ∨ ((Itr lo n).go i H2 ∧ ∀ x H3, (Itr lo n).yld i H2 x H3 → g x σ1 H3 fun σ4 H4 => te σ4 H4 fun v H5 => ∃ xs, H5 acc = some (.lst xs) ∧ xs.length < sizeLine ∧ ∃ m', m' < m ∧ W (i + 1) m' σ4 (upd H5 acc (.lst (xs ++ [v])))) := by
  refine ⟨cW acc n Pv, ⟨n, Nat.zero_le _, rfl, [], rfl, upd_same, h0⟩, ?_⟩
  rintro i m σ1 H2 ⟨hi, rfl, xs, hl, ha, hp⟩
  rcases Nat.lt_or_ge i n with h | h
  · refine .inr ⟨h, ?_⟩
    rintro x H3 ⟨rfl, rfl⟩
    exact hs i xs σ1 H3 h hl ha hp
  · have e : i = n := Nat.le_antisymm hi h
    subst e
    exact .inl ⟨Nat.le_refl _, hd xs σ1 H2 hl ha hp⟩
theorem comp_list {K : PySem.W.Frag} {a : Addr} {ys : List V} {g : TG} {te : TE} {σ : St} {H1 : Hp} {acc : Addr} {Qr : Hp → Prop} (Pv : Nat → List V → St → Hp → Prop) (h0 : Pv 0 [] σ (upd H1 acc (.lst [])))
    (hq : ∀ i xs σ H, i ≤ ys.length → H acc = some (.lst xs) → Pv i xs σ H → SqL K H a ys)
    (hs : ∀ i x xs σ H, ys[i]? = some x → i < ys.length → xs.length = i → H acc = some (.lst xs) → Pv i xs σ H → g x σ H fun σ2 H2 => te σ2 H2 fun v H3 => cNx acc ys.length Pv i σ2 v H3)
    (hd : ∀ xs σ H, xs.length = ys.length → H acc = some (.lst xs) → Pv ys.length xs σ H → Qr H) :
    ∃ W : Nat → Nat → St → Hp → Prop, (∃ m, W 0 m σ (upd H1 acc (.lst []))) ∧ ∀ i m σ1 H2, W i m σ1 H2 →
      ((Itl K a).stop i H2 ∧ Qr H2) ∨ ((Itl K a).go i H2 ∧ ∀ x H3, (Itl K a).yld i H2 x H3 → g x σ1 H3 fun σ4 H4 => te σ4 H4 fun v H5 => ∃ xs, H5 acc = some (.lst xs) ∧ xs.length < sizeLine ∧ ∃ m', m' < m ∧ W (i + 1) m' σ4 (upd H5 acc (.lst (xs ++ [v])))) := by
  refine ⟨cW acc ys.length Pv, ⟨ys.length, Nat.zero_le _, rfl, [], rfl, upd_same, h0⟩, ?_⟩
  rintro i m σ1 H2 ⟨hi, rfl, xs, hl, ha, hp⟩
  have hsq := hq i xs σ1 H2 hi ha hp
  rcases Nat.lt_or_ge i ys.length with h | h
  · refine .inr ⟨⟨ys, ys[i], hsq, List.getElem?_eq_getElem h⟩, ?_⟩
    rintro x H3 ⟨rfl, hx⟩
    exact hs i x xs σ1 H3 (hx ys hsq) h hl ha hp
  · have e : i = ys.length := Nat.le_antisymm hi h
    subst e
    exact .inl ⟨⟨ys, hsq, Nat.le_refl _⟩, hd xs σ1 H2 hl ha hp⟩
end L2
namespace L2
open PySem PySem.Spec PyProof.Rows
section
variable {prog : Program} {w : World} {A : Around} {E : Value → Shared → Prop} {h : Heap} {g : Array GenState} {d : Drawn} {t : Nat} {os : OsState}
  {nm qn : Str} {C N : Addr} {bs bm bmB : List Value} {hdct : Bool} {sn : List Str} {sub : List Value} {ab : Bool} {col : Option Bool} {dd : Option Addr} {k0 k1 k2 k3 k5 : Option Value} {B newId initId : String}
/-- the heap behind the making: the tuple of the arguments, then the exception -/
def rawExc (h : Heap) (C : Addr) (rest : List Value) : Heap := (h.push { cls := .type "tuple", data := .seq rest.toArray }).push { cls := .ref C, data := .fields #[.ref h.objs.size, .none, .none, .none, .bool false, .none] }
theorem rawExc_keep {C : Addr} {rest : List Value} {b : Addr} {o : Obj} (e : h.get? b = some o) : (rawExc h C rest).get? b = some o := Heap.get?_push_of_some _ (Heap.get?_push_of_some _ e)
theorem rawExc_at (C : Addr) (rest : List Value) : (rawExc h C rest).get? (h.objs.size + 1) = some { cls := .ref C, data := .fields #[.ref h.objs.size, .none, .none, .none, .bool false, .none] } := by
  unfold rawExc; heap_get
theorem type_call_excT (F : ExcBaseFacts B newId initId bmB) (T : OwnTail h bmB bm) {mN : Str → Option Value} {rest : List Value} {fI : Addr} {oI : Obj} {Q : Fin → Shared → Prop}
    (hC : h.get? C = some (excClassObj nm qn C N bs bm hdct sn sub ab col dd k0 k1 k2 k3 k5 newId)) (hn : h.Ns N mN) (hi : mN "__init__" = some (.ref fI)) (hfI : h.get? fI = some oI) (hfc : oI.cls = .type "function") (hrest : rest.length ≤ sizeLine)
    (hq : wpAny (model prog w) A (call (.ref fI) (.ref (h.objs.size + 1) :: rest)) (fun r s' => r = .none ∧ Q (.done (.ret (.ref (h.objs.size + 1)))) s') E ⟨rawExc h C rest, g, d, t, os⟩) :
    wpAny (model prog w) A (Builtin.«type.__call__» ⟨.ref C :: rest, []⟩) Q E ⟨h, g, d, t, os⟩ := by
  repeat (first | with_reducible refine wpAny_loadPart_at hC ?_ | with_reducible refine wpAny_madeBy_exc hC ?_ | wp_step)
  refine codeAny_call_builtin_code (Code.quiet_builtin _ F.quiet) (wpAny_check_new_subT F T hC (codeAny_exc_new_subT F T hC ?_ hrest))
  show wpAny _ _ _ _ _ ⟨rawExc h C rest, g, d, t, os⟩
  have c1 : (rawExc h C rest).get? C = _ := rawExc_keep hC
  have n1 : (rawExc h C rest).Ns N mN := let ⟨o, es, ep, e, r⟩ := hn; ⟨o, es, ep, rawExc_keep e, r⟩
  have e1 := rawExc_at (h := h) C rest
  have T1 : OwnTail (rawExc h C rest) bmB bm := T.keeps fun _ _ e => rawExc_keep e
  have cc : (Value.ref C :: bm).contains (.ref C) = true := by simp
  unfold isInstance
  repeat (first | with_reducible refine wpAny_loadPart_at e1 ?_ | (with_reducible refine wpAny_isSubtype_exc c1 ?_; rw [cc]) | wp_step)
  show wpAny _ _ (typeLookup (.ref C) _) _ _ _
  refine wpAny_typeLookup_tail c1 n1 T1 F.mroIs F.init.lookup ?_
  rw [hi]
  refine wpAny_holding (wpAny_bind ?_)
  unfold bindSpecial
  refine wpAny_bind (wpAny_typeOf (T := "function") ⟨_, rawExc_keep hfI, hfc⟩ ?_)
  rw [if_pos (by decide)]
  refine wpAny_pure (wpAny_bind (wpAny_mono hq (fun r s' hr => ?_) fun _ _ x => x))
  obtain ⟨rfl, hQ⟩ := hr
  wp_walk
  exact hQ
theorem call_excT (F : ExcBaseFacts B newId initId bmB) (T : OwnTail h bmB bm) {mN : Str → Option Value} {rest : List Value} {fI : Addr} {oI : Obj} {Q : Value → Shared → Prop}
    (hC : h.get? C = some (excClassObj nm qn C N bs bm hdct sn sub ab col dd k0 k1 k2 k3 k5 newId)) (hn : h.Ns N mN) (hi : mN "__init__" = some (.ref fI)) (hfI : h.get? fI = some oI) (hfc : oI.cls = .type "function") (hrest : rest.length ≤ sizeLine)
    (hq : wpAny (model prog w) (A.under (.builtin "type.__call__" ⟨.ref C :: rest, []⟩)) (call (.ref fI) (.ref (h.objs.size + 1) :: rest)) (fun r s' => r = .none ∧ Q (.ref (h.objs.size + 1)) s') E ⟨rawExc h C rest, g, d, t, os⟩) :
    wpAny (model prog w) A (call (.ref C) rest) Q E ⟨h, g, d, t, os⟩ := by
  have l1 := tc_lookup
  have l2 := tc_bind (.ref C)
  have ty : (⟨h, g, d, t, os⟩ : Shared).TypeIs (.ref C) "type" := ⟨_, hC, rfl⟩
  refine wpAny_call (codeAny_of_tree ?_)
  show wpAny _ _ (callAny (.ref C) _) _ _ _
  repeat (any_goals (first | assumption | with_reducible refine wpAny_loadPart_at hC ?_ | wp_step))
  exact ⟨rfl, codeAny_call_builtin_at (Code.quiet_builtin _ (by decide +kernel)) entry_typeCall (wpAny_check_type_call_sub hC (type_call_excT F T hC hn hi hfI hfc hrest hq))⟩
end
end L2
namespace L2
open PySem PySem.Spec PyProof.Rows PySem.W PySem.Builtin PySem.Builtin.ObjectAttr
def vErr : List Value := [.type "ValueError", .type "Exception", .type "BaseException", .type "object"]
def excMro : List Value → Bool
  | [] => false
  | x :: r => (match x with | .ref _ => excMro r | _ => false) || (x :: r == vErr)
theorem refuse_exc (self : Value) : ∀ {l : List Value}, excMro l = true → refuseLoop self "__setattr__" l = pure ()
  | [], e => by cases e
  | x :: r, e => by
    unfold excMro at e
    rw [Bool.or_eq_true] at e
    rcases e with e | e
    · cases x <;> first | (rw [refuseLoop_ref]; exact refuse_exc self e) | cases e
    · rw [show x :: r = vErr from beq_iff_eq.mp e]
      exact PySem.F.store_ValueError.passes self
theorem exc_has {T : String} (hT : vErr.contains (.type T) = true) : ∀ {l : List Value}, excMro l = true → l.contains (.type T) = true
  | [], e => by cases e
  | x :: r, e => by
    unfold excMro at e
    rw [Bool.or_eq_true] at e
    rcases e with e | e
    · cases x <;> first | (rw [List.contains_cons, exc_has hT e, Bool.or_true]) | cases e
    · rw [show x :: r = vErr from beq_iff_eq.mp e]; exact hT
def excIn (K : Frag) (C : Addr) : Bool := (clsIn K C).any fun cd => excMro cd.mro
section
variable {prog : Program} {w : World} {A : Around} {E : Value → Shared → Prop} {R : Result → Shared → Prop} {s : Shared} {K : Frag} {x C : Addr} {ox : Obj} {od : Option Obj} {name : Str} {tk : Tok} {v : Value}
theorem osa_exc (X : K.In s.heap) (I : InstAt s.heap x ox C od) (hp : excIn K C = true) (ht : findIn K (.ref C) name = some none)
    (h : wpAny (model prog w) A.in1 (storeInOwnDict (.ref x) (.ref C) (.str name tk) name v false)
      (fun fin s' => match fin with | .done f => R (.ok f) s' | .again c' => c'.quiet = true ∧ codeAny (model prog w) A c' R s') (fun e s' => R (.error e) s') s) :
    codeAny (model prog w) A (.call (.builtin "object.__setattr__") ⟨[.ref x, .str name tk, v], []⟩) R s := by
  have SF := PySem.F.store_object
  obtain ⟨cd, hc, ho⟩ := any_some hp
  have ne : cd.mro.isEmpty = false := by cases q : cd.mro with | nil => rw [q] at ho; cases ho | cons _ _ => rfl
  have tO : Looks (model prog w) s.heap (isInstance (.ref x) (.type "object")) true := I.type.andThen (looks_mroIn X (by
    unfold mroIn
    rw [hc, Option.bind_some, ne]
    show some (cd.mro.contains (.type "object")) = some true
    rw [exc_has (by decide +kernel) ho]))
  have tM : Looks (model prog w) s.heap (mroOf (.ref C)) cd.mro := (looks_clsIn X hc).andThen .now
  refine codeAny_call_builtin SF.slot.plain SF.entry (@check_slot (model prog w) _ _ s "object.__setattr__" "object" "__setattr__" (.ref x) [.str name tk, v] [] _ SF.kind SF.split tO (SF.args (.ref x) (.str name tk) v) ?_)
  rw [osa_eq, refuse_eq]
  refine wpAny_bind (wpAny_bind (I.type.here (wpAny_bind (tM.here ?_))))
  rw [refuse_exc _ ho]
  exact wpAny_pure (wpAny_bind (I.type.here (wpAny_bind ((looks_findIn X ht).here (wpAny_bind (wpAny_pure h))))))
/-- the first attribute: the refusal gets its dict -/
theorem set_exc0 {vs : Array Value} {sl : Array (Option Value)} {Q : Unit → Shared → Prop} (X : K.In s.heap) (hx : s.heap.get? x = some ⟨.ref C, none, .fields vs, sl⟩) (hs : findIn K (.ref C) "__setattr__" = some (some (.builtin "object.__setattr__")))
    (hp : excIn K C = true) (hh : hasDictIn K C = true) (ht : findIn K (.ref C) name = some none)
    (h : ∀ h', h'.get? x = some ⟨.ref C, some s.heap.objs.size, .fields vs, sl⟩ → h'.Ns1 s.heap.objs.size (fun y => if y = name then some v else none) → (∀ b o, b ≠ x → s.heap.get? b = some o → h'.get? b = some o) → Q () { s with heap := h', toks := s.toks + 2 }) :
    wpAny (model prog w) A (setAttr (.ref x) name v) Q E s := by
  have I : InstAt s.heap x ⟨.ref C, none, .fields vs, sl⟩ C none := ⟨hx, rfl, rfl, trivial⟩
  obtain ⟨cd, hc, hd'⟩ := any_some hh
  have nx : x ≠ s.heap.objs.size := Nat.ne_of_lt (Heap.lt_size hx)
  refine set_plain X I hs (osa_exc (s := { s with toks := s.toks + 1 }) X I hp ht ?_)
  refine wpAny_bind (wpAny_pure (wpAny_bind (wpAny_bind (wpAny_loadPart hx (wpAny_bind (Looks.here (s := { s with toks := s.toks + 1 }) (looks_clsIn X hc) ?_))))))
  rw [hd']
  refine wpAny_bind (wpAny_alloc (wpAny_bind (wpAny_update (Heap.get?_push_of_some _ hx) (wpAny_pure ?_))))
  generalize hH : (s.heap.push { cls := .type "dict", data := .dict #[] }).update x (fun o => { o with dict := some s.heap.objs.size }) = H1
  have hx1 : H1.get? x = some ⟨.ref C, some s.heap.objs.size, .fields vs, sl⟩ := by
    rw [← hH]; exact Heap.get?_update_self _ (Heap.get?_push_of_some _ hx) rfl
  have hd1 : H1.get? s.heap.objs.size = some { cls := .type "dict", data := .dict #[] } := by
    rw [← hH, Heap.get?_update_ne _ _ _ _ (Ne.symm nx)]; exact Heap.get?_push_size _ rfl
  have hk1 : ∀ b o, b ≠ x → s.heap.get? b = some o → H1.get? b = some o := fun b o hb e => by
    rw [← hH, Heap.get?_update_ne _ _ _ _ hb]; exact Heap.get?_push_of_some _ e
  have hn1 : H1.Ns1 s.heap.objs.size (fun _ => none) := Heap.Ns1.of_empty ⟨_, #[], _, hd1, rfl, fun e he => absurd he (by simp), fun _ => rfl⟩
  refine wpAny_bind (wpAny_pure (wpAny_bind (wpAny_nsSet1 (s := { s with heap := H1, toks := s.toks + 1 }) hn1 fun h' hn2 hs2 => ?_)))
  obtain ⟨oD, esD, epD, hoD, hdD, hcD⟩ := hn2.count (Within.cons name v Within.nil)
  refine wpAny_bind (wpAny_lookBehind hoD (by rw [hdD]; exact pastItsLine_dict (Nat.le_trans hcD (by rw [List.length_cons, List.length_nil, sizeLine_eq]; first | lia | omega))) ?_)
  exact wpAny_pure (h _ ((hs2.2 _ nx).trans hx1) hn2 fun b o hb e => (hs2.2 _ (Nat.ne_of_lt (Heap.lt_size e))).trans (hk1 b o hb e))
/-- a further one -/
theorem set_exc {vs : Array Value} {sl : Array (Option Value)} {dx : Addr} {mA : Str → Option Value} {ns : List Str} {Q : Unit → Shared → Prop} (X : K.In s.heap) (hx : s.heap.get? x = some ⟨.ref C, some dx, .fields vs, sl⟩) (hn : s.heap.Ns1 dx mA) (hne : dx ≠ x)
    (hs : findIn K (.ref C) "__setattr__" = some (some (.builtin "object.__setattr__"))) (hp : excIn K C = true) (hh : hasDictIn K C = true) (ht : findIn K (.ref C) name = some none) (hw : PySem.Within mA ns) (hsz : ns.length ≤ sizeLine)
    (h : ∀ h', h'.get? x = some ⟨.ref C, some dx, .fields vs, sl⟩ → h'.Ns1 dx (fun y => if y = name then some v else mA y) → Heap.SameBut dx s.heap h' → Q () { s with heap := h', toks := s.toks + 2 }) :
    wpAny (model prog w) A (setAttr (.ref x) name v) Q E s := by
  obtain ⟨od, ho⟩ : ∃ o, s.heap.get? dx = some o := let ⟨o, _, _, e, _⟩ := hn; ⟨o, e⟩
  have I : InstAt s.heap x ⟨.ref C, some dx, .fields vs, sl⟩ C (some od) := ⟨hx, rfl, rfl, ho⟩
  obtain ⟨cd, hc, hd'⟩ := any_some hh
  refine set_plain X I hs (osa_exc (s := { s with toks := s.toks + 1 }) X I hp ht ?_)
  refine wpAny_bind (wpAny_pure (wpAny_bind (wpAny_bind (wpAny_loadPart hx (wpAny_bind (Looks.here (s := { s with toks := s.toks + 1 }) (looks_clsIn X hc) ?_))))))
  rw [hd']
  refine wpAny_pure (a := some dx) (wpAny_bind (wpAny_pure (wpAny_bind (wpAny_nsSet1 (s := { s with toks := s.toks + 1 }) hn fun h' hn2 hs2 => ?_))))
  obtain ⟨oD, esD, epD, hoD, hdD, hcD⟩ := hn2.count (Within.cons name v hw)
  refine wpAny_bind (wpAny_lookBehind hoD (by rw [hdD]; exact pastItsLine_dict (Nat.le_trans hcD (by rw [List.length_cons]; first | lia | omega))) ?_)
  exact wpAny_pure (h _ ((hs2.2 _ (Ne.symm hne)).trans hx) hn2 hs2)
end
end L2
namespace L2
open PySem PySem.Spec PyProof.Rows PySem.W
section
variable {cmp : Nat → Nat → (Bool → Shared → Prop) → Shared → Prop} {key : Nat → Int} {N : Nat} {s : Shared}
variable (hcmp : ∀ i j (C : Bool → Shared → Prop), i < N → j < N → C (decide (key i < key j)) s → cmp i j C s)
include hcmp
end
end L2
namespace L2
open PySem PySem.Spec PyProof.Rows PySem.W
section
variable {prog : Program} {w : World} {A : Around} {E : Value → Shared → Prop} {s : Shared}
end
section
variable {X : Cx}
end
end L2
namespace L2
open PySem PySem.Spec PyProof.Rows

section
variable {κ : Type} [DecidableEq κ]
end


section
variable {P : Program} {w : World} {H : Hp} {h : Heap} {a : Addr}
end

section
variable {X : Cx} {pins : List (Addr × Obj)} {σ : St} {H : Hp} {s : Shared} {a : Addr} {y v : V} {u r : Value} {o : Option V} {A : Around} {E : Value → Shared → Prop}

end

section
variable {X : Cx} {pins : List (Addr × Obj)} {σ : St} {H : Hp} {s : Shared} {a : Addr} {kvs : List (Key × V)} {k : Key} {u : Value} {A : Around} {E : Value → Shared → Prop}
end


section
variable {X : Cx} {o i e value : Expr} {pos pos' tpos : Pos} {td ty tv : TE}
end


section
variable {X : Cx} {pos : Pos}
end

section
variable {X : Cx} {pins : List (Addr × Obj)} {σ : St} {H : Hp} {s : Shared} {a : Addr} {y d : V} {u r : Value} {o : Option V} {A : Around} {E : Value → Shared → Prop}
end

section
variable {X : Cx} {o e f : Expr} {apos cpos : Pos} {td ty tx : TE}
end

section
variable {X : Cx} {pins : List (Addr × Obj)} {σ : St} {H : Hp} {s : Shared} {a : Addr} {kvs : List (Key × V)} {A : Around} {E : Value → Shared → Prop}
end


section
variable {X : Cx} {pins : List (Addr × Obj)} {σ : St} {H : Hp} {s : Shared} {a : Addr} {y : V} {u : Value} {A : Around} {E : Value → Shared → Prop}
end
section
variable {κ : Type} [DecidableEq κ]
end
section
variable {X : Cx}
end
end L2
namespace L2
open PySem PySem.Spec PyProof.Rows
/-- at each turn a new tuple (i, x) -/
def Ite (K : PySem.W.Frag) (a : Addr) : It :=
  ⟨fun i H => ∃ xs x, SqL K H a xs ∧ xs[i]? = some x, fun i H y H' => ∃ t x, (∀ xs, SqL K H a xs → xs[i]? = some x) ∧ y = .ref t ∧ H t = none ∧ H' = upd H t (.tup [.int i, x]), fun i H => ∃ xs, SqL K H a xs ∧ xs.length ≤ i⟩
theorem enum_step {X : Cx} {pins : List (Addr × Obj)} {σ : St} {H : Hp} {s : Shared} {h' : Heap} {e it : Addr} {t' : Nat} {ys : List V} (I : Inv X pins σ H s) (fe : FpOk X pins H e) (fi : FpOk X pins H it)
    (k : ∀ b o, b ≠ e → b ≠ it → s.heap.get? b = some o → h'.get? b = some o) (he : ∃ o, h'.get? e = some o) (hi : ∃ o, h'.get? it = some o)
    (new : ObjOk X.prog X.w (upd H s.heap.objs.size (.tup ys)) h' s.heap.objs.size (.tup ys)) :
    Inv X pins σ (upd H s.heap.objs.size (.tup ys)) { s with heap := h', toks := t' } := by
  have hn : H s.heap.objs.size = none := I.hok.fresh (Nat.le_refl _)
  obtain ⟨e0, e1, e2, e3, e4, e5⟩ := fe
  obtain ⟨i0, i1, i2, i3, i4, i5⟩ := fi
  have nt : ∀ b u, H b = some u → b ≠ e ∧ b ≠ it := fun b u q => ⟨fun z => (by rw [z, e0] at q; cases q), fun z => (by rw [z, i0] at q; cases q)⟩
  have nc : ∀ b, b ∉ [e, it] → b ≠ e ∧ b ≠ it := fun b hb => ⟨fun z => hb (by simp [z]), fun z => hb (by simp [z])⟩
  have ne : ∀ b u, H b = some u → b ≠ s.heap.objs.size := fun b u q => ne_of_none q hn
  refine I.step (g' := s.gens) (d' := s.drawn) (ch := [e, it]) (fun b hb => ?_) (fun b o _ _ hc q _ => k b o (nc b hc).1 (nc b hc).2 q) (fun b o _ _ hc q _ => ⟨o.slots, k b o (nc b hc).1 (nc b hc).2 q⟩)
    (fun b o _ q n => by rw [upd_ne (Nat.ne_of_lt (Heap.lt_size q))]; exact n) (fun b o hc q => ⟨o, k b o (nc b hc).1 (nc b hc).2 q⟩) (fun b xs q => by rw [upd_ne (ne b _ q)]; exact q) (fun b o u q => by rw [upd_ne (ne b _ q)]; exact q)
    (fun b ps q => ⟨#[], by rw [upd_ne (ne b _ q), q]; simp⟩) (fun m hm => ?_) (fun b u q => ?_) I.bare
  · rcases List.mem_cons.mp hb with rfl | hb
    · exact ⟨e3, e1, e4, e5⟩
    · rw [List.mem_singleton.mp hb]; exact ⟨i3, i1, i4, i5⟩
  · obtain ⟨o, es, ep, ho, r⟩ := hm
    exact ⟨o, es, ep, k _ o (Ne.symm e1) (Ne.symm i1) ho, r⟩
  · by_cases hb : b = s.heap.objs.size
    · subst hb; rw [upd_same] at q; cases q; exact new
    · rw [upd_ne hb] at q
      refine (I.hok b u q).stay (fun c v hc z => k c v ?_ ?_ z) (fun c z => by rw [upd_ne (ne c _ z)]; exact z) fun c xs z => by rw [upd_ne (ne c _ z)]; exact z
      · rcases hc with rfl | hc
        · exact (nt c u q).1
        · exact (nt c _ hc).1
      · rcases hc with rfl | hc
        · exact (nt c u q).2
        · exact (nt c _ hc).2
theorem turn_enum {P : Program} {w : World} {K : PySem.W.Frag} {es : List Expr} {k : Nat} {pos : Pos} (a e it : Addr) (hei : e ≠ it) :
    Turn P w K (.Tuple es k pos) (Ite K a) [e, it] e (fun i h => (∃ old, IsEnum h e it i old) ∧ h.IsListIter it a i) where
  mem := by simp
  obj := fun i h st b hb => by
    obtain ⟨⟨old, he⟩, ⟨o, eo, c, d⟩⟩ := st
    rcases List.mem_cons.mp hb with rfl | hb
    · exact ⟨_, he, fun v z => by
        have z' : Data.fields _ = Data.cell v := z
        cases z'⟩
    · rw [List.mem_singleton.mp hb]; exact ⟨o, eo, fun v z => by rw [d] at z; cases z⟩
  keep := fun i h h' st kk => by
    obtain ⟨⟨old, he⟩, st⟩ := st
    exact ⟨⟨old, kk e (by simp) _ he⟩, st.at fun o z => kk it (by simp) o z⟩
  item := by
    intro X hP hw hK hc i pins s σ H E I hf st hg
    subst hP hw hK
    obtain ⟨⟨old, he⟩, st⟩ := st
    obtain ⟨xs, x, hq, hx⟩ := hg
    obtain ⟨its, rv, p, hz⟩ := I.list hq
    obtain ⟨u, hu, ru⟩ := rv.get hx
    have fe := hf e (by simp)
    have fi := hf it (by simp)
    refine wpAny_pyNext_enum_item he st p.isList (x := u) (by simpa using hu) hei fun h' he' st' ht hz' kk => ?_
    refine ⟨_, rfl, ?_⟩
    have ltE : e < s.heap.objs.size := Heap.lt_size he
    have hn : H s.heap.objs.size = none := I.hok.fresh (Nat.le_refl _)
    have I1 : Inv X pins σ (upd H s.heap.objs.size (.tup [.int i, x])) { s with heap := h', toks := s.toks + 1 } := by
      refine enum_step I fe fi kk ⟨_, he'⟩ (let ⟨o, eo, _⟩ := st'; ⟨o, eo⟩) ⟨?_, [.int i s.toks, u], .cons ⟨_, rfl⟩ (.cons ru .nil), ⟨_, ht, rfl, _, rfl⟩⟩
      show 2 ≤ sizeLine
      decide
    refine wpAny_letOwnedTupleGo_enum (s := { s with heap := h', toks := s.toks + 1 }) he' fun h2 he2 sb => ?_
    have neE : e ≠ s.heap.objs.size := Nat.ne_of_lt ltE
    have fe2 : (upd H s.heap.objs.size (.tup [.int i, x])) e = none := by rw [upd_ne neE]; exact fe.1
    have I2 : Inv X pins σ (upd H s.heap.objs.size (.tup [.int i, x])) { ({ s with heap := h', toks := s.toks + 1 } : Shared) with heap := h2, toks := s.toks + 1 } :=
      I1.turned (t' := s.toks + 1) (it := e) (fun b o hb z => (sb.2 b hb).trans z) fe2 fe.2.1 fe.2.2.2.1 fe.2.2.2.2.1 fe.2.2.2.2.2
    obtain ⟨oi, hoi, _⟩ := id st
    have ltI : it < s.heap.objs.size := Heap.lt_size hoi
    refine ⟨.ref s.heap.objs.size, _, I2, rfl, ⟨_, x, fun ys hy => by rw [I.list_inj hy hq]; exact hx, rfl, hn, rfl⟩, ⟨⟨u, ?_⟩, ?_⟩, fun b hb => ?_⟩
    · have e1 : ((i + 1 : Nat) : Int) = (i : Int) + 1 := by push_cast; rfl
      rw [e1]; exact he2
    · exact st'.at fun o z => (sb.2 it (Ne.symm hei)).trans z
    · rcases List.mem_cons.mp hb with rfl | hb
      · exact fe2
      · rw [List.mem_singleton.mp hb, upd_ne (Nat.ne_of_lt ltI)]; exact fi.1
  done := by
    intro X hP hw hK hc i pins s σ H E I hf st hg
    subst hP hw hK
    obtain ⟨⟨old, he⟩, st⟩ := st
    obtain ⟨xs, hq, hx⟩ := hg
    obtain ⟨its, rv, p, hz⟩ := I.list hq
    obtain ⟨f0, f1, f2, f3, f4, f5⟩ := hf it (by simp)
    have hl := rv.length
    exact wpAny_pyNext_enum_end (I.ok.hd hc) he st p.isList (by simp; first | lia | omega) fun h' eb => ⟨rfl, I.turned (t' := s.toks) (fun b o hb z => eb b o hb z) f0 f1 f3 f4 f5⟩
  self := fun _ _ _ _ _ st h => by
    obtain ⟨⟨old, he⟩, _⟩ := st
    exact wpAny_pyIter_enum he h
def iEnum (K : PySem.W.Frag) (ta : TA) : TI := fun σ H R => ta σ H fun vs H1 => ∃ a, vs = [.ref a] ∧ (∃ xs, SqL K H1 a xs) ∧ R (Ite K a) H1
section
variable {X : Cx}
theorem pi_enum {a : Expr} {es : List Expr} {k : Nat} {tpos : Pos} {ta : TA} {p pos : Pos} (hg : Gl X "enumerate") (hm : X.mg "enumerate" = none) (ha : PA X [a] ta) (hs : starEach [a] X.env = [(false, eval a X.env)] := by rfl) :
    PI X (.Tuple es k tpos) (.Call (.Name "enumerate" p) [a] [] pos) (iEnum X.K ta) := by
  intro pins s σ H R I h
  refine Call_ (ld_blt I hg hm boot_enumerate (PyProof.Rows.callWith_type1 (thn (ha pos pins s σ H _ I h) fun us s1 ⟨vs, H1, I1, r1, q1⟩ => ?_) hs rfl))
  obtain ⟨b, e, ⟨xs, hq⟩, q⟩ := q1
  subst e
  cases r1 with
  | cons r rr =>
    cases rr
    cases r
    obtain ⟨its, rv, pl, hz⟩ := I1.list hq
    refine call_enumerate_list pl.isList fun h' he hit hsz hk => ?_
    have I2 : Inv X pins σ H1 { s1 with heap := h' } := I1.kept (t' := s1.toks) hk
    refine wpAny_pyIter_enum (s := { s1 with heap := h' }) he ?_
    refine ⟨s1.heap.objs.size + 1, [s1.heap.objs.size + 1, s1.heap.objs.size], _, _, H1, rfl, I2, turn_enum b _ _ (Nat.succ_ne_self _), ⟨⟨_, he⟩, hit⟩, fun c hc => ?_, q⟩
    rcases List.mem_cons.mp hc with rfl | hc
    · exact I1.fpOk (Nat.le_succ _) (I1.hok.fresh (Nat.le_succ _))
    · rw [List.mem_singleton.mp hc]; exact I1.fpOk (Nat.le_refl _) (I1.hok.fresh (Nat.le_refl _))
end
/-- the loop by what holds ahead of the i-th item; the list stays -/
theorem for_enum {K : PySem.W.Frag} {a : Addr} {xs : List V} {g : TG} {tb : TS} {D : Ends} {σ : St} {H : Hp} (Pv : Nat → St → Hp → Prop) (h0 : Pv 0 σ H) (hl : ∀ i σ H, i ≤ xs.length → Pv i σ H → SqL K H a xs)
    (hs : ∀ i x σ H t, xs[i]? = some x → Pv i σ H → H t = none → g (.ref t) σ (upd H t (.tup [.int i, x])) fun σ2 H2 => tb { D with nx := Pv (i + 1), ct := Pv (i + 1), bk := D.nx } σ2 H2) (hd : ∀ σ H, Pv xs.length σ H → D.nx σ H) :
    ∃ W : Nat → Nat → St → Hp → Prop, (∃ m, W 0 m σ H) ∧ ∀ i m σ H, W i m σ H →
      ((Ite K a).stop i H ∧ D.nx σ H) ∨ ((Ite K a).go i H ∧ ∃ N : St → Hp → Prop, (∀ σ' H', N σ' H' → ∃ m', m' < m ∧ W (i + 1) m' σ' H') ∧ ∀ x H', (Ite K a).yld i H x H' → g x σ H' fun σ2 H2 => tb { D with nx := N, ct := N, bk := D.nx } σ2 H2) := by
  refine ⟨fun i m σ H => m = xs.length - i ∧ i ≤ xs.length ∧ Pv i σ H, ⟨xs.length, by simp, Nat.zero_le _, h0⟩, ?_⟩
  rintro i m σ H ⟨rfl, hi, p⟩
  have q := hl i σ H hi p
  by_cases hlt : i < xs.length
  · refine .inr ⟨⟨xs, xs[i], q, by simp [hlt]⟩, Pv (i + 1), fun σ' H' p' => ⟨xs.length - (i + 1), by first | lia | omega, rfl, hlt, p'⟩, fun x H' y => ?_⟩
    obtain ⟨t, z, hz, rfl, ht, rfl⟩ := y
    exact hs i z σ H t (hz xs q) p ht
  · have e : i = xs.length := by first | lia | omega
    subst e
    exact .inl ⟨⟨xs, q, Nat.le_refl _⟩, hd σ H p⟩
end L2
namespace L2
open PySem PySem.Spec PyProof.Rows PySem.SeqAt
mutual
inductive D where
  | at (v : V)
  | tup (xs : Ds)
  | lst (xs : Ds)
inductive Ds where
  | nil
  | cons (d : D) (r : Ds)
end
mutual
def DIs (K : PySem.W.Frag) (H : Hp) : D → V → Prop
  | .at u, v => v = u ∧ flatV u = true
  | .tup ds, v => ∃ a xs, v = .ref a ∧ SqT K H a xs ∧ DIss K H ds xs
  | .lst ds, v => ∃ a xs, v = .ref a ∧ SqL K H a xs ∧ DIss K H ds xs
def DIss (K : PySem.W.Frag) (H : Hp) : Ds → List V → Prop
  | .nil, xs => xs = []
  | .cons d r, xs => ∃ x ys, xs = x :: ys ∧ DIs K H d x ∧ DIss K H r ys
end
mutual
def dep : D → Nat
  | .at _ => 0
  | .tup ds => deps ds + 1
  | .lst ds => deps ds + 1
def deps : Ds → Nat
  | .nil => 0
  | .cons d r => max (dep d) (deps r)
end
mutual
def deq : D → D → Bool
  | .at u, .at v => eqV u v
  | .tup xs, .tup ys => deqs xs ys
  | .lst xs, .lst ys => deqs xs ys
  | _, _ => false
def deqs : Ds → Ds → Bool
  | .nil, .nil => true
  | .cons d r, .cons e q => deq d e && deqs r q
  | _, _ => false
end
def Ds.len : Ds → Nat
  | .nil => 0
  | .cons _ r => r.len + 1
def Ds.get : Ds → Nat → D
  | .nil, _ => .at .non
  | .cons d _, 0 => d
  | .cons _ r, i + 1 => r.get i
theorem deqs_all : ∀ (ds es : Ds), ((List.range (min ds.len es.len)).all (fun j => deq (ds.get j) (es.get j)) && ds.len == es.len) = deqs ds es
  | .nil, .nil => rfl
  | .nil, .cons e q => by simp [Ds.len, deqs]
  | .cons d r, .nil => by simp [Ds.len, deqs]
  | .cons d r, .cons e q => by
    have ih := deqs_all r q
    rw [show deqs (.cons d r) (.cons e q) = (deq d e && deqs r q) from by rw [deqs], ← ih]
    show ((List.range (min (r.len + 1) (q.len + 1))).all _ && (r.len + 1 == q.len + 1)) = _
    rw [show min (r.len + 1) (q.len + 1) = min r.len q.len + 1 by first | lia | omega, List.range_succ_eq_map, List.all_cons, List.all_map, Bool.and_assoc]
    congr 1
    rw [show (r.len + 1 == q.len + 1) = (r.len == q.len) by simp]
    rfl
mutual
theorem deq_refl : ∀ {K : PySem.W.Frag} {H : Hp} (d : D) {v : V}, DIs K H d v → deq d d = true
  | _, _, .at u, v, h => by
    obtain ⟨_, hf⟩ := (show v = u ∧ flatV u = true by simpa [DIs] using h)
    rw [deq]
    cases u <;> simp_all [flatV, eqV]
  | _, _, .tup ds, v, h => by
    rw [DIs] at h
    obtain ⟨a, xs, _, _, q⟩ := h
    rw [deq]; exact deqs_refl ds q
  | _, _, .lst ds, v, h => by
    rw [DIs] at h
    obtain ⟨a, xs, _, _, q⟩ := h
    rw [deq]; exact deqs_refl ds q
theorem deqs_refl : ∀ {K : PySem.W.Frag} {H : Hp} (ds : Ds) {xs : List V}, DIss K H ds xs → deqs ds ds = true
  | _, _, .nil, _, _ => by rw [deqs]
  | _, _, .cons d r, xs, h => by
    rw [DIss] at h
    obtain ⟨x, ys, _, h1, h2⟩ := h
    rw [deqs, deq_refl d h1, deqs_refl r h2]; rfl
end
theorem DIss.len {K : PySem.W.Frag} {H : Hp} : ∀ {ds : Ds} {xs : List V}, DIss K H ds xs → ds.len = xs.length
  | .nil, xs, h => by rw [DIss] at h; rw [h]; rfl
  | .cons d r, xs, h => by
    rw [DIss] at h
    obtain ⟨x, ys, rfl, _, h2⟩ := h
    show r.len + 1 = ys.length + 1
    rw [DIss.len h2]
theorem DIss.get {K : PySem.W.Frag} {H : Hp} : ∀ {ds : Ds} {xs : List V} {i : Nat} {x : V}, DIss K H ds xs → xs[i]? = some x → DIs K H (ds.get i) x
  | .nil, xs, i, x, h, e => by rw [DIss] at h; rw [h] at e; simp at e
  | .cons d r, xs, i, x, h, e => by
    rw [DIss] at h
    obtain ⟨y, ys, rfl, h1, h2⟩ := h
    cases i with
    | zero => simp at e; subst e; exact h1
    | succ i =>
      show DIs K H (r.get i) x
      exact DIss.get h2 (by simpa using e)
theorem dep_get : ∀ (ds : Ds) (i : Nat), i < ds.len → dep (ds.get i) ≤ deps ds
  | .nil, i, h => absurd h (by simp [Ds.len])
  | .cons d r, 0, _ => by show dep d ≤ _; rw [deps]; first | lia | omega
  | .cons d r, i + 1, h => by
    have := dep_get r i (by simpa [Ds.len] using h)
    show dep (r.get i) ≤ _
    rw [deps]; first | lia | omega
section
variable {X : Cx} {pins : List (Addr × Obj)} {σ : St} {H : Hp} {s : Shared}
mutual
theorem DIs.inj (I : Inv X pins σ H s) : ∀ {d e : D} {v : V}, DIs X.K H d v → DIs X.K H e v → d = e
  | .at u, .at w', v, h, h' => by
    rw [DIs] at h
    rw [DIs] at h'
    rw [← h.1, ← h'.1]
  | .at u, .tup ds, v, h, h' => by
    rw [DIs] at h
    rw [DIs] at h'
    obtain ⟨a, xs, e, _⟩ := h'
    have := h.2
    rw [← h.1, e] at this
    cases this
  | .at u, .lst ds, v, h, h' => by
    rw [DIs] at h
    rw [DIs] at h'
    obtain ⟨a, xs, e, _⟩ := h'
    have := h.2
    rw [← h.1, e] at this
    cases this
  | .tup ds, .at u, v, h', h => by
    rw [DIs] at h
    rw [DIs] at h'
    obtain ⟨a, xs, e, _⟩ := h'
    have := h.2
    rw [← h.1, e] at this
    cases this
  | .lst ds, .at u, v, h', h => by
    rw [DIs] at h
    rw [DIs] at h'
    obtain ⟨a, xs, e, _⟩ := h'
    have := h.2
    rw [← h.1, e] at this
    cases this
  | .tup ds, .tup es, v, h, h' => by
    rw [DIs] at h
    rw [DIs] at h'
    obtain ⟨a, xs, rfl, h1, h2⟩ := h
    obtain ⟨b, ys, e, k1, k2⟩ := h'
    cases e
    have e := I.tuple_inj h1 k1
    subst e
    rw [DIss.inj I h2 k2]
  | .lst ds, .lst es, v, h, h' => by
    rw [DIs] at h
    rw [DIs] at h'
    obtain ⟨a, xs, rfl, h1, h2⟩ := h
    obtain ⟨b, ys, e, k1, k2⟩ := h'
    cases e
    have e := I.list_inj h1 k1
    subst e
    rw [DIss.inj I h2 k2]
  | .tup ds, .lst es, v, h, h' => by
    rw [DIs] at h
    rw [DIs] at h'
    obtain ⟨a, xs, rfl, h1, h2⟩ := h
    obtain ⟨b, ys, e, k1, k2⟩ := h'
    cases e
    obtain ⟨_, _, t1, _⟩ := I.tuple h1
    obtain ⟨_, _, t2, _⟩ := I.list k1
    exact absurd rfl (ne_of_list_tuple t2.isList (show s.heap.IsTuple a _ from t1))
  | .lst ds, .tup es, v, h, h' => by
    rw [DIs] at h
    rw [DIs] at h'
    obtain ⟨a, xs, rfl, h1, h2⟩ := h
    obtain ⟨b, ys, e, k1, k2⟩ := h'
    cases e
    obtain ⟨_, _, t1, _⟩ := I.tuple k1
    obtain ⟨_, _, t2, _⟩ := I.list h1
    exact absurd rfl (ne_of_list_tuple t2.isList (show s.heap.IsTuple a _ from t1))
theorem DIss.inj (I : Inv X pins σ H s) : ∀ {ds es : Ds} {xs : List V}, DIss X.K H ds xs → DIss X.K H es xs → ds = es
  | .nil, .nil, xs, h, h' => rfl
  | .nil, .cons d r, xs, h, h' => by
    rw [DIss] at h
    rw [DIss] at h'
    obtain ⟨x, ys, e, _⟩ := h'
    rw [h] at e; cases e
  | .cons d r, .nil, xs, h', h => by
    rw [DIss] at h
    rw [DIss] at h'
    obtain ⟨x, ys, e, _⟩ := h'
    rw [h] at e; cases e
  | .cons d r, .cons e q, xs, h, h' => by
    rw [DIss] at h
    rw [DIss] at h'
    obtain ⟨x, ys, rfl, h1, h2⟩ := h
    obtain ⟨y, zs, e', k1, k2⟩ := h'
    cases e'
    rw [DIs.inj I h1 k1, DIss.inj I h2 k2]
end
theorem flat_tup {A : Around} {u : V} {x : Value} {l : Addr} {items : Array Value} (r : RelV u x) (f : flatV u = true) (hl : s.heap.IsTuple l items) (hu : A.units < cLine) : EqAt A s x (.ref l) false ∧ EqAt A s (.ref l) x false := by
  cases u with
  | non => cases r; exact ⟨.none_tuple hl hu, .tuple_none hl hu⟩
  | bl b => cases r; exact ⟨.bool_tuple b hl hu, .tuple_bool b hl hu⟩
  | int b => obtain ⟨t, rfl⟩ := r; exact ⟨.int_tuple b t hl hu, .tuple_int b t hl hu⟩
  | str b => obtain ⟨t, rfl⟩ := r; exact ⟨.str_tuple b t hl hu, .tuple_str b t hl hu⟩
  | _ => exact absurd (show false = true from f) Bool.false_ne_true
theorem flat_lst {A : Around} {u : V} {x : Value} {l : Addr} {items : Array Value} (r : RelV u x) (f : flatV u = true) (hl : s.heap.IsList l items) (hu : A.units < cLine) : EqAt A s x (.ref l) false ∧ EqAt A s (.ref l) x false := by
  cases u with
  | non => cases r; exact ⟨.none_list hl hu, .list_none hl hu⟩
  | bl b => cases r; exact ⟨.bool_list b hl hu, .list_bool b hl hu⟩
  | int b => obtain ⟨t, rfl⟩ := r; exact ⟨.int_list b t hl hu, .list_int b t hl hu⟩
  | str b => obtain ⟨t, rfl⟩ := r; exact ⟨.str_list b t hl hu, .list_str b t hl hu⟩
  | _ => exact absurd (show false = true from f) Bool.false_ne_true
theorem eqAt_D (I : Inv X pins σ H s) : ∀ (n : Nat) (A : Around) (d e : D) (x y : V) (u v : Value), dep d ≤ n → DIs X.K H d x → DIs X.K H e y → RelV x u → RelV y v → A.units + n < cLine → EqAt A s u v (deq d e) := by
  intro n
  induction n with
  | zero =>
    intro A d e x y u v hn hd he rx ry hu
    cases d with
    | tup ds => rw [dep] at hn; first | lia | omega
    | lst ds => rw [dep] at hn; first | lia | omega
    | «at» p =>
      rw [DIs] at hd
      obtain ⟨rfl, hf⟩ := hd
      cases e with
      | «at» q =>
        rw [DIs] at he
        obtain ⟨rfl, hg⟩ := he
        rw [deq]; exact eqAt_V rx ry hf hg
      | tup es =>
        rw [DIs] at he
        obtain ⟨b, ys, rfl, h1, _⟩ := he
        obtain ⟨_, _, t, _⟩ := I.tuple h1
        cases ry
        rw [deq]
        · exact (flat_tup rx hf (show s.heap.IsTuple b _ from t) hu).1
        all_goals (intros; simp_all)
      | lst es =>
        rw [DIs] at he
        obtain ⟨b, ys, rfl, h1, _⟩ := he
        obtain ⟨_, _, t, _⟩ := I.list h1
        cases ry
        rw [deq]
        · exact (flat_lst rx hf t.isList hu).1
        all_goals (intros; simp_all)
  | succ n ih =>
    intro A d e x y u v hn hd he rx ry hu
    have hu1 : A.in1.units + n < cLine := by show A.units + 1 + n < cLine; first | lia | omega
    cases d with
    | «at» p =>
      rw [DIs] at hd
      obtain ⟨rfl, hf⟩ := hd
      cases e with
      | «at» q =>
        rw [DIs] at he
        obtain ⟨rfl, hg⟩ := he
        rw [deq]; exact eqAt_V rx ry hf hg
      | tup es =>
        rw [DIs] at he
        obtain ⟨b, ys, rfl, h1, _⟩ := he
        obtain ⟨_, _, t, _⟩ := I.tuple h1
        cases ry
        rw [deq]
        · exact (flat_tup rx hf (show s.heap.IsTuple b _ from t) (by first | lia | omega)).1
        all_goals (intros; simp_all)
      | lst es =>
        rw [DIs] at he
        obtain ⟨b, ys, rfl, h1, _⟩ := he
        obtain ⟨_, _, t, _⟩ := I.list h1
        cases ry
        rw [deq]
        · exact (flat_lst rx hf t.isList (by first | lia | omega)).1
        all_goals (intros; simp_all)
    | tup ds =>
      have hd0 := hd
      rw [dep] at hn
      rw [DIs] at hd
      obtain ⟨a, xs, rfl, h1, h2⟩ := hd
      obtain ⟨i1, r1, t1, _⟩ := I.tuple h1
      cases rx
      cases e with
      | «at» q =>
        rw [DIs] at he
        obtain ⟨rfl, hg⟩ := he
        rw [deq]
        · exact (flat_tup ry hg (show s.heap.IsTuple a _ from t1) (by first | lia | omega)).2
        all_goals (intros; simp_all)
      | lst es =>
        rw [DIs] at he
        obtain ⟨b, ys, rfl, k1, _⟩ := he
        obtain ⟨_, _, t2, _⟩ := I.list k1
        cases ry
        rw [deq]
        · exact EqAt.tuple_list (show s.heap.IsTuple a _ from t1) t2.isList (by first | lia | omega)
        all_goals (intros; simp_all)
      | tup es =>
        have he0 := he
        rw [DIs] at he
        obtain ⟨b, ys, rfl, k1, k2⟩ := he
        obtain ⟨i2, r2, t2, _⟩ := I.tuple k1
        cases ry
        by_cases hab : a = b
        · subst hab
          rw [DIs.inj I he0 hd0, deq_refl _ hd0]
          exact EqAt.same _
        · refine EqAt.of_refs hab ?_
          have := RcAt.tuples (A := A) (e := fun j => deq (ds.get j) (es.get j)) (show s.heap.IsTuple a i1.toArray from t1) (show s.heap.IsTuple b i2.toArray from t2) (by first | lia | omega) fun j g1 g2 => ?_
          · have l1 := r1.length
            have l2 := r2.length
            have m1 := h2.len
            have m2 := k2.len
            rw [List.size_toArray, List.size_toArray, ← l1, ← l2, ← m1, ← m2, deqs_all] at this
            rw [deq]; exact this
          · have l1 := r1.length
            have l2 := r2.length
            have m1 := h2.len
            have g1' : j < xs.length := by simp at g1; first | lia | omega
            have g2' : j < ys.length := by simp at g2; first | lia | omega
            obtain ⟨u1, e1, q1⟩ := r1.get (List.getElem?_eq_getElem g1')
            obtain ⟨u2, e2, q2⟩ := r2.get (List.getElem?_eq_getElem g2')
            have d1 : i1.toArray[j] = u1 := by
              have : i1[j]? = some i1.toArray[j] := by simp
              rw [e1] at this; exact (Option.some.inj this).symm
            have d2 : i2.toArray[j] = u2 := by
              have : i2[j]? = some i2.toArray[j] := by simp
              rw [e2] at this; exact (Option.some.inj this).symm
            rw [d1, d2]
            exact ih _ _ _ _ _ _ _ (Nat.le_trans (dep_get ds j (by first | lia | omega)) (by first | lia | omega)) (h2.get (List.getElem?_eq_getElem g1')) (k2.get (List.getElem?_eq_getElem g2')) q1 q2 hu1
    | lst ds =>
      have hd0 := hd
      rw [dep] at hn
      rw [DIs] at hd
      obtain ⟨a, xs, rfl, h1, h2⟩ := hd
      obtain ⟨i1, r1, t1, _⟩ := I.list h1
      cases rx
      cases e with
      | «at» q =>
        rw [DIs] at he
        obtain ⟨rfl, hg⟩ := he
        rw [deq]
        · exact (flat_lst ry hg t1.isList (by first | lia | omega)).2
        all_goals (intros; simp_all)
      | tup es =>
        rw [DIs] at he
        obtain ⟨b, ys, rfl, k1, _⟩ := he
        obtain ⟨_, _, t2, _⟩ := I.tuple k1
        cases ry
        rw [deq]
        · exact EqAt.list_tuple t1.isList (show s.heap.IsTuple b _ from t2) (by first | lia | omega)
        all_goals (intros; simp_all)
      | lst es =>
        have he0 := he
        rw [DIs] at he
        obtain ⟨b, ys, rfl, k1, k2⟩ := he
        obtain ⟨i2, r2, t2, _⟩ := I.list k1
        cases ry
        by_cases hab : a = b
        · subst hab
          rw [DIs.inj I he0 hd0, deq_refl _ hd0]
          exact EqAt.same _
        · refine EqAt.of_refs hab ?_
          have l1 := r1.length
          have l2 := r2.length
          have m1 := h2.len
          have m2 := k2.len
          rw [deq]
          rw [← deqs_all]
          by_cases hz : ds.len = es.len
          · have := RcAt.lists (A := A) (e := fun j => deq (ds.get j) (es.get j)) t1.isList t2.isList (by simp; first | lia | omega) (by first | lia | omega) fun j g1 g2 => ?_
            · rw [List.size_toArray, ← l1, ← m1] at this
              rw [hz, Nat.min_self, beq_self_eq_true, Bool.and_true, ← hz]
              exact this
            · have g1' : j < xs.length := by simp at g1; first | lia | omega
              have g2' : j < ys.length := by simp at g2; first | lia | omega
              obtain ⟨u1, e1, q1⟩ := r1.get (List.getElem?_eq_getElem g1')
              obtain ⟨u2, e2, q2⟩ := r2.get (List.getElem?_eq_getElem g2')
              have d1 : i1.toArray[j] = u1 := by
                have : i1[j]? = some i1.toArray[j] := by simp
                rw [e1] at this; exact (Option.some.inj this).symm
              have d2 : i2.toArray[j] = u2 := by
                have : i2[j]? = some i2.toArray[j] := by simp
                rw [e2] at this; exact (Option.some.inj this).symm
              rw [d1, d2]
              exact ih _ _ _ _ _ _ _ (Nat.le_trans (dep_get ds j (by first | lia | omega)) (by first | lia | omega)) (h2.get (List.getElem?_eq_getElem g1')) (k2.get (List.getElem?_eq_getElem g2')) q1 q2 hu1
          · have e0 : (ds.len == es.len) = false := by simpa using hz
            rw [e0, Bool.and_false]
            exact RcAt.lists_lengths t1.isList t2.isList (by simp; first | lia | omega) (by first | lia | omega)
end
section
variable {X : Cx}
/-- the items, one by one -/
theorem eqItems {pins : List (Addr × Obj)} {σ : St} {H : Hp} {s : Shared} (I : Inv X pins σ H s) {A : Around} {ds es : Ds} {xs ys : List V} {i1 i2 : List Value} (h2 : DIss X.K H ds xs) (k2 : DIss X.K H es ys) (r1 : Vals xs i1) (r2 : Vals ys i2)
    (hu : A.units + 60 < cLine) (hd : deps ds ≤ 50) : ∀ j (g1 : j < i1.toArray.size) (g2 : j < i2.toArray.size), EqAt A.in1 s i1.toArray[j] i2.toArray[j] (deq (ds.get j) (es.get j)) := fun j g1 g2 => by
  have l1 := r1.length
  have l2 := r2.length
  have m1 := h2.len
  have g1' : j < xs.length := by simp at g1; first | lia | omega
  have g2' : j < ys.length := by simp at g2; first | lia | omega
  obtain ⟨u1, e1, q1⟩ := r1.get (List.getElem?_eq_getElem g1')
  obtain ⟨u2, e2, q2⟩ := r2.get (List.getElem?_eq_getElem g2')
  have d1 : i1.toArray[j] = u1 := by
    have : i1[j]? = some i1.toArray[j] := by simp
    rw [e1] at this; exact (Option.some.inj this).symm
  have d2 : i2.toArray[j] = u2 := by
    have : i2[j]? = some i2.toArray[j] := by simp
    rw [e2] at this; exact (Option.some.inj this).symm
  rw [d1, d2]
  exact eqAt_D I 50 _ _ _ _ _ _ _ (Nat.le_trans (dep_get ds j (by first | lia | omega)) hd) (h2.get (List.getElem?_eq_getElem g1')) (k2.get (List.getElem?_eq_getElem g2')) q1 q2 (by show A.units + 1 + 50 < cLine; first | lia | omega)
/-- == of two lists or tuples of data -/
def rEqD (K : PySem.W.Frag) (neg : Bool) : R2 := fun x y H Q => ∃ d e, DIs K H d x ∧ DIs K H e y ∧ (∃ a, x = .ref a) ∧ (∃ b, y = .ref b) ∧ dep d ≤ 50 ∧ Q (.bl (if neg then !deq d e else deq d e)) H
theorem op_eqD {k : Nat} (hr : Room k X.A) : OpR X (compareOp .Eq) (rEqD X.K false) := by
  intro pins s σ H x y v u Q I rx ry h
  obtain ⟨d, e, hd, he, ⟨a, rfl⟩, ⟨b, rfl⟩, hn, q⟩ := h
  cases rx
  cases ry
  have hu := hr.units
  cases d with
  | «at» p => rw [DIs] at hd; obtain ⟨rfl, hf⟩ := hd; cases hf
  | tup ds =>
    rw [dep] at hn
    rw [DIs] at hd
    obtain ⟨a', xs, e', h1, h2⟩ := hd
    cases e'
    obtain ⟨i1, r1, t1, _⟩ := I.tuple h1
    cases e with
    | «at» p => rw [DIs] at he; obtain ⟨rfl, hf⟩ := he; cases hf
    | tup es =>
      rw [DIs] at he
      obtain ⟨b', ys, e', k1, k2⟩ := he
      cases e'
      obtain ⟨i2, r2, t2, _⟩ := I.tuple k1
      refine RcAt.tuples (show s.heap.IsTuple a i1.toArray from t1) (show s.heap.IsTuple b i2.toArray from t2) (by first | lia | omega) (eqItems I h2 k2 r1 r2 (by first | lia | omega) (by first | lia | omega)) _ _ _ _ ⟨.bl _, H, I, ?_, q⟩
      show Value.bool _ = Value.bool _
      rw [List.size_toArray, List.size_toArray, ← r1.length, ← r2.length, ← h2.len, ← k2.len, deqs_all]
      simp only [Bool.false_eq_true, if_false]
      rw [deq]
    | lst es =>
      rw [DIs] at he
      obtain ⟨b', ys, e', k1, k2⟩ := he
      cases e'
      obtain ⟨i2, r2, t2, _⟩ := I.list k1
      refine RcAt.tuple_list (show s.heap.IsTuple a _ from t1) t2.isList (by first | lia | omega) _ _ _ _ ⟨.bl _, H, I, ?_, q⟩
      show Value.bool _ = Value.bool _
      simp only [Bool.false_eq_true, if_false]
      rw [deq] <;> (intros; simp_all)
  | lst ds =>
    rw [dep] at hn
    rw [DIs] at hd
    obtain ⟨a', xs, e', h1, h2⟩ := hd
    cases e'
    obtain ⟨i1, r1, t1, _⟩ := I.list h1
    cases e with
    | «at» p => rw [DIs] at he; obtain ⟨rfl, hf⟩ := he; cases hf
    | tup es =>
      rw [DIs] at he
      obtain ⟨b', ys, e', k1, k2⟩ := he
      cases e'
      obtain ⟨i2, r2, t2, _⟩ := I.tuple k1
      refine RcAt.list_tuple t1.isList (show s.heap.IsTuple b _ from t2) (by first | lia | omega) _ _ _ _ ⟨.bl _, H, I, ?_, q⟩
      show Value.bool _ = Value.bool _
      simp only [Bool.false_eq_true, if_false]
      rw [deq] <;> (intros; simp_all)
    | lst es =>
      rw [DIs] at he
      obtain ⟨b', ys, e', k1, k2⟩ := he
      cases e'
      obtain ⟨i2, r2, t2, _⟩ := I.list k1
      have l1 := r1.length
      have l2 := r2.length
      have m1 := h2.len
      have m2 := k2.len
      by_cases hz : ds.len = es.len
      · refine RcAt.lists t1.isList t2.isList (by simp; first | lia | omega) (by first | lia | omega) (eqItems I h2 k2 r1 r2 (by first | lia | omega) (by first | lia | omega)) _ _ _ _ ⟨.bl _, H, I, ?_, q⟩
        show Value.bool _ = Value.bool _
        simp only [Bool.false_eq_true, if_false]
        rw [deq, ← deqs_all, List.size_toArray, ← l1, ← m1, hz, Nat.min_self, beq_self_eq_true, Bool.and_true]
      · refine RcAt.lists_lengths t1.isList t2.isList (by simp; first | lia | omega) (by first | lia | omega) _ _ _ _ ⟨.bl _, H, I, ?_, q⟩
        show Value.bool _ = Value.bool _
        have e0 : (ds.len == es.len) = false := by simpa using hz
        simp only [Bool.false_eq_true, if_false]
        rw [deq, ← deqs_all, e0, Bool.and_false]
theorem op_neD {k : Nat} (hr : Room k X.A) : OpR X (compareOp .NotEq) (rEqD X.K true) := by
  intro pins s σ H x y v u Q I rx ry h
  obtain ⟨d, e, hd, he, ⟨a, rfl⟩, ⟨b, rfl⟩, hn, q⟩ := h
  cases rx
  cases ry
  have hu := hr.units
  cases d with
  | «at» p => rw [DIs] at hd; obtain ⟨rfl, hf⟩ := hd; cases hf
  | tup ds =>
    rw [dep] at hn
    rw [DIs] at hd
    obtain ⟨a', xs, e', h1, h2⟩ := hd
    cases e'
    obtain ⟨i1, r1, t1, _⟩ := I.tuple h1
    cases e with
    | «at» p => rw [DIs] at he; obtain ⟨rfl, hf⟩ := he; cases hf
    | tup es =>
      rw [DIs] at he
      obtain ⟨b', ys, e', k1, k2⟩ := he
      cases e'
      obtain ⟨i2, r2, t2, _⟩ := I.tuple k1
      refine RcNeAt.tuples (show s.heap.IsTuple a i1.toArray from t1) (show s.heap.IsTuple b i2.toArray from t2) (by first | lia | omega) (eqItems I h2 k2 r1 r2 (by first | lia | omega) (by first | lia | omega)) _ _ _ _ ⟨.bl _, H, I, ?_, q⟩
      show Value.bool _ = Value.bool _
      rw [List.size_toArray, List.size_toArray, ← r1.length, ← r2.length, ← h2.len, ← k2.len, deqs_all]
      simp only [if_true]
      rw [deq]
    | lst es =>
      rw [DIs] at he
      obtain ⟨b', ys, e', k1, k2⟩ := he
      cases e'
      obtain ⟨i2, r2, t2, _⟩ := I.list k1
      refine RcNeAt.tuple_list (show s.heap.IsTuple a _ from t1) t2.isList (by first | lia | omega) _ _ _ _ ⟨.bl _, H, I, ?_, q⟩
      show Value.bool _ = Value.bool _
      simp only [if_true]
      rw [deq] <;> first | rfl | (intros; simp_all)
  | lst ds =>
    rw [dep] at hn
    rw [DIs] at hd
    obtain ⟨a', xs, e', h1, h2⟩ := hd
    cases e'
    obtain ⟨i1, r1, t1, _⟩ := I.list h1
    cases e with
    | «at» p => rw [DIs] at he; obtain ⟨rfl, hf⟩ := he; cases hf
    | tup es =>
      rw [DIs] at he
      obtain ⟨b', ys, e', k1, k2⟩ := he
      cases e'
      obtain ⟨i2, r2, t2, _⟩ := I.tuple k1
      refine RcNeAt.list_tuple t1.isList (show s.heap.IsTuple b _ from t2) (by first | lia | omega) _ _ _ _ ⟨.bl _, H, I, ?_, q⟩
      show Value.bool _ = Value.bool _
      simp only [if_true]
      rw [deq] <;> first | rfl | (intros; simp_all)
    | lst es =>
      rw [DIs] at he
      obtain ⟨b', ys, e', k1, k2⟩ := he
      cases e'
      obtain ⟨i2, r2, t2, _⟩ := I.list k1
      have l1 := r1.length
      have l2 := r2.length
      have m1 := h2.len
      have m2 := k2.len
      by_cases hz : ds.len = es.len
      · refine RcNeAt.lists t1.isList t2.isList (by simp; first | lia | omega) (by first | lia | omega) (eqItems I h2 k2 r1 r2 (by first | lia | omega) (by first | lia | omega)) _ _ _ _ ⟨.bl _, H, I, ?_, q⟩
        show Value.bool _ = Value.bool _
        simp only [if_true]
        rw [deq, ← deqs_all, List.size_toArray, ← l1, ← m1, hz, Nat.min_self, beq_self_eq_true, Bool.and_true]
      · refine RcNeAt.lists_lengths t1.isList t2.isList (by simp; first | lia | omega) (by first | lia | omega) _ _ _ _ ⟨.bl _, H, I, ?_, q⟩
        show Value.bool _ = Value.bool _
        have e0 : (ds.len == es.len) = false := by simpa using hz
        simp only [if_true]
        rw [deq, ← deqs_all, e0, Bool.and_false]; rfl
end
end L2
namespace L2
open PySem PySem.Spec PyProof.Rows
section
variable {X : Cx} {e st : Expr} {te ts : TE} {pos p2 : Pos}
end
end L2
namespace L2
open PySem PySem.Spec PyProof.Rows
structure MkOk (P : Program) (w : World) (K : PySem.W.Frag) (mg : Str → Option Value) (base : Heap) (k : Nat) (x : Str) (C : Addr) (ps : List Str) (sp : Sp) : Prop where
  ex : ∃ (f : Addr) (fd : FuncData), Mk K C f ∧ FnOk P w K mg base CX0 k f fd ps sp ∧ mg x = some (.ref C) ∧ Binds K fd ps []
section
variable {X : Cx} {k j : Nat} {x m : Str} {C : Addr} {ps : List Str} {sp : Sp} {p pos apos : Pos} {e o : Expr} {es : List Expr} {t : TA} {ta : TE}
theorem pe_mk (D : MkOk X.prog X.w X.K X.mg X.base k x C ps sp) (hr : Room j X.A) (ha : PA X (e :: es) t) (hj : k + 1 ≤ j := by decide) (hg : Gl X x := by rfl) (hdb : (x == ("__debug__" : Str)) = false := by decide)
    (he : starEach (e :: es) X.env = (false, eval e X.env) :: starEach es X.env := by rfl) (hpl : (backTo pos (starEach es X.env)).any (·.1) = false := by rfl) : PE X (.Call (.Name x p) (e :: es) [] pos) (tMake C sp [] E0 t) := by
  obtain ⟨f, fd, M, F, hm, hb⟩ := D.ex
  exact pe_make M F (hr.mono hj) hg hm hb .nil pass0 ha hdb he hpl
end
section
variable {X : Cx} {K : PySem.W.Frag} {pos : Pos}
end
end L2
namespace GB
open PySem L2
/-- the order of rectangles, as one number -/
def key : List Int → Int
  | [a, b, c, d] => ((a * 13 + b) * 13 + c) * 13 + d
  | _ => 0
end GB
namespace L2
open PySem PySem.Spec PyProof.Rows PySem.W PySem.Builtin PySem.Builtin.ObjectAttr
section
variable {prog : Program} {w : World} {A : Around} {E : Value → Shared → Prop} {R : Result → Shared → Prop} {s : Shared} {K : Frag} {x C : Addr} {ox : Obj} {od : Option Obj} {name : Str} {tk : Tok} {v : Value} {expr : Bool}
theorem ga_code (X : K.In s.heap) (I : InstAt s.heap x ox C od) (hp : L2.excIn K C = true)
    (h : wpAny (model prog w) A.in1 (Builtin.«object.__getattribute__» ⟨[.ref x, .str name tk], []⟩)
      (fun fin s' => match fin with | .done f => R (.ok f) s' | .again c' => c'.quiet = true ∧ codeAny (model prog w) A c' R s') (fun e s' => R (.error e) s') s) :
    codeAny (model prog w) A (.call (.builtin "BaseException.__getattribute__") ⟨[.ref x, .str name tk], []⟩) R s := by
  obtain ⟨cd, hc, ho⟩ := any_some hp
  have ne : cd.mro.isEmpty = false := by cases q : cd.mro with | nil => rw [q] at ho; cases ho | cons _ _ => rfl
  have tB : Looks (model prog w) s.heap (isInstance (.ref x) (.type "BaseException")) true := I.type.andThen (looks_mroIn X (by
    unfold mroIn
    rw [hc, Option.bind_some, ne]
    show some (cd.mro.contains (.type "BaseException")) = some true
    rw [exc_has (by decide +kernel) ho]))
  exact codeAny_call_builtin PySem.F.attrBase_ValueError.ga.plain PySem.F.entry_bexc_ga (@check_slot (model prog w) _ _ s "BaseException.__getattribute__" "BaseException" "__getattribute__" (.ref x) [.str name tk] [] _ (by decide +kernel) (by decide +kernel) tB (PySem.F.args_bexc_ga (.ref x) (.str name tk)) h)
theorem ga_by (X : K.In s.heap) (I : InstAt s.heap x ox C od) (hp : L2.excIn K C = true) (hga : findIn K (.ref C) "__getattribute__" = some (some (.builtin "BaseException.__getattribute__"))) (hk : findIn K (.ref C) "__getattr__" = some none) {fill : Bool} {Q : Value → Shared → Prop}
    (h : wpAny (model prog w) A.in1 (Builtin.«object.__getattribute__» ⟨[.ref x, .str name tk], []⟩)
      (fun fin s' => match fin with | .done (.ret v) => wpAny (model prog w) A (handedOut v) Q E s' | _ => False) (fun _ _ => False) s) :
    wpAny (model prog w) A (getAttrBy (.ref x) (.str name tk) fill expr) Q E s := by
  have L0 := I.type (M := model prog w)
  have L1 := looks_findIn (M := model prog w) X hga
  have L2 := looks_findIn (M := model prog w) X hk
  unfold getAttrBy
  refine wpAny_holding (wpAny_bind (L0.here (wpAny_bind (L1.here ?_))))
  show wpAny _ _ (getAttrByItsOwn (.ref x) (.str name tk) (.ref C) (.builtin "BaseException.__getattribute__") fill expr) _ _ _
  unfold getAttrByItsOwn hookBefore callGetattribute boundAndCalled
  refine wpAny_bind (L2.here ?_)
  refine wpAny_bind (wpAny_attempt (wpAny_holding ?_))
  rw [show (expr && onTheHeap (Value.builtin "BaseException.__getattribute__")) = false from by cases expr <;> rfl, if_neg Bool.false_ne_true]
  refine wpAny_bind (wpAny_of_eq (PySem.F.attrBase_ValueError.ga.bind _) ?_)
  refine wpAny_call (ga_code X I hp (wpAny_mono h (fun fin s' z => ?_) fun _ _ z => z.elim))
  rcases fin with (_ | _ | _ | _) | _ <;> first | exact z.elim | exact z
theorem get_exc {Q : Value → Shared → Prop} (X : K.In s.heap) (I : InstAt s.heap x ox C od) (hp : L2.excIn K C = true) (hga : findIn K (.ref C) "__getattribute__" = some (some (.builtin "BaseException.__getattribute__"))) (hk : findIn K (.ref C) "__getattr__" = some none)
    (hf : findObj K C od name = some (.value v)) (hh : handedIn v = true) (h : Q v { s with toks := s.toks + 1 }) : wpAny (model prog w) A (getAttr (.ref x) name expr) Q E s := by
  unfold getAttr
  refine wpAny_bind (wpAny_mkText (ga_by (s := { s with toks := s.toks + 1 }) X I hp hga hk ?_))
  have L0 := I.type (M := model prog w)
  have L1 := looks_find (M := model prog w) X I hf
  refine wpAny_bind (wpAny_of_eq (show slotArgs "__getattribute__" 1 ⟨[.ref x, .str name s.toks], []⟩ = pure (.ref x, [.str name s.toks]) from rfl) ?_)
  refine wpAny_bind (wpAny_pure (wpAny_bind (Looks.here (s := { s with toks := s.toks + 1 }) L0 (wpAny_bind (Looks.here (s := { s with toks := s.toks + 1 }) L1 ?_)))))
  refine wpAny_pure ?_
  show wpAny _ _ (handedOut v) _ _ _
  rw [handedOut_of hh]; exact wpAny_pure h
theorem class_exc {Q : Option Value → Shared → Prop} (X : K.In s.heap) (I : InstAt s.heap x ox C od) (hp : L2.excIn K C = true) (hga : findIn K (.ref C) "__getattribute__" = some (some (.builtin "BaseException.__getattribute__"))) (hk : findIn K (.ref C) "__getattr__" = some none)
    (hf : findObj K C od "__class__" = some (.bind (.builtin "getset_descriptor.__get__") (.builtin "object.__class__"))) (hm : mroIn K C (.type "object") = some true) (h : Q (some (.ref C)) { s with toks := s.toks + 1 }) : wpAny (model prog w) A (getAttr? (.ref x) "__class__") Q E s := by
  unfold getAttr? getAttrBy?
  refine wpAny_bind (wpAny_mkText (wpAny_bind (wpAny_attempt (ga_by (s := { s with toks := s.toks + 1 }) X I hp hga hk ?_))))
  have L0 := I.type (M := model prog w)
  have L1 := looks_find (M := model prog w) X I hf
  refine wpAny_bind (wpAny_of_eq (show slotArgs "__getattribute__" 1 ⟨[.ref x, .str "__class__" s.toks], []⟩ = pure (.ref x, [.str "__class__" s.toks]) from rfl) ?_)
  refine wpAny_bind (wpAny_pure (wpAny_bind (Looks.here (s := { s with toks := s.toks + 1 }) L0 (wpAny_bind (Looks.here (s := { s with toks := s.toks + 1 }) L1 ?_)))))
  show wpAny _ _ (holding [.builtin "object.__class__"] (call (.builtin "getset_descriptor.__get__") [.builtin "object.__class__", .ref x, .ref C]) >>= ret) _ _ _
  refine wpAny_bind (wpAny_holding (wpAny_call (class_get (s := { s with toks := s.toks + 1 }) (ox := ox) (od := od) X I hm ?_)))
  exact wpAny_pure (handed_on rfl (wpAny_pure h))
end
end L2
namespace L2
open PySem PySem.Spec PyProof.Rows PySem.W
def ExcN (C x : Addr) : HO := .ext fun h => ∃ vs sl, h.get? x = some ⟨.ref C, none, .fields vs, sl⟩ ∧ vs[1]? = some Value.none
def ExcO (C dx x : Addr) : HO := .ext fun h => ∃ vs sl, h.get? x = some ⟨.ref C, some dx, .fields vs, sl⟩ ∧ vs[1]? = some Value.none
/-- .. that has been raised -/
def ExcT (C : Addr) (d : Option Addr) (x T : Addr) : HO := .ext fun h => ∃ vs sl, h.get? x = some ⟨.ref C, d, .fields vs, sl⟩ ∧ vs[1]? = some (.ref T)
def ExcD (dx : Addr) (fs : List (Str × V)) : HO := .ext fun h => ∃ mA, h.Ns1 dx mA ∧ (∀ f, RelO (fs.lookup f) (mA f)) ∧ PySem.Within mA (fs.map (·.1))
section
variable {P : Program} {w : World} {H : Hp} {h : Heap} {x C dx : Addr} {fs : List (Str × V)}
theorem excN_ok {vs : Array Value} {sl : Array (Option Value)} (e : h.get? x = some ⟨.ref C, none, .fields vs, sl⟩) (f : vs[1]? = some Value.none) : ObjOk P w H h x (ExcN C x) :=
  ⟨⟨vs, sl, e, f⟩, ⟨_, e⟩, fun _ _ ⟨vs, sl, e, f⟩ k => ⟨vs, sl, k _ e, f⟩⟩
theorem excO_ok {vs : Array Value} {sl : Array (Option Value)} (e : h.get? x = some ⟨.ref C, some dx, .fields vs, sl⟩) (f : vs[1]? = some Value.none) : ObjOk P w H h x (ExcO C dx x) :=
  ⟨⟨vs, sl, e, f⟩, ⟨_, e⟩, fun _ _ ⟨vs, sl, e, f⟩ k => ⟨vs, sl, k _ e, f⟩⟩
theorem excT_ok {d : Option Addr} {T : Addr} {vs : Array Value} {sl : Array (Option Value)} (e : h.get? x = some ⟨.ref C, d, .fields vs, sl⟩) (f : vs[1]? = some (.ref T)) : ObjOk P w H h x (ExcT C d x T) :=
  ⟨⟨vs, sl, e, f⟩, ⟨_, e⟩, fun _ _ ⟨vs, sl, e, f⟩ k => ⟨vs, sl, k _ e, f⟩⟩
theorem excD_ok {mA : Str → Option Value} (n : h.Ns1 dx mA) (r : ∀ f, RelO (fs.lookup f) (mA f)) (wi : PySem.Within mA (fs.map (·.1))) : ObjOk P w H h dx (ExcD dx fs) :=
  ⟨⟨mA, n, r, wi⟩, let ⟨o, _, _, e, _⟩ := n; ⟨o, e⟩, fun _ _ ⟨mA, n, r, wi⟩ k => ⟨mA, n.at k, r, wi⟩⟩
end
/-- what is asked of a refusal's class -/
structure XCls (K : Frag) (C : Addr) : Prop where
  ga : findIn K (.ref C) "__getattribute__" = some (some (.builtin "BaseException.__getattribute__"))
  gh : findIn K (.ref C) "__getattr__" = some none
  hd : hasDictIn K C = true
  sa : findIn K (.ref C) "__setattr__" = some (some (.builtin "object.__setattr__"))
  ex : L2.excIn K C = true
  ca : findIn K (.ref C) "__class__" = some (some (.builtin "object.__class__"))
  gn : specialIn K (.builtin "object.__class__") "__get__" = some (some (.builtin "getset_descriptor.__get__"))
  tk : takesIn K (.builtin "object.__class__") = some true
  mo : mroIn K C (.type "object") = some true
def xclsB (K : Frag) (C : Addr) : Bool := (findIn K (.ref C) "__getattribute__" == some (some (.builtin "BaseException.__getattribute__"))) && (findIn K (.ref C) "__getattr__" == some none) && hasDictIn K C && (findIn K (.ref C) "__setattr__" == some (some (.builtin "object.__setattr__"))) && L2.excIn K C &&
  (findIn K (.ref C) "__class__" == some (some (.builtin "object.__class__"))) && (specialIn K (.builtin "object.__class__") "__get__" == some (some (.builtin "getset_descriptor.__get__"))) &&
  (takesIn K (.builtin "object.__class__") == some true) && (mroIn K C (.type "object") == some true)
theorem XCls.of {K : Frag} {C : Addr} (h : xclsB K C = true) : XCls K C := by
  unfold xclsB at h
  simp only [Bool.and_eq_true, beq_iff_eq] at h
  obtain ⟨⟨⟨⟨⟨⟨⟨⟨a, a'⟩, b⟩, c⟩, d⟩, e⟩, f⟩, g⟩, i⟩ := h
  exact ⟨a, a', b, c, d, e, f, g, i⟩
section
variable {X : Cx} {pins : List (Addr × Obj)} {σ : St} {H : Hp} {s : Shared} {a C dx : Addr} {fs : List (Str × V)} {f : Str} {v : V} {A : Around} {E : Value → Shared → Prop}
theorem ext_ne_own {φ : Heap → Prop} {b c : Addr} (h : H b = some (.ext φ)) : H b ≠ some (.own c) := fun e => by rw [h] at e; cases e
theorem setexc0_ok {y : V} {u : Value} {Q : Unit → Shared → Prop} (I : Inv X pins σ H s) (e : H a = some (ExcN C a)) (c : XCls X.K C) (n : NoAttr X.K C f) (ry : RelV y u)
    (h : ∀ s' d, H d = none → Inv X pins σ (upd (upd H d (ExcD d [(f, y)])) a (ExcO C d a)) s' → Q () s') : wpAny (model X.prog X.w) A (setAttr (.ref a) f u) Q E s := by
  obtain ⟨⟨vs, sl, hx, hv1⟩, _⟩ := (show ObjOk X.prog X.w H s.heap a (ExcN C a) from I.hok a _ e)
  refine set_exc0 I.kIn hx c.sa c.ex c.hd n fun h' h1 h2 k => ?_
  have hn : H s.heap.objs.size = none := I.hok.fresh (Nat.le_refl _)
  have nea : s.heap.objs.size ≠ a := Ne.symm (ne_of_none e hn)
  refine h _ s.heap.objs.size hn ?_
  have e' : ∀ b o, H b = some o → b ≠ s.heap.objs.size := fun b o q => ne_of_none q hn
  have lt : ∀ b o, s.heap.get? b = some o → b ≠ s.heap.objs.size := fun b o q => Nat.ne_of_lt (Heap.lt_size q)
  have na : ∀ b o, H b = some o → (∀ φ, o ≠ .ext φ) → b ≠ a := fun b o q z t => by subst t; rw [e] at q; cases q; exact z _ rfl
  refine I.un (h' := h') (t' := s.toks + 2) ⟨fun b o q m _ _ => k b o (fun z => by rw [z, e] at m; cases m) q, fun b o q m _ _ => ⟨o.slots, k b o (fun z => by rw [z, e] at m; cases m) q⟩,
    fun b o q m _ => by rw [upd_ne (fun z => by rw [z, e] at m; cases m), upd_ne (lt b o q)]; exact m, fun b o q _ => ?_, fun b xs q => by rw [upd_ne (na b _ q (fun φ z => by cases z)), upd_ne (e' b _ q)]; exact q,
    fun b o u q => by rw [upd_ne (na b _ q (fun φ z => by cases z)), upd_ne (e' b _ q)]; exact q, fun b ps q => ⟨#[], by rw [upd_ne (na b _ q (fun φ z => by cases z)), upd_ne (e' b _ q), q]; simp⟩⟩ fun b o q => ?_
  · by_cases hb : b = a
    · subst hb; exact ⟨_, h1⟩
    · exact ⟨o, k b o hb q⟩
  · by_cases hb : b = a
    · subst hb; rw [upd_same] at q; cases q; exact excO_ok h1 hv1
    · rw [upd_ne hb] at q
      by_cases hd : b = s.heap.objs.size
      · subst hd; rw [upd_same] at q; cases q
        refine excD_ok h2 (fun g => ?_) fun g hg => ?_
        · show RelO (List.lookup g [(f, y)]) (if g = f then some u else none)
          by_cases q : g = f
          · have hb : (g == f) = true := beq_iff_eq.mpr q
            rw [if_pos q]; simp only [List.lookup, hb]; exact ry
          · have hb : (g == f) = false := beq_eq_false_iff_ne.mpr q
            rw [if_neg q]; simp only [List.lookup, hb]; exact True.intro
        · by_cases q : g = f
          · rw [q]; simp
          · exact absurd (if_neg q) hg
      · rw [upd_ne hd] at q
        refine (I.hok b o q).stay (fun cc w' hc z => k cc w' ?_ z) (fun cc z => ?_) fun cc xs z => ?_
        · rcases hc with rfl | hc
          · exact hb
          · exact fun t => ext_ne_own e (t ▸ hc)
        · rw [upd_ne (fun t => ext_ne_own e (t ▸ z)), upd_ne (e' cc _ z)]; exact z
        · rw [upd_ne (na cc _ z (fun φ t => by cases t)), upd_ne (e' cc _ z)]; exact z
theorem setexc_ok {y : V} {u : Value} {Q : Unit → Shared → Prop} (I : Inv X pins σ H s) (e : H a = some (ExcO C dx a)) (ed : H dx = some (ExcD dx fs)) (c : XCls X.K C) (n : NoAttr X.K C f) (hl : fs.length < 1000) (ry : RelV y u)
    (h : ∀ s', Inv X pins σ (upd H dx (ExcD dx (putF f y fs))) s' → Q () s') : wpAny (model X.prog X.w) A (setAttr (.ref a) f u) Q E s := by
  obtain ⟨⟨vs, sl, hx, _⟩, _⟩ := (show ObjOk X.prog X.w H s.heap a (ExcO C dx a) from I.hok a _ e)
  obtain ⟨⟨mA, hn, r, wi⟩, _⟩ := (show ObjOk X.prog X.w H s.heap dx (ExcD dx fs) from I.hok dx _ ed)
  have hne : dx ≠ a := fun z => by
    subst z
    obtain ⟨o, es, ep, ho, hd, _⟩ := hn
    rw [hx] at ho
    cases ho
    cases hd
  have hz : (fs.map (·.1)).length ≤ sizeLine := by rw [List.length_map, sizeLine_eq]; first | lia | omega
  refine set_exc I.kIn hx hn hne c.sa c.ex c.hd n wi hz fun h' h1 h2 sb => h _ ?_
  have hd : ∃ o, h'.get? dx = some o := let ⟨o, _, _, e', _⟩ := h2; ⟨o, e'⟩
  refine I.write (x := dx) (e := dx) (t' := s.toks + 2) (by rw [ed]; exact True.intro) (.inl rfl) (fun b q hb z => (sb.2 b hb).trans z) hd (excD_ok h2 (fun g => ?_) fun g hg => ?_)
  · show RelO ((putF f y fs).lookup g) (if g = f then some u else mA g)
    rw [lookup_putF]
    by_cases q : g = f
    · rw [if_pos q, if_pos q]; exact ry
    · rw [if_neg q, if_neg q]; exact r g
  · by_cases q : g = f
    · rw [q]; exact (keys_putF f y fs).1
    · refine (keys_putF f y fs).2 g (wi g fun z => hg ?_)
      show (if g = f then some u else mA g) = none
      rw [if_neg q]; exact z
/-- a refusal with its attributes' dict at dx: new, or raised -/
def XAt (H : Hp) (C dx a : Addr) : Prop := H a = some (ExcO C dx a) ∨ ∃ T, H a = some (ExcT C (some dx) a T)
theorem XAt.obj (I : Inv X pins σ H s) (h : XAt H C dx a) : ∃ vs sl, s.heap.get? a = some ⟨.ref C, some dx, .fields vs, sl⟩ := by
  rcases h with h | ⟨T, h⟩
  · obtain ⟨⟨vs, sl, hx, _⟩, _⟩ := (show ObjOk X.prog X.w H s.heap a (ExcO C dx a) from I.hok a _ h)
    exact ⟨vs, sl, hx⟩
  · obtain ⟨⟨vs, sl, hx, _⟩, _⟩ := (show ObjOk X.prog X.w H s.heap a (ExcT C (some dx) a T) from I.hok a _ h)
    exact ⟨vs, sl, hx⟩
theorem getexc_ok {b : Bool} {Q : Value → Shared → Prop} (I : Inv X pins σ H s) (e : XAt H C dx a) (ed : H dx = some (ExcD dx fs)) (c : XCls X.K C) (n : NoAttr X.K C f) (l : fs.lookup f = some v)
    (h : ∀ u s', Inv X pins σ H s' → RelV v u → Q u s') : wpAny (model X.prog X.w) A (getAttr (.ref a) f b) Q E s := by
  obtain ⟨vs, sl, hx⟩ := e.obj I
  obtain ⟨⟨mA, hn, r, wi⟩, _⟩ := (show ObjOk X.prog X.w H s.heap dx (ExcD dx fs) from I.hok dx _ ed)
  obtain ⟨u, hu, ru⟩ := RelO.some_of (v := v) (o := mA f) (by rw [← l]; exact r f)
  obtain ⟨od, ho, hl⟩ := lookIn_ns hn
  have J : InstAt s.heap a ⟨.ref C, some dx, .fields vs, sl⟩ C (some od) := ⟨hx, rfl, rfl, ho⟩
  exact get_exc I.kIn J c.ex c.ga c.gh (findObj_own c.hd n rfl (by rw [hl, hu])) (handed_of ru) (h u _ (I.tok _) ru)
end
theorem kitx_exc {K : Frag} {x D : Addr} (c : XCls K D) : KitX K (.ref x) (.ref D) (fun h => ∃ (ox : Obj) (od : Option Obj), InstAt h x ox D od) where
  ty := fun _ _ _ ⟨_, _, I⟩ => I.type
  it := fun _ _ X _ => by
    obtain ⟨cdD, hcD, _⟩ := any_some c.hd
    unfold clsIn at hcD
    split at hcD
    · rename_i c' d' cd' sl' ho
      intro A' Q' E' s' k q
      unfold isType loadHead
      exact wpAny_bind (wpAny_loadPart (k _ _ (X _ _ ho)) (wpAny_pure q))
    · cases hcD
  ne := fun h tp dd its n sl X htp => by
    obtain ⟨cdD, hcD, _⟩ := any_some c.hd
    refine Bool.eq_false_iff.mpr fun q => ?_
    have e : D = tp := Value.ref.inj (beq_iff_eq.mp q)
    subst e
    unfold clsIn at hcD
    split at hcD
    · rename_i c' d' cd' sl' ho
      have z := (X _ _ ho).symm.trans htp
      cases z
    · cases hcD
  ca := fun {prog w A E Q s} X ⟨ox, od, I⟩ h => by
    have hf : findObj K D od "__class__" = some (.bind (.builtin "getset_descriptor.__get__") (.builtin "object.__class__")) := by
      obtain ⟨cd, hc, _⟩ := any_some c.hd
      unfold findObj
      rw [hc, Option.bind_some, c.ca, Option.bind_some]
      simp [c.gn, c.tk]
    exact class_exc X I c.ex c.ga c.gh hf c.mo h
/-- a refusal stands at a, of the class at C -/
def IsExc (H : Hp) (a C : Addr) : Prop := (∃ dx fs, XAt H C dx a ∧ H dx = some (ExcD dx fs)) ∨ H a = some (ExcN C a) ∨ ∃ T, H a = some (ExcT C none a T)
section
variable {X : Cx}
theorem isexc_inst {pins : List (Addr × Obj)} {σ : St} {H : Hp} {s : Shared} {a C : Addr} (I : Inv X pins σ H s) (h : IsExc H a C) : ∃ (ox : Obj) (od : Option Obj), InstAt s.heap a ox C od := by
  rcases h with ⟨dx, fs, h1, h2⟩ | h | ⟨T, h⟩
  · obtain ⟨vs, sl, hx⟩ := h1.obj I
    obtain ⟨⟨mA, hn, _⟩, _⟩ := (show ObjOk X.prog X.w H s.heap dx (ExcD dx fs) from I.hok dx _ h2)
    obtain ⟨o, _, _, ho, _⟩ := hn
    exact ⟨_, some o, ⟨hx, rfl, rfl, ho⟩⟩
  · obtain ⟨⟨vs, sl, hx, _⟩, _⟩ := (show ObjOk X.prog X.w H s.heap a (ExcN C a) from I.hok a _ h)
    exact ⟨_, none, ⟨hx, rfl, rfl, trivial⟩⟩
  · obtain ⟨⟨vs, sl, hx, _⟩, _⟩ := (show ObjOk X.prog X.w H s.heap a (ExcT C none a T) from I.hok a _ h)
    exact ⟨_, none, ⟨hx, rfl, rfl, trivial⟩⟩
/-- isinstance(e, C) of a refusal, C an own class or a built-in one -/
theorem call_isinX : CallR X (.builtin "isinstance") (fun xs H Q => ∃ a C c u b, xs = [.ref a, c] ∧ IsExc H a C ∧ XCls X.K C ∧ RelV c u ∧ (∀ u', RelV c u' → u' = u) ∧ kitOne X.K (.ref C) u = some b ∧ Q (.bl b) H) := by
  intro pins s σ H xs us Q I r h
  obtain ⟨a, C, c, u, b, rfl, he, hc, ru, uq, hk, q⟩ := h
  obtain ⟨v1, v2, rfl, r1, r2⟩ := vals2 r
  cases r1
  have := uq v2 r2
  subst this
  exact kia_one (kitx_exc hc) I.kIn (isexc_inst I he) hk (fun z => nomatch z) fun tk => ⟨.bl b, H, I.tok tk, rfl, q⟩
end
def tXFld (K : Frag) (ta : TE) (f : Str) : TE := fun σ H Q => ta σ H fun x H1 => ∃ a C dx fs v, x = .ref a ∧ XAt H1 C dx a ∧ H1 dx = some (ExcD dx fs) ∧ XCls K C ∧ NoAttr K C f ∧ fs.lookup f = some v ∧ Q v H1
def sXFld (K : Frag) (ta tv : TE) (f : Str) : TS := fun D σ H => tv σ H fun y H1 => ta σ H1 fun x H2 => ∃ a C, x = .ref a ∧ XCls K C ∧ NoAttr K C f ∧
  ((H2 a = some (ExcN C a) ∧ ∀ d, H2 d = none → D.nx σ (upd (upd H2 d (ExcD d [(f, y)])) a (ExcO C d a))) ∨ ∃ dx fs, H2 a = some (ExcO C dx a) ∧ H2 dx = some (ExcD dx fs) ∧ fs.length < 1000 ∧ D.nx σ (upd H2 dx (ExcD dx (putF f y fs))))
section
variable {X : Cx} {o e value : Expr} {f : Str} {pos pos' : Pos} {ta tv : TE}
theorem pe_xfld (he : PE X e ta) (hb : attributeBase e f X.env (eval e X.env) = eval e X.env) : PE X (.Attribute e f pos) (tXFld X.K ta f) := by
  intro pins s σ H Q I h
  refine attr_of hb (thn (he pins s σ H _ I h) fun u s1 ⟨x, H1, I1, rx, a, C, dx, fs, v, ex, ea, ed, c, n, l, q⟩ => ?_)
  subst ex
  obtain rfl : u = Value.ref a := rx
  exact getexc_ok I1 ea ed c n l fun u' s2 I2 ru => ⟨v, H1, I2, ru, q⟩
theorem ps_xfld (ha : PE X o ta) (hv : PE X value tv) (hs : swapsWith value (some (.Attribute o f pos')) pos.line X.env = pure false) : PS X (.Assign [.Attribute o f pos'] value pos) (sXFld X.K ta tv f) := by
  intro pins s σ H D I h
  refine plainObj_wpAny_Assign_Attribute (thn (hv pins s σ H _ I h) fun u s1 ⟨y, H1, I1, ry, q⟩ => thn (ha pins s1 σ H1 _ I1 q) fun ov s2 ⟨x, H2, I2, rx, a, C, ex, c, n, q2⟩ => ?_) hs
  subst ex
  obtain rfl : ov = Value.ref a := rx
  rcases q2 with ⟨e0, q2⟩ | ⟨dx, fs, e1, e2, l, q2⟩
  · exact setexc0_ok I2 e0 c n ry fun s3 d hd I3 => ⟨σ, _, I3, q2 d hd⟩
  · exact setexc_ok I2 e1 e2 c n l ry fun s3 I3 => ⟨σ, _, I3, q2⟩
end
/-- its class, as the top has left it, with an __init__ of its own at fI -/
def excInI (K : Frag) (C : Addr) (fI : Addr) : Bool := match K.lookup C with
  | some ⟨.type "type", _, .cls cd, sl⟩ => (match cd.mro, sl.toList with
    | .ref C' :: bm, [_, _, _, _, some (.builtin n), _] => C' == C && n == "ValueError.__new__" && !cd.hasDel && tailIn K vErr bm && nsOkIn K cd.ns && nsIn K cd.ns "__init__" == some (some (.ref fI))
    | _, _ => false)
  | _ => false
theorem ns_some_of {K : Frag} {h : Heap} {N : Addr} {mg : Str → Option Value} {n : Str} {v : Value} (X : K.In h) (G : h.Ns N mg) (e : nsIn K N n = some (some v)) : mg n = some v := by
  obtain ⟨o, es, ep, ho, hd, _, hf⟩ := G
  unfold nsIn at e
  split at e
  · rename_i c d es' n' sl q
    have := X _ _ q
    rw [ho] at this
    cases this
    cases hd
    split at e
    · rename_i e' he
      cases e
      rw [← hf]
      unfold nsFind findBy
      rw [← Array.find?_toList, he]
      rfl
    · split at e <;> cases e
  · cases e
/-- what is asked of a class to be made by an __init__ of its own -/
structure XMk (K : Frag) (C fI : Addr) : Prop where
  cl : XCls K C
  ei : excInI K C fI = true
  kp : keepIn K (.ref C) = true
  fn : isFn K (.ref fI) = true
theorem XMk.call {K : Frag} {C fI : Addr} (M : XMk K C fI) {prog : Program} {w : World} {A : Around} {E : Value → Shared → Prop} {s : Shared} {rest : List Value} {Q : Value → Shared → Prop} (X : K.In s.heap) (hrest : rest.length ≤ sizeLine)
    (hq : wpAny (model prog w) (A.under (.builtin "type.__call__" ⟨.ref C :: rest, []⟩)) (call (.ref fI) (.ref (s.heap.objs.size + 1) :: rest)) (fun r s' => r = .none ∧ Q (.ref (s.heap.objs.size + 1)) s') E { s with heap := rawExc s.heap C rest }) :
    wpAny (model prog w) A (call (.ref C) rest) Q E s := by
  obtain ⟨hh, g, d, t, os⟩ := s
  have q := M.ei
  have fnt : typeIn K (.ref fI) = some (.type "function") := beq_iff_eq.mp M.fn
  have hfI : ∃ oI : Obj, hh.get? fI = some oI ∧ oI.cls = .type "function" := by
    cases z : K.lookup fI with
    | none => simp [typeIn, z] at fnt
    | some o => exact ⟨o, X _ _ z, by simpa [typeIn, z] using fnt⟩
  obtain ⟨oI, hoI, hcI⟩ := hfI
  unfold excInI at q
  split at q
  · rename_i dd cd sl ho
    split at q
    · rename_i C' bm k0 k1 k2 k3 n k5 hm hs
      simp only [Bool.and_eq_true, beq_iff_eq, Bool.not_eq_true'] at q
      obtain ⟨⟨⟨⟨⟨rfl, rfl⟩, hdel⟩, ht⟩, hok⟩, hni⟩ := q
      obtain ⟨nm, bs, mro, ns, qn, hd, sn, sub, ab, col, del⟩ := cd
      dsimp only at hm hdel hok hni
      subst hm hdel
      have hsl : sl = #[k0, k1, k2, k3, some (.builtin "ValueError.__new__"), k5] := by
        obtain ⟨l⟩ := sl
        simp only at hs
        rw [hs]
      subst hsl
      have G : hh.Ns ns (hh.nsMap ns) := .of_isNs (isNs_of_in X hok)
      exact call_excT PySem.F.excBase_ValueError (tail_of_in X ht) (X _ _ ho) G (ns_some_of X G hni) hoI hcI hrest hq
    · cases q
  · cases q
end L2
namespace L2
open PySem PySem.Spec PyProof.Rows PySem.W
theorem ObjOk.there {P : Program} {w : World} {H : Hp} {h : Heap} {a : Addr} {o : HO} (x : ObjOk P w H h a o) : ∃ u, h.get? a = some u := by
  cases o with
  | lst xs => obtain ⟨_, _, _, _, e⟩ := x; exact ⟨_, e⟩
  | tup xs => obtain ⟨_, _, _, p⟩ := x; obtain ⟨_, e, _⟩ := p; exact ⟨_, e⟩
  | dK kvs => obtain ⟨_, _, _, _, o, _, _, e, _⟩ := x; exact ⟨_, e⟩
  | dT kvs => obtain ⟨_, _, _, _, o, _, _, e, _⟩ := x; exact ⟨_, e⟩
  | set S n => obtain ⟨o, _, _, _, e, _⟩ := x; exact ⟨_, e⟩
  | ins C dx fs => obtain ⟨_, _, _, e, _⟩ := x; exact ⟨_, e⟩
  | own y => obtain ⟨_, e⟩ := x; exact ⟨_, e⟩
  | xd fs => obtain ⟨_, ⟨_, _, _, e, _⟩, _⟩ := x; exact ⟨_, e⟩
  | rng lo hi => obtain ⟨_, _, _, e⟩ := x; exact ⟨_, e⟩
  | frz ob u => obtain ⟨e, _⟩ := x; exact ⟨_, e⟩
  | tbl ps => exact ⟨_, (show h.get? a = some _ from x)⟩
  | met f y => exact ⟨_, (show h.get? a = some _ from x)⟩
  | ext φ => obtain ⟨_, ⟨_, e⟩, _⟩ := x; exact ⟨_, e⟩
/-- the promise of its __init__ -/
def sp_x (C : Addr) (names : List Str) : Sp := fun vs H Q _ => ∃ x ws, vs = .ref x :: ws ∧ ws.length = names.length ∧ H x = some (ExcN C x) ∧
  ∀ d H', H d = none → H' x = some (ExcO C d x) → H' d = some (ExcD d (names.zip ws)) → (∀ a o, a ≠ x → H a = some o → H' a = some o) → Q .non H'
structure XMkOk (P : Program) (w : World) (K : PySem.W.Frag) (mg : Str → Option Value) (base : Heap) (k : Nat) (x : Str) (C : Addr) (ps names : List Str) : Prop where
  few : names.length ≤ 1000
  ex : ∃ (f : Addr) (fd : FuncData), XMk K C f ∧ FnOk P w K mg base CX0 k f fd ps (sp_x C names) ∧ mg x = some (.ref C) ∧ Binds K fd ps []
section
variable {X : Cx} {CX : CXT} {k j : Nat} {f C : Addr} {fd : FuncData} {ps names : List Str} {sp : Sp} {E : XK} {x m : Str} {p pos apos : Pos} {e o : Expr} {es : List Expr} {ta : TE} {t : TA}
theorem run_xmk {pins : List (Addr × Obj)} {σ : St} {H : Hp} {s : Shared} {Q : VK} {us : List Value} {vs : List V} (M : XMk X.K C f) (F : FnOk X.prog X.w X.K X.mg X.base CX k f fd ps sp) (hr : Room (k + 1) X.A) (hb : Binds X.K fd ps [])
    (hx : Passes CX X E) (I : Inv X pins σ H s) (r : Vals vs us) (hz : vs.length ≤ 1000)
    (h : ∀ x, H x = none → sp (.ref x :: vs) (upd H x (ExcN C x)) (fun v H2 => v = .non ∧ Q (.ref x) H2) E) :
    wpAny (model X.prog X.w) X.A (call (.ref C) us) (EP X pins σ Q) X.xe s := by
  have hq := h (s.heap.objs.size + 1) (I.hok.fresh (Nat.le_succ _))
  have hus : us.length ≤ sizeLine := by rw [← r.length, sizeLine_eq]; first | lia | omega
  have I2 : Inv X pins σ (upd H (s.heap.objs.size + 1) (ExcN C (s.heap.objs.size + 1))) { s with heap := rawExc s.heap C us } :=
    I.laid (t' := s.toks) (fun b u z => rawExc_keep z) (Nat.le_succ _) (excN_ok (rawExc_at C us) rfl)
  have r2 : Vals (V.ref (s.heap.objs.size + 1) :: vs) (Value.ref (s.heap.objs.size + 1) :: us) := .cons rfl r
  have hl : (Value.ref (s.heap.objs.size + 1) :: us ++ []).length = ps.length := by
    have e := r2.length
    rw [F.len _ _ _ _ hq] at e
    rw [List.append_nil]
    exact e.symm
  have hb2 := hb { s with heap := rawExc s.heap C us } (Value.ref (s.heap.objs.size + 1) :: us) I2.kIn hl
  rw [List.append_nil] at hb2
  refine M.call I.kIn hus (wpAny_call (codeAny_mono (F.run _ X.stack _ _ ⟨Value.ref (s.heap.objs.size + 1) :: us, []⟩ (Value.ref (s.heap.objs.size + 1) :: us) _ _ E (hr.make C us [])
    (I2.env0.make C us []) hb2 r2 hq) fun r s' hq' => ?_))
  cases r with
  | error e => exact hx pins σ _ _ e s' I2 hq'
  | ok fl =>
    cases fl with
    | ret u =>
      obtain ⟨v, H', I3, rv, ev, q3⟩ := I2.after hq'
      subst ev
      exact ⟨rv, ⟨V.ref (s.heap.objs.size + 1), H', I3, rfl, q3⟩⟩
    | next => exact False.elim hq'
    | brk => exact False.elim hq'
    | cont => exact False.elim hq'
end
end L2
namespace L2
open PySem PySem.Spec PyProof.Rows PySem.W
/-- what noting the frame leaves: a new traceback at T, the exception's field, the frames' slots; the older traceback at those of tt may have changed -/
structure NoteTo (fr tt : List Addr) (e T : Addr) (fl cls : Value) (d : Option Addr) (h h' : Heap) : Prop where
  nT : h.get? T = none
  keep : ∀ b o, b ≠ e → b ∉ fr → b ∉ tt → h.get? b = some o → h'.get? b = some o
  slot : ∀ b o, b ∈ fr → h.get? b = some o → ∃ sl, h'.get? b = some { o with slots := sl }
  exc : ∃ vs sl, h'.get? e = some ⟨cls, d, .fields vs, sl⟩ ∧ vs[1]? = some (.ref T)
  tb : ∃ o ts, h'.get? T = some o ∧ o.data = .fields ts ∧ ts[3]? = some fl
  old : ∀ t o ts, t ∈ tt → t ≠ e → h.get? t = some o → o.data = .fields ts → 3 < ts.size → ∃ o' ts', h'.get? t = some o' ∧ o'.data = .fields ts' ∧ ts'[3]? = some Value.none
section
variable {M : Model} {A : Around} {E : Value → Shared → Prop} {s : Shared} {base : Heap} {env : Env} {outer : List Env} {L e : Addr} {cls : Value} {d : Option Addr} {vs : Array Value} {sl : Array (Option Value)} {Q : Unit → Shared → Prop}
theorem note_entry {head : Value} {hadNext : Bool} (hfr : A.frames = some (env :: outer)) (hl : s.heap.FunFrames base (env :: outer)) (hf : env.frame = some L) (he : s.heap.get? e = some ⟨cls, d, .fields vs, sl⟩) (hsz : 1 < vs.size)
    (h : ∀ h' T, NoteTo (frs (env :: outer)) [] e T (rawInt L) cls d s.heap h' → Q () { s with heap := h' }) :
    wpAny M A (do
      let a ← frameOf env
      let pl ← entryPlaceOf L hadNext
      let b ← EntryCells.newEntry head a .none (rawInt L) .none pl
      setField (.ref e) 1 b) Q E s := by
  have hne : e ∉ frs (env :: outer) := fun hm => by
    obtain ⟨_, o, ho, hnf⟩ := hl.mem hm
    rw [he] at ho; cases ho; exact hnf vs rfl
  refine wpAny_bind (wpAny_frameOf_fun hfr hl hf fun h₁ hs => wpAny_bind (wpAny_entryPlaceOf fun pl hpl => ?_))
  unfold EntryCells.newEntry newFields
  refine wpAny_bind (wpAny_newObj_type ?_ (hpl.sizeOk5 _ _ _ _ _))
  have e1 : h₁.get? e = some ⟨cls, d, .fields vs, sl⟩ := (hs.2.1 e hne).trans he
  generalize hob : ({ cls := .type "traceback", dict := none, data := .fields ([head, .ref L, .none, rawInt L, .none] ++ (if pl.isEmpty then List.replicate 6 Value.none else pl)).toArray } : Obj) = ob
  have hfb : ob.isFreed = false := by rw [← hob]; rfl
  have e2 := Heap.get?_push_of_some (h := h₁) ob e1
  refine wpAny_setField e2 rfl hsz (h _ h₁.objs.size ?_)
  have nTe : h₁.objs.size ≠ e := Nat.ne_of_gt (Heap.lt_size e1)
  have kp : ∀ b o, b ≠ e → h₁.get? b = some o → ((h₁.push ob).update e (Obj.mapFields (·.setIfInBounds 1 (Value.ref h₁.objs.size)))).get? b = some o := fun b o nb hb => by
    rw [Heap.get?_update_other _ _ (Ne.symm nb)]; exact Heap.get?_push_of_some _ hb
  refine ⟨Heap.get?_none_of_le (Nat.le_of_eq hs.1.symm), fun b o nb nf _ hb => kp b o nb ((hs.2.1 b nf).trans hb), fun b o bf hb => ?_, ⟨vs.setIfInBounds 1 (.ref h₁.objs.size), sl, ?_, by simp [hsz]⟩, ⟨ob, ([head, .ref L, .none, rawInt L, .none] ++ (if pl.isEmpty then List.replicate 6 Value.none else pl)).toArray, ?_, by rw [← hob], ?_⟩, fun _ _ _ z => nomatch z⟩
  · obtain ⟨sl', z⟩ := hs.2.2 b o hb
    exact ⟨sl', kp b _ (fun q => hne (q ▸ bf)) z⟩
  · exact Heap.get?_update_self _ e2 rfl
  · rw [Heap.get?_update_other _ _ (Ne.symm nTe)]; exact Heap.get?_push_size _ hfb
  · simp
theorem note_new (hfr : A.frames = some (env :: outer)) (hl : s.heap.FunFrames base (env :: outer)) (hf : env.frame = some L) (he : s.heap.get? e = some ⟨cls, d, .fields vs, sl⟩) (h1 : vs[1]? = some Value.none)
    (h : ∀ h' T, NoteTo (frs (env :: outer)) [] e T (rawInt L) cls d s.heap h' → Q () { s with heap := h' }) : wpAny M A (noteFrame (.ref e) env) Q E s := by
  unfold noteFrame
  simp only [hf]
  refine wpAny_bind (wpAny_field he rfl h1 ?_)
  rw [if_neg (by decide)]
  exact note_entry hfr hl hf he (Array.getElem?_eq_some_iff.mp h1).1 h
theorem note_next {T1 : Addr} {oT : Obj} {ts : Array Value} (hfr : A.frames = some (env :: outer)) (hl : s.heap.FunFrames base (env :: outer)) (hf : env.frame = some L) (he : s.heap.get? e = some ⟨cls, d, .fields vs, sl⟩) (h1 : vs[1]? = some (.ref T1))
    (hT : s.heap.get? T1 = some oT) (hd : oT.data = .fields ts) (h3 : ts[3]? = some Value.none) (ne : T1 ≠ e)
    (h : ∀ h' T, NoteTo (frs (env :: outer)) [T1] e T (rawInt L) cls d s.heap h' → Q () { s with heap := h' }) : wpAny M A (noteFrame (.ref e) env) Q E s := by
  unfold noteFrame
  simp only [hf]
  refine wpAny_bind (wpAny_field he rfl h1 ?_)
  rw [if_pos (show (Value.ref T1 != Value.none) = true from by simp)]
  refine wpAny_bind (wpAny_field hT hd h3 ?_)
  rw [if_neg (show ¬ ((Value.none == rawInt L) = true) from by simp [rawInt])]
  have hs3 : 3 < ts.size := (Array.getElem?_eq_some_iff.mp h3).1
  refine wpAny_bind (wpAny_setField hT hd hs3 ?_)
  have oth : ∀ b, b ≠ T1 → (s.heap.update T1 (Obj.mapFields (·.setIfInBounds 3 Value.none))).get? b = s.heap.get? b := fun b hb => Heap.get?_update_other _ _ (Ne.symm hb)
  have nT1 : T1 ∉ frs (env :: outer) := fun hm => by
    obtain ⟨_, o, ho, hnf⟩ := hl.mem hm
    rw [hT] at ho; cases ho; exact hnf ts hd
  have self : (s.heap.update T1 (Obj.mapFields (·.setIfInBounds 3 Value.none))).get? T1 = some (Obj.mapFields (·.setIfInBounds 3 Value.none) oT) := Heap.get?_update_self _ hT (Obj.isFreed_of_fields (Obj.data_mapFields hd _))
  refine note_entry (s := { s with heap := s.heap.update T1 (Obj.mapFields (·.setIfInBounds 3 Value.none)) }) hfr (hl.of_keeps fun b o hb hnf => ⟨o, (oth b fun q => ?_).trans hb, rfl⟩) hf ((oth e (Ne.symm ne)).trans he) (Array.getElem?_eq_some_iff.mp h1).1 fun h' T n => h h' T ?_
  · rw [q, hT] at hb; cases hb; exact hnf ts hd
  · have nT' : s.heap.get? T = none := by
      by_cases q : T = T1
      · have := n.nT; rw [q] at this; rw [self] at this; cases this
      · rw [← oth T q]; exact n.nT
    refine ⟨nT', fun b o nb nf nt hb => n.keep b o nb nf (by simp) ((oth b (by simpa using nt)).trans hb), fun b o bf hb => n.slot b o bf ((oth b fun q => nT1 (q ▸ bf)).trans hb), n.exc, n.tb, fun t o us ht hte hb hdo hsz => ?_⟩
    obtain rfl : t = T1 := by simpa using ht
    rw [hT] at hb; cases hb
    rw [hd] at hdo; cases hdo
    exact ⟨_, _, n.keep t _ hte nT1 (by simp) self, Obj.data_mapFields hd _, by simp [hs3]⟩
/-- the mark of flight is taken off -/
theorem flight_off {T : Addr} {oT : Obj} {ts : Array Value} (he : s.heap.get? e = some ⟨cls, d, .fields vs, sl⟩) (h1 : vs[1]? = some (.ref T)) (hT : s.heap.get? T = some oT) (hd : oT.data = .fields ts) (hs3 : 3 < ts.size)
    (h : ∀ h', (∀ b, b ≠ T → h'.get? b = s.heap.get? b) → (∃ o' ts', h'.get? T = some o' ∧ o'.data = .fields ts' ∧ ts'[3]? = some Value.none) → Q () { s with heap := h' }) : wpAny M A (setFlight (.ref e) none) Q E s := by
  unfold setFlight
  refine wpAny_bind (wpAny_field he rfl h1 ?_)
  rw [if_pos (show (Value.ref T != Value.none) = true from by simp)]
  refine wpAny_setField hT hd hs3 (h _ (fun b hb => Heap.get?_update_other _ _ (Ne.symm hb)) ⟨_, _, Heap.get?_update_self _ hT (Obj.isFreed_of_fields (Obj.data_mapFields hd _)), Obj.data_mapFields hd _, by simp [hs3]⟩)
end
end L2
namespace L2
open PySem PySem.Spec PyProof.Rows PySem.W
section
variable {prog : Program} {w : World} {A : Around} {E : Value → Shared → Prop} {s : Shared} {K : Frag} {C fI e : Addr} {d : Option Addr} {env : Env}
theorem raise_made {x : Sem Value} {Q : Flow → Shared → Prop} (M : XMk K C fI) (hh : A.handled = none)
    (h : wpAny (model prog w) A x (fun v s₁ => ∃ e d vs sl, v = .ref e ∧ K.In s₁.heap ∧ s₁.heap.get? e = some ⟨.ref C, d, .fields vs, sl⟩ ∧ vs[1]? = some Value.none ∧ E (.ref e) s₁) E s) :
    wpAny (model prog w) A (raiseStmt env (some x) none) Q E s := by
  unfold raiseStmt
  refine wpAny_bind (wpAny_mono h (fun v s₁ h₁ => ?_) fun _ _ x => x)
  obtain ⟨e, d, vs, sl', rfl, X, he, h1, hE⟩ := h₁
  obtain ⟨hp, g, dr, tk, os⟩ := s₁
  have q := M.ei
  unfold excInI at q
  split at q
  · rename_i dd cd sl ho
    split at q
    · rename_i C' bm k0 k1 k2 k3 n k5 hm hs
      simp only [Bool.and_eq_true, beq_iff_eq, Bool.not_eq_true'] at q
      obtain ⟨⟨⟨⟨⟨rfl, rfl⟩, hdel⟩, ht⟩, hok⟩, hni⟩ := q
      obtain ⟨nm, bs, mro, ns, qn, hd, sn, sub, ab, col, del⟩ := cd
      dsimp only at hm hdel hok hni
      subst hm hdel
      have hsl : sl = #[k0, k1, k2, k3, some (.builtin "ValueError.__new__"), k5] := by
        obtain ⟨l⟩ := sl
        simp only at hs
        rw [hs]
      subst hsl
      have hC : hp.get? C' = some (excClassObj nm qn C' ns bs bm hd sn sub ab col dd k0 k1 k2 k3 k5 "ValueError.__new__") := X _ _ ho
      have hcB : (Value.ref C' :: bm).contains (.type "BaseException") = true := by
        rw [List.contains_cons, (tail_of_in X ht).hasType (show vErr.contains (.type "BaseException") = true by decide +kernel)]; exact Bool.or_true _
      repeat (first | with_reducible refine wpAny_field he rfl h1 ?_ | with_reducible refine wpAny_loadPart_at he ?_ | with_reducible refine wpAny_loadPart_at hC ?_ | (with_reducible refine wpAny_isSubtype_exc hC ?_; rw [hcB]) | wp_step)
      exact wpAny_raiseNew_none hh hE
    · cases q
  · cases q
end
end L2
namespace L2
open PySem PySem.Spec PyProof.Rows PySem.W
def TbO (T : Addr) : HO := .ext fun h => ∃ o ts, h.get? T = some o ∧ o.data = .fields ts ∧ ts[3]? = some Value.none
theorem tbO_ok {P : Program} {w : World} {H : Hp} {h : Heap} {T : Addr} (t : ∃ o ts, h.get? T = some o ∧ o.data = .fields ts ∧ ts[3]? = some Value.none) : ObjOk P w H h T (TbO T) :=
  ⟨t, let ⟨o, _, e, _⟩ := t; ⟨o, e⟩, fun _ _ ⟨o, ts, e, r⟩ k => ⟨o, ts, k _ e, r⟩⟩
def Fresh (H : Hp) (x C : Addr) (d : Option Addr) : Prop := (d = none ∧ H x = some (ExcN C x)) ∨ ∃ dx, d = some dx ∧ H x = some (ExcO C dx x)
def Flown (H : Hp) (x C : Addr) (d : Option Addr) (T : Addr) : Prop := H x = some (ExcT C d x T) ∧ H T = some (TbO T) ∧ T ≠ x
def thrown (H : Hp) (x C : Addr) (d : Option Addr) (T : Addr) : Hp := upd (upd H T (TbO T)) x (ExcT C d x T)
theorem thrown_x {H : Hp} {x C T : Addr} {d : Option Addr} : thrown H x C d T x = some (ExcT C d x T) := upd_same
theorem thrown_T {H : Hp} {x C T : Addr} {d : Option Addr} (n : T ≠ x) : thrown H x C d T T = some (TbO T) := by unfold thrown; rw [upd_ne n, upd_same]
theorem thrown_ne {H : Hp} {x C T b : Addr} {d : Option Addr} (n : b ≠ x) (m : b ≠ T) : thrown H x C d T b = H b := by unfold thrown; rw [upd_ne n, upd_ne m]
section
variable {X : Cx} {pins : List (Addr × Obj)} {σ : St} {H : Hp} {s : Shared} {x C T : Addr} {d : Option Addr} {h1 h2 : Heap} {fl : Value} {tt : List Addr}
theorem note_un (I : Inv X pins σ H s) {φ : Heap → Prop} (hx : H x = some (.ext φ)) (htt : ∀ t ∈ tt, H t = some (TbO t) ∧ t ≠ x) (n : NoteTo (frs X.stack) tt x T fl (.ref C) d s.heap h1) (k2 : ∀ b, b ≠ T → h2.get? b = h1.get? b)
    (t2 : ∃ o ts, h2.get? T = some o ∧ o.data = .fields ts ∧ ts[3]? = some Value.none) : H T = none ∧ T ≠ x ∧ Un (frs X.stack) [] H (thrown H x C d T) s.heap h2 ∧ HOk X.prog X.w (thrown H x C d T) h2 := by
  have hT : H T = none := by
    cases q : H T with
    | none => rfl
    | some u =>
      obtain ⟨o, ho⟩ := (I.hok T u q).there
      rw [n.nT] at ho; cases ho
  have nTx : T ≠ x := fun z => by rw [z, hx] at hT; cases hT
  have tn : ∀ b o, s.heap.get? b = some o → b ≠ T := fun b o e z => by rw [z, n.nT] at e; cases e
  have un : ∀ b, H b = none → b ≠ x := fun b e z => by rw [z, hx] at e; cases e
  have ut : ∀ b, H b = none → b ∉ tt := fun b e z => by rw [(htt b z).1] at e; cases e
  have hb : ∀ b u, H b = some u → b ≠ T := fun b u e z => by rw [z, hT] at e; cases e
  have old : ∀ t ∈ tt, ∃ o' ts', h2.get? t = some o' ∧ o'.data = .fields ts' ∧ ts'[3]? = some Value.none := fun t ht => by
    obtain ⟨e, ne⟩ := htt t ht
    obtain ⟨⟨o, ts, e1, e2, e3⟩, _⟩ := (show ObjOk X.prog X.w H s.heap t (TbO t) from I.hok t _ e)
    obtain ⟨o', ts', f1, f2, f3⟩ := n.old t o ts ht ne e1 e2 (Array.getElem?_eq_some_iff.mp e3).1
    exact ⟨o', ts', (k2 t (hb t _ e)).trans f1, f2, f3⟩
  have exc : ∃ vs sl, h2.get? x = some ⟨.ref C, d, .fields vs, sl⟩ ∧ vs[1]? = some (.ref T) := by
    obtain ⟨vs, sl, e1, e2⟩ := n.exc
    exact ⟨vs, sl, (k2 x (Ne.symm nTx)).trans e1, e2⟩
  have ne_ext : ∀ b u, H b = some u → (∀ ψ, u ≠ .ext ψ) → b ≠ x := fun b u e z q => by rw [q, hx] at e; cases e; exact z _ rfl
  refine ⟨hT, nTx, ⟨fun b o q e nf _ => ?_, fun b o q e bf _ => ?_, fun b o q e _ => ?_, fun b o q _ => ?_, fun b xs e => ?_, fun b o u e => ?_, fun b ps e => ⟨#[], ?_⟩⟩, fun b u e => ?_⟩
  · exact (k2 b (tn b o q)).trans (n.keep b o (un b e) nf (ut b e) q)
  · obtain ⟨sl, z⟩ := n.slot b o bf q
    exact ⟨sl, (k2 b (tn b o q)).trans z⟩
  · rw [thrown_ne (un b e) (tn b o q)]; exact e
  · by_cases z : b = x
    · obtain ⟨vs, sl, e1, _⟩ := exc; exact ⟨_, z ▸ e1⟩
    · by_cases zf : b ∈ frs X.stack
      · obtain ⟨sl, z⟩ := n.slot b o zf q
        exact ⟨_, (k2 b (tn b o q)).trans z⟩
      · by_cases zt : b ∈ tt
        · obtain ⟨o', _, e1, _⟩ := old b zt; exact ⟨o', e1⟩
        · exact ⟨o, (k2 b (tn b o q)).trans (n.keep b o z zf zt q)⟩
  · rw [thrown_ne (ne_ext b _ e fun ψ z => by cases z) (hb b _ e)]; exact e
  · rw [thrown_ne (ne_ext b _ e fun ψ z => by cases z) (hb b _ e)]; exact e
  · rw [thrown_ne (ne_ext b _ e fun ψ z => by cases z) (hb b _ e), e]; simp
  · by_cases z : b = x
    · subst z; rw [thrown_x] at e; cases e
      obtain ⟨vs, sl, e1, e2⟩ := exc
      exact excT_ok e1 e2
    · by_cases zT : b = T
      · subst zT; rw [thrown_T nTx] at e; cases e
        exact tbO_ok t2
      · rw [thrown_ne z zT] at e
        by_cases zt : b ∈ tt
        · rw [(htt b zt).1] at e; cases e
          exact tbO_ok (old b zt)
        · have own_ne : ∀ c, H c = some (.own b) → c ≠ x ∧ c ≠ T := fun c hc => ⟨ne_ext c _ hc (fun ψ z => by cases z), hb c _ hc⟩
          refine (I.hok b u e).stay (fun c v hc q => ?_) (fun c q => ?_) fun c xs q => ?_
          · have hcH : ∃ y, H c = some y := by
              rcases hc with rfl | hc
              · exact ⟨u, e⟩
              · exact ⟨_, hc⟩
            obtain ⟨y, hy⟩ := hcH
            refine (k2 c (hb c y hy)).trans (n.keep c v ?_ (fun zf => by rw [I.stkFree c zf] at hy; cases hy) (fun zt' => ?_) q)
            · rcases hc with rfl | hc
              · exact z
              · exact (own_ne c hc).1
            · rcases hc with rfl | hc
              · exact zt zt'
              · rw [(htt c zt').1] at hc; cases hc
          · rw [thrown_ne (own_ne c q).1 (own_ne c q).2]; exact q
          · rw [thrown_ne (ne_ext c _ q fun ψ z => by cases z) (hb c _ q)]; exact q
/-- the frame is noted, the mark of flight taken off -/
theorem note_flight {E : Value → Shared → Prop} {Q : Unit → Shared → Prop} (I : Inv X pins σ H s) (hst : X.stack = X.env :: X.outer) (hfr : X.env.frame = some X.env.locals) (hf : Fresh H x C d ∨ ∃ T, Flown H x C d T)
    (h : ∀ h' T, H T = none → T ≠ x → Inv X pins σ (thrown H x C d T) { s with heap := h' } → Q () { s with heap := h' }) :
    wpAny (model X.prog X.w) X.A (noteFrame (.ref x) X.env) (fun _ s₂ => wpAny (model X.prog X.w) X.A (setFlight (.ref x) none) Q E s₂) E s := by
  have fr : X.A.frames = some (X.env :: X.outer) := hst ▸ I.ok.frames
  have ff : s.heap.FunFrames X.base (X.env :: X.outer) := hst ▸ I.stack
  have rest : ∀ {φ : Heap → Prop} {tt : List Addr} (hx : H x = some (.ext φ)) (htt : ∀ t ∈ tt, H t = some (TbO t) ∧ t ≠ x) (h1 : Heap) (T : Addr), NoteTo (frs (X.env :: X.outer)) tt x T (rawInt X.env.locals) (.ref C) d s.heap h1 →
      wpAny (model X.prog X.w) X.A (setFlight (.ref x) none) Q E { s with heap := h1 } := fun {φ tt} hx htt h1 T n => by
    obtain ⟨vs, sl, e1, e2⟩ := n.exc
    obtain ⟨o, ts, f1, f2, f3⟩ := n.tb
    refine flight_off (s := { s with heap := h1 }) e1 e2 f1 f2 (Array.getElem?_eq_some_iff.mp f3).1 fun h2 k2 t2 => ?_
    obtain ⟨hT, nT, un, ok⟩ := note_un I hx htt (hst ▸ n) k2 t2
    exact h h2 T hT nT (I.call (g' := s.gens) (d' := s.drawn) (t' := s.toks) (ch := []) un ok I.bare (fun b z => absurd z (by simp)))
  rcases hf with (⟨rfl, hx⟩ | ⟨dx, rfl, hx⟩) | ⟨T, hx, hT, ne⟩
  · obtain ⟨⟨vs, sl, e1, e2⟩, _⟩ := (show ObjOk X.prog X.w H s.heap x (ExcN C x) from I.hok x _ hx)
    exact note_new fr ff hfr e1 e2 fun h1 T n => rest (tt := []) hx (fun t z => absurd z (by simp)) h1 T n
  · obtain ⟨⟨vs, sl, e1, e2⟩, _⟩ := (show ObjOk X.prog X.w H s.heap x (ExcO C dx x) from I.hok x _ hx)
    exact note_new fr ff hfr e1 e2 fun h1 T n => rest (tt := []) hx (fun t z => absurd z (by simp)) h1 T n
  · obtain ⟨⟨vs, sl, e1, e2⟩, _⟩ := (show ObjOk X.prog X.w H s.heap x (ExcT C d x T) from I.hok x _ hx)
    obtain ⟨⟨o, ts, f1, f2, f3⟩, _⟩ := (show ObjOk X.prog X.w H s.heap T (TbO T) from I.hok T _ hT)
    exact note_next fr ff hfr e1 e2 f1 f2 f3 ne fun h1 T' n => rest (tt := [T]) hx (fun t z => by rw [List.mem_singleton.mp z]; exact ⟨hT, ne⟩) h1 T' n
theorem leave_inv {E : Value → Shared → Prop} {Q : Unit → Shared → Prop} (I : Inv X pins σ H s) (hst : X.stack = X.env :: X.outer) (hfr : X.env.frame = some X.env.locals) (hf : Fresh H x C d ∨ ∃ T, Flown H x C d T)
    (h : ∀ h' T, H T = none → T ≠ x → Inv X pins σ (thrown H x C d T) { s with heap := h' } → Q () { s with heap := h' }) : wpAny (model X.prog X.w) X.A (leaving X.env (.ref x)) Q E s := by
  unfold leaving
  exact wpAny_bind (note_flight I hst hfr hf h)
end
end L2
namespace L2
open PySem PySem.Spec PyProof.Rows PySem.W
/-- a raised refusal lies so behind a call -/
def CX1 (P : Program) (w : World) : CXT := fun outer H s E e s' => ∃ x T C d H', e = Value.ref x ∧ s'.os = s.os ∧ AllBare s'.gens ∧ Un (frs outer) [] H H' s.heap s'.heap ∧ HOk P w H' s'.heap ∧ Flown H' x C d T ∧ E (.ref x) d H'
/-- a refusal handed to the wish about exceptions is carried on -/
def XeOk (X : Cx) (E : XK) : Prop := ∀ (pins : List (Addr × Obj)) (σ : St) (H : Hp) (s : Shared) (x C : Addr) (d : Option Addr), Inv X pins σ H s → (Fresh H x C d ∨ ∃ T, Flown H x C d T) →
  (∀ T, H T = none → T ≠ x → E (.ref x) d (thrown H x C d T)) → X.xe (.ref x) s
section
variable {P : Program} {w : World} {K : PySem.W.Frag} {mg : Str → Option Value} {base : Heap} {N : List Str} {qual : Str} {scope : Scope} {f : Addr} {cd : Value} {A : Around} {outer : List Env} {s : Shared} {H : Hp} {E E₁ : XK}
theorem xeok_cx : XeOk (cxOf (CX1 P w) P w K mg base N qual scope f cd A outer s H E) E := by
  intro pins σ H1 s1 x C d I hf hE
  exact leave_inv I rfl rfl hf fun h' T hT nT I' => ⟨x, T, C, d, _, rfl, I'.os, I'.bare, I'.base, I'.hok, ⟨thrown_x, thrown_T nT, nT⟩, hE T hT nT⟩
theorem own_cx : PassesOwn (model (cxOf (CX1 P w) P w K mg base N qual scope f cd A outer s H E).prog (cxOf (CX1 P w) P w K mg base N qual scope f cd A outer s H E).w) (cxOf (CX1 P w) P w K mg base N qual scope f cd A outer s H E).A (cxOf (CX1 P w) P w K mg base N qual scope f cd A outer s H E).env (cxOf (CX1 P w) P w K mg base N qual scope f cd A outer s H E).xe := PassesOwn.leaving
end
section
variable {X : Cx} {E E₁ : XK}
/-- a callee's refusal reaches what the body wants -/
theorem pass_x (hX : XeOk X E) (h : ∀ x C d T T2 H', E₁ (.ref x) d H' → Flown H' x C d T → H' T2 = none → T2 ≠ x → E (.ref x) d (thrown H' x C d T2)) : Passes (CX1 X.prog X.w) X E₁ := by
  rintro pins σ H s e s' I ⟨x, T, C, d, H', rfl, os, bare, un, hok, fl, q⟩
  obtain ⟨hh, g, dr, t, os'⟩ := s'
  obtain rfl : os' = s.os := os
  exact hX pins σ H' _ x C d (I.call (h' := hh) (g' := g) (d' := dr) (t' := t) (ch := []) un hok bare (fun b z => absurd z (by simp))) (.inr ⟨T, fl⟩) fun T2 h2 n2 => h x C d T T2 H' q fl h2 n2
end
/-- THE RULE for a def that refusals may leave -/
theorem Fun.okx {P : Program} {w : World} {K : PySem.W.Frag} {mg : Str → Option Value} {base : Heap} {x qual : Str} {st : Stmt} {f : Addr} {fd : FuncData} {N ps : List Str} {k : Nat} {sp : Sp} (F : Fun K x qual st f fd) (S : FnScope N ps (defScope st)) (len : ∀ vs H Q E, sp vs H Q E → vs.length = ps.length)
    (hbody : ∀ (cdv : Value) (A : Around) (outer : List Env) (s : Shared) (H : Hp) (vs : List V) (Q : VK) (E : XK), Room k (A.deeper (envOfC qual (defScope st) s.heap.objs.size f cdv)) → sp vs H Q E →
      ∃ t, PSs (cxOf (CX1 P w) P w K mg base N qual (defScope st) f cdv A outer s H E) (defBody st) t ∧ t { nx := fun _ H' => Q .non H', rt := Q } (start N vs) H) : FnOk P w K mg base (CX1 P w) (k + 1) f fd ps sp := by
  obtain ⟨oc, od, kV, doc, pm, an, cdv, ct, osl, rfl, lk, hcd⟩ := F.ex
  exact fn_of lk hcd S len fun A outer s H vs Q E hr hsp => hbody cdv A outer s H vs Q E hr hsp
structure DefOkX (P : Program) (w : World) (K : PySem.W.Frag) (mg : Str → Option Value) (base : Heap) (k : Nat) (x : Str) (ps : List Str) (sp : Sp) : Prop where
  ex : ∃ (f : Addr) (fd : FuncData), FnOk P w K mg base (CX1 P w) k f fd ps sp ∧ mg x = some (.ref f) ∧ PySem.W.keepIn K (.ref f) = true ∧ Binds K fd ps []
def sRaise (C : Addr) (names : List Str) (E : XK) (t : TA) : TS := fun _ σ H => t σ H fun vs H1 => vs.length = names.length ∧
  ∀ y dx T H2, H1 y = none → Same H1 H2 → H2 y = some (ExcO C dx y) → H2 dx = some (ExcD dx (names.zip vs)) → dx ≠ y → H2 T = none → T ≠ y → E (.ref y) (some dx) (thrown H2 y C (some dx) T)
section
variable {X : Cx} {k j : Nat} {x : Str} {C : Addr} {ps names : List Str} {sp : Sp} {p pos cpos : Pos} {e : Expr} {es : List Expr} {t : TA} {E E₁ : XK}
theorem pe_fnx (D : DefOkX X.prog X.w X.K X.mg X.base k x ps sp) (hr : Room j X.A) (hx : Passes (CX1 X.prog X.w) X E₁) (ha : PA X (e :: es) t) (hj : k ≤ j := by decide) (hg : Gl X x := by rfl) (hdb : (x == ("__debug__" : Str)) = false := by decide)
    (he : starEach (e :: es) X.env = (false, eval e X.env) :: starEach es X.env := by rfl) (hpl : (backTo pos (starEach es X.env)).any (·.1) = false := by rfl) : PE X (.Call (.Name x p) (e :: es) [] pos) (tCall sp [] E₁ t) := by
  obtain ⟨f, fd, F, hm, hk, hb⟩ := D.ex
  exact pe_call F (hr.mono hj) hg hm hk hb .nil hx ha hdb he hpl
theorem ps_raise (hX : XeOk X E) (D : XMkOk X.prog X.w X.K X.mg X.base k x C ps names) (hr : Room j X.A) (ha : PA X (e :: es) t) (hc : X.calm = true := by rfl) (hj : k + 1 ≤ j := by decide) (hg : Gl X x := by rfl) (hdb : (x == ("__debug__" : Str)) = false := by decide)
    (he : starEach (e :: es) X.env = (false, eval e X.env) :: starEach es X.env := by rfl) (hpl : (backTo cpos (starEach es X.env)).any (·.1) = false := by rfl) : PS X (.Raise (some (.Call (.Name x p) (e :: es) [] cpos)) none pos) (sRaise C names E t) := by
  intro pins s σ H Dd I h
  obtain ⟨f, fd, M, F, hm, hb⟩ := D.ex
  have pe : wpAny (model X.prog X.w) X.A (eval (.Call (.Name x p) (e :: es) [] cpos) X.env) (EP X pins σ fun v H2 => ∃ y d, v = V.ref y ∧ Fresh H2 y C d ∧ ∀ T, H2 T = none → T ≠ y → E (.ref y) d (thrown H2 y C d T)) X.xe s := by
    refine wpAny_Call_Name_kw (ld_glob I hg hm ?_ hdb)
    refine PySem.W.callWith_K (h₀ := X.base) I.ok.mod.kin M.kp (thn (ha cpos pins s σ H _ I h) fun us s1 ⟨vs, H1, I1, r, hl, q⟩ => ⟨I1.kIn, ?_⟩) he hpl
    refine run_xmk M F (hr.mono hj) hb pass0 I1 r (hl ▸ D.few) fun y hy => ⟨y, vs, rfl, hl, upd_same, fun d H' hd h1 h2 hs => ⟨rfl, y, some d, rfl, .inr ⟨d, rfl, h1⟩, fun T hT nT => ?_⟩⟩
    refine q y d T H' hy (fun a o ho => hs a o (ne_of_none ho hy) ?_) h1 h2 (fun z => by rw [z, upd_same] at hd; cases hd) hT nT
    rw [upd_ne (ne_of_none ho hy)]; exact ho
  rw [arm_exec_Raise]
  simp only [evalOpt, Option.map]
  refine wpAny_bind (wpAny_standAt (raise_made M (I.ok.hd hc) ?_))
  refine wpAny_bind (thn pe fun v s1 ⟨u, H2, I2, r, y, d, ey, fr, hE⟩ => wpAny_bind (wpAny_standAt (wpAny_pure ?_)))
  subst ey
  obtain rfl : v = Value.ref y := r
  have ob : ∃ vs sl, s1.heap.get? y = some ⟨.ref C, d, .fields vs, sl⟩ ∧ vs[1]? = some Value.none := by
    rcases fr with ⟨rfl, hx⟩ | ⟨dx, rfl, hx⟩
    · exact (show ObjOk X.prog X.w H2 s1.heap y (ExcN C y) from I2.hok y _ hx).1
    · exact (show ObjOk X.prog X.w H2 s1.heap y (ExcO C dx y) from I2.hok y _ hx).1
  obtain ⟨vs, sl, e1, e2⟩ := ob
  exact ⟨y, d, vs, sl, rfl, I2.kIn, e1, e2, hX pins σ H2 s1 y C d I2 (.inl fr) hE⟩
end
def emptyTo : Nat → Heap
  | 0 => {}
  | n + 1 => (emptyTo n).push { cls := .type "dict", data := .dict #[] }
theorem emptyTo_size : ∀ n, (emptyTo n).objs.size = n
  | 0 => rfl
  | n + 1 => by rw [emptyTo, Heap.size_push, emptyTo_size n]
theorem excT_inj {C C' x T T' : Addr} {d d' : Option Addr} (h : ExcT C d x T = ExcT C' d' x T') : C = C' ∧ d = d' ∧ T = T' := by
  have h : (HO.ext fun h => ∃ vs sl, h.get? x = some ⟨.ref C, d, .fields vs, sl⟩ ∧ vs[1]? = some (.ref T)) = HO.ext fun h => ∃ vs sl, h.get? x = some ⟨.ref C', d', .fields vs, sl⟩ ∧ vs[1]? = some (.ref T') := h
  injection h with h
  have e := congrFun h ((emptyTo x).push ⟨.ref C, d, .fields #[.none, .ref T], #[]⟩)
  have g : ((emptyTo x).push ⟨.ref C, d, .fields #[.none, .ref T], #[]⟩).get? x = some ⟨.ref C, d, .fields #[.none, .ref T], #[]⟩ := Heap.get?_push_at (emptyTo_size x).symm rfl
  have q := e.mp ⟨_, _, g, rfl⟩
  obtain ⟨vs, sl, e1, e2⟩ := q
  rw [g] at e1
  cases e1
  cases e2
  exact ⟨rfl, rfl, rfl⟩
/-- a raised refusal at x, of the class at C, its values fs -/
def XR (H : Hp) (x C : Addr) (d : Option Addr) (fs : List (Str × V)) : Prop := (∃ dx, d = some dx ∧ dx ≠ x ∧ H dx = some (ExcD dx fs)) ∧ ∃ T, H x = some (ExcT C d x T)
theorem xr_new {H1 H2 : Hp} {y C dx T : Addr} {fs : List (Str × V)} (hy : H1 y = none) (s : Same H1 H2) (e : H2 y = some (ExcO C dx y)) (ed : H2 dx = some (ExcD dx fs)) (hT : H2 T = none) (nd : dx ≠ y) :
    XR (thrown H2 y C (some dx) T) y C (some dx) fs ∧ Same H1 (thrown H2 y C (some dx) T) :=
  ⟨⟨⟨dx, rfl, nd, by rw [thrown_ne nd (ne_of_none ed hT)]; exact ed⟩, T, thrown_x⟩, fun a o ho => by rw [thrown_ne (ne_of_none ho hy) (ne_of_none (s a o ho) hT)]; exact s a o ho⟩
theorem xr_on {H H1 : Hp} {x C C' : Addr} {d : Option Addr} {T T2 : Addr} {fs : List (Str × V)} (hx : H1 x = none) (s : Same H1 H) (r : XR H x C d fs) (fl : Flown H x C' d T) (hT : H T2 = none) :
    C = C' ∧ XR (thrown H x C' d T2) x C d fs ∧ Same H1 (thrown H x C' d T2) := by
  obtain ⟨⟨dx, rfl, nd, ed⟩, T', e⟩ := r
  have q : C = C' := by
    have := fl.1
    rw [e] at this
    exact (excT_inj (Option.some.inj this)).1
  subst q
  exact ⟨rfl, ⟨⟨dx, rfl, nd, by rw [thrown_ne nd (ne_of_none ed hT)]; exact ed⟩, T2, thrown_x⟩, fun a o ho => by rw [thrown_ne (ne_of_none ho hx) (ne_of_none (s a o ho) hT)]; exact s a o ho⟩
/-- what is wanted of a refusal of the class at C, whose values are as P says -/
def Rf (H : Hp) (E : XK) (C : Addr) (P : List (Str × V) → Hp → Prop) : Prop := ∀ x d fs H', H x = none → Same H H' → XR H' x C (some d) fs → P fs H' → E (.ref x) (some d) H'
theorem Rf.raise {H H1 H2 : Hp} {E : XK} {C y dx T : Addr} {P : List (Str × V) → Hp → Prop} {fs : List (Str × V)} (r : Rf H E C P) (s1 : Same H H1) (hy : H1 y = none) (s : Same H1 H2) (e : H2 y = some (ExcO C dx y)) (ed : H2 dx = some (ExcD dx fs)) (nd : dx ≠ y)
    (hT : H2 T = none) (p : P fs (thrown H2 y C (some dx) T)) : E (.ref y) (some dx) (thrown H2 y C (some dx) T) := by
  obtain ⟨a, b⟩ := xr_new hy s e ed hT nd
  have hy0 : H y = none := by
    cases q : H y with
    | none => rfl
    | some o => rw [s1 y o q] at hy; cases hy
  exact r y dx fs _ hy0 (s1.trans b) a p
/-- the wish handed to a callee: a refusal of the class at C as P says -/
def XE (H : Hp) (R : Addr → List (Str × V) → Hp → Prop) : XK := fun v d H' => ∃ x C dx fs, v = .ref x ∧ d = some dx ∧ H x = none ∧ Same H H' ∧ XR H' x C (some dx) fs ∧ R C fs H'
theorem XE.rf {H : Hp} {R : Addr → List (Str × V) → Hp → Prop} {C : Addr} {P : List (Str × V) → Hp → Prop} (h : ∀ fs H', P fs H' → R C fs H') : Rf H (XE H R) C P := fun x d fs H' hx s r p => ⟨x, C, d, fs, rfl, rfl, hx, s, r, h fs H' p⟩
theorem XE.on {H H0 : Hp} {R : Addr → List (Str × V) → Hp → Prop} {E : XK} (s0 : Same H0 H) (st : ∀ C fs H' x C' d T2, R C fs H' → (∃ φ, H' x = some (.ext φ)) → H' T2 = none → R C fs (thrown H' x C' d T2)) (hE : ∀ C, Rf H0 E C (R C)) :
    ∀ x C d T T2 H', XE H R (.ref x) d H' → Flown H' x C d T → H' T2 = none → T2 ≠ x → E (.ref x) d (thrown H' x C d T2) := by
  rintro x C d T T2 H' ⟨x', C', dx, fs, ev, rfl, hx, s, r, p⟩ fl hT2 nT2
  obtain rfl : x = x' := Value.ref.inj ev
  have hx0 : H0 x = none := by
    cases q : H0 x with
    | none => rfl
    | some o => rw [s0 x o q] at hx; cases hx
  obtain ⟨rfl, r2, s2⟩ := xr_on hx s r fl hT2
  exact hE C' x dx fs _ hx0 (s0.trans s2) r2 (st C' fs H' x C' (some dx) T2 p ⟨_, fl.1⟩ hT2)
/-- a wish that stays when the refusal passes a frame -/
def Stb (P : List (Str × V) → Hp → Prop) : Prop := ∀ fs H' x C' d T2, P fs H' → (∃ φ, H' x = some (.ext φ)) → H' T2 = none → P fs (thrown H' x C' d T2)
theorem stb_eq {l : List (Str × V)} : Stb fun fs _ => fs = l := fun _ _ _ _ _ _ p _ _ => p
/-- all that the body's own wish takes -/
def RU (H : Hp) (E : XK) : Addr → List (Str × V) → Hp → Prop := fun C fs H' => ∃ P, Rf H E C P ∧ P fs H' ∧ Stb P
theorem pass_u {H : Hp} {E : XK} : ∀ x C d T T2 H', XE H (RU H E) (.ref x) d H' → Flown H' x C d T → H' T2 = none → T2 ≠ x → E (.ref x) d (thrown H' x C d T2) :=
  XE.on (Same.refl H) (fun C fs H' x C' d T2 ⟨P, r, p, st⟩ hx hT => ⟨P, r, st fs H' x C' d T2 p hx hT, st⟩) fun C x d fs H' hx s r ⟨P, rf, p, _⟩ => rf x d fs H' hx s r p
theorem rf_u {H H2 : Hp} {E : XK} {C : Addr} {P : List (Str × V) → Hp → Prop} (s : Same H H2) (r : Rf H E C P) (st : Stb P) : Rf H2 (XE H (RU H E)) C P := fun x d fs H' hx s2 xr p => by
  have hx0 : H x = none := by
    cases q : H x with
    | none => rfl
    | some o => rw [s x o q] at hx; cases hx
  exact ⟨x, C, d, fs, rfl, rfl, hx0, s.trans s2, xr, P, r, p, st⟩
end L2
namespace L2
open PySem PySem.Spec PyProof.Rows PySem.W
section
variable {X : Cx} {pins : List (Addr × Obj)} {σ : St} {H : Hp} {s : Shared}
/-- the name goes behind the suite -/
theorem goes_ok {M : Model} {A : Around} {E : Value → Shared → Prop} {i : Nat} {n : Str} {pos : Pos} {Q : Unit → Shared → Prop} (I : Inv X pins σ H s) (hN : X.N.Nodup) (hi : X.N[i]? = some n) (hk : X.env.scope.names.lookup n = some .local)
    (h : ∀ s', Inv X pins (σ.set i none) H s' → Q () s') : wpAny M A (do bindName X.env n .none; unbindBehindTheSuite X.env n pos) Q E s := by
  obtain ⟨m, hn, hl⟩ := id I.loc
  have hcls : (X.env.scope.kind == .class || (X.env.scope.kind == .module && X.env.locals != X.env.globals)) = false := by rw [I.ok.kind]; rfl
  have hiσ : i < σ.length := by rw [I.len]; exact (List.getElem?_eq_some_iff.mp hi).1
  refine wpAny_nameGoes_keeps hk hn hcls fun h' v hn' hs => h _ ?_
  have nl : ∀ b o, X.s₀.heap.get? b = some o → b ≠ X.env.locals := fun b o e => Nat.ne_of_lt (Nat.lt_of_lt_of_le (Heap.lt_size e) I.ok.above)
  refine ⟨I.ok, I.os, I.bare, ⟨fun b o e z hb hx => (hs.2 b (nl b o e)).trans (I.base.keep b o e z hb hx), fun b o e z hb hx => ?_, I.base.free, fun b o e hx => ?_, I.base.tups, I.base.frzs, I.base.tbls⟩, ⟨_, hn', fun j y v' e1 e2 e3 => ?_⟩, fun y c e => ?_, I.free, I.freeC, fun p hp => ?_, fun b ob e => ?_, by simpa using I.len⟩
  · obtain ⟨sl, e1⟩ := I.base.slot b o e z hb hx
    exact ⟨sl, (hs.2 b (nl b o e)).trans e1⟩
  · obtain ⟨o', e1⟩ := I.base.there b o e hx
    exact ⟨o', (hs.2 b (nl b o e)).trans e1⟩
  · by_cases hj : j = i
    · subst hj
      rw [List.getElem?_set_self hiσ] at e2
      cases e2
    · rw [List.getElem?_set_ne (Ne.symm hj)] at e2
      obtain ⟨u', r', q⟩ := hl j y v' e1 e2 e3
      refine ⟨u', r', ?_⟩
      rcases q with ⟨k, e⟩ | ⟨k, c, e, z⟩
      · have ny : y ≠ n := fun e => hj (nodup_ix hN e1 (e ▸ hi))
        exact .inl ⟨k, by simp [ny, e]⟩
      · exact .inr ⟨k, c, e, z.sameBut hs (I.cne y c e)⟩
  · obtain ⟨w', z⟩ := I.cell y c e
    exact ⟨w', z.sameBut hs (I.cne y c e)⟩
  · obtain ⟨e, z, ne, nf, d⟩ := I.pin p hp
    exact ⟨(hs.2 p.1 ne).trans e, z, ne, nf, d⟩
  · refine (I.hok b ob e).stay (fun c w' hc q => (hs.2 c ?_).trans q) (fun _ q => q) fun _ _ q => q
    rintro rfl
    rcases hc with hc | hc
    · rw [← hc, I.free] at e; cases e
    · rw [I.free] at hc; cases hc
/-- a handler's suite: no exception leaves it -/
abbrev Cx.suite (X : Cx) (x : Addr) : Cx := { X with A := X.A.mark (some (.ref x)), calm := false, xe := fun _ _ => False }
theorem Inv.suite (I : Inv X pins σ H s) (x : Addr) : Inv (X.suite x) pins σ H s :=
  ⟨⟨I.ok.mod, I.ok.kind, I.ok.glob, I.ok.blt, I.ok.above, I.ok.inj, I.ok.has, I.ok.cab, (fun z => nomatch z), I.ok.frames, I.ok.stk, I.ok.exf, I.ok.bs, I.ok.bsz, I.ok.noex, I.ok.exfs, I.ok.funs, I.ok.frf⟩, I.os, I.bare, I.base, I.loc, I.cell, I.free, I.freeC, I.pin, I.hok, I.len⟩
theorem Inv.unsuite {ok : X.Ok} {x : Addr} (I : Inv (X.suite x) pins σ H s) : Inv X pins σ H s :=
  ⟨ok, I.os, I.bare, I.base, I.loc, I.cell, I.free, I.freeC, I.pin, I.hok, I.len⟩
end
end L2
namespace L2
open PySem PySem.Spec PyProof.Rows PySem.W
/-- an expression that a refusal may leave: the names' values stay known -/
def PX (X : Cx) (e : Expr) (t : TE) (E : XK) : Prop := ∀ (pins : List (Addr × Obj)) (s : Shared) (σ : St) (H : Hp) (Q : VK) (Ex : Value → Shared → Prop), Inv X pins σ H s → t σ H Q →
  (∀ x T C d H' s', Inv X pins σ H' s' → Flown H' x C d T → E (.ref x) d H' → Ex (.ref x) s') → wpAny (model X.prog X.w) X.A (eval e X.env) (EP X pins σ Q) Ex s
section
variable {X : Cx} {k j : Nat} {x : Str} {C : Addr} {ps : List Str} {sp : Sp} {p pos : Pos} {e : Expr} {es : List Expr} {t : TA} {E : XK}
theorem px_fn (D : DefOkX X.prog X.w X.K X.mg X.base k x ps sp) (hr : Room j X.A) (ha : PA X.nox (e :: es) t) (hj : k ≤ j := by decide) (hg : Gl X x := by rfl) (hdb : (x == ("__debug__" : Str)) = false := by decide)
    (he : starEach (e :: es) X.env = (false, eval e X.env) :: starEach es X.env := by rfl) (hpl : (backTo pos (starEach es X.env)).any (·.1) = false := by rfl) : PX X (.Call (.Name x p) (e :: es) [] pos) (tCall sp [] E t) E := by
  obtain ⟨f, fd, F, hm, hk, hb⟩ := D.ex
  intro pins s σ H Q Ex I h hx
  refine wpAny_Call_Name_kw (ld_glob I hg hm ?_ hdb)
  refine PySem.W.callWith_K (h₀ := X.base) I.ok.mod.kin hk (wpAny_mono (ha pos pins s σ H _ (I.wish _) h) (fun us s1 ⟨vs, H1, I1', r, q⟩ => ⟨I1'.unwish.kIn, ?_⟩) fun _ _ z => False.elim z) he hpl
  have I1 : Inv X pins σ H1 s1 := I1'.unwish
  have q : sp (vs ++ []) H1 Q E := q
  rw [List.append_nil] at q
  have hl : us.length = ps.length := by rw [← r.length]; exact F.len _ _ _ _ q
  have hb2 := hb s1 us I1.kIn (by rw [List.append_nil]; exact hl)
  rw [List.append_nil] at hb2
  refine wpAny_call (codeAny_mono (F.run X.A X.stack s1 H1 ⟨us, []⟩ us vs Q E (hr.mono hj) I1.env0 hb2 r q) fun r s' hq => ?_)
  cases r with
  | error e =>
    obtain ⟨x, T, C, d, H', rfl, os, bare, un, hok, fl, q'⟩ := hq
    exact hx x T C d H' s' (I1.call' (ch := []) os un hok bare (fun b z => absurd z (by simp))) fl q'
  | ok fl =>
    cases fl with
    | ret u => exact I1.after hq
    | next => exact False.elim hq
    | brk => exact False.elim hq
    | cont => exact False.elim hq
end
theorem match_sub {M : Model} {A : Around} {E : Value → Shared → Prop} {s : Shared} {K : Frag} {G C e : Addr} {d : Option Addr} {dt : Data} {sl' : Array (Option Value)} {Q : Bool → Shared → Prop} (X : K.In s.heap) (hG : PySem.W.excIn K G vErr "ValueError.__new__" = true)
    (he : s.heap.get? e = some ⟨.ref C, d, dt, sl'⟩) (hs : mroIn K C (.ref G) = some true) (h : Q true s) : wpAny M A (excMatches (.ref e) (.ref G)) Q E s := by
  have LS := looks_mroIn (M := M) X hs
  obtain ⟨hp, g, dr, tk, os⟩ := s
  have q := hG
  unfold PySem.W.excIn at q
  split at q
  · rename_i dd cd sl ho
    split at q
    · rename_i C' bm k0 k1 k2 k3 n k5 hm hs
      simp only [Bool.and_eq_true, beq_iff_eq, Bool.not_eq_true'] at q
      obtain ⟨⟨⟨⟨⟨rfl, rfl⟩, hdel⟩, ht⟩, hok⟩, hni⟩ := q
      obtain ⟨nm, bs, mro, ns, qn, hd, sn, sub, ab, col, del⟩ := cd
      dsimp only at hm hdel hok hni
      subst hm hdel
      have hsl : sl = #[k0, k1, k2, k3, some (.builtin "ValueError.__new__"), k5] := by
        obtain ⟨l⟩ := sl
        simp only at hs
        rw [hs]
      subst hsl
      have hC : hp.get? C' = some (excClassObj nm qn C' ns bs bm hd sn sub ab col dd k0 k1 k2 k3 k5 "ValueError.__new__") := X _ _ ho
      have hcB : (Value.ref C' :: bm).contains (.type "BaseException") = true := by
        rw [List.contains_cons, (tail_of_in X ht).hasType (show vErr.contains (.type "BaseException") = true by decide +kernel)]; exact Bool.or_true _
      have f := tc_notTuple
      unfold excMatches
      repeat (first | with_reducible refine wpAny_loadPart_at he ?_ | with_reducible refine wpAny_loadPart_at hC ?_ | (with_reducible refine wpAny_isSubtype_exc hC ?_; rw [hcB]) | (with_reducible refine LS.at ?_) | wp_step)
      exact h
    · cases q
  · cases q
/-- behind the suite the name goes -/
def goneD (im : Nat) (D : Ends) : Ends := { nx := fun σ H => D.nx (σ.set im none) H, rt := D.rt, bk := fun σ H => D.bk (σ.set im none) H, ct := fun σ H => D.ct (σ.set im none) H }
def sTry (K : Frag) (i im : Nat) (G : Addr) (te : XK → TE) (ts : TS) : TS := fun D σ H => ∃ E₁ : XK, te E₁ σ H (fun v H1 => D.nx (σ.set i (some v)) H1) ∧
  ∀ x C d T T2 H', E₁ (.ref x) d H' → Flown H' x C d T → H' T2 = none → T2 ≠ x → mroIn K C (.ref G) = some true ∧ ts (goneD im D) (σ.set im (some (.ref x))) (thrown H' x C d T2)
section
variable {X : Cx} {i im : Nat} {n m g : Str} {G : Addr} {value : Expr} {b₀ : Stmt} {suite : List Stmt} {np apos gp hpos pos : Pos} {te : XK → TE} {ts : TS}
theorem ps_tryset (hN : X.N.Nodup) (hi : X.N[i]? = some n) (hx : Loc X.env.scope n) (him : X.N[im]? = some m) (hm : X.env.scope.names.lookup m = some .local) (he : ∀ E, PX X value (te E) E) (hgl : Gl X g) (hg : X.mg g = some (.ref G))
    (hG : PySem.W.excIn X.K G vErr "ValueError.__new__" = true) (hst : X.stack = X.env :: X.outer) (hfr : X.env.frame = some X.env.locals) (hs : ∀ x, PSs (X.suite x) (b₀ :: suite) ts)
    (hsw : swapsWith value (some (.Name n np)) apos.line X.env = pure false := by rfl) (hf : X.fn n = true ∨ X.env.scope.names.lookup n = some .local := by first | exact .inl rfl | exact .inr rfl | assumption) (hdb : (g == ("__debug__" : Str)) = false := by decide) :
    PS X (.Try [.Assign [.Name n np] value apos] [.ExceptHandler (some (.Name g gp)) (some m) (b₀ :: suite) hpos] [] [] pos) (sTry X.K i im G te ts) := by
  intro pins s σ H D I ⟨E₁, h, hh⟩
  rw [arm_exec_Try]
  refine wpAny_bind (wpAny_standAt (wpAny_tryStmt_except ?_))
  refine wpAny_execs_cons (wpAny_Assign_Name (thn (he E₁ pins s σ H _ _ I h fun x T C d H' s' I' fl q => ?_) fun v s1 ⟨y, H1, I1, r1, q1⟩ => ?_) hsw)
  · refine note_flight I' hst hfr (.inr ⟨T, fl⟩) fun h' T2 hT2 nT2 I2 => ?_
    obtain ⟨hsub, hts⟩ := hh x C d T T2 H' q fl hT2 nT2
    have fl2 : Flown (thrown H' x C d T2) x C d T2 := ⟨thrown_x, thrown_T nT2, nT2⟩
    obtain ⟨⟨vs, sl, e1, e2⟩, _⟩ := (show ObjOk X.prog X.w (thrown H' x C d T2) h' x (ExcT C d x T2) from I2.hok x _ fl2.1)
    obtain ⟨⟨o, tv, f1, f2, f3⟩, _⟩ := (show ObjOk X.prog X.w (thrown H' x C d T2) h' T2 (TbO T2) from I2.hok T2 _ fl2.2.1)
    refine wpAny_handleBy_cons (codeAny_handlers_test (ld_glob (X := X.suite x) (I2.suite x) hgl hg (match_sub I2.kIn hG e1 hsub ?_) hdb)) (by intro z; cases z)
    show codeAny _ _ _ _ _
    refine codeAny_handlers_suite_as (flight_off e1 e2 f1 f2 (Array.getElem?_eq_some_iff.mp f3).1 fun h3 k3 t3 => ?_)
    have same : upd (thrown H' x C d T2) T2 (TbO T2) = thrown H' x C d T2 := funext fun b => by
      by_cases z : b = T2
      · rw [z, upd_same, thrown_T nT2]
      · rw [upd_ne z]
    have I3 : Inv X pins σ (thrown H' x C d T2) { s' with heap := h3 } := by
      have := I2.write (x := T2) (e := T2) (h' := h3) (o := TbO T2) (t' := s'.toks) (by rw [fl2.2.1]; exact True.intro) (.inl rfl) (fun b u nb z => (k3 b nb).trans z) (let ⟨o, _, e, _⟩ := t3; ⟨o, e⟩) (tbO_ok t3)
      rw [same] at this
      exact this
    refine store_ok (X := X.suite x) (I3.suite x) hN him (.inl hm) (v := .ref x) rfl (fun s4 I4 => ?_) (.inr hm)
    refine wpAny_mono (hs x pins s4 _ _ (goneD im D) I4 hts) (fun fl s5 q5 => ?_) fun _ _ z => False.elim z
    show wpAny (model X.prog X.w) X.A (do bindName X.env m .none; unbindBehindTheSuite X.env m hpos) (fun _ s₃ => SP X pins D fl s₃) X.xe s5
    cases fl with
    | next => obtain ⟨σ', H5, I5, q⟩ := q5; exact goes_ok (I5.unsuite (ok := I.ok)) hN him hm fun s6 I6 => ⟨_, H5, I6, q⟩
    | brk => obtain ⟨σ', H5, I5, q⟩ := q5; exact goes_ok (I5.unsuite (ok := I.ok)) hN him hm fun s6 I6 => ⟨_, H5, I6, q⟩
    | cont => obtain ⟨σ', H5, I5, q⟩ := q5; exact goes_ok (I5.unsuite (ok := I.ok)) hN him hm fun s6 I6 => ⟨_, H5, I6, q⟩
    | ret u => obtain ⟨v, σ', H5, I5, r, q⟩ := q5; exact goes_ok (I5.unsuite (ok := I.ok)) hN him hm fun s6 I6 => ⟨v, _, H5, I6, r, q⟩
  · exact store_ok I1 hN hi hx r1 (fun s2 I2 => wpAny_execs_nil (wpAny_execs_nil ⟨_, H1, I2, q1⟩)) hf
end
end L2
namespace L2
open PySem PySem.Spec PyProof.Rows
section
variable {prog : Program} {w : World} {A : Around} {R : Result → Shared → Prop} {s : Shared}
end
section
variable {X : Cx} {elt tg iter : Expr} {scope : Scope} {pos : Pos} {wi : TI} {g : TG} {te : TE} {N : List Str} {fr : List (Option Nat)}
variable {cnd : Expr} {tc : TT}
end
end L2
namespace L2
open PySem PySem.Spec PyProof.Rows
section
variable {X : Cx} {a b c d : Expr} {ta tb tc td : TE} {pos : Pos}
end
/-- the invariant of a comprehension with a condition -/
def fW (acc : Addr) (n : Nat) (Pv : Nat → List V → St → Hp → Prop) (i m : Nat) (σ : St) (H : Hp) : Prop := i ≤ n ∧ m = n - i ∧ ∃ xs, xs.length ≤ i ∧ H acc = some (.lst xs) ∧ Pv i xs σ H
end L2
namespace L2
open PySem PySem.Spec PyProof.Rows
structure ICls (K : PySem.W.Frag) (C : Addr) : Prop where
  cl : Cls K C
  ha : PySem.W.findIn K (.ref C) "__class__" = some (some (.builtin "object.__class__"))
  hn : PySem.W.specialIn K (.builtin "object.__class__") "__get__" = some (some (.builtin "getset_descriptor.__get__"))
  htk : PySem.W.takesIn K (.builtin "object.__class__") = some true
  hm : PySem.W.mroIn K C (.type "object") = some true
section
variable {X : Cx}
theorem call_isinI : CallR X (.builtin "isinstance") (fun xs H Q => ∃ a C dx fs c u b, xs = [.ref a, c] ∧ H a = some (.ins C dx fs) ∧ ICls X.K C ∧ RelV c u ∧ (∀ u', RelV c u' → u' = u) ∧ PySem.W.kitOne X.K (.ref C) u = some b ∧ Q (.bl b) H) := by
  intro pins s σ H xs us Q I r h
  obtain ⟨a, C, dx, fs, c, u, b, rfl, he, hc, ru, uq, hk, q⟩ := h
  obtain ⟨v1, v2, rfl, r1, r2⟩ := vals2 r
  have := uq v2 r2
  subst this
  exact isinst_ok I r1 (.ins he hc.cl hc.ha hc.hn hc.htk hc.hm) hk fun tk => ⟨.bl b, H, I.tok tk, rfl, q⟩
end
def Itv (K : PySem.W.Frag) (a : Addr) (n : Nat) : It :=
  ⟨fun i H => ∃ xs, SqL K H a xs ∧ xs.length = n ∧ i < n, fun i H x H' => H' = H ∧ ∀ xs, SqL K H a xs → xs[n - 1 - i]? = some x, fun i H => n ≤ i⟩
theorem turn_rev {P : Program} {w : World} {K : PySem.W.Frag} {tg : Expr} (a it : Addr) (n : Nat) : Turn P w K tg (Itv K a n) [it] it (fun i h => i ≤ n ∧ h.IsRevIter it a ((n : Int) - 1 - i)) where
  mem := by simp
  obj := fun i h st b hb => by
    have e : b = it := by simpa using hb
    subst e
    obtain ⟨_, o, e, c, d⟩ := st
    exact ⟨o, e, fun v z => by rw [d] at z; cases z⟩
  keep := fun i h h' st k => ⟨st.1, st.2.at fun o e => k it (by simp) o e⟩
  item := by
    intro X hP hw hK hc i pins s σ H E I hf st hg
    subst hP hw hK
    obtain ⟨xs, hq, hn, hi⟩ := hg
    obtain ⟨hin, st⟩ := st
    obtain ⟨its, rv, p, hz⟩ := I.list hq
    have hx : xs[n - 1 - i]? = some (xs[n - 1 - i]'(by first | lia | omega)) := List.getElem?_eq_getElem (by first | lia | omega)
    obtain ⟨u, hu, ru⟩ := rv.get hx
    obtain ⟨f0, f1, f2, f3, f4, f5⟩ := hf it (by simp)
    have st' : s.heap.IsRevIter it a (((n - 1 - i : Nat) : Int)) := by
      rw [show (((n - 1 - i : Nat) : Int)) = (n : Int) - 1 - i by first | lia | omega]; exact st
    refine wpAny_pyNext_rev_item st' p.isList (x := u) (by simpa using hu) fun h' st' sb => ?_
    have I1 : Inv X pins σ H { s with heap := h' } := I.turned (t' := s.toks) (fun b o hb e => (sb.2 b hb).trans e) f0 f1 f3 f4 f5
    obtain ⟨o, e, c, d⟩ := id st'
    refine ⟨u, rfl, go_of (s := { s with heap := h' }) e c d (by decide) ⟨_, H, I1, ru, ⟨rfl, fun ys hy => by rw [I.list_inj hy hq]; exact hx⟩, ⟨by first | lia | omega, ?_⟩, fun b hb => (hf b hb).1⟩⟩
    rw [show (n : Int) - 1 - ((i + 1 : Nat) : Int) = ((n - 1 - i : Nat) : Int) - 1 by first | lia | omega]; exact st'
  done := by
    intro X hP hw hK hc i pins s σ H E I hf st hg
    subst hP hw hK
    obtain ⟨hin, st⟩ := st
    obtain ⟨f0, f1, f2, f3, f4, f5⟩ := hf it (by simp)
    have e : i = n := Nat.le_antisymm hin hg
    subst e
    rw [show (i : Int) - 1 - (i : Int) = -1 by first | lia | omega] at st
    exact wpAny_pyNext_rev_end (I.ok.hd hc) st fun h' eb => ⟨rfl, I.turned (t' := s.toks) (fun b o hb e => eb b o hb e) f0 f1 f3 f4 f5⟩
  self := fun _ _ _ _ _ st h => wpAny_pyIter_revIter st.2 h
def iRev (K : PySem.W.Frag) (ta : TA) : TI := fun σ H R => ta σ H fun vs H1 => ∃ a xs, vs = [.ref a] ∧ SqL K H1 a xs ∧ R (Itv K a xs.length) H1
theorem boot_reversed : bootBuiltins "reversed" = some (.type "reversed") := rfl
section
variable {X : Cx} {tg : Expr}
theorem pi_revd {a : Expr} {ta : TA} {p pos : Pos} (hg : Gl X "reversed") (hm : X.mg "reversed" = none) (ha : PA X [a] ta) (hs : starEach [a] X.env = [(false, eval a X.env)] := by rfl) :
    PI X tg (.Call (.Name "reversed" p) [a] [] pos) (iRev X.K ta) := by
  intro pins s σ H R I h
  refine Call_ (ld_blt I hg hm boot_reversed (PyProof.Rows.callWith_type1 (thn (ha pos pins s σ H _ I h) fun us s1 ⟨vs, H1, I1, r1, q1⟩ => ?_) hs rfl))
  obtain ⟨b, xs, e, hq, q⟩ := q1
  subst e
  cases r1 with
  | cons r rr =>
    cases rr
    cases r
    obtain ⟨its, rv, pl, hz⟩ := I1.list hq
    have hl := rv.length
    refine call_reversed_list pl.isList ?_
    have I2 : Inv X pins σ H1 { s1 with heap := s1.heap.push (revObj b ((its.toArray.size : Int) - 1)) } := I1.kept (t' := s1.toks) fun c o e => Heap.get?_push_of_some _ e
    refine wpAny_pyIter_revIter (s := { s1 with heap := s1.heap.push (revObj b ((its.toArray.size : Int) - 1)) }) ⟨_, Heap.get?_push_size _ rfl, rfl, rfl⟩ ?_
    refine ⟨s1.heap.objs.size, [s1.heap.objs.size], _, _, H1, rfl, I2, turn_rev b _ xs.length, ⟨Nat.zero_le _, ⟨_, Heap.get?_push_size _ rfl, rfl, ?_⟩⟩, fun c hc => ?_, q⟩
    · show Data.fields _ = Data.fields _
      rw [show ((its.toArray.size : Int) - 1) = (xs.length : Int) - 1 - ((0 : Nat) : Int) by rw [List.size_toArray, ← hl]; first | lia | omega]
    · have e : c = s1.heap.objs.size := by simpa using hc
      subst e
      exact I1.fpOk (Nat.le_refl _) (I1.hok.fresh (Nat.le_refl _))
end
/-- over a list from its end on; the body leaves it -/
theorem for_rev {K : PySem.W.Frag} {a : Addr} {xs : List V} {g : TG} {tb : TS} {D : Ends} {σ : St} {H : Hp} (Pv : Nat → St → Hp → Prop) (h0 : Pv 0 σ H) (hl : ∀ i σ H, i ≤ xs.length → Pv i σ H → SqL K H a xs)
    (hs : ∀ i x σ H, xs[xs.length - 1 - i]? = some x → i < xs.length → Pv i σ H → g x σ H fun σ2 H2 => tb { D with nx := Pv (i + 1), ct := Pv (i + 1), bk := D.nx } σ2 H2) (hd : ∀ σ H, Pv xs.length σ H → D.nx σ H) :
    ∃ W : Nat → Nat → St → Hp → Prop, (∃ m, W 0 m σ H) ∧ ∀ i m σ H, W i m σ H →
      ((Itv K a xs.length).stop i H ∧ D.nx σ H) ∨ ((Itv K a xs.length).go i H ∧ ∃ N : St → Hp → Prop, (∀ σ' H', N σ' H' → ∃ m', m' < m ∧ W (i + 1) m' σ' H') ∧ ∀ x H', (Itv K a xs.length).yld i H x H' → g x σ H' fun σ2 H2 => tb { D with nx := N, ct := N, bk := D.nx } σ2 H2) := by
  refine ⟨fun i m σ H => m = xs.length - i ∧ i ≤ xs.length ∧ Pv i σ H, ⟨xs.length, by simp, Nat.zero_le _, h0⟩, ?_⟩
  rintro i m σ H ⟨rfl, hi, p⟩
  have q := hl i σ H hi p
  by_cases hlt : i < xs.length
  · refine .inr ⟨⟨xs, q, rfl, hlt⟩, Pv (i + 1), fun σ' H' p' => ⟨xs.length - (i + 1), by first | lia | omega, rfl, hlt, p'⟩, fun x H' y => ?_⟩
    obtain ⟨e, y⟩ := y
    subst e
    exact hs i x σ _ (y xs q) hlt p
  · have e : i = xs.length := by first | lia | omega
    subst e
    exact .inl ⟨Nat.le_refl _, hd σ H p⟩
end L2
namespace L2
open PySem PySem.Spec PyProof.Rows PySem.W
section
variable {X : Cx} {k j : Nat} {m : Str} {ps : List Str} {sp : Sp} {pos apos : Pos} {e o : Expr} {es : List Expr} {t : TA} {ta : TE} {S : Addr → Prop}
end
section
variable {X : Cx} {g : Str} {G : Addr} {value : Expr} {b₀ : Stmt} {suite : List Stmt} {apos gp hpos pos : Pos} {te : XK → TE} {ts : TS}
end
end L2
namespace L2
open PySem PySem.Spec PyProof.Rows PySem.W
structure FunD (K : PySem.W.Frag) (x qual : Str) (st : Stmt) (f : Addr) (fd : FuncData) : Prop where
  ex : ∃ (oc : Value) (od : Option Addr) (T : Addr) (kV doc pm : Value) (an : Option Addr) (cdv ct : Value) (osl : Array (Option Value)) (o : Obj) (n : Nat),
    fd = PySem.W.fnOf x qual (defArgs st) (defBody st) (defScope st) (.ref T) kV doc pm an cdv ct ∧ K.lookup f = some ⟨oc, od, .func fd, osl⟩ ∧ PySem.W.codeIn K cdv qual = true ∧ K.lookup T = some o ∧ o.data = .seq #[.none] n
  kp : PySem.W.keepIn K (.ref f) = true
section
variable {P : Program} {w : World} {K : PySem.W.Frag} {mg : Str → Option Value} {base : Heap}
theorem FunD.ok {x qual : Str} {st : Stmt} {f : Addr} {fd : FuncData} {N ps : List Str} {k : Nat} {sp : Sp} (F : FunD K x qual st f fd) (S : FnScope N ps (defScope st)) (len : ∀ vs H Q E, sp vs H Q E → vs.length = ps.length)
    (hbody : ∀ (cdv : Value) (A : Around) (outer : List Env) (s : Shared) (H : Hp) (vs : List V) (Q : VK) (E : XK), Room k (A.deeper (envOfC qual (defScope st) s.heap.objs.size f cdv)) → sp vs H Q E →
      ∃ t, PSs (cxOf CX0 P w K mg base N qual (defScope st) f cdv A outer s H E).nox (defBody st) t ∧ t { nx := fun _ H' => Q .non H', rt := Q } (start N vs) H) : FnOk P w K mg base CX0 (k + 1) f fd ps sp := by
  obtain ⟨oc, od, T, kV, doc, pm, an, cdv, ct, osl, o, n, rfl, lk, hcd, lT, dT⟩ := F.ex
  refine fn_of lk hcd S len fun A outer s H vs Q E hr hsp => ?_
  obtain ⟨t, h, q⟩ := hbody cdv A outer s H vs Q E hr hsp
  exact ⟨t, h.nox, q⟩
theorem FunD.binds {x qual : Str} {st : Stmt} {f : Addr} {fd : FuncData} {ps : List Str} {ds : List Value} (F : FunD K x qual st f fd)
    (h : ∀ (T : Addr) (kV doc pm : Value) (an : Option Addr) (cdv ct : Value) (us : List Value), (us ++ ds).length = ps.length → ∃ k : Option (Array Value) → Sem (List (Str × Value)),
      bindArgs (PySem.W.fnOf x qual (defArgs st) (defBody st) (defScope st) (.ref T) kV doc pm an cdv ct) ⟨us, []⟩ = seqItems? (.ref T) >>= k ∧ k (some #[.none]) = pure (ps.zip (us ++ ds))) : Binds K fd ps ds := by
  obtain ⟨oc, od, T, kV, doc, pm, an, cdv, ct, osl, o, n, rfl, lk, hcd, lT, dT⟩ := F.ex
  intro s us X hl
  obtain ⟨k, h1, h2⟩ := h T kV doc pm an cdv ct us hl
  exact .of_defaults rfl (X _ _ lT) dT h1 h2
end
end L2
namespace L2
open PySem PySem.Spec PyProof.Rows PySem.W
end L2
namespace L2
open PySem PySem.Spec PyProof.Rows
theorem vals_strs : ∀ {ys : List Str} {us : List Value}, Vals (ys.map V.str) us → StrsAre us ys
  | [], _, .nil => .nil
  | y :: ys, _, .cons r t => by
    obtain ⟨tk, rfl⟩ := r
    exact .cons y tk (vals_strs t)
theorem strs_vals : ∀ (l : List (Str × Tok)), Vals ((l.map (·.1)).map V.str) (strValues l)
  | [] => .nil
  | p :: l => .cons ⟨_, rfl⟩ (strs_vals l)
def rJoin : V → List V → Hp → VK → Prop := fun x xs H Q => ∃ z l ys, x = .str z ∧ xs = [.ref l] ∧ H l = some (.lst (ys.map V.str)) ∧ (ys.map (·.length)).sum + ys.length * z.length ≤ 16777216 ∧ Q (.str (Txt.join z ys)) H
def rSplit : V → List V → Hp → VK → Prop := fun x xs H Q => ∃ z y, x = .str z ∧ xs = [.str y] ∧ (y.length == 0) = false ∧ z.length + 2 ≤ sizeLine ∧ ∀ l, H l = none → Q (.ref l) (upd H l (.lst ((Txt.split z y).map V.str)))
section
variable {X : Cx}
theorem mt_join : MtR X "str.join" rJoin := by
  intro pins s σ H x xs v us Q I rx rv h
  obtain ⟨z, l, ys, rfl, rfl, hl, hz, q⟩ := h
  obtain ⟨t, rfl⟩ := rx
  obtain ⟨u, rfl, ru⟩ := rv.one
  cases ru
  obtain ⟨its, n, r, e, _⟩ := I.lst hl
  exact join_list (items := its.toArray) ⟨_, e, rfl, n, rfl⟩ (vals_strs r) hz fun t' k => ⟨.str _, H, I.tok k, ⟨t', rfl⟩, q⟩
theorem mt_split : MtR X "str.split" rSplit := by
  intro pins s σ H x xs v us Q I rx rv h
  obtain ⟨z, y, rfl, rfl, hy, hz, q⟩ := h
  obtain ⟨t, rfl⟩ := rx
  obtain ⟨u0, rfl, u, rfl⟩ := rv.one
  have hn : (Builtin.Str.partsBetween z (Builtin.Str.occurrences z y 0 z.length (z.length + 1)) y.length).length ≤ sizeLine := by
    have e1 := StrLaws.occ_length_le z y 0 z.length (z.length + 1)
    rw [length_partsBetween]; first | lia | omega
  have fin : ∀ (l : List (Str × Tok)) (tk : Nat), l.map (·.1) = Txt.split z y → EP X pins σ Q (.ref s.heap.objs.size) { s with toks := tk, heap := s.heap.push { cls := .type "list", data := .seq (strValues l).toArray } } := fun l tk e => by
    refine ⟨.ref _, _, I.laid (t' := tk) (o := .lst ((Txt.split z y).map V.str)) (fun b ob q => Heap.get?_push_of_some _ q) (Nat.le_refl _) ⟨?_, strValues l, 0, ?_, Heap.get?_push_size _ rfl⟩, rfl, q _ (I.hok.fresh (Nat.le_refl _))⟩
    · rw [List.length_map]
      have := split_le z y
      first | lia | omega
    · rw [← e]; exact strs_vals l
  cases h1 : (decide (z.length < y.length) || decide (Builtin.Str.strKind z < Builtin.Str.strKind y))
  · cases hf : (Builtin.Str.occurrences z y 0 z.length (z.length + 1)).isEmpty
    · refine call_meets PySem.F.slot_str_split (typeIs_str _ _ _) PySem.F.entry_str_split (PySem.F.args_str_split_2 _ _) (meets_str_split_sep z y t u h1 hy hf (by first | lia | omega) hn) ?_
      show wants (EP X pins σ Q) _ _ { s with toks := _, heap := s.heap.push { cls := .type "list", data := .seq (strsFrom s.toks (Builtin.Str.partsBetween z (Builtin.Str.occurrences z y 0 z.length (z.length + 1)) y.length)).toArray } }
      rw [strsFrom_eq]
      exact fin (numbered s.toks _) _ ((numbered_texts _ _).trans ((if_neg (ne_true_of_eq_false h1)).trans (if_neg (ne_true_of_eq_false hf))).symm)
    · exact call_meets PySem.F.slot_str_split (typeIs_str _ _ _) PySem.F.entry_str_split (PySem.F.args_str_split_2 _ _) (meets_str_split_not_found z y t u h1 hy hf) (fin [(z, t)] s.toks ((if_neg (ne_true_of_eq_false h1)).trans (if_pos hf)).symm)
  · exact call_meets PySem.F.slot_str_split (typeIs_str _ _ _) PySem.F.entry_str_split (PySem.F.args_str_split_2 _ _) (meets_str_split_cannot_occur z y t u h1) (fin [(z, t)] s.toks (if_pos h1).symm)
theorem call_int_text : CallR X (.type "int") (fun xs H Q => ∃ x n, xs = [.str x] ∧ x.length ≤ 640 ∧ PySem.intText? x = some n ∧ Q (.int n) H) := by
  intro pins s σ H xs us Q I r h
  obtain ⟨x, n, rfl, hl, hn, q⟩ := h
  obtain ⟨u, rfl, t, rfl⟩ := vals1 r
  exact PySem.W.KIN.call_text hn hl ⟨.int n, H, I.tok _, ⟨_, rfl⟩, q⟩
def rSlS : V → Option Int → Option Int → Hp → VK → Prop := fun x lo hi H Q => ∃ z, x = .str z ∧ z.length ≤ sizeLine ∧ Q (.str (Txt.slice z lo hi)) H
theorem sl_str : SlR X rSlS := by
  intro pins s σ H x v vl vu lo hi sl Q I rx hs pl pu h
  obtain ⟨z, rfl, hz, q⟩ := h
  obtain ⟨t, rfl⟩ := rx
  refine ⟨"str", _, PySem.F.slot_str_getitem.lookup, typeIs_str _ _ _, ?_⟩
  obtain ⟨o, h1, h2, h3⟩ := hs
  cases pl with
  | none =>
    cases pu with
    | none => exact wpAny_getItem_str_slice (l := none) (u := none) (st := none) ⟨o, h1, h2, h3⟩ rfl (post_val_or_str ⟨Nat.le_trans (Txt.slice_le z none none) hz, fun t' k => ⟨.str (Txt.slice z none none), H, I.tok k, ⟨t', rfl⟩, q⟩⟩)
    | int j u => exact wpAny_getItem_str_slice (l := none) (u := some (j, u)) (st := none) ⟨o, h1, h2, h3⟩ rfl (post_val_or_str ⟨Nat.le_trans (Txt.slice_le z none (some j)) hz, fun t' k => ⟨.str (Txt.slice z none (some j)), H, I.tok k, ⟨t', rfl⟩, q⟩⟩)
  | int i t1 =>
    cases pu with
    | none => exact wpAny_getItem_str_slice (l := some (i, t1)) (u := none) (st := none) ⟨o, h1, h2, h3⟩ rfl (post_val_or_str ⟨Nat.le_trans (Txt.slice_le z (some i) none) hz, fun t' k => ⟨.str (Txt.slice z (some i) none), H, I.tok k, ⟨t', rfl⟩, q⟩⟩)
    | int j u => exact wpAny_getItem_str_slice (l := some (i, t1)) (u := some (j, u)) (st := none) ⟨o, h1, h2, h3⟩ rfl (post_val_or_str ⟨Nat.le_trans (Txt.slice_le z (some i) (some j)) hz, fun t' k => ⟨.str (Txt.slice z (some i) (some j)), H, I.tok k, ⟨t', rfl⟩, q⟩⟩)
end
def Itx (z : Str) : It := ⟨fun i _ => i < z.length, fun i H y H' => ∃ c, z.cps[i]? = some c ∧ y = .str ⟨#[c]⟩ ∧ H' = H, fun i _ => z.length ≤ i⟩
theorem turn_text {P : Program} {w : World} {K : PySem.W.Frag} {tg : Expr} (z : Str) (t : Tok) (it : Addr) : Turn P w K tg (Itx z) [it] it (fun i h => h.IsStrIter it "str_ascii_iterator" z t i) where
  mem := by simp
  obj := fun i h st b hb => by
    obtain ⟨o, e, c, d⟩ := st
    rw [List.mem_singleton.mp hb]
    exact ⟨o, e, fun v z => by rw [d] at z; cases z⟩
  keep := fun i h h' st k => by
    obtain ⟨o, e, c, d⟩ := st
    exact ⟨o, k it (by simp) o e, c, d⟩
  item := by
    intro X hP hw hK hc i pins s σ H E I hf st hg
    subst hP hw hK
    have hg : i < z.cps.size := hg
    obtain ⟨f0, f1, f2, f3, f4, f5⟩ := hf it (by simp)
    refine wpAny_pyNext_ascii_item st (c := z.cps[i]) (by simp [hg]) fun h' st' sb => ?_
    have I1 : Inv X pins σ H { s with heap := h', toks := s.toks + 1 } := I.turned (t' := s.toks + 1) (fun b o hb e => (sb.2 b hb).trans e) f0 f1 f3 f4 f5
    obtain ⟨o, e, c, d⟩ := id st'
    exact ⟨_, rfl, go_of (s := { s with heap := h', toks := s.toks + 1 }) e c d (by decide) ⟨.str ⟨#[z.cps[i]]⟩, H, I1, ⟨_, rfl⟩, ⟨z.cps[i], by simp [hg], rfl, rfl⟩, st', fun b hb => (hf b hb).1⟩⟩
  done := by
    intro X hP hw hK hc i pins s σ H E I hf st hg
    subst hP hw hK
    have hg : z.cps.size ≤ i := hg
    obtain ⟨f0, f1, f2, f3, f4, f5⟩ := hf it (by simp)
    exact wpAny_pyNext_ascii_end (I.ok.hd hc) st (Array.getElem?_eq_none hg) fun h' eb => ⟨rfl, I.turned (t' := s.toks) (fun b o hb e => eb b o hb e) f0 f1 f3 f4 f5⟩
  self := fun _ _ _ _ _ st h => wpAny_pyIter_striter_ascii st h
def iText (td : TE) : TI := fun σ H R => td σ H fun x H1 => ∃ z, x = .str z ∧ z.cps.all (· < 128) = true ∧ R (Itx z) H1
section
variable {X : Cx}
theorem pi_text {tg o : Expr} {td : TE} (hp : PE X o td) : PI X tg o (iText td) := by
  intro pins s σ H R I h
  refine thn (hp pins s σ H _ I h) fun v s1 ⟨x, H1, I1, r1, q1⟩ => ?_
  obtain ⟨z, e, ha, q⟩ := q1
  subst e
  obtain ⟨t, rfl⟩ := r1
  refine wpAny_pyIter_ascii ha ?_
  have I3 := I1.kept (h' := s1.heap.push { cls := .type "str_ascii_iterator", data := .fields #[.str z t, .int 0 0] }) (t' := s1.toks) fun b u z => Heap.get?_push_of_some _ z
  refine ⟨s1.heap.objs.size, [s1.heap.objs.size], _, _, _, rfl, I3, turn_text z t _, ⟨_, Heap.get?_push_size _ rfl, rfl, rfl⟩, fun b hb' => ?_, q⟩
  rw [List.mem_singleton.mp hb']
  exact I1.fpOk (Nat.le_refl _) (I1.hok.fresh (Nat.le_refl _))
end
theorem comp_text {z : Str} {g : TG} {te : TE} {σ : St} {H1 : Hp} {acc : Addr} {Qr : Hp → Prop} (Pv : Nat → List V → St → Hp → Prop) (h0 : Pv 0 [] σ (upd H1 acc (.lst [])))
    (hs : ∀ i c xs σ H, z.cps[i]? = some c → i < z.length → xs.length = i → H acc = some (.lst xs) → Pv i xs σ H → g (.str ⟨#[c]⟩) σ H fun σ2 H2 => te σ2 H2 fun v H3 => cNx acc z.length Pv i σ2 v H3)
    (hd : ∀ xs σ H, xs.length = z.length → H acc = some (.lst xs) → Pv z.length xs σ H → Qr H) :
    ∃ W : Nat → Nat → St → Hp → Prop, (∃ m, W 0 m σ (upd H1 acc (.lst []))) ∧ ∀ i m σ1 H2, W i m σ1 H2 →
      ((Itx z).stop i H2 ∧ Qr H2) ∨ ((Itx z).go i H2 ∧ ∀ x H3, (Itx z).yld i H2 x H3 → g x σ1 H3 fun σ4 H4 => te σ4 H4 fun v H5 => ∃ xs, H5 acc = some (.lst xs) ∧ xs.length < sizeLine ∧ ∃ m', m' < m ∧ W (i + 1) m' σ4 (upd H5 acc (.lst (xs ++ [v])))) := by
  refine ⟨cW acc z.length Pv, ⟨z.length, Nat.zero_le _, rfl, [], rfl, upd_same, h0⟩, ?_⟩
  rintro i m σ1 H2 ⟨hi, rfl, xs, hl, ha, hp⟩
  rcases Nat.lt_or_ge i z.length with h | h
  · refine .inr ⟨h, ?_⟩
    rintro x H3 ⟨c, hc, rfl, rfl⟩
    exact hs i c xs σ1 _ hc h hl ha hp
  · have e : i = z.length := Nat.le_antisymm hi h
    subst e
    exact .inl ⟨Nat.le_refl _, hd xs σ1 H2 hl ha hp⟩
end L2
namespace L2
open PySem PySem.Spec PyProof.Rows
def tStrs (ks : List Str) : TA := fun _ H Q => Q (ks.map V.str) H
section
variable {X : Cx}
def strsE : List Expr → Option (List Str)
  | [] => some []
  | .Constant (.str i) _ _ :: es => (strsE es).map (i :: ·)
  | _ => none
theorem pa_strs : ∀ {es : List Expr} {ks : List Str}, strsE es = some ks → (∀ k ∈ ks, k.length ≤ 1000) → PA X es (tStrs ks)
  | [], ks, h, _ => by
    cases h
    exact pa_nil
  | .Constant (.str i) k p :: es, ks, h, hk => by
    rw [strsE] at h
    obtain ⟨r, hr, rfl⟩ := Option.map_eq_some_iff.mp h
    exact pa_cons pe_str (pa_strs hr fun k hm => hk k (List.mem_cons_of_mem _ hm))
theorem pe_lstS {es : List Expr} {ks : List Str} {pos : Pos} (h : strsE es = some ks) (hk : ∀ k ∈ ks, k.length ≤ 1000) : PE X (.List es pos) (tLst (tStrs ks)) := pe_lst (pa_strs h hk)
theorem call_sum : CallR X (.builtin "sum") (fun xs H Q => ∃ (p : Addr) (ns : List Int), xs = [.ref p] ∧ SqL X.K H p (ns.map V.int) ∧ X.calm = true ∧ Q (.int ns.sum) H) := by
  intro pins s σ H xs us Q I r h
  obtain ⟨p, ns, rfl, hp, hc, q⟩ := h
  obtain ⟨u, rfl, ru⟩ := vals1 r
  cases ru
  obtain ⟨its, rv, pl, hz⟩ := I.list hp
  have hi := intsAre_of rv
  obtain ⟨xs, hx⟩ := hi.allInts.items
  have hl' : s.heap.IsList p (intItems xs) := hx ▸ pl.isList
  refine sum_intListG (I.ok.hd hc) hl' fun h' tk t' hk => ?_
  have e1 : ns = xs.toList.map (·.1) := by
    rw [← nums_intItems, ← hx]
    exact (show numsOf its.toArray.toList = ns from hi.numsOf).symm
  have e2 : preSum (numAt xs) xs.size = ns.sum := by
    rw [preSum_eq, List.take_of_length_le (by simp), e1]
  rw [e2]
  exact ⟨.int ns.sum, H, I.kept (t' := tk) hk, ⟨t', rfl⟩, q⟩
end
end L2
namespace L2
open PySem PySem.W PyProof.Rows
def lookO {α β : Type} (oS : Program → List Str → List Str → (Shared → Bool) → Bool → Shared → α) (ms : List Str) (p q : Program) (lo : List Str) (Xt : Shared → Bool) (Yf : Shared → β) (h0 : Heap) (s : Shared) : Bool × α × β :=
  ((((staticsOk ms h0 s.heap && namesBound p s.heap) && gensDone s) && laidKept h0 s.heap), oS q lo ms Xt true s, Yf s)
noncomputable abbrev atBoot (P : Params) (os : OsState) : Shared := Shared.mk (boot_heap P) (Array.mk []) boot_drawn boot_toks os
theorem left_once {p q : Program} {lo : List Str} {Xt : Shared → Bool} {β : Type} {Yf : Shared → β} {Ya : World → β} {N m : Nat} {an : Option Value}
    (bo : ∀ w : World, Option.map (fun s => (s.heap, s.gens, s.drawn, s.toks)) (fencedOpening treeTable p w N) = some (boot_heap w.params, Array.mk [], boot_drawn, boot_toks))
    (sz : ∀ w : World, ((boot_heap w.params).isNs mainGlobals, (boot_heap w.params).objs.size, (boot_heap w.params).nsMap mainGlobals "__annotations__") = (true, m, an))
    (rn : ∀ (w : World) (os : OsState), Option.map (lookO openSeen (importedModules p.main.body) p q lo Xt Yf (boot_heap w.params)) (topRun treeTable p w m an N (atBoot w.params os) (topStub p)) = some (true, openGood q lo, Ya w)) :
    LeftO p q lo Xt Yf Ya N := by
  intro w
  obtain ⟨s0, e0, e1⟩ := Option.map_eq_some_iff.mp (bo w)
  obtain ⟨hp, gs, dr, tk, os⟩ := s0
  simp only [Prod.mk.injEq] at e1
  obtain ⟨rfl, rfl, rfl, rfl⟩ := e1
  have z := sz w
  simp only [Prod.mk.injEq] at z
  obtain ⟨z1, z2, z3⟩ := z
  obtain ⟨s1, r1, r2⟩ := Option.map_eq_some_iff.mp (rn w os)
  unfold lookO at r2
  simp only [Prod.mk.injEq] at r2
  obtain ⟨l1, l2, l3⟩ := r2
  have tf : topFrom treeTable p w N (atBoot w.params os) = some s1 := by
    unfold topFrom
    dsimp only
    rw [z1, z2, z3]
    show Option.bind (topRun treeTable p w m an N (atBoot w.params os) (topStub p)) _ = _
    rw [r1]
    show (match (((staticsOk (importedModules p.main.body) (boot_heap w.params) s1.heap && namesBound p s1.heap) && gensDone s1) && laidKept (boot_heap w.params) s1.heap) with | true => some s1 | false => none) = _
    rw [l1]
  unfold openEnds
  rw [e0]
  show Option.map _ (topFrom treeTable p w N (atBoot w.params os)) = _
  rw [tf]
  exact congrArg some (Prod.ext l2 l3)
def treeAt : List Obj → Nat → BT → BT
  | [], _, t => t
  | o :: r, i, t => treeAt r (i + 1) (t.ins i o)
def topRunT (ok : Thread → Bool) (stp : SharedT → Thread → Option (SharedT × Thread)) : Nat → SharedT → Thread → Option SharedT
  | 0, _, _ => none
  | n + 1, s, t => match through t with
    | true => some s
    | false => match ok t with
      | false => none
      | true => match stp s t with
        | some (s1, t1) => topRunT ok stp n s1 t1
        | none => none
theorem topRunT_of {tb : String → Option Builtin} {p : Program} {w : World} {m : Nat} {an : Option Value} : ∀ {n : Nat} {s s1 : SharedT} {t : Thread}, topRunT (stepOk m an) (stepT (denote tb) p w) n s t = some s1 → topRun tb p w m an n s.abs t = some s1.abs
  | 0, _, _, _, h => by cases h
  | n + 1, s, s1, t, h => by
    rw [topRunT] at h
    rw [topRun]
    cases ht : through t with
    | true => rw [ht] at h; cases h; rfl
    | false =>
      rw [ht] at h
      cases hk : stepOk m an t with
      | false => rw [hk] at h; cases h
      | true =>
        rw [hk] at h
        cases hs : stepT (denote tb) p w s t with
        | none => rw [hs] at h; cases h
        | some r =>
          obtain ⟨s2, t2⟩ := r
          rw [hs] at h
          rw [stepT_spec hs]
          exact topRunT_of h
noncomputable def bootT (P : Params) : BT := treeAt (boot_heap P).objs.toList 0 .nil
noncomputable def atBootT (P : Params) (os : OsState) : SharedT := SharedT.mk (bootT P) 11 (boot_heap P).life (Array.mk []) boot_drawn boot_toks os
theorem bootT_is (P : Params) (os : OsState) : (atBootT P os).abs = atBoot P os := by kernel_rfl
theorem ran_of {p q : Program} {lo ms : List Str} {Xt : Shared → Bool} {α β : Type} {Yf : Shared → β} {N m : Nat} {an : Option Value} {w : World} {os : OsState} {r : Bool × α × β} {oS : Program → List Str → List Str → (Shared → Bool) → Bool → Shared → α}
    (h : Option.map (fun s => lookO oS ms p q lo Xt Yf (boot_heap w.params) (SharedT.abs s)) (topRunT (stepOk m an) (stepT (denote treeTable) p w) N (atBootT w.params os) (topStub p)) = some r) :
    Option.map (lookO oS ms p q lo Xt Yf (boot_heap w.params)) (topRun treeTable p w m an N (atBoot w.params os) (topStub p)) = some r := by
  obtain ⟨s, e, z⟩ := Option.map_eq_some_iff.mp h
  have e := topRunT_of e
  rw [bootT_is] at e
  rw [e]
  exact congrArg some z
/-- by twins -/
theorem run_by {p p' : Program} {q : Program → Program} {lo : List Str} {Xt : Program → Shared → Bool} {β : Type} {Yf : Shared → β} {Ya : World → β} {N m : Nat} {an : Option Value}
    {sT : (Code → Sem Fin) → Program → World → SharedT → Thread → Option (SharedT × Thread)} {dn : (String → Option Builtin) → Code → Sem Fin} {tT : String → Option Builtin} {iM : List Stmt → List Str}
    (h1 : @stepT = sT) (h0 : @denote = dn) (h2 : treeTable = tT) (h3 : @importedModules = iM) {oS : ∀ (q : Program) (lo ms : List Str) (Xt : Shared → Bool) (g0 : Bool) (s : Shared), _} (h4 : @openSeen = oS) (h5 : p = p')
    (rn : ∀ (w : World) (os : OsState), Option.map (fun s => lookO oS (iM p'.main.body) p' (q p') lo (Xt p') Yf (boot_heap w.params) (SharedT.abs s)) (topRunT (stepOk m an) (sT (dn tT) p' w) N (atBootT w.params os) (topStub p')) = some (true, openGood (q p') lo, Ya w)) :
    ∀ (w : World) (os : OsState), Option.map (lookO openSeen (importedModules p.main.body) p (q p) lo (Xt p) Yf (boot_heap w.params)) (topRun treeTable p w m an N (atBoot w.params os) (topStub p)) = some (true, openGood (q p) lo, Ya w) := by
  subst h1 h0 h2 h3 h4 h5
  exact fun w os => ran_of (rn w os)
end L2
namespace K14
open PySem L2
def top (i : Nat) : Stmt := PySem.Challenge.pw_glazebench_k14_words_that_are_no_tree.main.body.getD i (.Pass ⟨0, 0, 0, 0⟩)
abbrev s_NoTree_init : Stmt := inClass (top 5) 0
abbrev s_Whole_init : Stmt := inClass (top 12) 0
abbrev s_Upright_init : Stmt := inClass (top 13) 0
abbrev s_Level_init : Stmt := inClass (top 14) 0
abbrev s_cut_from : Stmt := top 15
abbrev s_tree_from : Stmt := top 16
abbrev s_number_in : Stmt := top 21
abbrev s_entry_in : Stmt := top 22
abbrev s_entries_in : Stmt := top 23
abbrev s_read_tree : Stmt := top 24
abbrev s__law_at : Stmt := top 26
abbrev s__law_more : Stmt := top 27
abbrev s__law_knead : Stmt := top 28
abbrev s__law_word : Stmt := top 29
abbrev s__law_figures : Stmt := top 30
abbrev s__law_kind : Stmt := top 31
abbrev s__law_place : Stmt := top 32
abbrev s__law_read : Stmt := top 33
abbrev s__law_whole : Stmt := top 34
abbrev s__law_like : Stmt := top 35
abbrev s__law_refused : Stmt := top 36
abbrev s__law_asked : Stmt := top 37
abbrev s__law_one_odd : Stmt := top 38
abbrev s_law : Stmt := top 39
inductive Tr where
  | whole (m : Option Int)
  | cut (u : Bool) (k : Int) (x y : Tr)
def Tr.dp : Tr → Nat
  | .whole _ => 0
  | .cut _ _ x y => max x.dp y.dp + 1
def wd : Bool → Str
  | true => "upright"
  | false => "level"
theorem wd_dec (u v : Bool) : decide (V.str (wd u) = V.str (wd v)) = (u == v) := by cases u <;> cases v <;> decide +kernel
theorem wd_whole (u : Bool) : decide (V.str (wd u) = V.str "whole") = false := by cases u <;> decide +kernel
def markV : Option Int → V
  | none => .non
  | some i => .int i
/-- a tree as the law tells it: nested tuples -/
def Told (H : Hp) : Tr → V → Prop
  | .whole m, v => ∃ a, v = .ref a ∧ H a = some (.tup [.str "whole", markV m])
  | .cut u k x y, v => ∃ a vx vy, v = .ref a ∧ H a = some (.tup [.str (wd u), .int k, vx, vy]) ∧ Told H x vx ∧ Told H y vy
theorem Told.same {H H' : Hp} (s : Same H H') : ∀ {t : Tr} {v : V}, Told H t v → Told H' t v
  | .whole m, v, h => by
    rw [Told] at h ⊢
    obtain ⟨a, e, h⟩ := h
    exact ⟨a, e, s _ _ h⟩
  | .cut u k x y, v, h => by
    rw [Told] at h ⊢
    obtain ⟨a, vx, vy, e, h, h1, h2⟩ := h
    exact ⟨a, vx, vy, e, s _ _ h, Told.same s h1, Told.same s h2⟩
/-- ints as data -/
def intsD : List Int → Ds
  | [] => .nil
  | i :: r => .cons (.at (.int i)) (intsD r)
theorem intsD_is {K : PySem.W.Frag} {H : Hp} : ∀ (ns : List Int), DIss K H (intsD ns) (ns.map V.int)
  | [] => by
    show DIss K H .nil []
    rw [DIss]
  | i :: r => by
    show DIss K H (.cons (.at (.int i)) (intsD r)) (.int i :: r.map V.int)
    rw [DIss]
    exact ⟨_, _, rfl, by rw [DIs]; exact ⟨rfl, rfl⟩, intsD_is r⟩
theorem intsD_dep : ∀ (ns : List Int), deps (intsD ns) = 0
  | [] => by rw [intsD, deps]
  | i :: r => by rw [intsD, deps, dep, intsD_dep r]; rfl
theorem intsD_nil : ∀ (ns : List Int), deqs (intsD ns) .nil = decide (ns = [])
  | [] => by rw [intsD, deqs]; rfl
  | i :: r => by rw [intsD, deqs] <;> simp
theorem intsL {K : PySem.W.Frag} {H : Hp} {a : Addr} {ns : List Int} (h : SqL K H a (ns.map V.int)) : DIs K H (.lst (intsD ns)) (.ref a) := by
  rw [DIs]
  exact ⟨a, _, rfl, h, intsD_is _⟩
theorem nilL {K : PySem.W.Frag} {H : Hp} {a : Addr} (h : H a = some (.lst [])) : DIs K H (.lst .nil) (.ref a) := by
  rw [DIs]
  exact ⟨a, [], rfl, SqL.of h, by rw [DIss]⟩
theorem intsL_dep (ns : List Int) : dep (.lst (intsD ns)) ≤ 50 := by rw [dep, intsD_dep]; first | lia | omega
def Tr.cs : Tr → Nat
  | .whole _ => 0
  | .cut _ _ x y => x.cs + y.cs + 1
def MkB (m : Option Int) : Prop := ∀ i, m = some i → 0 ≤ i ∧ i ≤ 999
def Wd : Tr → Prop
  | .whole m => MkB m
  | .cut _ k x y => 1 ≤ k ∧ k ≤ 11 ∧ Wd x ∧ Wd y
def sp_at (K : PySem.W.Frag) : Sp := fun vs H Q _ => ∃ (a : Addr) (ns : List Int) (k : Int), vs = [.ref a, .int k] ∧ SqL K H a (ns.map V.int) ∧ 0 ≤ k ∧ k < 1000 ∧ ∀ z H', Same H H' → Q (.int z) H'
def sp_more (K : PySem.W.Frag) : Sp := fun vs H Q _ => ∃ (a : Addr) (ns : List Int) (k m : Int), vs = [.ref a, .int k, .int m] ∧ SqL K H a (ns.map V.int) ∧ 0 ≤ k ∧ k ≤ 100 ∧ 0 ≤ m ∧ m ≤ 100 ∧ ∀ l ms H', Same H H' → H l = none → H' l = some (.lst ((ms : List Int).map V.int)) → (ms.length : Int) = m → Q (.ref l) H'
def sp_knead : Sp := fun vs H Q _ => ∃ (n b : Int), vs = [.int n, .int b] ∧ 0 ≤ b ∧ b ≤ 100 ∧ ∀ r, 0 ≤ r → Q (.int r) H
structure Txt (mg : Str → Option Value) (tk : Tok × Tok × Tok × Tok × Tok × Tok × Tok) : Prop where
  z_isinstance : mg "isinstance" = none
  z_int : mg "int" = none
  z_bool : mg "bool" = none
  z_len : mg "len" = none
  z_abs : mg "abs" = none
  z_range : mg "range" = none
  z_str : mg "str" = none
  z_all : mg "all" = none
  z_enumerate : mg "enumerate" = none
  z_max : mg "max" = none
  z_sum : mg "sum" = none
  z_ValueError : mg "ValueError" = none
  z_reversed : mg "reversed" = none
  g_WHOLE : mg "WHOLE" = some (.str "whole" tk.1)
  g_UPRIGHT : mg "UPRIGHT" = some (.str "upright" tk.2.1)
  g_LEVEL : mg "LEVEL" = some (.str "level" tk.2.2.1)
  g_FIGURES : mg "FIGURES" = some (.str "0123456789" tk.2.2.2.1)
  g_MARK_FIGURES : mg "MARK_FIGURES" = some (.int 3 tk.2.2.2.2.1)
  g_MOST_WORDS : mg "MOST_WORDS" = some (.int 103 tk.2.2.2.2.2.1)
  g_LONGEST_SIDE : mg "LONGEST_SIDE" = some (.int 12 tk.2.2.2.2.2.2)
theorem at0 {x0 x1 x2 x3 : V} : atI [x0, x1, x2, x3] 0 = some x0 := rfl
theorem at1 {x0 x1 x2 x3 : V} : atI [x0, x1, x2, x3] 1 = some x1 := rfl
theorem at2 {x0 x1 x2 x3 : V} : atI [x0, x1, x2, x3] 2 = some x2 := rfl
theorem at3 {x0 x1 x2 x3 : V} : atI [x0, x1, x2, x3] 3 = some x3 := rfl
theorem at2_0 {x0 x1 : V} : atI [x0, x1] 0 = some x0 := rfl
theorem at2_1 {x0 x1 : V} : atI [x0, x1] 1 = some x1 := rfl
theorem pow18 : CPow 10 18 := ⟨by decide, by decide, by decide⟩
theorem divL {j : Int} (z : Int) (h : 0 < j) (h2 : j < 18446744073709551616) : CDivL z j := ⟨h, Nat.lt_trans (log2_lt_of (k := 64) (by decide) (by first | lia | omega)) (by decide)⟩
theorem mul64 {a b : Int} (h1 : -18446744073709551616 < a) (h2 : a < 18446744073709551616) (h3 : -18446744073709551616 < b) (h4 : b < 18446744073709551616) : IntMulOk a b := by
  have c : (2 : Nat) ^ 128 = 340282366920938463463374607431768211456 := by decide +kernel
  refine mulOk_of ?_ ?_ <;> rw [c] <;> first | lia | omega
section
variable {P : Program} {w : World} {K : PySem.W.Frag} {mg : Str → Option Value} {base : Heap} {tk : Tok × Tok × Tok × Tok × Tok × Tok × Tok} {cT cW cU cL : Addr}
theorem S_law_at : FnScope ["_law_script", "_law_k", "_law_cell"] ["_law_script", "_law_k"] (defScope s__law_at) := ⟨rfl, rfl, rfl, by decide +kernel, rfl, by decide +kernel, by decide +kernel⟩
theorem at_ints {ns : List Int} {k : Int} (h0 : 0 ≤ k) (h1 : k < (ns.length : Int)) : ∃ z, atI (ns.map V.int) k = some (.int z) := by
  have hk : k.toNat < ns.length := by first | lia | omega
  have hz : (ns.map V.int)[k.toNat]? = some (.int ns[k.toNat]) := by rw [List.getElem?_map, List.getElem?_eq_getElem hk]; rfl
  have e := atI_nat hz
  rw [Int.toNat_of_nonneg h0] at e
  exact ⟨_, e⟩
theorem ok_law_at {f : Addr} {fd : FuncData} (F : Fun K "_law_at" "_law_at" s__law_at f fd) (T : Txt mg tk) : FnOk P w K mg base CX0 1 f fd ["_law_script", "_law_k"] (sp_at K) := by
  have S := S_law_at
  refine F.ok S (fun vs H Q E h => ?_) (fun cdv A outer s H vs Q E hr h => ?_)
  · obtain ⟨a, ns, k, rfl, _⟩ := h; rfl
  · obtain ⟨a, ns, k, rfl, hS, hk0, hk1, q⟩ := h
    refine ⟨_, (pss_cons (ps_if (pt_cmpR op_lt (pv 1) (pe_callB call_len_seq rfl T.z_len rfl (pa_cons (pv 0) pa_nil)) (nomark _)) (pss_one (ps_ret (pe_ix ix_list (pv 0) (pv 1) (fun _ _ => rfl)))) pss_nil)
      (pss_cons (ps_set (i := 2) S.nd rfl (Or.inl rfl) pe_int)
      (pss_cons (ps_if (pt_cmpR (op_neD hr) (pv 0) (pe_lst pa_nil) (nomark _)) (pss_one (ps_set (i := 2) S.nd rfl (Or.inl rfl) (pe_ix ix_list (pv 0) (pe_op op_mod (pv 1) (pe_callB call_len_seq rfl T.z_len rfl (pa_cons (pv 0) pa_nil))) (fun _ _ => rfl)))) pss_nil)
      (pss_one (ps_ret (pe_op op_mod (pe_op op_mulL (pe_op op_add (pe_op op_add (pe_op op_mod (pv 2) pe_int) (pe_op op_mulL pe_int (pv 1))) pe_int) pe_int) pe_int)))))), ?_⟩
    have fin : ∀ z : Int, IntMulOk (z % 1000003 + 104729 * k + 13) 48271 := fun z => by
      have a := Int.emod_nonneg z (b := 1000003) (by decide)
      have b := Int.emod_lt_of_pos z (b := 1000003) (by decide)
      exact mul64 (by first | lia | omega) (by first | lia | omega) (by decide) (by decide)
    refine ⟨_, rfl, _, rfl, a, _, rfl, .inl hS, _, _, rfl, rfl, _, rfl, ite3 (fun h => ?_) (fun h => ?_)⟩
    · have h' := of_decide_eq_true h
      rw [List.length_map] at h'
      obtain ⟨z, hz⟩ := at_ints hk0 h'
      exact ⟨_, rfl, _, rfl, a, _, _, _, rfl, rfl, hS, hz, q _ H (Same.refl H)⟩
    · refine ⟨_, rfl, lenOk 0, fun e he => ?_⟩
      have s1 : Same H (upd H e (.lst [])) := Same.new he
      have e1 : (upd H e (.lst [])) e = some (.lst []) := upd_same
      generalize upd H e (.lst []) = H1 at s1 e1 ⊢
      refine ⟨_, _, intsL (s1.seq hS), nilL e1, ⟨_, rfl⟩, ⟨_, rfl⟩, intsL_dep _, _, rfl, ite3 (fun h1 => ?_) (fun h1 => ?_)⟩
      · rw [if_pos rfl, deq, intsD_nil] at h1
        have hne : ns ≠ [] := fun z => by rw [decide_eq_true z] at h1; cases h1
        have hpos : 0 < ns.length := List.length_pos_iff.mpr hne
        obtain ⟨z, hz⟩ := at_ints (ns := ns) (k := k % (((ns.map V.int).length : Nat) : Int)) (Int.emod_nonneg _ (by rw [List.length_map]; first | lia | omega)) (by rw [List.length_map]; exact Int.emod_lt_of_pos _ (by first | lia | omega))
        refine ⟨_, rfl, _, rfl, _, rfl, a, _, rfl, .inl (s1.seq hS), _, _, rfl, rfl, (by rw [List.length_map]; first | lia | omega), a, _, _, _, rfl, rfl, s1.seq hS, hz, ?_⟩
        exact ⟨_, rfl, _, _, rfl, rfl, (show (0 : Int) < 1000003 from by decide), _, rfl, _, _, rfl, rfl, mul64 (by decide) (by decide) (by first | lia | omega) (by first | lia | omega), _, _, rfl, rfl, _, _, rfl, rfl, _, _, rfl, rfl, fin _, _, _, rfl, rfl, (show (0 : Int) < 2147483647 from by decide), q _ H1 s1⟩
      · exact ⟨_, rfl, _, _, rfl, rfl, (show (0 : Int) < 1000003 from by decide), _, rfl, _, _, rfl, rfl, mul64 (by decide) (by decide) (by first | lia | omega) (by first | lia | omega), _, _, rfl, rfl, _, _, rfl, rfl, _, _, rfl, rfl, fin _, _, _, rfl, rfl, (show (0 : Int) < 2147483647 from by decide), q _ H1 s1⟩
theorem S_law_more : FnScope ["_law_script", "_law_at_here", "_law_many"] ["_law_script", "_law_at_here", "_law_many"] (defScope s__law_more) := ⟨rfl, rfl, rfl, by decide +kernel, rfl, by decide +kernel, by decide +kernel⟩
theorem ok_law_more {f : Addr} {fd : FuncData} (F : Fun K "_law_more" "_law_more" s__law_more f fd) (T : Txt mg tk) (D__law_at : DefOk P w K mg base 1 "_law_at" ["_law_script", "_law_k"] (sp_at K)) : FnOk P w K mg base CX0 2 f fd ["_law_script", "_law_at_here", "_law_many"] (sp_more K) := by
  have S := S_law_more
  refine F.ok S (fun vs H Q E h => ?_) (fun cdv A outer s H vs Q E hr h => ?_)
  · obtain ⟨a, ns, k, m, rfl, _⟩ := h; rfl
  · obtain ⟨a, ns, k, m, rfl, hS, k0, k1, m0, m1, q⟩ := h
    refine ⟨_, (pss_one (ps_ret (pe_comp rfl (pi_range1 rfl T.z_range (pa_cons (pv 2) pa_nil)) (fun _ _ _ _ _ => (pg_name (i := 0) (show List.Nodup (["_law_k", "_law_script", "_law_at_here"] : List Str) from by decide +kernel) rfl (Or.inl rfl))) (fun _ _ _ _ _ => (pe_fn D__law_at hr (pa_cons (pv 1) (pa_cons (pe_op op_add (pv 2) (pv 0)) pa_nil)))) (N := ["_law_k", "_law_script", "_law_at_here"]) (fr := [none, some 0, some 1])))), ?_⟩
    refine ⟨_, rfl, m, rfl, by first | lia | omega, by first | lia | omega, fun acc hacc => comp_range (lo := 0) (n := m.toNat)
      (fun i xs σ H' => (∃ y, σ = [y, some (.ref a), some (.int k)]) ∧ Same H H' ∧ ∃ ms : List Int, xs = ms.map V.int) ⟨⟨none, rfl⟩, Same.new hacc, [], rfl⟩ ?_ ?_⟩
    · rintro i xs σ H' hi hl hacc' ⟨⟨y, rfl⟩, hs, ms, rfl⟩
      refine ⟨_, rfl, _, rfl, _, rfl, _, _, rfl, rfl, a, ns, _, rfl, hs.seq hS, by first | lia | omega, by first | lia | omega, fun z H2 s2 => cNx.mk (Nat.le_of_lt (small1000 (by first | lia | omega))) hi hl (s2 _ _ hacc') ⟨⟨_, rfl⟩, fun b o e => ?_, ms ++ [z], by rw [List.map_append]; rfl⟩⟩
      rw [upd_ne (ne_of_none e hacc)]; exact s2 b o (hs b o e)
    · rintro xs σ H' hl hacc' ⟨_, hs, ms, rfl⟩
      exact q acc ms H' hs hacc hacc' (by rw [List.length_map] at hl; first | lia | omega)
theorem S_law_knead : FnScope ["_law_number", "_law_by", "_law_digits", "_law_k", "_law_found"] ["_law_number", "_law_by"] (defScope s__law_knead) := ⟨rfl, rfl, rfl, by decide +kernel, rfl, by decide +kernel, by decide +kernel⟩
theorem ok_law_knead {f : Addr} {fd : FuncData} (F : Fun K "_law_knead" "_law_knead" s__law_knead f fd) (T : Txt mg tk) : FnOk P w K mg base CX0 1 f fd ["_law_number", "_law_by"] sp_knead := by
  have S := S_law_knead
  refine F.ok S (fun vs H Q E h => ?_) (fun cdv A outer s H vs Q E hr h => ?_)
  · obtain ⟨n, b, rfl, _⟩ := h; rfl
  · obtain ⟨n, b, rfl, b0, b1, q⟩ := h
    obtain ⟨tt, htt, fin⟩ : ∃ rd, PSs (cxOf CX0 P w K mg base ["_law_number", "_law_by", "_law_digits", "_law_k", "_law_found"] "_law_knead" (defScope s__law_knead) f cdv A outer s H E).nox ((defBody s__law_knead).drop 2) rd ∧
        ∀ (d : Int) (x3 : Option V), 0 ≤ d → rd { nx := fun _ H' => Q .non H', rt := Q } [some (.int n), some (.int b), some (.int d), x3, none] H := by
      refine ⟨_, (pss_cons (ps_if (pt_cmpR op_gt (pv 2) pe_int (nomark _)) (pss_one (ps_ret (pe_op op_mod (pv 2) pe_int))) pss_nil)
      (pss_cons (ps_set (i := 0) S.nd rfl (Or.inl rfl) (pe_op op_add (pe_op op_mod (pv 0) pe_int) (pe_op op_mulL pe_int (pv 1))))
      (pss_cons (ps_set (i := 4) S.nd rfl (Or.inl rfl) (pe_op op_add pe_int (pv 1)))
      (pss_cons (ps_for PassesOwn.never rfl (pi_range1 rfl T.z_range (pa_cons pe_int pa_nil)) (pg_name (i := 3) S.nd rfl (Or.inl rfl)) (pss_cons (ps_set (i := 4) S.nd rfl (Or.inl rfl) (pe_op op_mod (pe_op op_mulL (pe_op op_add (pe_op op_mulL (pv 4) pe_int) (pv 0)) (pe_op op_add (pe_op op_mod (pv 0) pe_int) pe_int)) pe_int))
      (pss_one (ps_set (i := 0) S.nd rfl (Or.inl rfl) (pe_op op_add (pe_op op_add (pe_op op_fdivL (pv 0) pe_int) (pe_op op_mod (pv 4) pe_int)) (pv 3))))))
      (pss_one (ps_ret (pv 4))))))), ?_⟩
      intro d x3 d0
      refine ⟨_, rfl, _, _, rfl, rfl, _, rfl, ite3 (fun h => ?_) (fun h => ?_)⟩
      · exact ⟨_, rfl, _, _, rfl, rfl, (show (0 : Int) < 1000000000 from by decide), q _ (Int.emod_nonneg _ (by decide))⟩
      · have a := Int.emod_nonneg n (b := 900001) (by decide)
        have c := Int.emod_lt_of_pos n (b := 900001) (by decide)
        refine ⟨_, rfl, _, _, rfl, rfl, (show (0 : Int) < 900001 from by decide), _, rfl, _, _, rfl, rfl, mul64 (by decide) (by decide) (by first | lia | omega) (by first | lia | omega), _, _, rfl, rfl, _, rfl, _, _, rfl, rfl, 3, rfl, by decide, by decide, ?_⟩
        refine for_range (lo := 0) (n := (3 : Int).toNat) (fun i σ H' => H' = H ∧ ∃ N F x2 x3, σ = [some (.int N), some (.int b), x2, x3, some (.int F)] ∧ 0 ≤ N ∧ N ≤ 1000000 ∧ 0 ≤ F ∧ F ≤ 715827883) ⟨rfl, _, _, _, _, rfl, by first | lia | omega, by first | lia | omega, by first | lia | omega, by first | lia | omega⟩ ?_ ?_
        · rintro i σ H' hi ⟨rfl, N, F, x2, x3, rfl, n0, n1, f0, f1⟩
          have hi3 : i < 3 := hi
          have m0 := Int.emod_nonneg N (b := 8887) (by decide)
          have m1 := Int.emod_lt_of_pos N (b := 8887) (by decide)
          refine ⟨_, rfl, _, _, rfl, rfl, mul64 (by first | lia | omega) (by first | lia | omega) (by decide) (by decide), _, rfl, _, _, rfl, rfl, _, rfl, _, _, rfl, rfl, (show (0 : Int) < 8887 from by decide), _, _, rfl, rfl, _, _, rfl, rfl, mul64 (by first | lia | omega) (by first | lia | omega) (by first | lia | omega) (by first | lia | omega), _, _, rfl, rfl, (show (0 : Int) < 715827883 from by decide), ?_⟩
          have g0 := Int.emod_nonneg ((F * 8191 + N) * (N % 8887 + 5501)) (b := 715827883) (by decide)
          have g1 := Int.emod_lt_of_pos ((F * 8191 + N) * (N % 8887 + 5501)) (b := 715827883) (by decide)
          generalize (F * 8191 + N) * (N % 8887 + 5501) % 715827883 = F' at g0 g1 ⊢
          refine ⟨_, rfl, _, _, rfl, rfl, divL _ (by decide) (by decide), _, rfl, _, _, rfl, rfl, (show (0 : Int) < 1013 from by decide), _, _, rfl, rfl, _, rfl, _, _, rfl, rfl, rfl, _, _, _, _, rfl, ?_, ?_, by first | lia | omega, by first | lia | omega⟩
          · first | lia | omega
          · first | lia | omega
        · rintro σ H' ⟨rfl, N, F, x2, x3, rfl, n0, n1, f0, f1⟩
          exact ⟨_, rfl, q _ f0⟩
    refine ⟨_, (pss_cons (ps_set (i := 2) S.nd rfl (Or.inl rfl) pe_int)
      (pss_cons (ps_if (PW.pt (pw_or (pt_cmpR op_lt (pv 0) pe_int (nomark _)) (pw_or1 (pt_cmpR op_ge (pv 0) (pe_op op_pow pe_int pe_int) (nomark _))))) (pss_cons (ps_set (i := 2) S.nd rfl (Or.inl rfl) (pe_callB call_abs rfl T.z_abs rfl (pa_cons (pv 0) pa_nil)))
      (pss_one (ps_for PassesOwn.never rfl (pi_range1 rfl T.z_range (pa_cons (pv 1) pa_nil)) (pg_name (i := 3) S.nd rfl (Or.inl rfl)) (pss_one (ps_set (i := 2) S.nd rfl (Or.inl rfl) (pe_op op_fdivL (pv 2) pe_int)))))) pss_nil)
      htt)), ?_⟩
    have loop : ∀ (d : Int), 0 ≤ d → (if d < 0 then -d else d) = d := fun d h => by rw [if_neg (by first | lia | omega)]
    refine ⟨_, rfl, _, _, rfl, rfl, _, rfl, ite3 (fun h => ?_) (fun h => ?_)⟩
    · refine iteT ⟨_, rfl, _, rfl, _, rfl, b, rfl, by first | lia | omega, by first | lia | omega, for_range (lo := 0) (n := b.toNat) (fun i σ H' => H' = H ∧ ∃ d x3, σ = [some (.int n), some (.int b), some (.int d), x3, none] ∧ 0 ≤ d) ⟨rfl, _, _, rfl, by split <;> first | lia | omega⟩ ?_ ?_⟩
      · rintro i σ H' hi ⟨rfl, d, x3, rfl, d0⟩
        exact ⟨_, rfl, _, _, rfl, rfl, divL _ (by decide) (by decide), rfl, _, _, rfl, by first | lia | omega⟩
      · rintro σ H' ⟨rfl, d, x3, rfl, d0⟩
        exact fin d x3 d0
    · refine ⟨_, rfl, _, _, rfl, rfl, pow18, _, _, rfl, rfl, _, rfl, ite3 (fun h1 => ?_) (fun h1 => fin 0 none (by first | lia | omega))⟩
      refine ⟨_, rfl, _, rfl, _, rfl, b, rfl, by first | lia | omega, by first | lia | omega, for_range (lo := 0) (n := b.toNat) (fun i σ H' => H' = H ∧ ∃ d x3, σ = [some (.int n), some (.int b), some (.int d), x3, none] ∧ 0 ≤ d) ⟨rfl, _, _, rfl, by split <;> first | lia | omega⟩ ?_ ?_⟩
      · rintro i σ H' hi ⟨rfl, d, x3, rfl, d0⟩
        exact ⟨_, rfl, _, _, rfl, rfl, divL _ (by decide) (by decide), rfl, _, _, rfl, by first | lia | omega⟩
      · rintro σ H' ⟨rfl, d, x3, rfl, d0⟩
        exact fin d x3 d0
def cutC (cU cL : Addr) (u : Bool) : Addr := if u then cU else cL
abbrev wF (m : V) : List (Str × V) := putF "mark" m []
abbrev cF (k : Int) (vx vy : V) : List (Str × V) := putF "other" vy (putF "first" vx (putF "at" (.int k) []))
def Obj (cW cU cL : Addr) (H : Hp) : Tr → V → Prop
  | .whole m, v => ∃ a dx, v = .ref a ∧ H a = some (.ins cW dx (wF (markV m)))
  | .cut u k x y, v => ∃ a dx vx vy, v = .ref a ∧ H a = some (.ins (cutC cU cL u) dx (cF k vx vy)) ∧ Obj cW cU cL H x vx ∧ Obj cW cU cL H y vy
theorem Obj.same {H H' : Hp} (s : Same H H') : ∀ {t : Tr} {v : V}, Obj cW cU cL H t v → Obj cW cU cL H' t v
  | .whole m, v, h => by
    rw [Obj] at h ⊢
    obtain ⟨a, dx, e, h⟩ := h
    exact ⟨a, dx, e, s _ _ h⟩
  | .cut u k x y, v, h => by
    rw [Obj] at h ⊢
    obtain ⟨a, dx, vx, vy, e, h, h1, h2⟩ := h
    exact ⟨a, dx, vx, vy, e, s _ _ h, Obj.same s h1, Obj.same s h2⟩
/-- what the walk asks of the classes -/
structure RT (mg : Str → Option Value) (K : PySem.W.Frag) (cT cW cU cL : Addr) : Prop where
  g_Tree : mg "Tree" = some (.ref cT)
  g_Whole : mg "Whole" = some (.ref cW)
  g_Upright : mg "Upright" = some (.ref cU)
  g_Level : mg "Level" = some (.ref cL)
  iW : ICls K cW
  iC : ∀ u, ICls K (cutC cU cL u)
  n_mark : NoAttr K cW "mark"
  n_at : ∀ u, NoAttr K (cutC cU cL u) "at"
  n_first : ∀ u, NoAttr K (cutC cU cL u) "first"
  n_other : ∀ u, NoAttr K (cutC cU cL u) "other"
  kWW : PySem.W.kitOne K (.ref cW) (.ref cW) = some true
  kWC : ∀ u, PySem.W.kitOne K (.ref cW) (.ref (cutC cU cL u)) = some false
  kCW : ∀ u, PySem.W.kitOne K (.ref (cutC cU cL u)) (.ref cW) = some false
  kCC : ∀ u v, PySem.W.kitOne K (.ref (cutC cU cL u)) (.ref (cutC cU cL v)) = some (u == v)
  kWT : PySem.W.kitOne K (.ref cW) (.ref cT) = some true
  kCT : ∀ u, PySem.W.kitOne K (.ref (cutC cU cL u)) (.ref cT) = some true
def sp_iW (C : Addr) : Sp := fun vs H Q _ => ∃ (a dx : Addr) (m : V), vs = [.ref a, m] ∧ H a = some (.ins C dx []) ∧ Q .non (upd H a (.ins C dx (wF m)))
def sp_iC (C : Addr) : Sp := fun vs H Q _ => ∃ (a dx : Addr) (k : Int) (vx vy : V), vs = [.ref a, .int k, vx, vy] ∧ H a = some (.ins C dx []) ∧ ∀ H', SameX a H H' → H' a = some (.ins C dx (cF k vx vy)) → Q .non H'
theorem S_Whole_init : FnScope ["self", "mark"] ["self", "mark"] (defScope s_Whole_init) := ⟨rfl, rfl, rfl, by decide +kernel, rfl, by decide +kernel, by decide +kernel⟩
theorem ok_Whole_init {f : Addr} {fd : FuncData} (F : FunD K "__init__" "Whole.__init__" s_Whole_init f fd) (R : RT mg K cT cW cU cL) : FnOk P w K mg base CX0 1 f fd ["self", "mark"] (sp_iW cW) := by
  have S := S_Whole_init
  refine F.ok S (fun vs H Q E h => ?_) (fun cdv A outer s H vs Q E hr h => ?_)
  · obtain ⟨a, dx, m, rfl, _⟩ := h; rfl
  · obtain ⟨a, dx, m, rfl, ha, q⟩ := h
    refine ⟨_, (pss_one (ps_fld (pv 0) (pv 1) rfl)), ?_⟩
    exact ⟨_, rfl, _, rfl, a, cW, dx, _, rfl, ha, R.iW.cl, R.n_mark, (by show 0 < 1000; decide), q⟩
theorem S_Upright_init : FnScope ["self", "at", "first", "other"] ["self", "at", "first", "other"] (defScope s_Upright_init) := ⟨rfl, rfl, rfl, by decide +kernel, rfl, by decide +kernel, by decide +kernel⟩
theorem ok_Upright_init {f : Addr} {fd : FuncData} (F : Fun K "__init__" "Upright.__init__" s_Upright_init f fd) (R : RT mg K cT cW cU cL) : FnOk P w K mg base CX0 1 f fd ["self", "at", "first", "other"] (sp_iC cU) := by
  have S := S_Upright_init
  refine F.ok S (fun vs H Q E h => ?_) (fun cdv A outer s H vs Q E hr h => ?_)
  · obtain ⟨a, dx, k, vx, vy, rfl, _⟩ := h; rfl
  · obtain ⟨a, dx, k, vx, vy, rfl, ha, q⟩ := h
    refine ⟨_, (pss_cons (ps_fld (pv 0) (pv 1) rfl)
      (pss_cons (ps_fld (pv 0) (pv 2) rfl)
      (pss_one (ps_fld (pv 0) (pv 3) rfl)))), ?_⟩
    refine ⟨_, rfl, _, rfl, a, cU, dx, _, rfl, ha, (R.iC true).cl, R.n_at true, (by show 0 < 1000; decide), ?_⟩
    refine ⟨_, rfl, _, rfl, a, cU, dx, _, rfl, upd_same, (R.iC true).cl, R.n_first true, (by show 1 < 1000; decide), ?_⟩
    refine ⟨_, rfl, _, rfl, a, cU, dx, _, rfl, upd_same, (R.iC true).cl, R.n_other true, (by show 2 < 1000; decide), ?_⟩
    exact q _ ((SameX.upd.trans SameX.upd).trans SameX.upd) upd_same
theorem S_Level_init : FnScope ["self", "at", "first", "other"] ["self", "at", "first", "other"] (defScope s_Level_init) := ⟨rfl, rfl, rfl, by decide +kernel, rfl, by decide +kernel, by decide +kernel⟩
theorem ok_Level_init {f : Addr} {fd : FuncData} (F : Fun K "__init__" "Level.__init__" s_Level_init f fd) (R : RT mg K cT cW cU cL) : FnOk P w K mg base CX0 1 f fd ["self", "at", "first", "other"] (sp_iC cL) := by
  have S := S_Level_init
  refine F.ok S (fun vs H Q E h => ?_) (fun cdv A outer s H vs Q E hr h => ?_)
  · obtain ⟨a, dx, k, vx, vy, rfl, _⟩ := h; rfl
  · obtain ⟨a, dx, k, vx, vy, rfl, ha, q⟩ := h
    refine ⟨_, (pss_cons (ps_fld (pv 0) (pv 1) rfl)
      (pss_cons (ps_fld (pv 0) (pv 2) rfl)
      (pss_one (ps_fld (pv 0) (pv 3) rfl)))), ?_⟩
    refine ⟨_, rfl, _, rfl, a, cL, dx, _, rfl, ha, (R.iC false).cl, R.n_at false, (by show 0 < 1000; decide), ?_⟩
    refine ⟨_, rfl, _, rfl, a, cL, dx, _, rfl, upd_same, (R.iC false).cl, R.n_first false, (by show 1 < 1000; decide), ?_⟩
    refine ⟨_, rfl, _, rfl, a, cL, dx, _, rfl, upd_same, (R.iC false).cl, R.n_other false, (by show 2 < 1000; decide), ?_⟩
    exact q _ ((SameX.upd.trans SameX.upd).trans SameX.upd) upd_same
theorem made_same {H : Hp} {x dx : Addr} {o1 o2 : HO} (hx : H x = none) (hd : H dx = none) : Same H (upd (upd H dx o1) x o2) := fun b o e => by
  rw [upd_ne (ne_of_none e hx), upd_ne (ne_of_none e hd)]; exact e
theorem S_law_whole : FnScope ["_law_found", "_law_due"] ["_law_found", "_law_due"] (defScope s__law_whole) := ⟨rfl, rfl, rfl, by decide +kernel, rfl, by decide +kernel, by decide +kernel⟩
def sp_lwhole : Sp := fun vs H Q _ => ∃ (i j : Int), vs = [.int i, .int j] ∧ Q (.bl (decide (V.int i = V.int j))) H
theorem ok_law_whole {f : Addr} {fd : FuncData} (F : Fun K "_law_whole" "_law_whole" s__law_whole f fd) (T : Txt mg tk) : FnOk P w K mg base CX0 1 f fd ["_law_found", "_law_due"] sp_lwhole := by
  have S := S_law_whole
  refine F.ok S (fun vs H Q E h => ?_) (fun cdv A outer s H vs Q E hr h => ?_)
  · obtain ⟨i, j, rfl, _⟩ := h; rfl
  · obtain ⟨i, j, rfl, q⟩ := h
    refine ⟨_, (pss_one (ps_ret (pe_and (pe_callB call_isin rfl T.z_isinstance rfl (pa_cons (pv 0) (pa_cons (pe_bltn (v := .ty "int") rfl T.z_int rfl rfl) pa_nil))) (pe_and (pe_not (pe_callB call_isin rfl T.z_isinstance rfl (pa_cons (pv 0) (pa_cons (pe_bltn (v := .ty "bool") rfl T.z_bool rfl rfl) pa_nil)))) (pe_one (pe_cmpR op_eq (pv 0) (pv 1) (nomark _))))))), ?_⟩
    refine ⟨_, rfl, _, "int", "int", rfl, rfl, .inl rfl, _, rfl, iteP (by decide) ?_⟩
    refine ⟨_, rfl, _, "int", "bool", rfl, rfl, .inr (.inl rfl), _, rfl, _, rfl, iteP (by decide) ?_⟩
    exact ⟨_, rfl, _, rfl, rfl, q⟩
theorem decI1 (i : Int) : decide (V.int i = V.int i) = true := decide_eq_true rfl
theorem fW (m : V) : (wF m).lookup ("mark" : Str) = some m := by rw [lookup_putF, if_pos rfl]
theorem fC_at (k : Int) (vx vy : V) : (cF k vx vy).lookup ("at" : Str) = some (.int k) := by rw [lookup_putF, if_neg (by decide +kernel), lookup_putF, if_neg (by decide +kernel), lookup_putF, if_pos rfl]
theorem fC_first (k : Int) (vx vy : V) : (cF k vx vy).lookup ("first" : Str) = some vx := by rw [lookup_putF, if_neg (by decide +kernel), lookup_putF, if_pos rfl]
theorem fC_other (k : Int) (vx vy : V) : (cF k vx vy).lookup ("other" : Str) = some vy := by rw [lookup_putF, if_pos rfl]
def sp_like (cW cU cL : Addr) (n : Nat) : Sp := fun vs H Q _ => ∃ (v v' : V) (t : Tr), vs = [v, v'] ∧ Obj cW cU cL H t v ∧ Told H t v' ∧ t.dp < n ∧ Q (.bl true) H
theorem like0 {vs : List V} {H : Hp} {Q : VK} {E : XK} : ¬ sp_like cW cU cL 0 vs H Q E := by
  rintro ⟨v, v', t, _, _, _, h, _⟩
  first | lia | omega
theorem S_law_like : FnScope ["_law_tree", "_law_told"] ["_law_tree", "_law_told"] (defScope s__law_like) := ⟨rfl, rfl, rfl, by decide +kernel, rfl, by decide +kernel, by decide +kernel⟩
theorem refU {C : Addr} : ∀ u', RelV (.ref C) u' → u' = .ref C := fun _ z => z
theorem ok_law_like {f : Addr} {fd : FuncData} {n : Nat} (F : Fun K "_law_like" "_law_like" s__law_like f fd) (T : Txt mg tk) (R : RT mg K cT cW cU cL) (D__law_whole : DefOk P w K mg base 1 "_law_whole" ["_law_found", "_law_due"] sp_lwhole) (D__law_like : DefOk P w K mg base (n + 3) "_law_like" ["_law_tree", "_law_told"] (sp_like cW cU cL n)) :
    FnOk P w K mg base CX0 (n + 4) f fd ["_law_tree", "_law_told"] (sp_like cW cU cL (n + 1)) := by
  have S := S_law_like
  refine F.ok S (fun vs H Q E h => ?_) (fun cdv A outer s H vs Q E hr h => ?_)
  · obtain ⟨v, v', t, rfl, _⟩ := h; rfl
  · obtain ⟨v, v', t, rfl, ho, ht, hd, q⟩ := h
    refine ⟨_, (pss_cons (ps_if (pt_cmpR op_eq (pe_ix ix_tup (pv 1) pe_int (fun _ _ => rfl)) pe_str (nomark _)) (pss_cons (ps_if (pt_not (pt_val (pe_callB call_isinI rfl T.z_isinstance rfl (pa_cons (pv 0) (pa_cons (pe_glob (v := .ref (cW)) rfl R.g_Whole rfl) pa_nil))))) (pss_one (ps_ret pe_bl)) pss_nil)
      (pss_one (ps_ret (pe_ifExp (pt_cmpR op_isN (pe_ix ix_tup (pv 1) pe_int (fun _ _ => rfl)) pe_non (nomark _)) (pe_cmpR op_isN (pe_fld (pv 0) rfl) pe_non (nomark _)) (pe_fn D__law_whole hr (pa_cons (pe_fld (pv 0) rfl) (pa_cons (pe_ix ix_tup (pv 1) pe_int (fun _ _ => rfl)) pa_nil)) (by first | lia | omega)))))) pss_nil)
      (pss_cons (ps_if (PW.pt (pw_or (pt_cmpR op_ne (pe_callB call_isinI rfl T.z_isinstance rfl (pa_cons (pv 0) (pa_cons (pe_glob (v := .ref (cU)) rfl R.g_Upright rfl) pa_nil))) (pe_cmpR op_eq (pe_ix ix_tup (pv 1) pe_int (fun _ _ => rfl)) pe_str (nomark _)) (nomark _)) (pw_or1 (pt_cmpR op_ne (pe_callB call_isinI rfl T.z_isinstance rfl (pa_cons (pv 0) (pa_cons (pe_glob (v := .ref (cL)) rfl R.g_Level rfl) pa_nil))) (pe_cmpR op_eq (pe_ix ix_tup (pv 1) pe_int (fun _ _ => rfl)) pe_str (nomark _)) (nomark _))))) (pss_one (ps_ret pe_bl)) pss_nil)
      (pss_one (ps_ret (pe_and (pe_fn D__law_whole hr (pa_cons (pe_fld (pv 0) rfl) (pa_cons (pe_ix ix_tup (pv 1) pe_int (fun _ _ => rfl)) pa_nil)) (by first | lia | omega)) (pe_and (pe_fn D__law_like hr (pa_cons (pe_fld (pv 0) rfl) (pa_cons (pe_ix ix_tup (pv 1) pe_int (fun _ _ => rfl)) pa_nil)) (by first | lia | omega)) (pe_one (pe_fn D__law_like hr (pa_cons (pe_fld (pv 0) rfl) (pa_cons (pe_ix ix_tup (pv 1) pe_int (fun _ _ => rfl)) pa_nil)) (by first | lia | omega))))))))), ?_⟩
    cases t with
    | whole m =>
      rw [Told] at ht
      rw [Obj] at ho
      obtain ⟨a, rfl, ha⟩ := ht
      obtain ⟨x, dx, rfl, hx⟩ := ho
      refine ⟨_, rfl, a, _, _, _, rfl, rfl, SqT.of ha, at2_0, rfl, _, rfl, iteP (decide_eq_true rfl) ?_⟩
      refine ⟨_, rfl, x, cW, dx, _, _, .ref cW, true, rfl, hx, R.iW, rfl, refU, R.kWW, _, rfl, iteN rfl ?_⟩
      refine ⟨_, rfl, a, _, _, _, rfl, rfl, SqT.of ha, at2_1, rfl, _, rfl, ?_⟩
      cases m with
      | none => exact iteP (decide_eq_true rfl) ⟨_, rfl, x, cW, dx, _, _, rfl, hx, R.iW.cl, R.n_mark, fW _, rfl, (show Q (.bl (decide (V.non = V.non))) H by rw [decide_eq_true rfl]; exact q)⟩
      | some i => exact iteN (decide_eq_false (by intro z; cases z)) ⟨_, rfl, x, cW, dx, _, _, rfl, hx, R.iW.cl, R.n_mark, fW _, _, rfl, a, _, _, _, rfl, rfl, SqT.of ha, at2_1, i, i, rfl, by rw [decI1]; exact q⟩
    | cut u k y1 y2 =>
      rw [Told] at ht
      rw [Obj] at ho
      obtain ⟨a, v1, v2, rfl, ha, t1, t2⟩ := ht
      obtain ⟨x, dx, w1, w2, rfl, hx, o1, o2⟩ := ho
      have hd : max y1.dp y2.dp + 1 < n + 1 := hd
      refine ⟨_, rfl, a, _, _, _, rfl, rfl, SqT.of ha, at0, rfl, _, rfl, iteN (wd_whole u) ?_⟩
      refine ⟨_, rfl, x, cutC cU cL u, dx, _, _, .ref cU, _, rfl, hx, R.iC u, rfl, refU, R.kCC u true, _, rfl, a, _, _, _, rfl, rfl, SqT.of ha, at0, rfl, rfl, _, rfl, iteN ?_ ?_⟩
      · have := wd_dec u true
        rw [show (decide (V.str (wd u) = V.str "upright")) = (u == true) from this]
        cases u <;> rfl
      refine ⟨_, rfl, x, cutC cU cL u, dx, _, _, .ref cL, _, rfl, hx, R.iC u, rfl, refU, R.kCC u false, _, rfl, a, _, _, _, rfl, rfl, SqT.of ha, at0, rfl, rfl, _, rfl, iteN ?_ ?_⟩
      · have := wd_dec u false
        rw [show (decide (V.str (wd u) = V.str "level")) = (u == false) from this]
        cases u <;> rfl
      refine ⟨_, rfl, x, cutC cU cL u, dx, _, _, rfl, hx, (R.iC u).cl, R.n_at u, fC_at _ _ _, _, rfl, a, _, _, _, rfl, rfl, SqT.of ha, at1, k, k, rfl, _, rfl, iteP (decI1 k) ?_⟩
      refine ⟨_, rfl, x, cutC cU cL u, dx, _, _, rfl, hx, (R.iC u).cl, R.n_first u, fC_first _ _ _, _, rfl, a, _, _, _, rfl, rfl, SqT.of ha, at2, w1, v1, y1, rfl, o1, t1, by first | lia | omega, _, rfl, iteP rfl ?_⟩
      exact ⟨_, rfl, x, cutC cU cL u, dx, _, _, rfl, hx, (R.iC u).cl, R.n_other u, fC_other _ _ _, _, rfl, a, _, _, _, rfl, rfl, SqT.of ha, at3, w2, v2, y2, rfl, o2, t2, by first | lia | omega, q⟩
inductive En where
  | w (m : Option Int)
  | c (u : Bool) (k : Int)
def ents : Tr → List En
  | .whole m => [.w m]
  | .cut u k x y => .c u k :: (ents x ++ ents y)
def Tr.nd : Tr → Nat
  | .whole _ => 1
  | .cut _ _ x y => x.nd + y.nd + 1
theorem ents_len : ∀ t : Tr, (ents t).length = t.nd
  | .whole _ => rfl
  | .cut _ _ x y => by rw [ents, List.length_cons, List.length_append, ents_len x, ents_len y]; rfl
theorem nd_pos : ∀ t : Tr, 0 < t.nd
  | .whole _ => Nat.one_pos
  | .cut _ _ x y => Nat.succ_pos _
def enV : En → List V
  | .w m => [.str "whole", markV m]
  | .c u k => [.str (wd u), .int k]
/-- all but lists is kept -/
def Kp (H H' : Hp) : Prop := ∀ b o, H b = some o → (∀ xs, o ≠ .lst xs) → H' b = some o
theorem kp_of {H H' : Hp} (s : Same H H') : Kp H H' := fun b o e _ => s b o e
theorem Kp.trans {H H1 H2 : Hp} (a : Kp H H1) (b : Kp H1 H2) : Kp H H2 := fun c o e n => b c o (a c o e n) n
theorem Kp.put {H : Hp} {l : Addr} {xs ys : List V} (h : H l = some (.lst xs)) : Kp H (upd H l (.lst ys)) := fun b o e n => by
  rw [upd_ne (ne_of e h (n xs))]; exact e
theorem Obj.kp {H H' : Hp} (s : Kp H H') : ∀ {t : Tr} {v : V}, Obj cW cU cL H t v → Obj cW cU cL H' t v
  | .whole m, v, h => by
    rw [Obj] at h ⊢
    obtain ⟨a, dx, e, h⟩ := h
    exact ⟨a, dx, e, s _ _ h (by intro xs z; cases z)⟩
  | .cut u k x y, v, h => by
    rw [Obj] at h ⊢
    obtain ⟨a, dx, vx, vy, e, h, h1, h2⟩ := h
    exact ⟨a, dx, vx, vy, e, s _ _ h (by intro xs z; cases z), Obj.kp s h1, Obj.kp s h2⟩
def EnsAt (H : Hp) : List V → List En → Prop
  | [], [] => True
  | v :: r, e :: q => (∃ a, v = .ref a ∧ H a = some (.tup (enV e))) ∧ EnsAt H r q
  | _, _ => False
theorem EnsAt.kp {H H' : Hp} (s : Kp H H') : ∀ {vs : List V} {es : List En}, EnsAt H vs es → EnsAt H' vs es
  | [], [], _ => trivial
  | v :: r, e :: q, h => ⟨let ⟨a, b, c⟩ := h.1; ⟨a, b, s _ _ c (by intro xs z; cases z)⟩, EnsAt.kp s h.2⟩
  | [], _ :: _, h => h
  | _ :: _, [], h => h
theorem EnsAt.snoc {H : Hp} {a : Addr} {e : En} (ha : H a = some (.tup (enV e))) : ∀ {vs : List V} {es : List En}, EnsAt H vs es → EnsAt H (vs ++ [.ref a]) (es ++ [e])
  | [], [], _ => ⟨⟨a, rfl, ha⟩, trivial⟩
  | v :: r, e' :: q, h => ⟨h.1, EnsAt.snoc ha h.2⟩
  | [], _ :: _, h => h.elim
  | _ :: _, [], h => h.elim
theorem EnsAt.len {H : Hp} : ∀ {vs : List V} {es : List En}, EnsAt H vs es → vs.length = es.length
  | [], [], _ => rfl
  | v :: r, e' :: q, h => by rw [List.length_cons, List.length_cons, EnsAt.len h.2]
  | [], _ :: _, h => h.elim
  | _ :: _, [], h => h.elim
theorem EnsAt.get {H : Hp} : ∀ {vs : List V} {es : List En} {i : Nat} {v : V}, EnsAt H vs es → vs[i]? = some v → ∃ e a, es[i]? = some e ∧ v = .ref a ∧ H a = some (.tup (enV e))
  | v :: r, e :: q, 0, _, h, hv => by
    cases hv
    obtain ⟨a, b, c⟩ := h.1
    exact ⟨e, a, rfl, b, c⟩
  | v :: r, e :: q, i + 1, _, h, hv => EnsAt.get (i := i) h.2 hv
  | [], [], _, _, _, hv => by cases hv
  | [], _ :: _, _, _, h, _ => h.elim
  | _ :: _, [], _, _, h, _ => h.elim
def flat (ws : List (V × Tr)) : List En := ws.reverse.flatMap fun p => ents p.2
theorem flat_snoc (ws : List (V × Tr)) (p : V × Tr) : flat (ws ++ [p]) = ents p.2 ++ flat ws := by
  unfold flat
  rw [List.reverse_append, List.reverse_singleton, List.singleton_append, List.flatMap_cons]
def cnt (ws : List (V × Tr)) : Nat := (ws.map fun p => p.2.nd).sum
theorem cnt_len : ∀ ws : List (V × Tr), ws.length ≤ cnt ws
  | [] => Nat.le_refl 0
  | p :: r => by
    have := cnt_len r
    have := nd_pos p.2
    show r.length + 1 ≤ p.2.nd + cnt r
    first | lia | omega
theorem flat_cons (p : V × Tr) (r : List (V × Tr)) : flat (p :: r) = flat r ++ ents p.2 := by
  unfold flat
  rw [List.reverse_cons, List.flatMap_append, List.flatMap_cons, List.flatMap_nil, List.append_nil]
theorem flat_len : ∀ ws : List (V × Tr), (flat ws).length = cnt ws
  | [] => rfl
  | p :: r => by
    rw [flat_cons, List.length_append, ents_len, flat_len r]
    show _ = p.2.nd + cnt r
    first | lia | omega
theorem snoc_cases {α : Type} (ws : List α) : ws = [] ∨ ∃ ws0 p, ws = ws0 ++ [p] := by
  by_cases h : ws = []
  · exact .inl h
  · exact .inr ⟨ws.dropLast, ws.getLast h, (List.dropLast_concat_getLast h).symm⟩
theorem last_map {ws0 : List (V × Tr)} {p : V × Tr} : ((ws0 ++ [p]).map (·.1))[((ws0 ++ [p]).map (·.1)).length - 1]? = some p.1 := by
  rw [List.length_map, List.length_append, List.length_singleton, Nat.add_sub_cancel, List.getElem?_map, List.getElem?_append_right (Nat.le_refl _), Nat.sub_self]; rfl
theorem drop_map {ws0 : List (V × Tr)} {p : V × Tr} : ((ws0 ++ [p]).map (·.1)).dropLast = ws0.map (·.1) := by rw [List.map_append, List.map_singleton, List.dropLast_concat]
def wt : En → Int
  | .w _ => 1
  | .c _ _ => -1
def wts (es : List En) : Int := (es.map wt).sum
theorem wts_app (a b : List En) : wts (a ++ b) = wts a + wts b := by
  unfold wts
  rw [List.map_append, List.sum_append]
theorem wts_cons (e : En) (b : List En) : wts (e :: b) = wt e + wts b := by
  unfold wts
  rw [List.map_cons, List.sum_cons]
theorem wts_ents : ∀ t : Tr, wts (ents t) = 1
  | .whole _ => rfl
  | .cut u k x y => by
    rw [ents, wts_cons, wts_app, wts_ents x, wts_ents y]; rfl
theorem wts_flat : ∀ ws : List (V × Tr), wts (flat ws) = ws.length
  | [] => rfl
  | p :: r => by rw [flat_cons, wts_app, wts_ents, wts_flat r, List.length_cons]; first | lia | omega
/-- what stands at the end of a tree's entries weighs one or more -/
theorem wts_suf : ∀ (t : Tr) (a b : List En), ents t = a ++ b → b ≠ [] → 1 ≤ wts b
  | .whole m, a, b, h, hb => by
    have h : [En.w m] = a ++ b := h
    cases a with
    | nil => rw [List.nil_append] at h; rw [← h]; exact Int.le_refl 1
    | cons e r =>
      have := congrArg List.length h
      simp only [List.length_append, List.length_cons, List.length_nil] at this
      exact absurd (List.length_eq_zero_iff.mp (by first | lia | omega)) hb
  | .cut u k x y, a, b, h, hb => by
    cases a with
    | nil =>
      rw [List.nil_append] at h
      rw [← h, wts_ents]
      decide
    | cons e r =>
      rw [ents, List.cons_append] at h
      have h2 := List.cons.inj h |>.2
      rcases List.append_eq_append_iff.mp h2 with ⟨c, hc, hd⟩ | ⟨c, hc, hd⟩
      · exact wts_suf y c b hd hb
      · rw [hd, wts_app, wts_ents]
        by_cases e : c = []
        · rw [e]; decide
        · have := wts_suf x r c hc e
          first | lia | omega
theorem ents_inj : ∀ (t t' : Tr) (r r' : List En), ents t ++ r = ents t' ++ r' → t = t' ∧ r = r'
  | .whole m, .whole m', r, r', h => by
    have h : En.w m :: r = En.w m' :: r' := h
    injection h with h1 h2
    injection h1 with h1
    exact ⟨by rw [h1], h2⟩
  | .whole m, .cut u k x y, r, r', h => by
    have h : En.w m :: r = En.c u k :: (ents x ++ ents y ++ r') := h
    injection h with h1 _
    cases h1
  | .cut u k x y, .whole m, r, r', h => by
    have h : En.c u k :: (ents x ++ ents y ++ r) = En.w m :: r' := h
    injection h with h1 _
    cases h1
  | .cut u k x y, .cut u' k' x' y', r, r', h => by
    have h : En.c u k :: (ents x ++ ents y ++ r) = En.c u' k' :: (ents x' ++ ents y' ++ r') := h
    injection h with h1 h2
    injection h1 with h3 h4
    rw [List.append_assoc, List.append_assoc] at h2
    obtain ⟨e1, h5⟩ := ents_inj x x' _ _ h2
    obtain ⟨e2, h6⟩ := ents_inj y y' _ _ h5
    exact ⟨by rw [h3, h4, e1, e2], h6⟩
def sp_cutfrom (cW cU cL : Addr) : Sp := fun vs H Q _ => ∃ (u : Bool) (k : Int) (v1 v2 : V) (y1 y2 : Tr), vs = [.str (wd u), .int k, v1, v2] ∧ Obj cW cU cL H y1 v1 ∧ Obj cW cU cL H y2 v2 ∧ ∀ v' H', Same H H' → Obj cW cU cL H' (.cut u k y1 y2) v' → Q v' H'
theorem S_cut_from : FnScope ["word", "at", "first", "other"] ["word", "at", "first", "other"] (defScope s_cut_from) := ⟨rfl, rfl, rfl, by decide +kernel, rfl, by decide +kernel, by decide +kernel⟩
theorem ok_cut_from {f : Addr} {fd : FuncData} (F : Fun K "cut_from" "cut_from" s_cut_from f fd) (T : Txt mg tk) (K_Upright : MkOk P w K mg base 1 "Upright" cU ["self", "at", "first", "other"] (sp_iC cU)) (K_Level : MkOk P w K mg base 1 "Level" cL ["self", "at", "first", "other"] (sp_iC cL)) :
    FnOk P w K mg base CX0 3 f fd ["word", "at", "first", "other"] (sp_cutfrom cW cU cL) := by
  have S := S_cut_from
  refine F.ok S (fun vs H Q E h => ?_) (fun cdv A outer s H vs Q E hr h => ?_)
  · obtain ⟨u, k, v1, v2, y1, y2, rfl, _⟩ := h; rfl
  · obtain ⟨u, k, v1, v2, y1, y2, rfl, o1, o2, q⟩ := h
    refine ⟨_, (pss_cons (ps_if (pt_cmpR op_eq (pv 0) (pe_glob (v := .str "upright") rfl T.g_UPRIGHT ⟨_, rfl⟩) (nomark _)) (pss_one (ps_ret (pe_mk K_Upright hr (pa_cons (pv 1) (pa_cons (pv 2) (pa_cons (pv 3) pa_nil)))))) pss_nil)
      (pss_one (ps_ret (pe_mk K_Level hr (pa_cons (pv 1) (pa_cons (pv 2) (pa_cons (pv 3) pa_nil))))))), ?_⟩
    cases u with
    | true =>
      refine ⟨_, rfl, rfl, _, rfl, iteP (wd_dec true true) ⟨_, rfl, _, rfl, _, rfl, fun x dx nx ndx nex => ⟨x, dx, k, v1, v2, rfl, upd_same, fun H3 s3 e3 => ⟨rfl, ?_⟩⟩⟩⟩
      have s4 : Same H H3 := fun b o e => s3 b o (ne_of_none e nx) (made_same nx ndx b o e)
      exact q _ _ s4 (by rw [Obj]; exact ⟨x, dx, v1, v2, rfl, e3, o1.same s4, o2.same s4⟩)
    | false =>
      refine ⟨_, rfl, rfl, _, rfl, iteN (wd_dec false true) ⟨_, rfl, _, rfl, _, rfl, fun x dx nx ndx nex => ⟨x, dx, k, v1, v2, rfl, upd_same, fun H3 s3 e3 => ⟨rfl, ?_⟩⟩⟩⟩
      have s4 : Same H H3 := fun b o e => s3 b o (ne_of_none e nx) (made_same nx ndx b o e)
      exact q _ _ s4 (by rw [Obj]; exact ⟨x, dx, v1, v2, rfl, e3, o1.same s4, o2.same s4⟩)
def sp_from (K : PySem.W.Frag) (cW cU cL : Addr) : Sp := fun vs H Q _ => ∃ (l : Addr) (xs : List V) (t : Tr), vs = [.ref l] ∧ SqL K H l xs ∧ EnsAt H xs (ents t) ∧ t.nd ≤ 400 ∧ ∀ v' H', Same H H' → Obj cW cU cL H' t v' → Q v' H'
theorem S_tree_from : FnScope ["entries", "done", "word", "number", "first", "other"] ["entries"] (defScope s_tree_from) := ⟨rfl, rfl, rfl, by decide +kernel, rfl, by decide +kernel, by decide +kernel⟩
theorem drop_last {es : List En} {i : Nat} {e : En} (hi : i < es.length) (h : es[es.length - 1 - i]? = some e) : es.drop (es.length - (i + 1)) = e :: es.drop (es.length - i) := by
  have hk : es.length - 1 - i < es.length := by first | lia | omega
  rw [show es.length - (i + 1) = es.length - 1 - i by first | lia | omega, List.drop_eq_getElem_cons hk]
  rw [List.getElem?_eq_getElem hk] at h
  rw [Option.some.inj h, show es.length - 1 - i + 1 = es.length - i by first | lia | omega]
theorem ok_tree_from {f : Addr} {fd : FuncData} (F : Fun K "tree_from" "tree_from" s_tree_from f fd) (T : Txt mg tk) (R : RT mg K cT cW cU cL) (K_Whole : MkOk P w K mg base 1 "Whole" cW ["self", "mark"] (sp_iW cW)) (D_cut_from : DefOk P w K mg base 3 "cut_from" ["word", "at", "first", "other"] (sp_cutfrom cW cU cL)) :
    FnOk P w K mg base CX0 4 f fd ["entries"] (sp_from K cW cU cL) := by
  have S := S_tree_from
  refine F.ok S (fun vs H Q E h => ?_) (fun cdv A outer s H vs Q E hr h => ?_)
  · obtain ⟨l, xs, t, rfl, _⟩ := h; rfl
  · obtain ⟨l, xs, t, rfl, hl, hen, hn, q⟩ := h
    refine ⟨_, (pss_cons (ps_set (i := 1) S.nd rfl (Or.inl rfl) (pe_lst pa_nil))
      (pss_cons (ps_for PassesOwn.never rfl (pi_revd rfl T.z_reversed (pa_cons (pv 0) pa_nil)) (pg_tup rfl (pgs_cons (pg_name (i := 2) S.nd rfl (Or.inl rfl)) (pgs_cons (pg_name (i := 3) S.nd rfl (Or.inl rfl)) pgs_nil))) (pss_one (ps_if (pt_cmpR op_eq (pv 2) (pe_glob (v := .str "whole") rfl T.g_WHOLE ⟨_, rfl⟩) (nomark _)) (pss_one (ps_expr (pe_bm PySem.F.plainAttrs_list PySem.F.slot_list_append PySem.F.type_list_append mt_append (pv 1) (pa_cons (pe_mk K_Whole hr (pa_cons (pv 3) pa_nil)) pa_nil)))) (pss_cons (ps_set (i := 4) S.nd rfl (Or.inl rfl) (pe_bm0 PySem.F.plainAttrs_list PySem.F.slot_list_pop PySem.F.type_list_pop mt_pop (pv 1)))
      (pss_cons (ps_set (i := 5) S.nd rfl (Or.inl rfl) (pe_bm0 PySem.F.plainAttrs_list PySem.F.slot_list_pop PySem.F.type_list_pop mt_pop (pv 1)))
      (pss_one (ps_expr (pe_bm PySem.F.plainAttrs_list PySem.F.slot_list_append PySem.F.type_list_append mt_append (pv 1) (pa_cons (pe_fn D_cut_from hr (pa_cons (pv 2) (pa_cons (pv 3) (pa_cons (pv 4) (pa_cons (pv 5) pa_nil))))) pa_nil)))))))))
      (pss_one (ps_ret (pe_bm0 PySem.F.plainAttrs_list PySem.F.slot_list_pop PySem.F.type_list_pop mt_pop (pv 1)))))), ?_⟩
    refine ⟨lenOk 0, fun ld hld => ⟨_, rfl, l, xs, rfl, (Same.new hld).seq hl, ?_⟩⟩
    have hxl := hen.len
    have hel := ents_len t
    refine for_rev (K := K) (a := l) (xs := xs) (fun i σ H' => ∃ (ws : List (V × Tr)) (x2 x3 x4 x5 : Option V), σ = [some (.ref l), some (.ref ld), x2, x3, x4, x5] ∧ Same H H' ∧ H' ld = some (.lst (ws.map (·.1))) ∧ (∀ p ∈ ws, Obj cW cU cL H' p.2 p.1) ∧ (ents t).drop ((ents t).length - i) = flat ws)
      ⟨[], _, _, _, _, rfl, Same.new hld, upd_same, (fun p hp => (nomatch hp)), by rw [Nat.sub_zero, List.drop_length]; rfl⟩ (fun i σ H' _ hp => let ⟨_, _, _, _, _, _, s, _⟩ := hp; s.seq hl) ?_ ?_
    · rintro i v σ H' hv hi ⟨ws, x2, x3, x4, x5, rfl, s1, hd, hob, heq⟩
      obtain ⟨e, a, he, rfl, ha⟩ := hen.get hv
      have ha' := s1 _ _ ha
      rw [hxl] at he hi
      have hdr := drop_last hi he
      have wl : ws.length ≤ 400 := by
        have h1 := cnt_len ws
        have h2 := flat_len ws
        rw [← heq, List.length_drop] at h2
        first | lia | omega
      cases e with
      | w m =>
        refine ⟨a, _, rfl, SqT.of ha', rfl, _, _, rfl, _, _, rfl, rfl, ?_⟩
        refine ⟨_, rfl, rfl, _, rfl, iteP (decide_eq_true rfl) ?_⟩
        refine ⟨_, rfl, .inl ⟨rfl, _, SqL.of hd⟩, _, rfl, fun x dx nx ndx nex => ⟨x, dx, _, rfl, upd_same, rfl, ?_⟩⟩
        have s2 : Same H' (upd (upd (upd H' dx (.own x)) x (.ins cW dx [])) x (.ins cW dx (wF (markV m)))) := fun b o e => by
          rw [upd_ne (ne_of_none e nx)]; exact made_same nx ndx b o e
        have e2 : (upd (upd (upd H' dx (.own x)) x (.ins cW dx [])) x (.ins cW dx (wF (markV m)))) x = some (.ins cW dx (wF (markV m))) := upd_same
        generalize upd (upd (upd H' dx (.own x)) x (.ins cW dx [])) x (.ins cW dx (wF (markV m))) = H2 at s2 e2 ⊢
        have d2 := s2 _ _ hd
        refine ⟨ld, _, .ref x, rfl, rfl, d2, small1000 (by rw [List.length_map]; first | lia | omega), ?_⟩
        have k3 : Kp H2 (upd H2 ld (.lst (ws.map (·.1) ++ [.ref x]))) := Kp.put d2
        refine ⟨ws ++ [(.ref x, .whole m)], _, _, _, _, rfl, fun b o e => ?_, ?_, fun p hp => ?_, ?_⟩
        · rw [upd_ne (ne_of_none e hld)]; exact s2 b o (s1 b o e)
        · rw [upd_same, List.map_append]; rfl
        · rcases List.mem_append.mp hp with hp | hp
          · exact ((hob p hp).same s2).kp k3
          · rw [List.mem_singleton.mp hp, Obj]; exact ⟨x, dx, rfl, k3 _ _ e2 (by intro xs z; cases z)⟩
        · rw [hdr, heq, flat_snoc]; rfl
      | c u k =>
        have big : 2 ≤ ws.length := by
          have h1 := wts_suf t ((ents t).take ((ents t).length - (i + 1))) ((ents t).drop ((ents t).length - (i + 1))) (List.take_append_drop _ _).symm (by rw [hdr]; intro z; cases z)
          rw [hdr, heq, wts_cons, wts_flat] at h1
          have : wt (.c u k) = -1 := rfl
          first | lia | omega
        obtain rfl | ⟨ws1, p1, rfl⟩ := snoc_cases ws
        · exact absurd big (by decide)
        obtain rfl | ⟨ws2, p2, rfl⟩ := snoc_cases ws1
        · exact absurd big (by simp)
        refine ⟨a, _, rfl, SqT.of ha', rfl, _, _, rfl, _, _, rfl, rfl, ?_⟩
        refine ⟨_, rfl, rfl, _, rfl, iteN (wd_whole u) ?_⟩
        refine ⟨_, rfl, .inl ⟨rfl, _, SqL.of hd⟩, ld, _, p1.1, rfl, rfl, hd, last_map, ?_⟩
        rw [drop_map]
        have k2 : Kp H' (upd H' ld (.lst ((ws2 ++ [p2]).map (·.1)))) := Kp.put hd
        have s2 : Same H (upd H' ld (.lst ((ws2 ++ [p2]).map (·.1)))) := fun b o e => by rw [upd_ne (ne_of_none e hld)]; exact s1 b o e
        have d2 : (upd H' ld (.lst ((ws2 ++ [p2]).map (·.1)))) ld = some (.lst ((ws2 ++ [p2]).map (·.1))) := upd_same
        generalize upd H' ld (.lst ((ws2 ++ [p2]).map (·.1))) = H2 at k2 s2 d2 ⊢
        refine ⟨_, rfl, .inl ⟨rfl, _, SqL.of d2⟩, ld, _, p2.1, rfl, rfl, d2, last_map, ?_⟩
        rw [drop_map]
        have k3 : Kp H2 (upd H2 ld (.lst (ws2.map (·.1)))) := Kp.put d2
        have s3 : Same H (upd H2 ld (.lst (ws2.map (·.1)))) := fun b o e => by rw [upd_ne (ne_of_none e hld)]; exact s2 b o e
        have d3 : (upd H2 ld (.lst (ws2.map (·.1)))) ld = some (.lst (ws2.map (·.1))) := upd_same
        generalize upd H2 ld (.lst (ws2.map (·.1))) = H3 at k3 s3 d3 ⊢
        have kk := k2.trans k3
        refine ⟨_, rfl, .inl ⟨rfl, _, SqL.of d3⟩, _, rfl, _, rfl, _, rfl, _, rfl, u, k, p1.1, p2.1, p1.2, p2.2, rfl, (hob p1 (by simp)).kp kk, (hob p2 (by simp)).kp kk, fun v' H4 s4 o4 => ?_⟩
        have d4 := s4 _ _ d3
        rw [List.length_append, List.length_append] at wl
        refine ⟨ld, _, v', rfl, rfl, d4, small1000 (by rw [List.length_map]; first | lia | omega), ?_⟩
        have k5 : Kp H4 (upd H4 ld (.lst (ws2.map (·.1) ++ [v']))) := Kp.put d4
        refine ⟨ws2 ++ [(v', .cut u k p1.2 p2.2)], _, _, _, _, rfl, fun b o e => ?_, ?_, fun p hp => ?_, ?_⟩
        · rw [upd_ne (ne_of_none e hld)]; exact s4 b o (s3 b o e)
        · rw [upd_same, List.map_append]; rfl
        · rcases List.mem_append.mp hp with hp | hp
          · exact ((((hob p (by simp [hp])).kp kk).same s4)).kp k5
          · rw [List.mem_singleton.mp hp]; exact o4.kp k5
        · rw [hdr, heq, flat_snoc, flat_snoc, flat_snoc]
          show .c u k :: (ents p1.2 ++ (ents p2.2 ++ flat ws2)) = .c u k :: (ents p1.2 ++ ents p2.2) ++ flat ws2
          rw [List.cons_append, List.append_assoc]
    · rintro σ H' ⟨ws, x2, x3, x4, x5, rfl, s1, hd, hob, heq⟩
      rw [hxl, Nat.sub_self, List.drop_zero] at heq
      have one : ws.length = 1 := by
        have h1 := wts_ents t
        rw [heq, wts_flat] at h1
        first | lia | omega
      obtain ⟨p, rfl⟩ : ∃ p, ws = [p] := by
        match ws, one with
        | [p], _ => exact ⟨p, rfl⟩
      have hp := hob p (by simp)
      have et : p.2 = t := by
        have h1 : ents t ++ [] = ents p.2 ++ [] := by
          rw [List.append_nil, heq]; rfl
        exact (ents_inj _ _ _ _ h1).1.symm
      refine ⟨_, rfl, .inl ⟨rfl, _, SqL.of hd⟩, ld, _, p.1, rfl, rfl, hd, rfl, ?_⟩
      rw [et] at hp
      exact q _ _ (fun b o e => by rw [upd_ne (ne_of_none e hld)]; exact s1 b o e) (hp.kp (Kp.put hd))
theorem nd_cs : ∀ t : Tr, t.nd = 2 * t.cs + 1
  | .whole _ => rfl
  | .cut _ _ x y => by
    have a := nd_cs x
    have b := nd_cs y
    show x.nd + y.nd + 1 = 2 * (x.cs + y.cs + 1) + 1
    first | lia | omega
theorem dp_cs : ∀ t : Tr, t.dp ≤ t.cs
  | .whole _ => Nat.le_refl _
  | .cut _ _ x y => by
    have a := dp_cs x
    have b := dp_cs y
    show max x.dp y.dp + 1 ≤ x.cs + y.cs + 1
    first | lia | omega
def num (i : Int) : Str := Str.ofString (toString i)
def numL (m : Nat) : Str := ⟨((Nat.toDigits 10 m).map Char.toNat).toArray⟩
theorem num_eq (m : Nat) : num ((m : Nat) : Int) = numL m := by
  have e := PySem.W.KIN.signs_num m
  unfold num numL
  cases h : Str.ofString (toString ((m : Nat) : Int)) with
  | mk c =>
    rw [h] at e
    have e : c.toList = (Nat.toDigits 10 m).map Char.toNat := e
    rw [← e, Array.toArray_toList]
def sgn : Bool → Str
  | true => "|"
  | false => "-"
def WdE : En → Prop
  | .w m => MkB m
  | .c _ k => 1 ≤ k ∧ k ≤ 11
def wordE : En → Str
  | .w none => "."
  | .w (some i) => ("#" : Str) ++ num i
  | .c u k => sgn u ++ num k
def wordsT (t : Tr) : List Str := (ents t).map wordE
def figs : Str := "0123456789"
def numB (m : Nat) : Bool := decide (1 ≤ (numL m).length) && decide ((numL m).length ≤ 3) && (numL m).cps.all (· < 128) && (numL m).cps.all (fun c => !(Builtin.Str.occurrences figs ⟨#[c]⟩ 0 figs.length 1).isEmpty) &&
  (!decide ((numL m).cps.getD 0 0 = 48) || decide (numL m = "0")) && !(numL m).cps.contains 32
theorem num_ok : (List.range 1000).all numB = true := by decide +kernel
theorem num_of {i : Int} (h0 : 0 ≤ i) (h1 : i ≤ 999) : 1 ≤ (num i).length ∧ (num i).length ≤ 3 ∧ (num i).cps.all (· < 128) = true ∧ (num i).cps.all (fun c => !(Builtin.Str.occurrences figs ⟨#[c]⟩ 0 figs.length 1).isEmpty) = true ∧ ((num i).cps.getD 0 0 = 48 → num i = "0") ∧ 32 ∉ (num i).cps.toList := by
  have e : num i = numL i.toNat := by
    have := num_eq i.toNat
    rw [Int.toNat_of_nonneg h0] at this
    exact this
  have b := List.all_eq_true.mp num_ok i.toNat (List.mem_range.mpr (by first | lia | omega))
  unfold numB at b
  rw [← e] at b
  simp only [Bool.and_eq_true, Bool.or_eq_true, Bool.not_eq_true', decide_eq_true_eq, decide_eq_false_iff_not] at b
  obtain ⟨⟨⟨⟨⟨b1, b2⟩, b3⟩, b4⟩, b5⟩, b6⟩ := b
  refine ⟨b1, b2, b3, b4, fun z => b5.resolve_left (fun n => n z), fun z => ?_⟩
  have : (num i).cps.contains 32 = true := by rw [Array.contains_iff_mem]; exact Array.mem_toList_iff.mp z
  rw [this] at b6; cases b6
theorem num_reads {i : Int} (h0 : 0 ≤ i) (h1 : i ≤ 999) : PySem.intText? (num i) = some i := PySem.W.KIN.num_reads h0 (by first | lia | omega)
theorem log_ok {i : Int} (h0 : 0 ≤ i) (h1 : i ≤ 999) : i.natAbs.log2 < 1920 := Nat.lt_trans (log2_lt_of (k := 64) (by decide) (by first | lia | omega)) (by decide)
/-- a sign ahead of a number: the first sign, the rest -/
theorem first_of {c : Nat} {d : Str} : ((⟨#[c]⟩ : Str) ++ d).cps[0]? = some c := by
  show (#[c] ++ d.cps)[0]? = some c
  rw [Array.getElem?_append_left (show 0 < 1 from by decide)]; rfl
theorem len_of {c : Nat} {d : Str} : ((⟨#[c]⟩ : Str) ++ d).length = d.length + 1 := by rw [strLen_append]; show 1 + _ = _; first | lia | omega
theorem rest_of {c : Nat} {d : Str} : Txt.slice ((⟨#[c]⟩ : Str) ++ d) (some 1) none = d := by
  have e : Txt.slice ((⟨#[c]⟩ : Str) ++ d) (some 1) none = StrLaws.sliceText ((⟨#[c]⟩ : Str) ++ d) (some ((1 : Nat) : Int)) (some ((((⟨#[c]⟩ : Str) ++ d).length : Nat) : Int)) := by
    unfold StrLaws.sliceText Txt.slice
    rw [StrLaws.sliceIdx_none_hi]; rfl
  rw [e, StrLaws.sliceText_nat _ (by rw [len_of]; first | lia | omega) (Nat.le_refl _), len_of]
  have e2 : ((⟨#[c]⟩ : Str) ++ d).cps.toList = c :: d.cps.toList := by
    show (#[c] ++ d.cps).toList = _
    rw [Array.toList_append]; rfl
  rw [e2, List.drop_succ_cons, List.drop_zero, Nat.add_sub_cancel]
  have e3 : d.length = d.cps.toList.length := by rw [Array.length_toList]; rfl
  rw [e3, List.take_length, Array.toArray_toList]
theorem wordE_len {e : En} (h : WdE e) : 1 ≤ (wordE e).length ∧ (wordE e).length ≤ 4 := by
  cases e with
  | w m =>
    cases m with
    | none => exact ⟨by decide +kernel, by decide +kernel⟩
    | some i =>
      obtain ⟨h0, h1⟩ := h i rfl
      have := (num_of h0 h1).2.1
      have e : (wordE (.w (some i))).length = (num i).length + 1 := len_of (c := 35)
      first | lia | omega
  | c u k =>
    have := (num_of (i := k) (by have := h.1; first | lia | omega) (by have := h.2; first | lia | omega)).2.1
    have e : (wordE (.c u k)).length = (num k).length + 1 := by cases u; exact len_of (c := 45); exact len_of (c := 124)
    first | lia | omega
theorem strL {x y : Str} (h : x.cps.toList = y.cps.toList) : x = y := by
  cases x; cases y
  exact congrArg Str.mk (Array.toList_inj.mp h)
theorem join2 {c : Nat} {x y : Str} {r : List Str} : (Str.join ⟨#[c]⟩ (x :: y :: r)).cps.toList = x.cps.toList ++ c :: (Str.join ⟨#[c]⟩ (y :: r)).cps.toList := by
  show (x.cps ++ #[c] ++ (Str.join ⟨#[c]⟩ (y :: r)).cps).toList = _
  rw [Array.toList_append, Array.toList_append, List.append_assoc]; rfl
theorem join_eq (x : Str) (ys : List Str) : Txt.join x ys = Str.join x ys := StrLaws.glued_eq_join x ys
theorem words_len (t : Tr) : (wordsT t).length = t.nd := by
  unfold wordsT
  rw [List.length_map, ents_len]
theorem blank1 : (" " : Str).length = 1 := by decide +kernel
theorem app_ne {c : Nat} {d : Str} (h : 1 ≤ d.length) : (⟨#[c]⟩ : Str) ++ d ≠ "." := fun z => by
  have := len_of (c := c) (d := d)
  rw [z] at this
  have e : (("." : Str)).length = 1 := by decide +kernel
  first | lia | omega
def Asc (z : Str) : Prop := z.cps.all (· < 128) = true
def figB (c : Nat) : Bool := !(Builtin.Str.occurrences figs ⟨#[c]⟩ 0 figs.length 1).isEmpty
theorem fig_ok : (List.range 128).all (fun c => !figB c || (decide (48 ≤ c) && decide (c ≤ 57))) = true := by decide +kernel
theorem fig_of {c : Nat} (h : c < 128) (f : figB c = true) : 48 ≤ c ∧ c ≤ 57 := by
  have := List.all_eq_true.mp fig_ok c (List.mem_range.mpr h)
  rw [f] at this
  simpa using this
theorem dig1 : (List.range 10).all (fun a => decide (numL a = ⟨#[48 + a]⟩)) = true := by decide +kernel
theorem dig2 : (List.range 10).all (fun a => (List.range 10).all fun b => decide (a = 0) || decide (numL (10 * a + b) = ⟨#[48 + a, 48 + b]⟩)) = true := by decide +kernel
theorem dig3 : (List.range 10).all (fun a => (List.range 10).all fun b => (List.range 10).all fun c => decide (a = 0) || decide (numL (100 * a + 10 * b + c) = ⟨#[48 + a, 48 + b, 48 + c]⟩)) = true := by decide +kernel
theorem dig_num {z : Str} (h1 : 1 ≤ z.length) (h3 : z.length ≤ 3) (ha : Asc z) (hd : z.cps.all figB = true) (h0 : z.cps.getD 0 0 = 48 → z = "0") : ∃ i : Int, 0 ≤ i ∧ i ≤ 999 ∧ z = num i := by
  obtain ⟨⟨l⟩⟩ := z
  have ha : l.all (· < 128) = true := by rw [← List.all_toArray]; exact ha
  have hd : l.all figB = true := by rw [← List.all_toArray]; exact hd
  have ha := List.all_eq_true.mp ha
  have hd := List.all_eq_true.mp hd
  have dg : ∀ c ∈ l, 48 ≤ c ∧ c ≤ 57 := fun c hc => fig_of (of_decide_eq_true (ha c hc)) (hd c hc)
  have nz : l.length ≠ 1 → l.getD 0 0 ≠ 48 := fun n z => by
    have := h0 (by show (l.toArray).getD 0 0 = 48; rw [Array.getD_eq_getD_getElem?, List.getElem?_toArray, ← List.getD_eq_getElem?_getD]; exact z)
    have e : ("0" : Str).length = 1 := by decide +kernel
    rw [← this] at e
    exact n e
  match l, h1, h3, dg, nz with
  | [a], _, _, dg, _ =>
    have d := dg a (by simp)
    have t := of_decide_eq_true (List.all_eq_true.mp dig1 (a - 48) (List.mem_range.mpr (by first | lia | omega)))
    refine ⟨((a - 48 : Nat) : Int), by first | lia | omega, by first | lia | omega, ?_⟩
    rw [num_eq, t, show 48 + (a - 48) = a by first | lia | omega]
  | [a, b], _, _, dg, nz =>
    have d1 := dg a (by simp)
    have d2 := dg b (by simp)
    have n := nz (by simp)
    have n : a ≠ 48 := n
    have t := List.all_eq_true.mp (List.all_eq_true.mp dig2 (a - 48) (List.mem_range.mpr (by first | lia | omega))) (b - 48) (List.mem_range.mpr (by first | lia | omega))
    rw [decide_eq_false (show ¬ a - 48 = 0 by first | lia | omega), Bool.false_or] at t
    refine ⟨((10 * (a - 48) + (b - 48) : Nat) : Int), by first | lia | omega, by first | lia | omega, ?_⟩
    rw [num_eq, of_decide_eq_true t, show 48 + (a - 48) = a by first | lia | omega, show 48 + (b - 48) = b by first | lia | omega]
  | [a, b, c], _, _, dg, nz =>
    have d1 := dg a (by simp)
    have d2 := dg b (by simp)
    have d3 := dg c (by simp)
    have n := nz (by simp)
    have n : a ≠ 48 := n
    have t := List.all_eq_true.mp (List.all_eq_true.mp (List.all_eq_true.mp dig3 (a - 48) (List.mem_range.mpr (by first | lia | omega))) (b - 48) (List.mem_range.mpr (by first | lia | omega))) (c - 48) (List.mem_range.mpr (by first | lia | omega))
    rw [decide_eq_false (show ¬ a - 48 = 0 by first | lia | omega), Bool.false_or] at t
    refine ⟨((100 * (a - 48) + 10 * (b - 48) + (c - 48) : Nat) : Int), by first | lia | omega, by first | lia | omega, ?_⟩
    rw [num_eq, of_decide_eq_true t, show 48 + (a - 48) = a by first | lia | omega, show 48 + (b - 48) = b by first | lia | omega, show 48 + (c - 48) = c by first | lia | omega]
  | [], h1, _, _, _ => exact absurd h1 (by show ¬ 1 ≤ 0; decide)
  | _ :: _ :: _ :: _ :: r, _, h3, _, _ => exact absurd h3 (by show ¬ (r.length + 1 + 1 + 1 + 1) ≤ 3; first | lia | omega)
/-- the first sign and the rest -/
theorem parts (w : Str) : (w.length = 0 ∧ Txt.slice w (some 1) none = w ∧ w = "") ∨ ∃ c d, w = (⟨#[c]⟩ : Str) ++ d := by
  obtain ⟨⟨l⟩⟩ := w
  cases l with
  | nil => exact .inl ⟨rfl, by decide +kernel, by decide +kernel⟩
  | cons c r =>
    refine .inr ⟨c, ⟨⟨r⟩⟩, ?_⟩
    show (⟨(⟨c :: r⟩ : Array Nat)⟩ : Str) = ⟨#[c] ++ ⟨r⟩⟩
    simp
theorem head_of {c : Nat} {d : Str} : Txt.slice ((⟨#[c]⟩ : Str) ++ d) none (some 1) = ⟨#[c]⟩ := by
  have e : Txt.slice ((⟨#[c]⟩ : Str) ++ d) none (some 1) = StrLaws.sliceText ((⟨#[c]⟩ : Str) ++ d) (some ((0 : Nat) : Int)) (some ((1 : Nat) : Int)) := by
    unfold StrLaws.sliceText Txt.slice
    rw [StrLaws.sliceIdx_none_lo]; rfl
  rw [e, StrLaws.sliceText_nat _ (by first | lia | omega) (by rw [len_of]; first | lia | omega)]
  have e2 : ((⟨#[c]⟩ : Str) ++ d).cps.toList = c :: d.cps.toList := by
    show (#[c] ++ d.cps).toList = _
    rw [Array.toList_append]; rfl
  rw [e2]; rfl
theorem s_hash : ("#" : Str) = ⟨#[35]⟩ := by decide +kernel
theorem s_bar : ("|" : Str) = ⟨#[124]⟩ := by decide +kernel
theorem s_dash : ("-" : Str) = ⟨#[45]⟩ := by decide +kernel
theorem s_zero : ("0" : Str) = ⟨#[48]⟩ := by decide +kernel
theorem in_bars (c : Nat) : inV (V.str (⟨#[c]⟩ : Str)) [V.str "|", V.str "-"] = (decide (c = 124) || decide (c = 45)) := by
  have e : ∀ k : Nat, ((⟨#[k]⟩ : Str) == ⟨#[c]⟩) = decide (c = k) := fun k => by
    rw [Bool.eq_iff_iff, beq_iff_eq, decide_eq_true_iff]
    constructor
    · intro z
      injection z with z; injection z with z; injection z with z; exact z.symm
    · rintro rfl; rfl
  show ((("|" : Str) == ⟨#[c]⟩) || ((("-" : Str) == ⟨#[c]⟩) || false)) = _
  rw [s_bar, s_dash, e, e, Bool.or_false]
theorem asc_parts {c : Nat} {d : Str} (h : Asc ((⟨#[c]⟩ : Str) ++ d)) : c < 128 ∧ Asc d := by
  have h : (#[c] ++ d.cps).all (· < 128) = true := h
  rw [Array.all_append, Bool.and_eq_true] at h
  exact ⟨by simpa using h.1, h.2⟩
theorem cons_inj {c c' : Nat} {d d' : Str} (h : (⟨#[c]⟩ : Str) ++ d = ⟨#[c']⟩ ++ d') : c = c' ∧ d = d' := by
  have h := congrArg (fun t : Str => t.cps.toList) h
  have e2 : ∀ (c : Nat) (d : Str), ((⟨#[c]⟩ : Str) ++ d).cps.toList = c :: d.cps.toList := fun c d => by
    show (#[c] ++ d.cps).toList = _
    rw [Array.toList_append]; rfl
  have h : ((⟨#[c]⟩ : Str) ++ d).cps.toList = ((⟨#[c']⟩ : Str) ++ d').cps.toList := h
  rw [e2, e2] at h
  exact ⟨(List.cons.inj h).1, strL (List.cons.inj h).2⟩
theorem chr_eq (c k : Nat) : decide (V.str (⟨#[c]⟩ : Str) = V.str ⟨#[k]⟩) = decide (c = k) := by
  rw [Bool.eq_iff_iff, decide_eq_true_iff, decide_eq_true_iff]
  constructor
  · intro z
    injection z with z; injection z with z; injection z with z; injection z
  · rintro rfl; rfl
theorem bars_ok : (List.range 128).all (fun c => (!(Builtin.Str.occurrences "|-" ⟨#[c]⟩ 0 ("|-" : Str).length 1).isEmpty) == (decide (c = 124) || decide (c = 45))) = true := by decide +kernel
theorem bars_of {c : Nat} (h : c < 128) : (!(Builtin.Str.occurrences "|-" ⟨#[c]⟩ 0 ("|-" : Str).length 1).isEmpty) = (decide (c = 124) || decide (c = 45)) := eq_of_beq (List.all_eq_true.mp bars_ok c (List.mem_range.mpr h))
theorem small9 {n : Nat} (h : n ≤ 9000) : n < sizeLine := Nat.lt_of_le_of_lt h (by decide)
open Classical in
/-- the entry that a word tells -/
noncomputable def entF (w : Str) : Option En := if h : ∃ e, WdE e ∧ w = wordE e then some h.choose else none
theorem entF_some {w : Str} {e : En} (h : entF w = some e) : WdE e ∧ w = wordE e := by
  unfold entF at h
  split at h
  · rename_i hx
    rw [← Option.some.inj h]; exact hx.choose_spec
  · cases h
theorem entF_none {w : Str} (h : entF w = none) : ∀ e, WdE e → w ≠ wordE e := fun e he z => by
  unfold entF at h
  split at h
  · cases h
  · rename_i n; exact n ⟨e, he, z⟩
theorem num_inj {i j : Int} (h0 : 0 ≤ i) (h1 : i ≤ 999) (g0 : 0 ≤ j) (g1 : j ≤ 999) (h : num i = num j) : i = j := by
  have a := num_reads h0 h1
  rw [h, num_reads g0 g1] at a
  exact (Option.some.inj a).symm
theorem sgn_eq (u : Bool) : sgn u = ⟨#[if u then 124 else 45]⟩ := by cases u <;> decide +kernel
theorem wordE_inj {e e' : En} (h : WdE e) (h' : WdE e') (z : wordE e = wordE e') : e = e' := by
  have l1 : ∀ {c : Nat} {i : Int}, 0 ≤ i → i ≤ 999 → (⟨#[c]⟩ : Str) ++ num i ≠ "." := fun a b => app_ne (num_of a b).1
  cases e with
  | w m =>
    cases m with
    | none =>
      cases e' with
      | w m' =>
        cases m' with
        | none => rfl
        | some j => exact absurd z.symm (l1 (c := 35) (h' j rfl).1 (h' j rfl).2)
      | c u k =>
        have z : ("." : Str) = sgn u ++ num k := z
        rw [sgn_eq] at z
        exact absurd z.symm (l1 (by have := h'.1; first | lia | omega) (by have := h'.2; first | lia | omega))
    | some i =>
      cases e' with
      | w m' =>
        cases m' with
        | none => exact absurd z (l1 (c := 35) (h i rfl).1 (h i rfl).2)
        | some j =>
          rw [num_inj (h i rfl).1 (h i rfl).2 (h' j rfl).1 (h' j rfl).2 (cons_inj (c := 35) (c' := 35) z).2]
      | c u k =>
        have z : (⟨#[35]⟩ : Str) ++ num i = sgn u ++ num k := z
        rw [sgn_eq] at z
        have := (cons_inj z).1
        cases u <;> simp at this
  | c u k =>
    cases e' with
    | w m' =>
      cases m' with
      | none =>
        have z : sgn u ++ num k = "." := z
        rw [sgn_eq] at z
        exact absurd z (l1 (by have := h.1; first | lia | omega) (by have := h.2; first | lia | omega))
      | some j =>
        have z : sgn u ++ num k = (⟨#[35]⟩ : Str) ++ num j := z
        rw [sgn_eq] at z
        have := (cons_inj z).1
        cases u <;> simp at this
    | c u' k' =>
      have z : sgn u ++ num k = sgn u' ++ num k' := z
      rw [sgn_eq, sgn_eq] at z
      obtain ⟨a, b⟩ := cons_inj z
      rw [num_inj (by have := h.1; first | lia | omega) (by have := h.2; first | lia | omega) (by have := h'.1; first | lia | omega) (by have := h'.2; first | lia | omega) b]
      cases u <;> cases u' <;> first | rfl | (simp at a)
theorem entF_of {e : En} (h : WdE e) : entF (wordE e) = some e := by
  cases he : entF (wordE e) with
  | none => exact absurd rfl (entF_none he e h)
  | some e' =>
    obtain ⟨a, b⟩ := entF_some he
    rw [wordE_inj h a b]
theorem entF_not {w : Str} (h : ∀ e, WdE e → w ≠ wordE e) : entF w = none := by
  cases he : entF w with
  | none => rfl
  | some e => exact absurd (entF_some he).2 (h e (entF_some he).1)
def sp_number : Sp := fun vs H Q _ => ∃ (z : Str), vs = [.str z, .int 3] ∧ Asc z ∧ z.length ≤ 9000 ∧ (∀ i H', z = num i → 0 ≤ i → i ≤ 999 → Same H H' → Q (.int i) H') ∧ ((∀ i, 0 ≤ i → i ≤ 999 → z ≠ num i) → ∀ H', Same H H' → Q .non H')
theorem S_number_in : FnScope ["text", "most"] ["text", "most"] (defScope s_number_in) := ⟨rfl, rfl, rfl, by decide +kernel, rfl, by decide +kernel, by decide +kernel⟩
theorem ok_number_in {f : Addr} {fd : FuncData} (F : Fun K "number_in" "number_in" s_number_in f fd) (T : Txt mg tk) : FnOk P w K mg base CX0 1 f fd ["text", "most"] sp_number := by
  have S := S_number_in
  refine F.ok S (fun vs H Q E h => ?_) (fun cdv A outer s H vs Q E hr h => ?_)
  · obtain ⟨i, rfl, _⟩ := h; rfl
  · obtain ⟨z, rfl, ha, hz, qy, qn⟩ := h
    refine ⟨_, (pss_cons (ps_if (PW.pt (pw_or (pt_not (pt_chain op_le op_le pe_int (pe_callB call_len_str rfl T.z_len rfl (pa_cons (pv 0) pa_nil)) (pv 1))) (pw_or1 (pt_not (pt_val (pe_callB call_all rfl T.z_all rfl (pa_cons (pe_comp rfl (pi_text (pv 0)) (fun _ _ _ _ _ => (pg_name (i := 0) (show List.Nodup (["sign"] : List Str) from by decide +kernel) rfl (Or.inl rfl))) (fun _ _ _ _ _ => (pe_cmpR op_in_str (pv 0) (pe_glob (v := .str "0123456789") rfl T.g_FIGURES ⟨_, rfl⟩) rfl)) (N := ["sign"]) (fr := [none])) pa_nil))))))) (pss_one (ps_ret pe_non)) pss_nil)
      (pss_cons (ps_if (PW.pt (pw_and (pt_cmpR op_eq (pe_item_str (pv 0) pe_int (fun _ _ => rfl)) pe_str (nomark _)) (pw_and1 (pt_cmpR op_ne (pv 0) pe_str (nomark _))))) (pss_one (ps_ret pe_non)) pss_nil)
      (pss_one (ps_ret (pe_callTy call_int_text rfl T.z_int rfl (pa_cons (pv 0) pa_nil)))))), ?_⟩
    have zl : z.length ≤ sizeLine := Nat.le_of_lt (small9 hz)
    refine ⟨_, rfl, z, rfl, zl, _, _, rfl, rfl, _, rfl, ite3 (fun b1 => ?_) (fun b => ⟨_, rfl, iteT ?_⟩)⟩
    case refine_2 =>
      have b := of_decide_eq_false b
      exact qn (fun i h0 h1 e => by have := (num_of h0 h1).1; rw [← e] at this; first | lia | omega) H (Same.refl H)
    have b1 := of_decide_eq_true b1
    refine ⟨_, rfl, _, _, rfl, rfl, _, rfl, ite3 (fun b => ?_) (fun b2 => ?_)⟩
    · have b : ¬ (z.length : Int) ≤ 3 := by simpa using b
      exact qn (fun i h0 h1 e => by have := (num_of h0 h1).2.1; rw [← e] at this; first | lia | omega) H (Same.refl H)
    have b2 : (z.length : Int) ≤ 3 := by simpa using b2
    refine ⟨_, rfl, z, rfl, ha, fun acc na => comp_text (fun k zs σ H' => (∃ x, σ = [x]) ∧ Same H H' ∧ zs = ((z.cps.toList.take k).map figB).map V.bl) ⟨⟨_, rfl⟩, Same.new na, rfl⟩ ?_ ?_⟩
    · rintro k c zs σ H' hc hk hl hacc ⟨⟨y, rfl⟩, hs, rfl⟩
      refine ⟨_, rfl, _, _, rfl, rfl, cNx.mk zl hk hl hacc ⟨⟨_, rfl⟩, fun b o e => ?_, ?_⟩⟩
      · rw [upd_ne (ne_of_none e na)]; exact hs b o e
      · show _ ++ [V.bl (figB c)] = _
        have hc' : z.cps.toList[k]? = some c := by rw [Array.getElem?_toList]; exact hc
        rw [List.take_succ, hc', List.map_append, List.map_append]; rfl
    · rintro zs σ H' hl hacc ⟨_, hs, rfl⟩
      have e1 : z.cps.toList.take z.length = z.cps.toList := by
        have : z.length = z.cps.toList.length := by rw [Array.length_toList]; rfl
        rw [this, List.take_length]
      rw [e1] at hacc
      have e2 : (z.cps.toList.map figB).all id = z.cps.all figB := by rw [List.all_map, ← Array.all_toList]; rfl
      refine ⟨acc, _, rfl, SqL.of hacc, rfl, _, rfl, ite3 (fun b => ?_) (fun b => ?_)⟩
      · rw [e2] at b
        have b : z.cps.all figB = false := by simpa using b
        exact qn (fun i h0 h1 e => by have := (num_of h0 h1).2.2.2.1; rw [← e] at this; exact absurd (b.symm.trans this) (by decide)) H' hs
      rw [e2] at b
      have hd : z.cps.all figB = true := by simpa using b
      have n1 : 1 ≤ z.length := by first | lia | omega
      have n3 : z.length ≤ 3 := by first | lia | omega
      obtain ⟨c0, hc0⟩ : ∃ c0, z.cps[0]? = some c0 := ⟨z.cps[0]'n1, Array.getElem?_eq_getElem n1⟩
      have c00 : z.cps.getD 0 0 = c0 := by rw [Array.getD_eq_getD_getElem?, hc0]; rfl
      have fin : (c0 = 48 → z = "0") → ∃ i, PySem.intText? z = some i ∧ Q (.int i) H' := fun g => by
        obtain ⟨i, h0, h1, e⟩ := dig_num n1 n3 ha hd (by rw [c00]; exact g)
        exact ⟨i, by rw [e]; exact num_reads h0 h1, qy i H' e h0 h1 hs⟩
      have e0 : decide (V.str (⟨#[c0]⟩ : Str) = V.str "0") = decide (c0 = 48) := by rw [s_zero]; exact chr_eq _ _
      refine ⟨_, rfl, z, 0, c0, rfl, rfl, by decide, by decide, (by show (0 : Int) < (z.length : Int); first | lia | omega), hc0, rfl, _, rfl, ite3 (fun b => ?_) (fun b => ?_)⟩
      · rw [e0] at b
        have b := of_decide_eq_true b
        refine ⟨_, rfl, rfl, _, rfl, ite3 (fun g => ?_) (fun g => ?_)⟩
        · have g : ¬ z = "0" := fun x => by rw [x, decide_eq_true rfl] at g; cases g
          refine qn (fun i h0 h1 e => ?_) H' hs
          have := (num_of h0 h1).2.2.2.2.1
          rw [← e, c00] at this
          exact g (this b)
        · have g : z = "0" := Decidable.byContradiction fun x => by rw [decide_eq_false (fun y => x (by injection y))] at g; cases g
          obtain ⟨i, nr, fi⟩ := fin fun _ => g
          exact ⟨_, rfl, z, i, rfl, by first | lia | omega, nr, fi⟩
      · rw [e0] at b
        obtain ⟨i, nr, fi⟩ := fin fun x => absurd x (of_decide_eq_false b)
        exact iteF ⟨_, rfl, z, i, rfl, by first | lia | omega, nr, fi⟩
def sp_ein : Sp := fun vs H Q _ => ∃ (w : Str), vs = [.str w] ∧ Asc w ∧ w.length ≤ 9000 ∧ (∀ e a H', w = wordE e → WdE e → Same H H' → H a = none → H' a = some (.tup (enV e)) → Q (.ref a) H') ∧ ((∀ e, WdE e → w ≠ wordE e) → ∀ H', Same H H' → Q .non H')
theorem S_entry_in : FnScope ["word", "number"] ["word"] (defScope s_entry_in) := ⟨rfl, rfl, rfl, by decide +kernel, rfl, by decide +kernel, by decide +kernel⟩
theorem ok_entry_in {f : Addr} {fd : FuncData} (F : Fun K "entry_in" "entry_in" s_entry_in f fd) (T : Txt mg tk) (D_number_in : DefOk P w K mg base 1 "number_in" ["text", "most"] sp_number) : FnOk P w K mg base CX0 2 f fd ["word"] sp_ein := by
  have S := S_entry_in
  refine F.ok S (fun vs H Q E h => ?_) (fun cdv A outer s H vs Q E hr h => ?_)
  · obtain ⟨e, rfl, _⟩ := h; rfl
  · obtain ⟨w, rfl, ha, hl, qy, qn⟩ := h
    refine ⟨_, (pss_cons (ps_if (pt_cmpR op_eq (pv 0) pe_str (nomark _)) (pss_one (ps_ret (pe_tup (pa_cons (pe_glob (v := .str "whole") rfl T.g_WHOLE ⟨_, rfl⟩) (pa_cons pe_non pa_nil))))) pss_nil)
      (pss_cons (ps_set (i := 1) S.nd rfl (Or.inl rfl) (pe_fn D_number_in hr (pa_cons (pe_slice sl_str (pv 0) (po_some pe_int) po_none) (pa_cons (pe_glob (v := .int 3) rfl T.g_MARK_FIGURES ⟨_, rfl⟩) pa_nil))))
      (pss_cons (ps_if (pt_cmpR op_isN (pv 1) pe_non (nomark _)) (pss_one (ps_ret pe_non)) pss_nil)
      (pss_cons (ps_if (pt_cmpR op_eq (pe_item_str (pv 0) pe_int (fun _ _ => rfl)) pe_str (nomark _)) (pss_one (ps_ret (pe_tup (pa_cons (pe_glob (v := .str "whole") rfl T.g_WHOLE ⟨_, rfl⟩) (pa_cons (pv 1) pa_nil))))) pss_nil)
      (pss_cons (ps_if (PW.pt (pw_or (pt_cmpR op_notin_str (pe_item_str (pv 0) pe_int (fun _ _ => rfl)) pe_str rfl) (pw_or1 (pt_not (pt_chain op_le op_lt pe_int (pv 1) (pe_glob (v := .int 12) rfl T.g_LONGEST_SIDE ⟨_, rfl⟩)))))) (pss_one (ps_ret pe_non)) pss_nil)
      (pss_one (ps_ret (pe_tup (pa_cons (pe_ifExp (pt_cmpR op_eq (pe_item_str (pv 0) pe_int (fun _ _ => rfl)) pe_str (nomark _)) (pe_glob (v := .str "upright") rfl T.g_UPRIGHT ⟨_, rfl⟩) (pe_glob (v := .str "level") rfl T.g_LEVEL ⟨_, rfl⟩)) (pa_cons (pv 1) pa_nil)))))))))), ?_⟩
    refine ⟨_, rfl, rfl, _, rfl, ite3 (fun b => ?_) (fun b => ?_)⟩
    · have b : w = "." := by have := of_decide_eq_true b; injection this
      exact ⟨lenOk 2, fun a ha => qy (.w none) a _ b (fun i z => nomatch z) (Same.new ha) ha upd_same⟩
    have nd : w ≠ "." := fun z => by rw [z, decide_eq_true rfl] at b; cases b
    have wl : w.length ≤ sizeLine := Nat.le_of_lt (small9 hl)
    rcases parts w with ⟨l0, e, e'⟩ | ⟨c, d, rfl⟩
    · refine ⟨_, rfl, _, rfl, w, rfl, wl, w, (by rw [e]; rfl), ha, hl, fun i H' z h0 h1 => ?_, fun _ H1 s1 => ?_⟩
      · have := (num_of h0 h1).1
        rw [← z] at this; first | lia | omega
      · refine ⟨_, rfl, rfl, _, rfl, iteP (decide_eq_true rfl) (qn (fun e he z => ?_) H1 s1)⟩
        have := (wordE_len he).1
        rw [← z] at this; first | lia | omega
    · obtain ⟨hc, hda⟩ := asc_parts ha
      have hld := len_of (c := c) (d := d)
      refine ⟨_, rfl, _, rfl, _, rfl, wl, d, (by rw [rest_of]; rfl), hda, by first | lia | omega, fun i H1 z h0 h1 s1 => ?_, fun z H1 s1 => ?_⟩
      · subst z
        have x0 : ((⟨#[c]⟩ : Str) ++ num i).cps[(0 : Int).toNat]? = some c := first_of
        have xp : (0 : Int) < ((((⟨#[c]⟩ : Str) ++ num i).length : Nat) : Int) := by first | lia | omega
        generalize hx : (⟨#[c]⟩ : Str) ++ num i = x at *
        refine ⟨_, rfl, rfl, _, rfl, iteN (decide_eq_false (by intro z; cases z)) ?_⟩
        refine ⟨_, rfl, x, 0, c, rfl, rfl, by decide, by decide, xp, x0, rfl, _, rfl, ite3 (fun b => ?_) (fun b => ?_)⟩
        · rw [s_hash, chr_eq] at b
          have b := of_decide_eq_true b
          subst b
          exact ⟨_, rfl, lenOk 2, fun a ha => qy (.w (some i)) a _ hx.symm (fun j z => by cases z; exact ⟨h0, h1⟩) (s1.trans (Same.new ha)) (s1.free ha) upd_same⟩
        rw [s_hash, chr_eq] at b
        have n35 := of_decide_eq_false b
        have no : ¬ ((c = 124 ∨ c = 45) ∧ 1 ≤ i ∧ i ≤ 11) → ∀ e, WdE e → x ≠ wordE e := fun n e he z => by
          rw [← hx] at z
          cases e with
          | w m =>
            cases m with
            | none => exact nd (hx.symm.trans z)
            | some j => exact n35 (cons_inj (c' := 35) z).1
          | c u k =>
            cases u with
            | true =>
              obtain ⟨z1, z2⟩ := cons_inj (c' := 124) z
              have := num_reads h0 h1
              rw [z2] at this
              have g := num_reads (i := k) (by have := he.1; first | lia | omega) (by have := he.2; first | lia | omega)
              rw [this] at g
              obtain rfl := Option.some.inj g
              exact n ⟨.inl z1, he⟩
            | false =>
              obtain ⟨z1, z2⟩ := cons_inj (c' := 45) z
              have := num_reads h0 h1
              rw [z2] at this
              have g := num_reads (i := k) (by have := he.1; first | lia | omega) (by have := he.2; first | lia | omega)
              rw [this] at g
              obtain rfl := Option.some.inj g
              exact n ⟨.inr z1, he⟩
        have bo := bars_of hc
        refine ⟨_, rfl, x, 0, c, rfl, rfl, by decide, by decide, xp, x0, _, _, rfl, rfl, _, rfl, ite3 (fun b => ?_) (fun b => ?_)⟩
        · rw [bo] at b
          exact qn (no fun ⟨z, _⟩ => by rcases z with rfl | rfl <;> exact absurd b (by decide)) H1 s1
        rw [bo] at b
        have c2 : c = 124 ∨ c = 45 := Decidable.or_iff_not_imp_left.mpr (by simpa using b)
        refine ⟨_, rfl, _, _, rfl, rfl, _, rfl, ite3 (fun b => ?_) (fun b => ?_)⟩
        · have b1 := of_decide_eq_true b
          refine ⟨_, _, rfl, rfl, _, rfl, ite3 (fun b => ?_) (fun b => ?_)⟩
          · have b : ¬ i < 12 := by simpa using b
            exact qn (no fun ⟨_, _, z⟩ => by first | lia | omega) H1 s1
          · have b : i < 12 := by simpa using b
            refine ⟨_, rfl, x, 0, c, rfl, rfl, by decide, by decide, xp, x0, rfl, _, rfl, ?_⟩
            rcases c2 with rfl | rfl
            · exact iteP (by decide +kernel) ⟨_, rfl, lenOk 2, fun a ha => qy (.c true i) a _ hx.symm ⟨b1, by first | lia | omega⟩ (s1.trans (Same.new ha)) (s1.free ha) upd_same⟩
            · exact iteN (by decide +kernel) ⟨_, rfl, lenOk 2, fun a ha => qy (.c false i) a _ hx.symm ⟨b1, by first | lia | omega⟩ (s1.trans (Same.new ha)) (s1.free ha) upd_same⟩
        · have b1 := of_decide_eq_false b
          exact ⟨_, rfl, iteT (qn (no fun ⟨_, z, _⟩ => b1 z) H1 s1)⟩
      · refine ⟨_, rfl, rfl, _, rfl, iteP (decide_eq_true rfl) (qn (fun e he x => ?_) H1 s1)⟩
        cases e with
        | w m =>
          cases m with
          | none => exact nd x
          | some j => exact z j (he j rfl).1 (he j rfl).2 (cons_inj (c' := 35) x).2
        | c u k =>
          have k0 : 0 ≤ k := by have := he.1; first | lia | omega
          have k1 : k ≤ 999 := by have := he.2; first | lia | omega
          cases u with
          | true => exact z k k0 k1 (cons_inj (c' := 124) x).2
          | false => exact z k k0 k1 (cons_inj (c' := 45) x).2
def sp_fig : Sp := fun vs H Q _ => ∃ (w : Str) (lo hi : Int), vs = [.str w, .int lo, .int hi] ∧ Asc w ∧ w.length ≤ 9000 ∧ (∀ c i H', w = (⟨#[c]⟩ : Str) ++ num i → 0 ≤ i → i ≤ 999 → Same H H' → Q (.bl (decide (lo ≤ i) && decide (i ≤ hi))) H') ∧ ((∀ c i, 0 ≤ i → i ≤ 999 → w ≠ (⟨#[c]⟩ : Str) ++ num i) → ∀ H', Same H H' → Q (.bl false) H')
theorem S_law_figures : FnScope ["_law_word_here", "_law_low", "_law_high"] ["_law_word_here", "_law_low", "_law_high"] (defScope s__law_figures) := ⟨rfl, rfl, rfl, by decide +kernel, rfl, by decide +kernel, by decide +kernel⟩
theorem ok_law_figures {f : Addr} {fd : FuncData} (F : Fun K "_law_figures" "_law_figures" s__law_figures f fd) (T : Txt mg tk) : FnOk P w K mg base CX0 1 f fd ["_law_word_here", "_law_low", "_law_high"] sp_fig := by
  have S := S_law_figures
  refine F.ok S (fun vs H Q E h => ?_) (fun cdv A outer s H vs Q E hr h => ?_)
  · obtain ⟨w, lo, hi, rfl, _⟩ := h; rfl
  · obtain ⟨w, lo, hi, rfl, ha, hl, qy, qn⟩ := h
    refine ⟨_, (pss_cons (ps_if (PW.pt (pw_or (pt_cmpR op_lt (pe_callB call_len_str rfl T.z_len rfl (pa_cons (pv 0) pa_nil)) pe_int (nomark _)) (pw_or (pt_cmpR op_gt (pe_callB call_len_str rfl T.z_len rfl (pa_cons (pv 0) pa_nil)) pe_int (nomark _)) (pw_or1 (pt_not (pt_val (pe_callB call_all rfl T.z_all rfl (pa_cons (pe_comp rfl (pi_text (pe_slice sl_str (pv 0) (po_some pe_int) po_none)) (fun _ _ _ _ _ => (pg_name (i := 0) (show List.Nodup (["_law_sign"] : List Str) from by decide +kernel) rfl (Or.inl rfl))) (fun _ _ _ _ _ => (pe_cmpR op_in_str (pv 0) pe_str rfl)) (N := ["_law_sign"]) (fr := [none])) pa_nil)))))))) (pss_one (ps_ret pe_bl)) pss_nil)
      (pss_one (ps_ret (pe_and (pe_or (pe_cmpR op_ne (pe_item_str (pv 0) pe_int (fun _ _ => rfl)) pe_str (nomark _)) (pe_one (pe_cmpR op_eq (pe_callB call_len_str rfl T.z_len rfl (pa_cons (pv 0) pa_nil)) pe_int (nomark _)))) (pe_one (pe_chain op_le op_le (pv 1) (pe_callTy call_int_text rfl T.z_int rfl (pa_cons (pe_slice sl_str (pv 0) (po_some pe_int) po_none) pa_nil)) (pv 2))))))), ?_⟩
    have wl : w.length ≤ sizeLine := Nat.le_of_lt (small9 hl)
    have nof : ¬ (2 ≤ w.length ∧ w.length ≤ 4) → ∀ c i, 0 ≤ i → i ≤ 999 → w ≠ (⟨#[c]⟩ : Str) ++ num i := fun n c i h0 h1 e => by
      have := num_of h0 h1
      rw [e, len_of] at n
      first | lia | omega
    refine ⟨_, rfl, w, rfl, wl, _, _, rfl, rfl, _, rfl, ite3 (fun b => ?_) (fun b => ?_)⟩
    · have b := of_decide_eq_true b
      exact qn (nof fun z => by first | lia | omega) H (Same.refl H)
    have b1 := of_decide_eq_false b
    refine ⟨_, rfl, w, rfl, wl, _, _, rfl, rfl, _, rfl, ite3 (fun b => ?_) (fun b => ?_)⟩
    · have b := of_decide_eq_true b
      exact qn (nof fun z => by first | lia | omega) H (Same.refl H)
    have b2 := of_decide_eq_false b
    rcases parts w with ⟨l0, e, e'⟩ | ⟨c, d, rfl⟩
    · first | lia | omega
    obtain ⟨hc, hda⟩ := asc_parts ha
    have hld := len_of (c := c) (d := d)
    have x1 : ((⟨#[c]⟩ : Str) ++ d).cps[(1 : Int).toNat]? = d.cps[0]? := by
      show (#[c] ++ d.cps)[1]? = _
      rw [Array.getElem?_append_right (by show 1 ≤ 1; first | lia | omega)]; rfl
    have hsl : Txt.slice ((⟨#[c]⟩ : Str) ++ d) (some 1) none = d := rest_of
    have qy2 := fun i (e : d = num i) => qy c i
    have qn2 := fun (n : ∀ i, 0 ≤ i → i ≤ 999 → d ≠ num i) => qn fun c' i h0 h1 e => n i h0 h1 (cons_inj e).2
    generalize hx : (⟨#[c]⟩ : Str) ++ d = x at *
    have dl : d.length ≤ sizeLine := Nat.le_of_lt (small9 (by first | lia | omega))
    refine ⟨_, rfl, _, rfl, x, rfl, wl, d, (by rw [hsl]), hda, fun acc na => comp_text (fun k zs σ H' => (∃ x, σ = [x]) ∧ Same H H' ∧ zs = ((d.cps.toList.take k).map figB).map V.bl) ⟨⟨_, rfl⟩, Same.new na, rfl⟩ ?_ ?_⟩
    · rintro k c zs σ H' hc hk hl hacc ⟨⟨y, rfl⟩, hs, rfl⟩
      refine ⟨_, rfl, _, _, rfl, rfl, cNx.mk dl hk hl hacc ⟨⟨_, rfl⟩, fun b o e => ?_, ?_⟩⟩
      · rw [upd_ne (ne_of_none e na)]; exact hs b o e
      · show _ ++ [V.bl (figB c)] = _
        have hc' : d.cps.toList[k]? = some c := by rw [Array.getElem?_toList]; exact hc
        rw [List.take_succ, hc', List.map_append, List.map_append]; rfl
    · rintro zs σ H' hl hacc ⟨_, hs, rfl⟩
      have e1 : d.cps.toList.take d.length = d.cps.toList := by
        have : d.length = d.cps.toList.length := by rw [Array.length_toList]; rfl
        rw [this, List.take_length]
      rw [e1] at hacc
      have e2 : (d.cps.toList.map figB).all id = d.cps.all figB := by rw [List.all_map, ← Array.all_toList]; rfl
      refine ⟨acc, _, rfl, SqL.of hacc, rfl, _, rfl, ite3 (fun b => ?_) (fun b => ?_)⟩
      · rw [e2] at b
        have b : d.cps.all figB = false := by simpa using b
        exact qn2 (fun i h0 h1 e => by have := (num_of h0 h1).2.2.2.1; rw [← e] at this; exact absurd (b.symm.trans this) (by decide)) H' hs
      rw [e2] at b
      have hd : d.cps.all figB = true := by simpa using b
      have n1 : 1 ≤ d.length := by first | lia | omega
      have n3 : d.length ≤ 3 := by first | lia | omega
      obtain ⟨c0, hc0⟩ : ∃ c0, d.cps[0]? = some c0 := ⟨d.cps[0]'n1, Array.getElem?_eq_getElem n1⟩
      have c00 : d.cps.getD 0 0 = c0 := by rw [Array.getD_eq_getD_getElem?, hc0]; rfl
      rw [hc0] at x1
      have fin : (c0 = 48 → d = "0") → ∃ i, 0 ≤ i ∧ i ≤ 999 ∧ d = num i ∧ PySem.intText? d = some i := fun g => by
        obtain ⟨i, h0, h1, e⟩ := dig_num n1 n3 hda hd (by rw [c00]; exact g)
        exact ⟨i, h0, h1, e, by rw [e]; exact num_reads h0 h1⟩
      have z1 : c0 = 48 → d.length = 1 → d = "0" := fun a b => by
        obtain ⟨⟨l⟩⟩ := d
        match l, b, hc0 with
        | [y], _, hc0 =>
          have : y = c0 := Option.some.inj hc0
          rw [this, a, s_zero]
      have e0 : decide (V.str (⟨#[c0]⟩ : Str) = V.str "0") = decide (c0 = 48) := by rw [s_zero]; exact chr_eq _ _
      have go : (c0 = 48 → d = "0") → ∃ i, PySem.intText? d = some i ∧ Q (.bl (decide (lo ≤ i) && decide (i ≤ hi))) H' := fun g => by
        obtain ⟨i, h0, h1, e, r⟩ := fin g
        exact ⟨i, r, qy2 i e H' (by rw [← hx, e]) h0 h1 hs⟩
      refine ⟨_, rfl, x, 1, c0, rfl, rfl, by decide, by decide, by first | lia | omega, x1, rfl, _, rfl, ite3 (fun b => ⟨_, rfl, iteT ?_⟩) (fun b => ?_)⟩
      · rw [e0] at b
        have b : c0 ≠ 48 := by simpa using b
        obtain ⟨i, nr, fi⟩ := go fun z => absurd z b
        refine ⟨_, rfl, _, rfl, _, rfl, x, rfl, wl, d, i, by rw [hsl], by first | lia | omega, nr, _, _, rfl, rfl, _, rfl, ite3 (fun b => ⟨_, rfl, _, _, rfl, rfl, ?_⟩) (fun b => ?_)⟩
        · rw [b, Bool.true_and] at fi; exact fi
        · rw [b, Bool.false_and] at fi; exact fi
      · rw [e0] at b
        have b : c0 = 48 := by simpa using b
        refine ⟨_, rfl, x, rfl, wl, rfl, _, rfl, ite3 (fun g => ?_) (fun g => ?_)⟩
        · have g := of_decide_eq_true g
          injection g with g
          obtain ⟨i, nr, fi⟩ := go fun z => z1 z (by first | lia | omega)
          refine ⟨_, rfl, _, rfl, _, rfl, x, rfl, wl, d, i, by rw [hsl], by first | lia | omega, nr, _, _, rfl, rfl, _, rfl, ite3 (fun b => ⟨_, rfl, _, _, rfl, rfl, ?_⟩) (fun b => ?_)⟩
          · rw [b, Bool.true_and] at fi; exact fi
          · rw [b, Bool.false_and] at fi; exact fi
        · have g := of_decide_eq_false g
          have g : ¬ (x.length : Int) = 2 := fun z => g (by rw [z])
          refine qn2 (fun i h0 h1 e => ?_) H' hs
          have k := (num_of h0 h1).2.2.2.2.1
          rw [← e, c00] at k
          have k := k b
          have k1 : ("0" : Str).length = 1 := by decide +kernel
          rw [← k] at k1
          first | lia | omega
def kdE : En → Int
  | .w _ => 0
  | .c _ _ => 2
def sp_kd : Sp := fun vs H Q _ => ∃ (w : Str), vs = [.str w] ∧ Asc w ∧ w.length ≤ 9000 ∧ (∀ e H', w = wordE e → WdE e → Same H H' → Q (.int (kdE e)) H') ∧ ((∀ e, WdE e → w ≠ wordE e) → ∀ H', Same H H' → Q (.int (-1)) H')
theorem S_law_kind : FnScope ["_law_word_here"] ["_law_word_here"] (defScope s__law_kind) := ⟨rfl, rfl, rfl, by decide +kernel, rfl, by decide +kernel, by decide +kernel⟩
theorem ok_law_kind {f : Addr} {fd : FuncData} (F : Fun K "_law_kind" "_law_kind" s__law_kind f fd) (D__law_figures : DefOk P w K mg base 1 "_law_figures" ["_law_word_here", "_law_low", "_law_high"] sp_fig) : FnOk P w K mg base CX0 2 f fd ["_law_word_here"] sp_kd := by
  have S := S_law_kind
  refine F.ok S (fun vs H Q E h => ?_) (fun cdv A outer s H vs Q E hr h => ?_)
  · obtain ⟨w, rfl, _⟩ := h; rfl
  · obtain ⟨w, rfl, ha, hl, qy, qn⟩ := h
    refine ⟨_, (pss_cons (ps_if (PW.pt (pw_or (pt_cmpR op_eq (pv 0) pe_str (nomark _)) (pw_or1 (PW.pt (pw_and (pt_cmpR op_eq (pe_slice sl_str (pv 0) po_none (po_some pe_int)) pe_str (nomark _)) (pw_and1 (pt_val (pe_fn D__law_figures hr (pa_cons (pv 0) (pa_cons pe_int (pa_cons pe_int pa_nil))))))))))) (pss_one (ps_ret pe_int)) pss_nil)
      (pss_cons (ps_if (PW.pt (pw_and (pt_cmpR op_in_seq (pe_slice sl_str (pv 0) po_none (po_some pe_int)) (pe_tup (pa_cons pe_str (pa_cons pe_str pa_nil))) rfl) (pw_and (pt_cmpR op_ne (pv 0) pe_str (nomark _)) (pw_and1 (pt_val (pe_fn D__law_figures hr (pa_cons (pv 0) (pa_cons pe_int (pa_cons pe_int pa_nil))))))))) (pss_one (ps_ret pe_int)) pss_nil)
      (pss_one (ps_ret (pe_un un_neg pe_int))))), ?_⟩
    refine ⟨_, rfl, rfl, _, rfl, ite3 (fun b => ?_) (fun b => ?_)⟩
    · have b : w = "." := by have := of_decide_eq_true b; injection this
      exact qy (.w none) H b (fun i z => nomatch z) (Same.refl H)
    have nd : w ≠ "." := fun z => by rw [z, decide_eq_true rfl] at b; cases b
    have wl : w.length ≤ sizeLine := Nat.le_of_lt (small9 hl)
    have h5 : ∀ (e : En), WdE e → ∀ (c : Nat) (d : Str), (⟨#[c]⟩ : Str) ++ d = wordE e → (c = 35 ∧ ∃ i, 0 ≤ i ∧ i ≤ 999 ∧ d = num i) ∨ ((c = 124 ∨ c = 45) ∧ ∃ i, 1 ≤ i ∧ i ≤ 11 ∧ d = num i) ∨ (⟨#[c]⟩ : Str) ++ d = "." := fun e he c d z => by
      cases e with
      | w m =>
        cases m with
        | none => exact .inr (.inr z)
        | some j =>
          obtain ⟨a, b⟩ := cons_inj (c' := 35) z
          exact .inl ⟨a, j, (he j rfl).1, (he j rfl).2, b⟩
      | c u k =>
        cases u with
        | true => obtain ⟨a, b⟩ := cons_inj (c' := 124) z; exact .inr (.inl ⟨.inl a, k, he.1, he.2, b⟩)
        | false => obtain ⟨a, b⟩ := cons_inj (c' := 45) z; exact .inr (.inl ⟨.inr a, k, he.1, he.2, b⟩)
    rcases parts w with ⟨l0, e, rfl⟩ | ⟨c, d, rfl⟩
    · refine ⟨_, rfl, _, rfl, _, rfl, wl, rfl, _, rfl, iteN (by decide +kernel) ?_⟩
      refine ⟨_, rfl, _, rfl, _, rfl, wl, lenOk 2, fun t nt => ⟨t, _, rfl, .inr (SqT.of upd_same), rfl, rfl, _, rfl, iteN (by decide +kernel) ?_⟩⟩
      exact ⟨_, rfl, qn (fun e he z => by have := (wordE_len he).1; rw [← z] at this; first | lia | omega) _ (Same.new nt)⟩
    obtain ⟨hc, hda⟩ := asc_parts ha
    have hh := head_of (c := c) (d := d)
    have hne : (⟨#[c]⟩ : Str) ++ d ≠ "" := fun z => by
      have := len_of (c := c) (d := d)
      rw [z] at this
      exact absurd this (by rw [show ("" : Str).length = 0 by decide +kernel]; first | lia | omega)
    have hn : ∀ e, WdE e → ∀ i, 0 ≤ i → i ≤ 999 → True := fun _ _ _ _ _ => trivial
    refine ⟨_, rfl, _, rfl, _, rfl, wl, rfl, _, rfl, ite3 (fun b => ?_) (fun b => ?_)⟩
    · rw [hh, s_hash, chr_eq] at b
      obtain rfl := of_decide_eq_true b
      refine ⟨_, rfl, _, 0, 999, rfl, ha, hl, fun c' i H1 z h0 h1 s1 => ?_, fun z H1 s1 => ?_⟩
      · refine ⟨_, rfl, iteP (by rw [decide_eq_true h0, decide_eq_true h1]; rfl) ?_⟩
        exact qy (.w (some i)) H1 (by rw [(cons_inj z).2]; rfl) (fun j z => by cases z; exact ⟨h0, h1⟩) s1
      · refine ⟨_, rfl, iteF ?_⟩
        refine ⟨_, rfl, _, rfl, _, rfl, wl, lenOk 2, fun t nt => ⟨t, _, rfl, .inr (SqT.of upd_same), rfl, rfl, _, rfl, iteN (by rw [hh]; decide +kernel) ?_⟩⟩
        refine ⟨_, rfl, qn (fun e he x => ?_) _ (s1.trans (Same.new nt))⟩
        rcases h5 e he 35 d x with ⟨_, i, h0, h1, y⟩ | ⟨y, _⟩ | y
        · exact z 35 i h0 h1 (by rw [y])
        · first | lia | omega
        · exact nd y
    · rw [hh, s_hash, chr_eq] at b
      have n35 := of_decide_eq_false b
      refine ⟨_, rfl, _, rfl, _, rfl, wl, lenOk 2, fun t nt => ⟨t, _, rfl, .inr (SqT.of upd_same), rfl, rfl, _, rfl, ite3 (fun b => ?_) (fun b => ?_)⟩⟩
      · have b : inV (V.str (Txt.slice ((⟨#[c]⟩ : Str) ++ d) none (some 1))) [V.str "|", V.str "-"] = true := b
        rw [hh, in_bars] at b
        have c2 : c = 124 ∨ c = 45 := by simpa using b
        refine ⟨_, rfl, rfl, _, rfl, iteP (by rw [decide_eq_false (fun z => hne (by injection z))]; rfl) ?_⟩
        refine ⟨_, rfl, _, 1, 11, rfl, ha, hl, fun c' i H1 z h0 h1 s1 => ?_, fun z H1 s1 => ?_⟩
        · have zd := (cons_inj z).2
          refine ⟨_, rfl, ite3 (fun b => ?_) (fun b => ?_)⟩
          · have b11 : 1 ≤ i ∧ i ≤ 11 := by simpa using b
            rcases c2 with rfl | rfl
            · exact qy (.c true i) H1 (by rw [zd]; rfl) b11 ((Same.new nt).trans s1)
            · exact qy (.c false i) H1 (by rw [zd]; rfl) b11 ((Same.new nt).trans s1)
          · refine ⟨_, rfl, qn (fun e he x => ?_) _ ((Same.new nt).trans s1)⟩
            rcases h5 e he c d x with ⟨y, _⟩ | ⟨_, j, g0, g1, y⟩ | y
            · exact n35 y
            · have r1 := num_reads h0 h1
              rw [← zd, y] at r1
              have r2 := num_reads (i := j) (by first | lia | omega) (by first | lia | omega)
              rw [r1] at r2
              obtain rfl := Option.some.inj r2
              rw [decide_eq_true g0, decide_eq_true g1] at b
              cases b
            · exact nd y
        · refine ⟨_, rfl, iteF ⟨_, rfl, qn (fun e he x => ?_) _ ((Same.new nt).trans s1)⟩⟩
          rcases h5 e he c d x with ⟨y, _⟩ | ⟨_, j, g0, g1, y⟩ | y
          · exact n35 y
          · exact z c j (by first | lia | omega) (by first | lia | omega) (by rw [y])
          · exact nd y
      · have b : inV (V.str (Txt.slice ((⟨#[c]⟩ : Str) ++ d) none (some 1))) [V.str "|", V.str "-"] = false := b
        rw [hh, in_bars] at b
        have c2 : ¬ (c = 124 ∨ c = 45) := by simpa using b
        refine ⟨_, rfl, qn (fun e he x => ?_) _ (Same.new nt)⟩
        rcases h5 e he c d x with ⟨y, _⟩ | ⟨y, _⟩ | y
        · exact n35 y
        · exact c2 y
        · exact nd y
noncomputable def plc : List Str → Nat → Int → Option Nat
  | [], p, l => if 0 < l then some p else none
  | w :: r, p, l => match entF w with
    | none => some p
    | some e => if l = 0 ∨ p = 103 then some p else plc r (p + 1) (l - wt e)
theorem plc_nil {p : Nat} {l : Int} : plc [] p l = if 0 < l then some p else none := rfl
theorem plc_none {w : Str} {r : List Str} {p : Nat} {l : Int} (h : entF w = none) : plc (w :: r) p l = some p := by rw [plc, h]
theorem plc_at {w : Str} {r : List Str} {p : Nat} {l : Int} (h : l = 0 ∨ p = 103) : plc (w :: r) p l = some p := by
  rw [plc]
  cases entF w with
  | none => rfl
  | some e => exact if_pos h
theorem plc_on {w : Str} {r : List Str} {p : Nat} {l : Int} {e : En} (h : entF w = some e) (h1 : l ≠ 0) (h2 : p ≠ 103) : plc (w :: r) p l = plc r (p + 1) (l - wt e) := by
  rw [plc, h]
  exact if_neg (by rintro (z | z); exact h1 z; exact h2 z)
theorem plc_par : ∀ (ws : List Str) (p l : Nat), p ≤ 103 → plc ws p (l : Int) = none → ∃ ts : List Tr, ts.length = l ∧ ws.map entF = (ts.flatMap ents).map some ∧ p + ws.length ≤ 103
  | [], p, l, hp, h => by
    rw [plc_nil] at h
    split at h
    · cases h
    · exact ⟨[], by show 0 = l; first | lia | omega, rfl, hp⟩
  | w :: r, p, l, hp, h => by
    have h2 : ¬ ((l : Int) = 0 ∨ p = 103) := fun z => by rw [plc_at z] at h; cases h
    cases he : entF w with
    | none => rw [plc_none he] at h; cases h
    | some e =>
      rw [plc_on he (fun z => h2 (.inl z)) (fun z => h2 (.inr z))] at h
      cases e with
      | w m =>
        have h : plc r (p + 1) ((l - 1 : Nat) : Int) = none :=
          (congrArg (plc r (p + 1)) (show ((l - 1 : Nat) : Int) = (l : Int) - wt (.w m) from by show _ = (l : Int) - 1; first | lia | omega)).trans h
        obtain ⟨ts, t1, t2, t3⟩ := plc_par r (p + 1) (l - 1) (by first | lia | omega) h
        refine ⟨.whole m :: ts, by rw [List.length_cons]; first | lia | omega, ?_, by rw [List.length_cons]; first | lia | omega⟩
        rw [List.map_cons, he, t2, List.flatMap_cons]; rfl
      | c u k =>
        have h : plc r (p + 1) ((l + 1 : Nat) : Int) = none :=
          (congrArg (plc r (p + 1)) (show ((l + 1 : Nat) : Int) = (l : Int) - wt (.c u k) from by show _ = (l : Int) - -1; first | lia | omega)).trans h
        obtain ⟨ts, t1, t2, t3⟩ := plc_par r (p + 1) (l + 1) (by first | lia | omega) h
        match ts, t1, t2 with
        | x :: y :: ts, t1, t2 =>
          refine ⟨.cut u k x y :: ts, by rw [List.length_cons] at t1 ⊢; rw [List.length_cons] at t1; first | lia | omega, ?_, by rw [List.length_cons]; first | lia | omega⟩
          rw [List.map_cons, he, t2, List.flatMap_cons, List.flatMap_cons, List.flatMap_cons, ents, List.cons_append, List.map_cons, List.append_assoc]
        | [x], t1, _ => exact absurd t1 (by show ¬ 1 = l + 1; first | lia | omega)
        | [], t1, _ => exact absurd t1 (by show ¬ 0 = l + 1; first | lia | omega)
theorem wd_back : ∀ {t : Tr}, (∀ e ∈ ents t, WdE e) → Wd t
  | .whole m, h => by rw [Wd]; exact h (.w m) (by rw [ents]; exact List.mem_singleton.mpr rfl)
  | .cut u k x y, h => by
    rw [Wd]
    rw [ents] at h
    have a := h (.c u k) List.mem_cons_self
    exact ⟨a.1, a.2, wd_back fun e he => h e (List.mem_cons_of_mem _ (List.mem_append_left _ he)), wd_back fun e he => h e (List.mem_cons_of_mem _ (List.mem_append_right _ he))⟩
theorem plc_tree {ws : List Str} (h : plc ws 0 1 = none) : ∃ t, ws.map entF = (ents t).map some ∧ Wd t ∧ ws = wordsT t ∧ t.nd ≤ 103 := by
  obtain ⟨ts, t1, t2, t3⟩ := plc_par ws 0 1 (by decide) h
  obtain ⟨t, rfl⟩ := List.length_eq_one_iff.mp t1
  rw [List.flatMap_cons, List.flatMap_nil, List.append_nil] at t2
  have both : ∀ (ws : List Str) (es : List En), ws.map entF = es.map some → ws = es.map wordE ∧ ∀ e ∈ es, WdE e := fun ws => by
    induction ws with
    | nil =>
      intro es h
      cases es with
      | nil => exact ⟨rfl, fun e he => nomatch he⟩
      | cons e r => exact nomatch h
    | cons w r ih =>
      intro es h
      cases es with
      | nil => exact nomatch h
      | cons e es =>
        rw [List.map_cons, List.map_cons] at h
        obtain ⟨h1, h2⟩ := List.cons.inj h
        obtain ⟨a, b⟩ := entF_some h1
        obtain ⟨c, d⟩ := ih es h2
        exact ⟨by rw [List.map_cons, ← c, ← b], fun e' he => by rcases List.mem_cons.mp he with rfl | he; exact a; exact d e' he⟩
  obtain ⟨a, b⟩ := both ws _ t2
  have hl := congrArg List.length t2
  rw [List.length_map, List.length_map, ents_len] at hl
  exact ⟨t, t2, wd_back b, a, by first | lia | omega⟩
theorem some_inj : ∀ {a b : List En}, a.map some = b.map some → a = b
  | [], [], _ => rfl
  | x :: a, y :: b, h => by
    rw [List.map_cons, List.map_cons] at h
    obtain ⟨h1, h2⟩ := List.cons.inj h
    rw [Option.some.inj h1, some_inj h2]
  | [], _ :: _, h => nomatch h
  | _ :: _, [], h => nomatch h
def plV (o : Option Nat) : V := match o with
  | none => .non
  | some p => .int p
def Wk (ws : List Str) : Prop := (∀ w ∈ ws, Asc w ∧ w.length ≤ 9000) ∧ ws.length ≤ 9000
def sp_esin (cN : Addr) : Sp := fun vs H Q E => ∃ (l : Addr) (ws : List Str), vs = [.ref l] ∧ H l = some (.lst (ws.map V.str)) ∧ Wk ws ∧ (∀ p, plc ws 0 1 = some p → Rf H E cN fun fs _ => fs = [(("place" : Str), V.int p)]) ∧
  (∀ t, plc ws 0 1 = none → ws = wordsT t → Wd t → t.nd ≤ 103 → ∀ l' xs H', Same H H' → H' l' = some (.lst xs) → EnsAt H' xs (ents t) → Q (.ref l') H')
theorem S_entries_in : FnScope ["words", "entries", "lacking", "place", "word", "entry"] ["words"] (defScope s_entries_in) := ⟨rfl, rfl, rfl, by decide +kernel, rfl, by decide +kernel, by decide +kernel⟩
theorem ok_entries_in {f cN : Addr} {fd : FuncData} (F : Fun K "entries_in" "entries_in" s_entries_in f fd) (T : Txt mg tk) (X_NoTree : XMkOk P w K mg base 1 "NoTree" cN ["self", "place"] ["place"]) (D_entry_in : DefOk P w K mg base 2 "entry_in" ["word"] sp_ein) : FnOk P w K mg base (CX1 P w) 3 f fd ["words"] (sp_esin cN) := by
  have S := S_entries_in
  refine F.okx S (fun vs H Q E h => ?_) (fun cdv A outer s H vs Q E hr h => ?_)
  · obtain ⟨l, t, rfl, _⟩ := h; rfl
  · obtain ⟨l, ws, rfl, hl, ⟨hw, hn⟩, qr, q⟩ := h
    refine ⟨_, (pss_cons (ps_set (i := 1) S.nd rfl (Or.inl rfl) (pe_lst pa_nil))
      (pss_cons (ps_set (i := 2) S.nd rfl (Or.inl rfl) pe_int)
      (pss_cons (ps_for own_cx rfl (pi_enum rfl T.z_enumerate (pa_cons (pv 0) pa_nil)) (pg_tup rfl (pgs_cons (pg_name (i := 3) S.nd rfl (Or.inl rfl)) (pgs_cons (pg_name (i := 4) S.nd rfl (Or.inl rfl)) pgs_nil))) (pss_cons (ps_set (i := 5) S.nd rfl (Or.inl rfl) (pe_fn D_entry_in hr (pa_cons (pv 4) pa_nil)))
      (pss_cons (ps_if (PW.pt (pw_or (pt_cmpR op_eq (pv 2) pe_int (nomark _)) (pw_or (pt_cmpR op_eq (pv 3) (pe_glob (v := .int 103) rfl T.g_MOST_WORDS ⟨_, rfl⟩) (nomark _)) (pw_or1 (pt_cmpR op_isN (pv 5) pe_non (nomark _)))))) (pss_one (ps_raise xeok_cx X_NoTree hr (pa_cons (pv 3) pa_nil))) pss_nil)
      (pss_cons (ps_expr (pe_bm PySem.F.plainAttrs_list PySem.F.slot_list_append PySem.F.type_list_append mt_append (pv 1) (pa_cons (pv 5) pa_nil)))
      (pss_one (ps_aug (i := 2) S.nd rfl (Or.inl rfl) (pe_ifExp (pt_cmpR op_eq (pe_ix ix_tup (pv 5) pe_int (fun _ _ => rfl)) (pe_glob (v := .str "whole") rfl T.g_WHOLE ⟨_, rfl⟩) (nomark _)) (pe_un un_neg pe_int) pe_int) ip_add))))))
      (pss_cons (ps_if (pt_cmpR op_gt (pv 2) pe_int (nomark _)) (pss_one (ps_raise xeok_cx X_NoTree hr (pa_cons (pe_callB call_len_seq rfl T.z_len rfl (pa_cons (pv 0) pa_nil)) pa_nil))) pss_nil)
      (pss_one (ps_ret (pv 1))))))), ?_⟩
    refine ⟨lenOk 0, fun le nle => ⟨_, rfl, l, rfl, ⟨_, SqL.of (Same.new nle _ _ hl)⟩, ?_⟩⟩
    refine for_enum (K := K) (a := l) (xs := ws.map V.str) (fun i σ H' => ∃ (xs : List V) (es : List En) (lk : Int) (x3 x4 x5 : Option V), σ = [some (.ref l), some (.ref le), some (.int lk), x3, x4, x5] ∧ Same H H' ∧ H' le = some (.lst xs) ∧ EnsAt H' xs es ∧ (ws.take i).map entF = es.map some ∧ i ≤ 103 ∧ plc ws 0 1 = plc (ws.drop i) i lk)
      ⟨[], [], 1, _, _, _, rfl, Same.new nle, upd_same, trivial, rfl, by decide, rfl⟩ (fun i σ H' _ hp => let ⟨_, _, _, _, _, _, _, s, _⟩ := hp; SqL.of (s _ _ hl)) ?_ ?_
    · rintro i x σ H' t0 hx ⟨xs, es, lk, x3, x4, x5, rfl, s1, h1, en, hes, hi, hp⟩ nt0
      obtain ⟨wd, hwd, rfl⟩ : ∃ wd, ws[i]? = some wd ∧ x = .str wd := by
        rw [List.getElem?_map] at hx
        cases he : ws[i]? with
        | none => rw [he] at hx; cases hx
        | some e => rw [he] at hx; exact ⟨e, rfl, (Option.some.inj hx).symm⟩
      have hdr : ws.drop i = wd :: ws.drop (i + 1) := by
        obtain ⟨hi', e⟩ := List.getElem?_eq_some_iff.mp hwd
        rw [List.drop_eq_getElem_cons hi', e]
      rw [hdr] at hp
      obtain ⟨wa, wl⟩ := hw wd (List.mem_of_getElem? hwd)
      have s2 : Same H' (upd H' t0 (.tup [.int i, .str wd])) := Same.new nt0
      refine ⟨t0, _, rfl, SqT.of upd_same, rfl, _, _, rfl, _, _, rfl, rfl, _, rfl, wd, rfl, wa, wl, fun e0 a H2 z0 z1 s3 na ha => ?_, fun z H2 s3 => ?_⟩
      · have he : entF wd = some e0 := by rw [z0]; exact entF_of z1
        have s4 := s2.trans s3
        generalize upd H' t0 (.tup [.int i, .str wd]) = Hx at s2 s3 na
        have h2 := s4 _ _ h1
        have xl : xs.length = i := by
          have a := congrArg List.length hes
          rw [List.length_map, List.length_map, List.length_take] at a
          have := (List.getElem?_eq_some_iff.mp hwd).1
          rw [en.len]; first | lia | omega
        refine ⟨_, rfl, rfl, _, rfl, ite3 (fun b => ?_) (fun b => ?_)⟩
        · have b : lk = 0 := by have := of_decide_eq_true b; injection this
          rw [plc_at (.inl b)] at hp
          exact ⟨_, rfl, rfl, fun y dx T H4 hy s5 e5 ed nd hT nT => (qr i hp).raise (s1.trans s4) hy s5 e5 ed nd hT rfl⟩
        have n0 : lk ≠ 0 := fun z => by rw [z, decide_eq_true rfl] at b; cases b
        refine ⟨_, rfl, rfl, _, rfl, ite3 (fun b => ?_) (fun b => ?_)⟩
        · have b : (i : Int) = 103 := by have := of_decide_eq_true b; injection this
          rw [plc_at (.inr (by first | lia | omega))] at hp
          exact ⟨_, rfl, rfl, fun y dx T H4 hy s5 e5 ed nd hT nT => (qr i hp).raise (s1.trans s4) hy s5 e5 ed nd hT rfl⟩
        have n1 : i ≠ 103 := fun z => absurd (of_decide_eq_false b) (fun n => n (by rw [z]; rfl))
        rw [plc_on he n0 n1] at hp
        refine ⟨_, rfl, rfl, _, rfl, iteN (decide_eq_false (by intro z; cases z)) ?_⟩
        refine ⟨_, rfl, .inl ⟨rfl, _, SqL.of h2⟩, _, rfl, le, xs, .ref a, rfl, rfl, h2, small1000 (by first | lia | omega), ?_⟩
        have k4 : Kp H2 (upd H2 le (.lst (xs ++ [.ref a]))) := Kp.put h2
        have ha4 := k4 _ _ ha (by intro xs z; cases z)
        have en4 : EnsAt (upd H2 le (.lst (xs ++ [.ref a]))) (xs ++ [.ref a]) (es ++ [e0]) := ((en.kp (kp_of s4)).kp k4).snoc ha4
        have hes4 : (ws.take (i + 1)).map entF = (es ++ [e0]).map some := by
          rw [List.take_succ, hwd, List.map_append, List.map_append, hes]
          show _ ++ [entF wd] = _ ++ [some e0]
          rw [he]
        have s5 : Same H (upd H2 le (.lst (xs ++ [.ref a]))) := fun b o z => by
          rw [upd_ne (ne_of_none z nle)]; exact s4 b o (s1 b o z)
        cases e0 with
        | w m =>
          refine ⟨_, rfl, _, rfl, a, _, _, _, rfl, rfl, SqT.of ha4, at2_0, rfl, _, rfl, iteP (decide_eq_true rfl) ?_⟩
          exact ⟨_, rfl, _, _, rfl, rfl, xs ++ [.ref a], _, _, _, _, _, rfl, s5, upd_same, en4, hes4, by first | lia | omega, hp⟩
        | c u k =>
          refine ⟨_, rfl, _, rfl, a, _, _, _, rfl, rfl, SqT.of ha4, at2_0, rfl, _, rfl, iteN (wd_whole u) ?_⟩
          exact ⟨_, _, rfl, rfl, xs ++ [.ref a], _, _, _, _, _, rfl, s5, upd_same, en4, hes4, by first | lia | omega, hp⟩
      · have s4 := s2.trans s3
        rw [plc_none (entF_not z)] at hp
        have rz := fun (y dx T : Addr) (H4 : Hp) (hy : H2 y = none) (s5 : Same H2 H4) e5 ed nd hT (_ : T ≠ y) => (qr i hp).raise (y := y) (dx := dx) (T := T) (H2 := H4) (fs := [(("place" : Str), V.int i)]) (s1.trans s4) hy s5 e5 ed nd hT rfl
        refine ⟨_, rfl, rfl, _, rfl, ite3 (fun b => ⟨_, rfl, rfl, rz⟩) (fun b => ?_)⟩
        refine ⟨_, rfl, rfl, _, rfl, ite3 (fun b => ⟨_, rfl, rfl, rz⟩) (fun b => ?_)⟩
        exact ⟨_, rfl, rfl, _, rfl, iteP (decide_eq_true rfl) ⟨_, rfl, rfl, rz⟩⟩
    · rintro σ H' ⟨xs, es, lk, x3, x4, x5, rfl, s1, h1, en, hes, hi, hp⟩
      rw [List.length_map, List.take_length] at hes
      rw [List.length_map, List.drop_length, plc_nil] at hp
      refine ⟨_, rfl, _, _, rfl, rfl, _, rfl, ite3 (fun b => ?_) (fun b => ?_)⟩
      · rw [if_pos (of_decide_eq_true b)] at hp
        refine ⟨_, rfl, l, _, rfl, .inl (SqL.of (s1 _ _ hl)), rfl, fun y dx T H4 hy s5 e5 ed nd hT nT => (qr ws.length hp).raise s1 hy s5 e5 ed nd hT ?_⟩
        rw [List.length_map]; rfl
      · rw [if_neg (of_decide_eq_false b)] at hp
        obtain ⟨t, t1, t2, t3, t4⟩ := plc_tree hp
        rw [hes] at t1
        rw [some_inj t1] at en
        exact ⟨_, rfl, q t hp t3 t2 t4 le xs H' s1 h1 en⟩
theorem join_mem : ∀ {xs : List Str} {c : Nat} {p : Str}, p ∈ xs → ∀ a ∈ p.cps.toList, a ∈ (Str.join ⟨#[c]⟩ xs).cps.toList
  | [x], c, p, hp, a, ha => by
    rw [List.mem_singleton.mp hp] at ha
    exact ha
  | x :: y :: r, c, p, hp, a, ha => by
    rw [join2]
    rcases List.mem_cons.mp hp with rfl | hp
    · exact List.mem_append_left _ ha
    · exact List.mem_append_right _ (List.mem_cons_of_mem _ (join_mem hp a ha))
theorem join_long : ∀ {xs : List Str} {c : Nat}, xs.length ≤ (Str.join ⟨#[c]⟩ xs).cps.toList.length + 1
  | [], _ => by show 0 ≤ _; first | lia | omega
  | [x], _ => by show 1 ≤ _; first | lia | omega
  | x :: y :: r, c => by
    have := join_long (xs := y :: r) (c := c)
    rw [join2, List.length_append, List.length_cons]
    show _ ≤ _ + (_ + 1) + 1
    first | lia | omega
theorem join_each : ∀ {xs : List Str} {c : Nat} {p : Str}, p ∈ xs → p.cps.toList.length ≤ (Str.join ⟨#[c]⟩ xs).cps.toList.length
  | [x], c, p, hp => by
    rw [List.mem_singleton.mp hp]; exact Nat.le_refl _
  | x :: y :: r, c, p, hp => by
    rw [join2, List.length_append, List.length_cons]
    rcases List.mem_cons.mp hp with rfl | hp
    · first | lia | omega
    · have := join_each (c := c) hp
      first | lia | omega
theorem wk_split {z : Str} (ha : Asc z) (hl : z.length ≤ 8000) : Wk (Txt.split z " ") := by
  have e : (" " : Str) = ⟨#[32]⟩ := by decide +kernel
  have j : Str.join ⟨#[32]⟩ (Txt.split z " ") = z := by
    have := StrLaws.join_split z " "
    rw [← e]; exact this
  have len : ∀ x : Str, x.cps.toList.length = x.length := fun x => by rw [Array.length_toList]; rfl
  refine ⟨fun w hw => ⟨?_, ?_⟩, ?_⟩
  · unfold Asc at ha ⊢
    rw [← Array.all_toList, List.all_eq_true] at ha ⊢
    intro a h
    have := join_mem (c := 32) hw a h
    rw [j] at this
    exact ha a this
  · have := join_each (c := 32) hw
    rw [j, len, len] at this
    first | lia | omega
  · have := join_long (xs := Txt.split z " ") (c := 32)
    rw [j, len] at this
    first | lia | omega
def sp_read1 (cW cU cL cN : Addr) : Sp := fun vs H Q E => ∃ (v : V), vs = [v] ∧ (((∃ T, tyS H v = some T ∧ T ≠ "str") ∧ Rf H E cN fun fs _ => fs = [(("place" : Str), V.int 0)]) ∨
  ∃ z, v = .str z ∧ Asc z ∧ z.length ≤ 8000 ∧ (∀ p, plc (Txt.split z " ") 0 1 = some p → Rf H E cN fun fs _ => fs = [(("place" : Str), V.int p)]) ∧ (∀ t, plc (Txt.split z " ") 0 1 = none → Txt.split z " " = wordsT t → Wd t → t.nd ≤ 103 → ∀ v' H', Same H H' → Obj cW cU cL H' t v' → Q v' H'))
theorem S_read_tree : FnScope ["text"] ["text"] (defScope s_read_tree) := ⟨rfl, rfl, rfl, by decide +kernel, rfl, by decide +kernel, by decide +kernel⟩
theorem ok_read_tree {f cN : Addr} {fd : FuncData} (F : Fun K "read_tree" "read_tree" s_read_tree f fd) (T : Txt mg tk) (X_NoTree : XMkOk P w K mg base 1 "NoTree" cN ["self", "place"] ["place"]) (D_entries_in : DefOkX P w K mg base 3 "entries_in" ["words"] (sp_esin cN)) (D_tree_from : DefOk P w K mg base 4 "tree_from" ["entries"] (sp_from K cW cU cL)) :
    FnOk P w K mg base (CX1 P w) 5 f fd ["text"] (sp_read1 cW cU cL cN) := by
  have S := S_read_tree
  refine F.okx S (fun vs H Q E h => ?_) (fun cdv A outer s H vs Q E hr h => ?_)
  · obtain ⟨t, rfl, _⟩ := h; rfl
  · obtain ⟨v, rfl, h⟩ := h
    refine ⟨_, (pss_cons (ps_if (pt_not (pt_val (pe_callB call_isin rfl T.z_isinstance rfl (pa_cons (pv 0) (pa_cons (pe_bltn (v := .ty "str") rfl T.z_str rfl rfl) pa_nil))))) (pss_one (ps_raise xeok_cx X_NoTree hr (pa_cons pe_int pa_nil))) pss_nil)
      (pss_one (ps_ret (pe_fn D_tree_from hr (pa_cons (pe_fnx D_entries_in hr (pass_x xeok_cx (pass_u (H := H) (E := E))) (pa_cons (pe_bm PySem.F.plainAttrs_str PySem.F.slot_str_split PySem.F.type_str_split mt_split (pv 0) (pa_cons pe_str pa_nil)) pa_nil)) pa_nil))))), ?_⟩
    rcases h with ⟨⟨Ty, ht, nT⟩, r⟩ | ⟨z, rfl, za, zl, qr, q⟩
    · refine ⟨_, rfl, v, Ty, "str", rfl, ht, .inr (.inr (.inr (.inr rfl))), _, rfl, iteP (by unfold isB; rw [decide_eq_false nT, decide_eq_false (show ¬ ("str" : String) = "int" by decide), Bool.and_false]; rfl) ?_⟩
      exact ⟨rfl, fun y dx T H4 hy s5 e5 ed nd hT nT => r.raise (Same.refl H) hy s5 e5 ed nd hT rfl⟩
    · refine ⟨_, rfl, _, "str", "str", rfl, rfl, .inr (.inr (.inr (.inr rfl))), _, rfl, iteN (by decide +kernel) ?_⟩
      have wk := wk_split za zl
      refine ⟨_, rfl, rfl, z, _, rfl, rfl, by decide +kernel, Nat.le_of_lt (small9 (by first | lia | omega)), fun l nl => ?_⟩
      have s1 : Same H (upd H l (.lst ((Txt.split z " ").map V.str))) := Same.new nl
      refine ⟨l, _, rfl, upd_same, wk, fun p hp => rf_u s1 (qr p hp) stb_eq, fun t h1 h2 h3 h4 l' xs H' s2 h5 en => ?_⟩
      exact ⟨l', xs, t, rfl, SqL.of h5, en, by first | lia | omega, fun v' H2 s3 o2 => q t h1 h2 h3 h4 v' H2 (s1.trans (s2.trans s3)) o2⟩
def sp_place : Sp := fun vs H Q _ => ∃ (l : Addr) (ws : List Str), vs = [.ref l] ∧ H l = some (.lst (ws.map V.str)) ∧ Wk ws ∧ ∀ H', Same H H' → Q (plV (plc ws 0 1)) H'
theorem S_law_place : FnScope ["_law_words", "_law_wanting", "_law_place_here", "_law_kind_here"] ["_law_words"] (defScope s__law_place) := ⟨rfl, rfl, rfl, by decide +kernel, rfl, by decide +kernel, by decide +kernel⟩
theorem ok_law_place {f : Addr} {fd : FuncData} (F : Fun K "_law_place" "_law_place" s__law_place f fd) (T : Txt mg tk) (D__law_kind : DefOk P w K mg base 2 "_law_kind" ["_law_word_here"] sp_kd) : FnOk P w K mg base CX0 3 f fd ["_law_words"] sp_place := by
  have S := S_law_place
  refine F.ok S (fun vs H Q E h => ?_) (fun cdv A outer s H vs Q E hr h => ?_)
  · obtain ⟨t, ws, rfl, _⟩ := h; rfl
  · obtain ⟨l, ws, rfl, hl, ⟨hw, hn⟩, q⟩ := h
    refine ⟨_, (pss_cons (ps_set (i := 1) S.nd rfl (Or.inl rfl) pe_int)
      (pss_cons (ps_for PassesOwn.never rfl (pi_range1 rfl T.z_range (pa_cons (pe_callB call_len_seq rfl T.z_len rfl (pa_cons (pv 0) pa_nil)) pa_nil)) (pg_name (i := 2) S.nd rfl (Or.inl rfl)) (pss_cons (ps_if (PW.pt (pw_or (pt_cmpR op_eq (pv 2) pe_int (nomark _)) (pw_or1 (pt_cmpR op_eq (pv 1) pe_int (nomark _))))) (pss_one (ps_ret (pv 2))) pss_nil)
      (pss_cons (ps_set (i := 3) S.nd rfl (Or.inl rfl) (pe_fn D__law_kind hr (pa_cons (pe_ix ix_list (pv 0) (pv 2) (fun _ _ => rfl)) pa_nil)))
      (pss_cons (ps_if (pt_cmpR op_lt (pv 3) pe_int (nomark _)) (pss_one (ps_ret (pv 2))) pss_nil)
      (pss_one (ps_set (i := 1) S.nd rfl (Or.inl rfl) (pe_op op_add (pe_op op_sub (pv 1) pe_int) (pv 3))))))))
      (pss_cons (ps_if (pt_cmpR op_gt (pv 1) pe_int (nomark _)) (pss_one (ps_ret (pe_callB call_len_seq rfl T.z_len rfl (pa_cons (pv 0) pa_nil)))) pss_nil)
      (pss_one (ps_ret pe_non))))), ?_⟩
    have wl : (ws.map V.str).length = ws.length := List.length_map _
    refine ⟨_, rfl, l, _, rfl, .inl (SqL.of hl), ((ws.map V.str).length : Int), rfl, by first | lia | omega, by first | lia | omega, for_range (lo := 0) (n := ((ws.map V.str).length : Int).toNat) (fun i σ H' => ∃ (lk : Int) (x3 x4 : Option V), σ = [some (.ref l), some (.int lk), x3, x4] ∧ Same H H' ∧ i ≤ 103 ∧ plc ws 0 1 = plc (ws.drop i) i lk) ⟨1, _, _, rfl, Same.refl H, by decide, rfl⟩ ?_ ?_⟩
    · rintro i σ H2 hi ⟨lk, x3, x4, rfl, s1, h3, hp⟩
      have hi : i < ws.length := by first | lia | omega
      have hwd : ws[i]? = some ws[i] := List.getElem?_eq_getElem hi
      have hx : (ws.map V.str)[i]? = some (.str ws[i]) := by rw [List.getElem?_map, hwd]; rfl
      have hz : (0 : Int) + (i : Int) = (i : Int) := Int.zero_add _
      rw [hz]
      have hdr : ws.drop i = ws[i] :: ws.drop (i + 1) := List.drop_eq_getElem_cons hi
      rw [hdr] at hp
      obtain ⟨wa, wl'⟩ := hw ws[i] (List.getElem_mem hi)
      generalize ws[i] = wd at hwd hx hp wa wl'
      refine ⟨_, rfl, rfl, _, rfl, ite3 (fun b => ?_) (fun b => ?_)⟩
      · have b : (i : Int) = 103 := by have := of_decide_eq_true b; injection this
        rw [plc_at (.inr (by first | lia | omega))] at hp
        rw [hp] at q
        exact ⟨_, rfl, q H2 s1⟩
      have n1 : i ≠ 103 := fun z => absurd (of_decide_eq_false b) (fun n => n (by rw [z]; rfl))
      refine ⟨_, rfl, rfl, _, rfl, ite3 (fun b => ?_) (fun b => ?_)⟩
      · have b : lk = 0 := by have := of_decide_eq_true b; injection this
        rw [plc_at (.inl b)] at hp
        rw [hp] at q
        exact ⟨_, rfl, q H2 s1⟩
      have n0 : lk ≠ 0 := fun z => by rw [z, decide_eq_true rfl] at b; cases b
      refine ⟨_, rfl, _, rfl, l, _, _, _, rfl, rfl, SqL.of (s1 _ _ hl), atI_nat hx, wd, rfl, wa, wl', fun e H3 z0 z1 s3 => ?_, fun z H3 s3 => ?_⟩
      · have he : entF wd = some e := by rw [z0]; exact entF_of z1
        rw [plc_on he n0 n1] at hp
        cases e with
        | w m =>
          refine ⟨_, rfl, _, _, rfl, rfl, _, rfl, iteN (show decide ((0 : Int) < 0) = false by decide) ⟨_, rfl, _, _, rfl, rfl, _, rfl, _, _, rfl, rfl, _, _, _, rfl, s1.trans s3, by first | lia | omega, ?_⟩⟩
          rw [hp]; exact congrArg (plc _ _) (show lk - 1 = lk - 1 + 0 by first | lia | omega)
        | c u k =>
          refine ⟨_, rfl, _, _, rfl, rfl, _, rfl, iteN (show decide ((2 : Int) < 0) = false by decide) ⟨_, rfl, _, _, rfl, rfl, _, rfl, _, _, rfl, rfl, _, _, _, rfl, s1.trans s3, by first | lia | omega, ?_⟩⟩
          rw [hp]; exact congrArg (plc _ _) (show lk - -1 = lk - 1 + 2 by first | lia | omega)
      · rw [plc_none (entF_not z)] at hp
        rw [hp] at q
        exact ⟨_, rfl, _, _, rfl, rfl, _, rfl, iteP (by decide) ⟨_, rfl, q H3 (s1.trans s3)⟩⟩
    · rintro σ H2 ⟨lk, x3, x4, rfl, s1, h3, hp⟩
      have e : ((ws.map V.str).length : Int).toNat = ws.length := by first | lia | omega
      rw [e, List.drop_length, plc_nil] at hp
      refine ⟨_, rfl, _, _, rfl, rfl, _, rfl, ite3 (fun b => ?_) (fun b => ?_)⟩
      · rw [if_pos (of_decide_eq_true b)] at hp
        rw [hp] at q
        refine ⟨_, rfl, l, _, rfl, .inl (SqL.of (s1 _ _ hl)), ?_⟩
        rw [wl]; exact q H2 s1
      · rw [if_neg (of_decide_eq_false b)] at hp
        rw [hp] at q
        exact q H2 s1
def sp_lread (n : Nat) : Sp := fun vs H Q _ => ∃ (l : Addr) (ws : List Str) (i : Nat) (t : Tr) (r : List Str), vs = [.ref l, .int i] ∧ H l = some (.lst (ws.map V.str)) ∧ ws.drop i = wordsT t ++ r ∧ Wd t ∧ t.dp < n ∧ ∀ a v H', Same H H' → Told H' t v → H' a = some (.tup [v, .int ((i + t.nd : Nat) : Int)]) → Q (.ref a) H'
theorem lread0 {vs : List V} {H : Hp} {Q : VK} {E : XK} : ¬ sp_lread 0 vs H Q E := by
  rintro ⟨l, ws, i, t, r, _, _, _, _, h, _⟩
  first | lia | omega
theorem wordsT_cut (u : Bool) (k : Int) (x y : Tr) : wordsT (.cut u k x y) = (sgn u ++ num k) :: (wordsT x ++ wordsT y) := by
  unfold wordsT
  rw [ents, List.map_cons, List.map_append]; rfl
theorem drop_one {ws r : List Str} {x : Str} {i : Nat} (h : ws.drop i = x :: r) : (ws.map V.str)[i]? = some (.str x) ∧ ws.drop (i + 1) = r := by
  constructor
  · rw [List.getElem?_map]
    have : ws[i]? = some x := by
      have e : (ws.drop i)[0]? = some x := by rw [h]; rfl
      rw [List.getElem?_drop] at e; exact e
    rw [this]; rfl
  · rw [← List.drop_drop, h]; rfl
theorem S_law_read : FnScope ["_law_words", "_law_at_here", "_law_word_here", "_law_first", "_law_behind", "_law_other", "_law_end"] ["_law_words", "_law_at_here"] (defScope s__law_read) := ⟨rfl, rfl, rfl, by decide +kernel, rfl, by decide +kernel, by decide +kernel⟩
theorem ok_law_read {f : Addr} {fd : FuncData} {n : Nat} (F : Fun K "_law_read" "_law_read" s__law_read f fd) (T : Txt mg tk) (D__law_read : DefOk P w K mg base (n + 3) "_law_read" ["_law_words", "_law_at_here"] (sp_lread n)) :
    FnOk P w K mg base CX0 (n + 4) f fd ["_law_words", "_law_at_here"] (sp_lread (n + 1)) := by
  have S := S_law_read
  refine F.ok S (fun vs H Q E h => ?_) (fun cdv A outer s H vs Q E hr h => ?_)
  · obtain ⟨l, ws, i, t, r, rfl, _⟩ := h; rfl
  · obtain ⟨l, ws, i, t, r, rfl, hl, hd, hw, hdp, q⟩ := h
    refine ⟨_, (pss_cons (ps_set (i := 2) S.nd rfl (Or.inl rfl) (pe_ix ix_list (pv 0) (pv 1) (fun _ _ => rfl)))
      (pss_cons (ps_if (pt_cmpR op_eq (pv 2) pe_str (nomark _)) (pss_one (ps_ret (pe_tup (pa_cons (pe_tup (pa_cons pe_str (pa_cons pe_non pa_nil))) (pa_cons (pe_op op_add (pv 1) pe_int) pa_nil))))) pss_nil)
      (pss_cons (ps_if (pt_cmpR op_eq (pe_item_str (pv 2) pe_int (fun _ _ => rfl)) pe_str (nomark _)) (pss_one (ps_ret (pe_tup (pa_cons (pe_tup (pa_cons pe_str (pa_cons (pe_callTy call_int_text rfl T.z_int rfl (pa_cons (pe_slice sl_str (pv 2) (po_some pe_int) po_none) pa_nil)) pa_nil))) (pa_cons (pe_op op_add (pv 1) pe_int) pa_nil))))) pss_nil)
      (pss_cons (ps_asg (pe_fn D__law_read hr (pa_cons (pv 0) (pa_cons (pe_op op_add (pv 1) pe_int) pa_nil)) (by first | lia | omega)) (pg_tup rfl (pgs_cons (pg_name (i := 3) S.nd rfl (Or.inl rfl)) (pgs_cons (pg_name (i := 4) S.nd rfl (Or.inl rfl)) pgs_nil))))
      (pss_cons (ps_asg (pe_fn D__law_read hr (pa_cons (pv 0) (pa_cons (pv 4) pa_nil)) (by first | lia | omega)) (pg_tup rfl (pgs_cons (pg_name (i := 5) S.nd rfl (Or.inl rfl)) (pgs_cons (pg_name (i := 6) S.nd rfl (Or.inl rfl)) pgs_nil))))
      (pss_one (ps_ret (pe_tup (pa_cons (pe_tup (pa_cons (pe_ix ix_list (pe_lst (pa_cons pe_str (pa_cons pe_str pa_nil))) (pe_callTy call_int1 rfl T.z_int rfl (pa_cons (pe_cmpR op_eq (pe_item_str (pv 2) pe_int (fun _ _ => rfl)) pe_str (nomark _)) pa_nil)) (fun _ _ => rfl)) (pa_cons (pe_callTy call_int_text rfl T.z_int rfl (pa_cons (pe_slice sl_str (pv 2) (po_some pe_int) po_none) pa_nil)) (pa_cons (pv 3) (pa_cons (pv 5) pa_nil))))) (pa_cons (pv 6) pa_nil)))))))))), ?_⟩
    have len9 : ∀ {c : Nat} {i : Int}, 0 ≤ i → i ≤ 999 → ((⟨#[c]⟩ : Str) ++ num i).length ≤ sizeLine ∧ (0 : Int) < (((⟨#[c]⟩ : Str) ++ num i).length : Int) ∧ decide (V.str ((⟨#[c]⟩ : Str) ++ num i) = V.str ".") = false := fun h0 h1 => by
      have := num_of h0 h1
      refine ⟨Nat.le_of_lt (small9 (by rw [len_of]; first | lia | omega)), by rw [len_of]; first | lia | omega, decide_eq_false fun z => app_ne this.1 (by injection z)⟩
    cases t with
    | whole m =>
      rw [Wd] at hw
      obtain ⟨hx, _⟩ := drop_one (r := r) (x := wordE (.w m)) hd
      refine ⟨_, rfl, _, rfl, l, _, _, _, rfl, rfl, SqL.of hl, atI_nat hx, ?_⟩
      cases m with
      | none =>
        refine ⟨_, rfl, rfl, _, rfl, iteP (decide_eq_true rfl) ?_⟩
        exact ⟨lenOk 2, fun t0 nt0 => ⟨_, rfl, _, _, rfl, rfl, lenOk 2, fun t1 nt1 => q t1 (.ref t0) _ ((Same.new nt0).trans (Same.new nt1)) (by rw [Told]; exact ⟨t0, rfl, Same.new nt1 _ _ upd_same⟩) upd_same⟩⟩
      | some j =>
        obtain ⟨h0, h1⟩ := hw j rfl
        obtain ⟨l1, l2, l3⟩ := len9 (c := 35) h0 h1
        refine ⟨_, rfl, rfl, _, rfl, iteN l3 ?_⟩
        refine ⟨_, rfl, _, 0, 35, rfl, rfl, by decide, by decide, l2, first_of, rfl, _, rfl, iteP (by decide +kernel) ?_⟩
        refine ⟨_, rfl, _, rfl, _, rfl, l1, num j, j, by rw [← rest_of (c := 35) (d := num j)]; rfl, by have := (num_of h0 h1).2.1; first | lia | omega, num_reads h0 h1, lenOk 2, fun t0 nt0 => ⟨_, rfl, _, _, rfl, rfl, lenOk 2, fun t1 nt1 => q t1 (.ref t0) _ ((Same.new nt0).trans (Same.new nt1)) (by rw [Told]; exact ⟨t0, rfl, Same.new nt1 _ _ upd_same⟩) upd_same⟩⟩
    | cut u k x y =>
      rw [Wd] at hw
      obtain ⟨k1, k2, wx, wy⟩ := hw
      rw [wordsT_cut] at hd
      obtain ⟨hx, hd1⟩ := drop_one hd
      have hd1 : ws.drop (i + 1) = (wordsT x ++ wordsT y) ++ r := hd1
      have hdp : max x.dp y.dp + 1 < n + 1 := hdp
      refine ⟨_, rfl, _, rfl, l, _, _, _, rfl, rfl, SqL.of hl, atI_nat hx, ?_⟩
      have h0 : 0 ≤ k := by first | lia | omega
      have h1 : k ≤ 999 := by first | lia | omega
      rw [sgn_eq]
      obtain ⟨l1, l2, l3⟩ := len9 (c := if u then 124 else 45) h0 h1
      have x0 : ((⟨#[if u then 124 else 45]⟩ : Str) ++ num k).cps[(0 : Int).toNat]? = some (if u then 124 else 45) := first_of
      have hsl : Txt.slice ((⟨#[if u then 124 else 45]⟩ : Str) ++ num k) (some 1) none = num k := rest_of
      generalize (⟨#[if u then 124 else 45]⟩ : Str) ++ num k = wz at l1 l2 l3 x0 hsl ⊢
      refine ⟨_, rfl, rfl, _, rfl, iteN l3 ?_⟩
      refine ⟨_, rfl, wz, 0, _, rfl, rfl, by decide, by decide, l2, x0, rfl, _, rfl, iteN (by cases u <;> decide +kernel) ?_⟩
      refine ⟨_, rfl, _, rfl, _, _, rfl, rfl, l, ws, i + 1, x, wordsT y ++ r, rfl, hl, by rw [hd1, List.append_assoc], wx, by first | lia | omega, fun a1 v1 H1 s1 T1 A1 => ?_⟩
      refine ⟨a1, _, rfl, SqT.of A1, rfl, _, _, rfl, _, _, rfl, rfl, ?_⟩
      have hd2 : ws.drop (i + 1 + x.nd) = wordsT y ++ r := by
        rw [← List.drop_drop, hd1, List.append_assoc, ← words_len x, List.drop_left]
      refine ⟨_, rfl, _, rfl, l, ws, i + 1 + x.nd, y, r, rfl, s1 _ _ hl, hd2, wy, by first | lia | omega, fun a2 v2 H2 s2 T2 A2 => ?_⟩
      refine ⟨a2, _, rfl, SqT.of A2, rfl, _, _, rfl, _, _, rfl, rfl, ?_⟩
      have hb : decide (V.str (⟨#[if u then 124 else 45]⟩ : Str) = V.str "|") = u := by cases u <;> decide +kernel
      have hat : atI [V.str "level", V.str "upright"] (if decide (V.str (⟨#[if u then 124 else 45]⟩ : Str) = V.str "|") = true then (1 : Int) else 0) = some (V.str (wd u)) := by rw [hb]; cases u <;> rfl
      refine ⟨lenOk 2, fun t2 nt2 => ⟨_, rfl, wz, 0, _, rfl, rfl, by decide, by decide, l2, x0, rfl, .inr ⟨_, rfl, t2, _, _, _, rfl, rfl, SqL.of upd_same, hat, ?_⟩⟩⟩
      refine ⟨_, rfl, _, rfl, wz, rfl, l1, num k, k, by rw [hsl], by have := (num_of h0 h1).2.1; first | lia | omega, num_reads h0 h1, _, rfl, _, rfl, lenOk 4, fun t3 nt3 => ⟨_, rfl, lenOk 2, fun t4 nt4 => ?_⟩⟩
      have s5 := (Same.new (H := H2) (o := .lst [V.str "level", V.str "upright"]) nt2).trans ((Same.new (o := .tup [V.str (wd u), .int k, v1, v2]) nt3).trans (Same.new (o := .tup [.ref t3, .int ((i + 1 + x.nd + y.nd : Nat) : Int)]) nt4))
      refine q t4 (.ref t3) _ (s1.trans (s2.trans s5)) ?_ ?_
      · rw [Told]
        exact ⟨t3, v1, v2, rfl, Same.new nt4 _ _ upd_same, T1.same (s2.trans s5), T2.same s5⟩
      · rw [show i + (Tr.cut u k x y).nd = i + 1 + x.nd + y.nd from by show i + (x.nd + y.nd + 1) = _; first | lia | omega]
        exact upd_same
structure RG (mg : Str → Option Value) (K : PySem.W.Frag) (cG cS cC cN : Addr) : Prop where
  g_GlassError : mg "GlassError" = some (.ref cG)
  g_NoSide : mg "NoSide" = some (.ref cS)
  g_NoCut : mg "NoCut" = some (.ref cC)
  g_NoTree : mg "NoTree" = some (.ref cN)
  x_GlassError : PySem.W.excIn K cG vErr "ValueError.__new__" = true
  m : PySem.W.mroIn K cN (.ref cG) = some true
  cl : XCls K cN
  n_place : NoAttr K cN "place"
  kT : PySem.W.kitOne K (.ref cN) (.ref cN) = some true
  kS : PySem.W.kitOne K (.ref cN) (.ref cS) = some false
  kC : PySem.W.kitOne K (.ref cN) (.ref cC) = some false
  kV : PySem.W.kitOne K (.ref cN) (.type "ValueError") = some true
theorem lookup1 {f : Str} {v : V} : ([(f, v)] : List (Str × V)).lookup f = some v := by simp [List.lookup]
def sp_refused (cW cU cL : Addr) : Sp := fun vs H Q _ => ∃ (v : V), vs = [v] ∧ (((∃ T, tyS H v = some T ∧ T ≠ "str") ∧ ∀ t H', Same H H' → H' t = some (.tup [.bl false, .int 0]) → Q (.ref t) H') ∨
  ∃ z, v = .str z ∧ Asc z ∧ z.length ≤ 8000 ∧ (∀ p : Nat, plc (Txt.split z " ") 0 1 = some p → ∀ t H', Same H H' → H' t = some (.tup [.bl false, .int p]) → Q (.ref t) H') ∧ (∀ t, plc (Txt.split z " ") 0 1 = none → Txt.split z " " = wordsT t → Wd t → t.nd ≤ 103 → ∀ a v' H', Same H H' → Obj cW cU cL H' t v' → H' a = some (.tup [.bl true, v']) → Q (.ref a) H'))
theorem S_law_refused : FnScope ["_law_text", "_law_caught", "_law_found", "e"] ["_law_text"] (defScope s__law_refused) := ⟨rfl, rfl, rfl, by decide +kernel, rfl, by decide +kernel, by decide +kernel⟩
theorem ok_law_refused {f cG cS cC cN : Addr} {fd : FuncData} (F : Fun K "_law_refused" "_law_refused" s__law_refused f fd) (T : Txt mg tk) (R : RG mg K cG cS cC cN) (D_read_tree : DefOkX P w K mg base 5 "read_tree" ["text"] (sp_read1 cW cU cL cN)) : FnOk P w K mg base CX0 6 f fd ["_law_text"] (sp_refused cW cU cL) := by
  have S := S_law_refused
  refine F.ok S (fun vs H Q E h => ?_) (fun cdv A outer s H vs Q E hr h => ?_)
  · obtain ⟨v, rfl, _⟩ := h; rfl
  · obtain ⟨v, rfl, hv⟩ := h
    refine ⟨_, (pss_cons (ps_set (i := 1) S.nd rfl (Or.inl rfl) pe_non)
      (pss_cons (ps_set (i := 2) S.nd rfl (Or.inl rfl) pe_non)
      (pss_cons (ps_tryset (i := 2) (im := 3) S.nd rfl (Or.inl rfl) rfl rfl (fun _ => px_fn D_read_tree hr (pa_cons (pv 0) pa_nil)) rfl R.g_GlassError R.x_GlassError rfl rfl (fun _ => (pss_one (ps_set (i := 1) S.nd rfl (Or.inl rfl) (pv 3)))))
      (pss_cons (ps_if (pt_cmpR op_isN (pv 1) pe_non (nomark _)) (pss_one (ps_ret (pe_tup (pa_cons pe_bl (pa_cons (pv 2) pa_nil))))) pss_nil)
      (pss_cons (ps_if (PW.pt (pw_or (pt_not (pt_val (pe_callB call_isinX rfl T.z_isinstance rfl (pa_cons (pv 1) (pa_cons (pe_glob (v := .ref (cN)) rfl R.g_NoTree rfl) pa_nil))))) (pw_or (pt_val (pe_callB call_isinX rfl T.z_isinstance rfl (pa_cons (pv 1) (pa_cons (pe_glob (v := .ref (cS)) rfl R.g_NoSide rfl) pa_nil)))) (pw_or1 (pt_val (pe_callB call_isinX rfl T.z_isinstance rfl (pa_cons (pv 1) (pa_cons (pe_glob (v := .ref (cC)) rfl R.g_NoCut rfl) pa_nil)))))))) (pss_one (ps_ret (pe_tup (pa_cons pe_bl (pa_cons pe_non pa_nil))))) pss_nil)
      (pss_cons (ps_if (PW.pt (pw_or (pt_not (pt_val (pe_callB call_isinX rfl T.z_isinstance rfl (pa_cons (pv 1) (pa_cons (pe_bltn (v := .ty "ValueError") rfl T.z_ValueError rfl rfl) pa_nil))))) (pw_or1 (pt_val (pe_callB call_isin rfl T.z_isinstance rfl (pa_cons (pe_xfld (pv 1) rfl) (pa_cons (pe_bltn (v := .ty "bool") rfl T.z_bool rfl rfl) pa_nil))))))) (pss_one (ps_ret (pe_tup (pa_cons pe_bl (pa_cons pe_non pa_nil))))) pss_nil)
      (pss_one (ps_ret (pe_tup (pa_cons pe_bl (pa_cons (pe_xfld (pv 1) rfl) pa_nil))))))))))), ?_⟩
    have key : ∀ p : Int, (∀ t H', Same H H' → H' t = some (.tup [.bl false, .int p]) → Q (.ref t) H') → Rf H (XE H (fun C fs _ => C = cN ∧ ∃ p : Int, fs = [(("place" : Str), V.int p)] ∧ ∀ t H', Same H H' → H' t = some (.tup [.bl false, .int p]) → Q (.ref t) H')) cN fun fs _ => fs = [(("place" : Str), V.int p)] := fun p q => XE.rf fun fs H' e => ⟨rfl, p, e, q⟩
    refine ⟨XE H (fun C fs _ => C = cN ∧ ∃ p : Int, fs = [(("place" : Str), V.int p)] ∧ ∀ t H', Same H H' → H' t = some (.tup [.bl false, .int p]) → Q (.ref t) H'), ⟨_, rfl, v, rfl, ?_⟩, ?_⟩
    · rcases hv with ⟨ty, q⟩ | ⟨z, rfl, za, zl, qr, q⟩
      · exact .inl ⟨ty, key 0 q⟩
      · refine .inr ⟨z, rfl, za, zl, fun p hp => key p (qr p hp), fun t h1 h2 h3 h4 v' H' s1 o1 => ?_⟩
        refine ⟨_, rfl, rfl, _, rfl, iteP (decide_eq_true rfl) ⟨_, rfl, lenOk 2, fun t' ht' => ?_⟩⟩
        exact q t h1 h2 h3 h4 t' v' _ (s1.trans (Same.new ht')) (o1.same (Same.new ht')) upd_same
    · rintro x C' d T0 T2 H' ⟨x', C2, dx, fs, ev, rfl, hx, s34, xr, rfl, p, rfl, q⟩ fl hT2 nT2
      obtain rfl : x = x' := Value.ref.inj ev
      obtain ⟨rfl, xr', s5⟩ := xr_on hx s34 xr fl hT2
      obtain ⟨⟨dx', ed, nd, hd⟩, T3, hxT⟩ := xr'
      cases ed
      generalize thrown H' x C2 (some dx) T2 = H5 at hd hxT s5 ⊢
      have he : IsExc H5 x C2 := .inl ⟨dx, _, .inr ⟨T3, hxT⟩, hd⟩
      refine ⟨R.m, _, rfl, ?_⟩
      refine ⟨_, rfl, rfl, _, rfl, iteN (decide_eq_false (by intro z; cases z)) ?_⟩
      refine ⟨_, rfl, x, C2, .ref C2, .ref C2, true, rfl, he, R.cl, rfl, (fun _ z => z), R.kT, _, rfl, iteN rfl ?_⟩
      refine ⟨_, rfl, x, C2, .ref cS, .ref cS, false, rfl, he, R.cl, rfl, (fun _ z => z), R.kS, _, rfl, iteN rfl ?_⟩
      refine ⟨_, rfl, x, C2, .ref cC, .ref cC, false, rfl, he, R.cl, rfl, (fun _ z => z), R.kC, _, rfl, iteN rfl ?_⟩
      refine ⟨_, rfl, x, C2, .ty "ValueError", .type "ValueError", true, rfl, he, R.cl, rfl, (fun _ z => z), R.kV, _, rfl, iteN rfl ?_⟩
      refine ⟨_, rfl, x, C2, dx, _, _, rfl, .inr ⟨T3, hxT⟩, hd, R.cl, R.n_place, lookup1, _, "int", "bool", rfl, rfl, .inr (.inl rfl), _, rfl, iteN (by decide) ?_⟩
      exact ⟨_, rfl, x, C2, dx, _, _, rfl, .inr ⟨T3, hxT⟩, hd, R.cl, R.n_place, lookup1, lenOk 2, fun t' ht' => q t' _ (s5.trans (Same.new ht')) upd_same⟩
def sp_asked : Sp := fun vs H Q _ => ∃ (z : Str), vs = [.str z] ∧ Asc z ∧ z.length ≤ 8000 ∧ ∀ H', Same H H' → Q (.bl true) H'
theorem S_law_asked : FnScope ["_law_text", "_law_words", "_law_place_here", "_law_good", "_law_found"] ["_law_text"] (defScope s__law_asked) := ⟨rfl, rfl, rfl, by decide +kernel, rfl, by decide +kernel, by decide +kernel⟩
theorem ok_law_asked {f : Addr} {fd : FuncData} (F : Fun K "_law_asked" "_law_asked" s__law_asked f fd) (D__law_place : DefOk P w K mg base 3 "_law_place" ["_law_words"] sp_place) (D__law_refused : DefOk P w K mg base 6 "_law_refused" ["_law_text"] (sp_refused cW cU cL)) (D__law_like : DefOk P w K mg base 63 "_law_like" ["_law_tree", "_law_told"] (sp_like cW cU cL 60)) (D__law_read : DefOk P w K mg base 63 "_law_read" ["_law_words", "_law_at_here"] (sp_lread 60)) : FnOk P w K mg base CX0 64 f fd ["_law_text"] sp_asked := by
  have S := S_law_asked
  refine F.ok S (fun vs H Q E h => ?_) (fun cdv A outer s H vs Q E hr h => ?_)
  · obtain ⟨v, rfl, _⟩ := h; rfl
  · obtain ⟨z, rfl, za, zl, q⟩ := h
    refine ⟨_, (pss_cons (ps_set (i := 1) S.nd rfl (Or.inl rfl) (pe_bm PySem.F.plainAttrs_str PySem.F.slot_str_split PySem.F.type_str_split mt_split (pv 0) (pa_cons pe_str pa_nil)))
      (pss_cons (ps_set (i := 2) S.nd rfl (Or.inl rfl) (pe_fn D__law_place hr (pa_cons (pv 1) pa_nil)))
      (pss_cons (ps_asg (pe_fn D__law_refused hr (pa_cons (pv 0) pa_nil)) (pg_tup rfl (pgs_cons (pg_name (i := 3) S.nd rfl (Or.inl rfl)) (pgs_cons (pg_name (i := 4) S.nd rfl (Or.inl rfl)) pgs_nil))))
      (pss_cons (ps_if (pt_cmpR op_notN (pv 2) pe_non (nomark _)) (pss_one (ps_ret (pe_and (pe_not (pv 3)) (pe_one (pe_cmpR op_eq (pv 4) (pv 2) (nomark _)))))) pss_nil)
      (pss_one (ps_ret (pe_and (pv 3) (pe_one (pe_fn D__law_like hr (pa_cons (pv 4) (pa_cons (pe_ix ix_tup (pe_fn D__law_read hr (pa_cons (pv 1) (pa_cons pe_int pa_nil))) pe_int (fun _ _ => rfl)) pa_nil))))))))))), ?_⟩
    have wk := wk_split za zl
    refine ⟨_, rfl, rfl, z, _, rfl, rfl, by decide +kernel, Nat.le_of_lt (small9 (by first | lia | omega)), fun l nl => ?_⟩
    have s1 : Same H (upd H l (.lst ((Txt.split z " ").map V.str))) := Same.new nl
    have h1 : (upd H l (.lst ((Txt.split z " ").map V.str))) l = some (.lst ((Txt.split z " ").map V.str)) := upd_same
    generalize upd H l (.lst ((Txt.split z " ").map V.str)) = H1 at s1 h1 ⊢
    refine ⟨_, rfl, l, _, rfl, h1, wk, fun H2 s2 => ?_⟩
    refine ⟨_, rfl, .str z, rfl, .inr ⟨z, rfl, za, zl, fun p hp t H3 s3 ht => ?_, fun t hp e hw hn a v' H3 s3 o ht => ?_⟩⟩
    · rw [hp]
      refine ⟨t, _, rfl, SqT.of ht, rfl, _, _, rfl, _, _, rfl, rfl, ?_⟩
      refine ⟨_, rfl, rfl, _, rfl, iteP (by show (!decide (V.int p = V.non)) = true; rw [decide_eq_false (by intro z; cases z)]; rfl) ?_⟩
      refine ⟨_, rfl, _, rfl, _, rfl, iteT ⟨_, rfl, _, rfl, rfl, ?_⟩⟩
      have := q H3 (s1.trans (s2.trans s3))
      show Q (V.bl (decide (V.int (p : Int) = V.int (p : Int)))) H3
      rw [decide_eq_true rfl]; exact this
    · rw [hp]
      refine ⟨a, _, rfl, SqT.of ht, rfl, _, _, rfl, _, _, rfl, rfl, ?_⟩
      refine ⟨_, rfl, rfl, _, rfl, iteN (by show (!decide (V.non = V.non)) = false; rw [decide_eq_true rfl]; rfl) ?_⟩
      have dp := dp_cs t
      have nd := nd_cs t
      refine ⟨_, rfl, _, rfl, iteT ⟨_, rfl, _, rfl, l, _, 0, t, [], rfl, s3 _ _ (s2 _ _ h1), by rw [List.append_nil]; exact e, hw, by first | lia | omega, fun a2 v2 H4 s4 T4 A4 => ?_⟩⟩
      exact ⟨a2, _, _, _, rfl, rfl, SqT.of A4, at2_0, v', v2, t, rfl, o.same s4, T4, by first | lia | omega, q H4 (s1.trans (s2.trans (s3.trans s4)))⟩
theorem kd_b (e : En) : 0 ≤ kdE e ∧ kdE e ≤ 2 := by
  cases e with
  | w m => exact ⟨Int.le_refl 0, by show (0 : Int) ≤ 2; decide⟩
  | c u k => exact ⟨by show (0 : Int) ≤ 2; decide, Int.le_refl 2⟩
def lsS0 : List Str := ["", "|", "-", "#", "|0", "|12", "-0", "-12", "|01", "#00", "#01", "#1000", "..", "|1|", "#-1", "x"]
def lsS1 : List Str := ["|+1", "# 1", "1", "#.", "-a", "|1.", "|11a", "#9999", "|1_0", "-1_1", "#1_0", "#1\n", "#\n1", "|\t1"]
def lsS2 : List Str := ["|1_0", "-1_1", "|\t1", "-2\n", "|\n2", "-1_", "|1\t"]
def lsS3 : List Str := ["#1_0", "#1\n", "#\n1", "#\t7", ".\n", "#1_", "#7\t"]
def Wo (w : Str) : Prop := Asc w ∧ w.length ≤ 5
def woB (w : Str) : Bool := w.cps.all (· < 128) && decide (w.length ≤ 5)
theorem woB_of {w : Str} (h : woB w = true) : Wo w := by
  unfold woB at h
  rw [Bool.and_eq_true] at h
  exact ⟨h.1, of_decide_eq_true h.2⟩
theorem wo_all {ks : List Str} (h : ks.all woB = true) : ∀ w ∈ ks, Wo w := fun w hw => woB_of (List.all_eq_true.mp h w hw)
theorem wo_01 : ∀ w ∈ lsS0 ++ lsS1, Wo w := wo_all (by decide +kernel)
theorem wo_2 : ∀ w ∈ lsS2, Wo w := wo_all (by decide +kernel)
theorem wo_3 : ∀ w ∈ lsS3, Wo w := wo_all (by decide +kernel)
theorem le_lsS0 : ∀ k ∈ lsS0, k.length ≤ 1000 := fun k hk => Nat.le_trans (wo_01 k (List.mem_append_left _ hk)).2 (by decide)
theorem le_lsS1 : ∀ k ∈ lsS1, k.length ≤ 1000 := fun k hk => Nat.le_trans (wo_01 k (List.mem_append_right _ hk)).2 (by decide)
theorem le_lsS2 : ∀ k ∈ lsS2, k.length ≤ 1000 := fun k hk => Nat.le_trans (wo_2 k hk).2 (by decide)
theorem le_lsS3 : ∀ k ∈ lsS3, k.length ≤ 1000 := fun k hk => Nat.le_trans (wo_3 k hk).2 (by decide)
theorem wo_dot : Wo "." := woB_of (by decide +kernel)
theorem wo_num {c : Nat} {i : Int} (hc : c < 128) (h0 : 0 ≤ i) (h1 : i ≤ 999) : Wo ((⟨#[c]⟩ : Str) ++ num i) := by
  have n := num_of h0 h1
  refine ⟨?_, by rw [len_of]; first | lia | omega⟩
  show (#[c] ++ (num i).cps).all (· < 128) = true
  rw [Array.all_append, n.2.2.1, Bool.and_true]
  simpa using hc
theorem wo_sgn {u : Bool} {i : Int} (h0 : 0 ≤ i) (h1 : i ≤ 999) : Wo (sgn u ++ num i) := by
  rw [sgn_eq]; exact wo_num (by cases u <;> decide) h0 h1
theorem at_strs {ks : List Str} {i : Int} (h0 : 0 ≤ i) (h1 : i < (ks.length : Int)) : ∃ k, k ∈ ks ∧ atI (ks.map V.str) i = some (.str k) := by
  have hj : i.toNat < ks.length := by first | lia | omega
  refine ⟨ks[i.toNat], List.getElem_mem hj, ?_⟩
  have := atI_nat (xs := ks.map V.str) (j := i.toNat) (by rw [List.getElem?_map, List.getElem?_eq_getElem hj]; rfl)
  rw [show ((i.toNat : Nat) : Int) = i by first | lia | omega] at this
  exact this
theorem sum_len {c : Nat} {i : Int} (h0 : 0 ≤ i) (h1 : i ≤ 999) : (⟨#[c]⟩ : Str).length + (num i).length ≤ sizeLine := by
  have := (num_of h0 h1).2.1
  exact Nat.le_of_lt (small9 (by show 1 + _ ≤ _; first | lia | omega))
def sp_word : Sp := fun vs H Q _ => ∃ (n : Int), vs = [.int n] ∧ ∀ w H', Wo w → Same H H' → Q (.str w) H'
theorem S_law_word : FnScope ["_law_number", "_law_odd", "_law_way"] ["_law_number"] (defScope s__law_word) := ⟨rfl, rfl, rfl, by decide +kernel, rfl, by decide +kernel, by decide +kernel⟩
def sw0 : Stmt := (defBody s__law_word).getD 0 (.Pass ⟨0, 0, 0, 0⟩)
def sw1 : Stmt := (defBody s__law_word).getD 1 (.Pass ⟨0, 0, 0, 0⟩)
def mkw0 : Stmt → Expr → Stmt
  | .Assign ts _ q, e => .Assign ts e q
  | s, _ => s
def mkw1 : Stmt → Expr → Stmt
  | .Assign ts (.BinOp l o _ p) q, e => .Assign ts (.BinOp l o e p) q
  | s, _ => s
def lw0 : Expr := match sw0 with
  | .Assign _ l _ => l
  | _ => .Constant .none 0 ⟨0, 0, 0, 0⟩
def lw1 : Expr := match sw1 with
  | .Assign _ (.BinOp _ _ l _) _ => l
  | _ => .Constant .none 0 ⟨0, 0, 0, 0⟩
def listE : Expr → List Expr
  | .List es _ => es
  | _ => []
def listP : Expr → Pos
  | .List _ p => p
  | _ => ⟨0, 0, 0, 0⟩
theorem sw0_is : mkw0 sw0 (.List (listE lw0) (listP lw0)) = sw0 := rfl
theorem sw1_is : mkw1 sw1 (.List (listE lw1) (listP lw1)) = sw1 := rfl
theorem bodyw : defBody s__law_word = sw0 :: sw1 :: (defBody s__law_word).drop 2 := rfl
theorem strs0 : strsE (listE lw0) = some lsS0 := by decide +kernel
theorem strs1 : strsE (listE lw1) = some lsS1 := by decide +kernel
abbrev N_word : List Str := ["_law_number", "_law_odd", "_law_way"]
theorem disp0 {f : Addr} {cdv : Value} {A : Around} {outer : List Env} {s : Shared} {H : Hp} {E : XK} {des : List Expr} {dp : Pos} (hod : strsE des = some lsS0) :
    ∃ t, PS (cxOf CX0 P w K mg base N_word "_law_word" (defScope s__law_word) f cdv A outer s H E).nox (mkw0 sw0 (.List des dp)) t ∧ ∀ (D : Ends) (n : Int) (x : Option V) (H0 : Hp), (∀ t0, H0 t0 = none → D.nx [some (.int n), some (.ref t0), x] (upd H0 t0 (.lst (lsS0.map V.str)))) → t D [some (.int n), none, x] H0 := by
  have S := S_law_word
  refine ⟨_, ps_set (i := 1) S.nd rfl (Or.inl rfl) (pe_lstS hod le_lsS0), ?_⟩
  intro D n x H0 k
  exact ⟨by rw [List.length_map]; decide, fun t0 nt0 => k t0 nt0⟩
theorem disp1 {f : Addr} {cdv : Value} {A : Around} {outer : List Env} {s : Shared} {H : Hp} {E : XK} {des : List Expr} {dp : Pos} (hod : strsE des = some lsS1) :
    ∃ t, PS (cxOf CX0 P w K mg base N_word "_law_word" (defScope s__law_word) f cdv A outer s H E).nox (mkw1 sw1 (.List des dp)) t ∧ ∀ (D : Ends) (n : Int) (t0 : Addr) (x : Option V) (H0 : Hp), H0 t0 = some (.lst (lsS0.map V.str)) → (∀ t2 H2, Same H0 H2 → H2 t2 = some (.lst ((lsS0 ++ lsS1).map V.str)) → D.nx [some (.int n), some (.ref t2), x] H2) → t D [some (.int n), some (.ref t0), x] H0 := by
  have S := S_law_word
  refine ⟨_, ps_set (i := 1) S.nd rfl (Or.inl rfl) (pe_op op_cat (pv 1) (pe_lstS hod le_lsS1)), ?_⟩
  intro D n t0 x H0 h0 k
  refine ⟨_, rfl, by rw [List.length_map]; decide, fun t1 nt1 => ⟨t0, t1, _, _, rfl, rfl, Same.new nt1 _ _ h0, upd_same, by rw [List.length_map, List.length_map]; decide, fun t2 nt2 => ?_⟩⟩
  rw [← List.map_append]
  exact k t2 _ ((Same.new nt1).trans (Same.new nt2)) upd_same
theorem ok_law_word {f : Addr} {fd : FuncData} (F : Fun K "_law_word" "_law_word" s__law_word f fd) (T : Txt mg tk) : FnOk P w K mg base CX0 1 f fd ["_law_number"] sp_word := by
  have S := S_law_word
  refine F.ok S (fun vs H Q E h => ?_) (fun cdv A outer s H vs Q E hr h => ?_)
  · obtain ⟨n, rfl, _⟩ := h; rfl
  · obtain ⟨n, rfl, q⟩ := h
    obtain ⟨t0, h0, k0⟩ := disp0 (P := P) (w := w) (K := K) (mg := mg) (base := base) (f := f) (cdv := cdv) (A := A) (outer := outer) (s := s) (H := H) (E := E) (dp := listP lw0) strs0
    obtain ⟨t1, h1, k1⟩ := disp1 (P := P) (w := w) (K := K) (mg := mg) (base := base) (f := f) (cdv := cdv) (A := A) (outer := outer) (s := s) (H := H) (E := E) (dp := listP lw1) strs1
    rw [sw0_is] at h0
    rw [sw1_is] at h1
    rw [bodyw]
    generalize sw0 = st0 at h0 ⊢
    generalize sw1 = st1 at h1 ⊢
    refine ⟨_, pss_cons h0 (pss_cons h1 (pss_cons (ps_set (i := 2) S.nd rfl (Or.inl rfl) (pe_op op_mod (pv 0) pe_int))
      (pss_cons (ps_if (pt_cmpR op_lt (pv 2) pe_int (nomark _)) (pss_one (ps_ret (pe_op op_add_str (pe_ix ix_list (pe_lst (pa_cons pe_str (pa_cons pe_str pa_nil))) (pe_op op_mod (pe_op op_fdivL (pv 0) pe_int) pe_int) (fun _ _ => rfl)) (pe_callTy call_str_int rfl T.z_str rfl (pa_cons (pe_op op_add pe_int (pe_op op_mod (pe_op op_fdivL (pv 0) pe_int) pe_int)) pa_nil))))) pss_nil)
      (pss_cons (ps_if (pt_cmpR op_lt (pv 2) pe_int (nomark _)) (pss_one (ps_ret pe_str)) pss_nil)
      (pss_cons (ps_if (pt_cmpR op_lt (pv 2) pe_int (nomark _)) (pss_one (ps_ret (pe_op op_add_str pe_str (pe_callTy call_str_int rfl T.z_str rfl (pa_cons (pe_op op_mod (pe_op op_fdivL (pv 0) pe_int) (pe_ix ix_list (pe_lst (pa_cons pe_int (pa_cons pe_int pa_nil))) (pe_op op_mod (pe_op op_fdivL (pv 0) pe_int) pe_int) (fun _ _ => rfl))) pa_nil))))) pss_nil)
      (pss_one (ps_ret (pe_ix ix_list (pv 1) (pe_op op_mod (pe_op op_fdivL (pv 0) pe_int) pe_int) (fun _ _ => rfl))))))))), ?_⟩
    refine k0 _ n _ H fun l0 nl0 => k1 _ n l0 _ _ upd_same fun t2 H2 sB h2 => ?_
    have s2 := (Same.new (H := H) nl0).trans sB
    have p0 : ∀ (m j : Int), 0 < j → 0 ≤ m % j ∧ m % j < j := fun m j h => ⟨Int.emod_nonneg m (by first | lia | omega), Int.emod_lt_of_pos m h⟩
    refine ⟨_, rfl, _, _, rfl, rfl, (show (0 : Int) < 12 from by decide), ?_⟩
    refine ⟨_, rfl, _, _, rfl, rfl, _, rfl, ite3 (fun b => ?_) (fun b => ?_)⟩
    · obtain ⟨u, hu⟩ : ∃ u, atI [V.str "|", V.str "-"] (n / 12 % 2) = some (.str (sgn u)) := by
        have := p0 (n / 12) 2 (by decide)
        obtain e | e : n / 12 % 2 = 0 ∨ n / 12 % 2 = 1 := by first | lia | omega
        · rw [e]; exact ⟨true, rfl⟩
        · rw [e]; exact ⟨false, rfl⟩
      have r := p0 (n / 24) 11 (by decide)
      refine ⟨lenOk 2, fun t3 nt3 => ⟨_, rfl, _, _, rfl, rfl, divL _ (by decide) (by decide), _, _, rfl, rfl, (show (0 : Int) < 2 from by decide), t3, _, _, _, rfl, rfl, SqL.of upd_same, hu, ?_⟩⟩
      refine ⟨_, rfl, _, _, rfl, rfl, divL _ (by decide) (by decide), _, _, rfl, rfl, (show (0 : Int) < 11 from by decide), _, _, rfl, rfl, _, rfl, log_ok (by first | lia | omega) (by first | lia | omega), _, _, rfl, rfl, ?_, q (sgn u ++ num (1 + n / 24 % 11)) _ (wo_sgn (by first | lia | omega) (by first | lia | omega)) (s2.trans (Same.new nt3))⟩
      rw [sgn_eq]; exact sum_len (i := 1 + n / 24 % 11) (by first | lia | omega) (by first | lia | omega)
    refine ⟨_, rfl, _, _, rfl, rfl, _, rfl, ite3 (fun b => q "." H2 wo_dot s2) (fun b => ?_)⟩
    refine ⟨_, rfl, _, _, rfl, rfl, _, rfl, ite3 (fun b => ?_) (fun b => ?_)⟩
    · obtain ⟨j, hu, j0, j1⟩ : ∃ j : Int, atI [V.int 1000, V.int 12] (n / 12000 % 2) = some (.int j) ∧ 0 < j ∧ j ≤ 1000 := by
        have := p0 (n / 12000) 2 (by decide)
        obtain e | e : n / 12000 % 2 = 0 ∨ n / 12000 % 2 = 1 := by first | lia | omega
        · rw [e]; exact ⟨1000, rfl, by decide, by decide⟩
        · rw [e]; exact ⟨12, rfl, by decide, by decide⟩
      have r := p0 (n / 12) j j0
      refine ⟨_, rfl, _, _, rfl, rfl, divL _ (by decide) (by decide), lenOk 2, fun t3 nt3 => ⟨_, rfl, _, _, rfl, rfl, divL _ (by decide) (by decide), _, _, rfl, rfl, (show (0 : Int) < 2 from by decide), t3, _, _, _, rfl, rfl, SqL.of upd_same, hu, ?_⟩⟩
      exact ⟨_, _, rfl, rfl, j0, _, rfl, log_ok r.1 (by first | lia | omega), _, _, rfl, rfl, sum_len (c := 35) r.1 (by first | lia | omega), q ((⟨#[35]⟩ : Str) ++ num (n / 12 % j)) _ (wo_num (by decide) r.1 (by first | lia | omega)) (s2.trans (Same.new nt3))⟩
    · have r := p0 (n / 12) 30 (by decide)
      obtain ⟨k, hk, hat⟩ := at_strs (ks := lsS0 ++ lsS1) (i := n / 12 % 30) r.1 (by show _ < (30 : Int); exact r.2)
      exact ⟨_, rfl, _, rfl, _, _, rfl, rfl, divL _ (by decide) (by decide), _, _, rfl, rfl, (show (0 : Int) < 30 from by decide), t2, _, _, _, rfl, rfl, SqL.of h2, hat, q k H2 (wo_01 k hk) s2⟩
def sp_odd : Sp := fun vs H Q _ => ∃ (l : Addr) (ws : List Str) (n : Int), vs = [.ref l, .int n] ∧ H l = some (.lst (ws.map V.str)) ∧ (∀ w ∈ ws, Wo w) ∧ ws.length ≤ 300 ∧ ∀ l' ws' H', Same H H' → H' l' = some (.lst ((ws' : List Str).map V.str)) → (∀ w ∈ ws', Wo w) → ws'.length ≤ 700 → Q (.ref l') H'
theorem S_law_one_odd : FnScope ["_law_words", "_law_number", "_law_found", "_law_wanting", "_law_word_here", "_law_at_here"] ["_law_words", "_law_number"] (defScope s__law_one_odd) := ⟨rfl, rfl, rfl, by decide +kernel, rfl, by decide +kernel, by decide +kernel⟩
theorem rep_dots (k : Nat) : (List.replicate k [V.str "."]).flatten = (List.replicate k ("." : Str)).map V.str := by
  induction k with
  | zero => rfl
  | succ k ih => rw [List.replicate_succ, List.replicate_succ, List.flatten_cons, ih]; rfl
theorem set_strs {ks : List Str} {j : Nat} {k : Str} : (ks.map V.str).set j (.str k) = (ks.set j k).map V.str := List.map_set.symm
theorem wo_set {ks : List Str} {j : Nat} {k : Str} (h : ∀ w ∈ ks, Wo w) (hk : Wo k) : ∀ w ∈ ks.set j k, Wo w := fun w hw => by
  rcases List.mem_or_eq_of_mem_set hw with z | z
  · exact h w z
  · rw [z]; exact hk
theorem ok_law_one_odd {f : Addr} {fd : FuncData} (F : Fun K "_law_one_odd" "_law_one_odd" s__law_one_odd f fd) (T : Txt mg tk) (D__law_kind : DefOk P w K mg base 2 "_law_kind" ["_law_word_here"] sp_kd) : FnOk P w K mg base CX0 3 f fd ["_law_words", "_law_number"] sp_odd := by
  have S := S_law_one_odd
  refine F.ok S (fun vs H Q E h => ?_) (fun cdv A outer s H vs Q E hr h => ?_)
  · obtain ⟨l, ws, n, rfl, _⟩ := h; rfl
  · obtain ⟨l, ws, n, rfl, hl, hw, hn, q⟩ := h
    refine ⟨_, (pss_cons (ps_set (i := 2) S.nd rfl (Or.inl rfl) (pe_lst pa_nil))
      (pss_cons (ps_set (i := 3) S.nd rfl (Or.inl rfl) pe_int)
      (pss_cons (ps_for PassesOwn.never rfl (pi_list (pv 0)) (pg_name (i := 4) S.nd rfl (Or.inl rfl)) (pss_one (ps_if (PW.pt (pw_and (pt_cmpR op_gt (pv 3) pe_int (nomark _)) (pw_and1 (pt_cmpR op_ge (pe_fn D__law_kind hr (pa_cons (pv 4) pa_nil)) pe_int (nomark _))))) (pss_cons (ps_expr (pe_bm PySem.F.plainAttrs_list PySem.F.slot_list_append PySem.F.type_list_append mt_append (pv 2) (pa_cons (pv 4) pa_nil)))
      (pss_one (ps_set (i := 3) S.nd rfl (Or.inl rfl) (pe_op op_sub (pe_op op_add (pv 3) (pe_fn D__law_kind hr (pa_cons (pv 4) pa_nil))) pe_int)))) pss_nil)))
      (pss_cons (ps_set (i := 2) S.nd rfl (Or.inl rfl) (pe_op op_cat (pv 2) (pe_op op_rep (pe_lst (pa_cons pe_str pa_nil)) (pv 3))))
      (pss_cons (ps_set (i := 5) S.nd rfl (Or.inl rfl) (pe_op op_mod (pe_op op_mod (pv 1) pe_int) (pe_callB call_len_seq rfl T.z_len rfl (pa_cons (pv 2) pa_nil))))
      (pss_cons (ps_if (pt_cmpR op_eq (pe_fn D__law_kind hr (pa_cons (pe_ix ix_list (pv 2) (pv 5) (fun _ _ => rfl)) pa_nil)) pe_int (nomark _)) (pss_one (ps_asg (pe_ix ix_list (pe_lstS (ks := lsS2) (by decide +kernel) le_lsS2) (pe_op op_mod (pe_op op_fdivL (pv 1) pe_int) pe_int) (fun _ _ => rfl)) (pg_sub (pv 2) (pv 5) set_list))) (pss_one (ps_asg (pe_ix ix_list (pe_lstS (ks := lsS3) (by decide +kernel) le_lsS3) (pe_op op_mod (pe_op op_fdivL (pv 1) pe_int) pe_int) (fun _ _ => rfl)) (pg_sub (pv 2) (pv 5) set_list))))
      (pss_one (ps_ret (pv 2))))))))), ?_⟩
    refine ⟨lenOk 0, fun lf nlf => ⟨_, rfl, l, rfl, ⟨_, SqL.of (Same.new nlf _ _ hl)⟩, ?_⟩⟩
    refine for_list (K := K) (a := l) (xs := ws.map V.str) (fun i σ H' => ∃ (fs : List Str) (lk : Int) (x4 : Option V), σ = [some (.ref l), some (.int n), some (.ref lf), some (.int lk), x4, none] ∧ Same H H' ∧ H' lf = some (.lst (fs.map V.str)) ∧ (∀ w ∈ fs, Wo w) ∧ fs.length ≤ i ∧ 0 ≤ lk ∧ lk ≤ fs.length + 1 ∧ (fs = [] → lk = 1))
      ⟨[], 1, none, rfl, Same.new nlf, upd_same, (fun w z => nomatch z), Nat.le_refl _, by decide, by decide, fun _ => rfl⟩ (fun i σ H' _ hp => let ⟨_, _, _, _, s, _⟩ := hp; SqL.of (s _ _ hl)) ?_ ?_
    · rintro i x σ H' hx ⟨fs, lk, x4, rfl, s1, h1, hf, hfi, k0, k1, k2⟩
      obtain ⟨wd, hwd, rfl⟩ : ∃ wd, ws[i]? = some wd ∧ x = .str wd := by
        rw [List.getElem?_map] at hx
        cases he : ws[i]? with
        | none => rw [he] at hx; cases hx
        | some e => rw [he] at hx; exact ⟨e, rfl, (Option.some.inj hx).symm⟩
      have hi := (List.getElem?_eq_some_iff.mp hwd).1
      have wo := hw wd (List.mem_of_getElem? hwd)
      have wl : wd.length ≤ 9000 := by have := wo.2; first | lia | omega
      refine ⟨_, rfl, _, _, rfl, rfl, _, rfl, ite3 (fun b => ?_) (fun b => ?_)⟩
      · have b := of_decide_eq_true b
        refine ⟨_, rfl, wd, rfl, wo.1, wl, fun e H2 z0 z1 s2 => ?_, fun z H2 s2 => ?_⟩
        · have ke := kd_b e
          refine ⟨_, _, rfl, rfl, _, rfl, iteP (decide_eq_true ke.1) ?_⟩
          have h2 := s2 _ _ h1
          refine ⟨_, rfl, .inl ⟨rfl, _, SqL.of h2⟩, _, rfl, lf, _, _, rfl, rfl, h2, small1000 (by rw [List.length_map]; first | lia | omega), ?_⟩
          have s3 : Same H (upd H2 lf (.lst (fs.map V.str ++ [.str wd]))) := fun b o z => by
            rw [upd_ne (ne_of_none z nlf)]; exact s2 b o (s1 b o z)
          have h3 : (upd H2 lf (.lst (fs.map V.str ++ [.str wd]))) lf = some (.lst ((fs ++ [wd]).map V.str)) := by rw [upd_same, List.map_append]; rfl
          generalize upd H2 lf (.lst (fs.map V.str ++ [.str wd])) = H3 at s3 h3 ⊢
          refine ⟨_, rfl, _, rfl, wd, rfl, wo.1, wl, fun e' H4 y0 y1 s4 => ?_, fun z => absurd z0 (z e z1)⟩
          obtain rfl : e = e' := wordE_inj z1 y1 (z0.symm.trans y0)
          have k3 : lk + kdE e - 1 ≤ ((fs ++ [wd]).length : Int) + 1 := by rw [List.length_append, List.length_singleton]; first | lia | omega
          exact ⟨_, _, rfl, rfl, _, _, rfl, rfl, fs ++ [wd], lk + kdE e - 1, _, rfl, s3.trans s4, s4 _ _ h3, (fun w z => by rcases List.mem_append.mp z with z | z; exact hf w z; rw [List.mem_singleton.mp z]; exact wo), by rw [List.length_append, List.length_singleton]; first | lia | omega, by first | lia | omega, k3, fun z => absurd z (by simp)⟩
        · exact ⟨_, _, rfl, rfl, _, rfl, iteN (by decide) ⟨fs, lk, _, rfl, s1.trans s2, s2 _ _ h1, hf, by first | lia | omega, k0, k1, k2⟩⟩
      · exact iteF ⟨fs, lk, _, rfl, s1, h1, hf, by first | lia | omega, k0, k1, k2⟩
    · rintro σ H1 ⟨fs, lk, x4, rfl, s1, h1, hf, hfi, k0, k1, k2⟩
      rw [List.length_map] at hfi
      refine ⟨_, rfl, lenOk 1, fun t0 nt0 => ⟨_, rfl, t0, lk, _, rfl, rfl, upd_same, by first | lia | omega, by first | lia | omega, Nat.le_of_lt (small9 (by show 1 * _ ≤ _; first | lia | omega)), fun t1 nt1 => ?_⟩⟩
      have s2 : Same H1 (upd (upd H1 t0 (.lst [.str "."])) t1 (.lst (List.replicate lk.toNat [V.str "."]).flatten)) := (Same.new nt0).trans (Same.new nt1)
      have h2 : (upd (upd H1 t0 (.lst [.str "."])) t1 (.lst (List.replicate lk.toNat [V.str "."]).flatten)) t1 = some (.lst ((List.replicate lk.toNat ("." : Str)).map V.str)) := by rw [upd_same, rep_dots]
      generalize upd (upd H1 t0 (.lst [.str "."])) t1 (.lst (List.replicate lk.toNat [V.str "."]).flatten) = H2 at s2 h2 ⊢
      refine ⟨lf, t1, _, _, rfl, rfl, s2 _ _ h1, h2, Nat.le_of_lt (small9 (by rw [List.length_map, List.length_map, List.length_replicate]; first | lia | omega)), fun lg nlg => ?_⟩
      rw [← List.map_append]
      have gl : (fs ++ List.replicate lk.toNat ("." : Str)).length = fs.length + lk.toNat := by rw [List.length_append, List.length_replicate]
      have gp : 0 < fs.length + lk.toNat := by
        cases fs with
        | nil => have := k2 rfl; first | lia | omega
        | cons x r => rw [List.length_cons]; first | lia | omega
      have gw : ∀ w ∈ fs ++ List.replicate lk.toNat ("." : Str), Wo w := fun w z => by
        rcases List.mem_append.mp z with z | z
        · exact hf w z
        · rw [List.eq_of_mem_replicate z]; exact wo_dot
      generalize fs ++ List.replicate lk.toNat ("." : Str) = gs at gl gw ⊢
      have s3 : Same H (upd H2 lg (.lst (gs.map V.str))) := s1.trans (s2.trans (Same.new nlg))
      have h3 : (upd H2 lg (.lst (gs.map V.str))) lg = some (.lst (gs.map V.str)) := upd_same
      have n3 : H lg = none := (s1.trans s2).free nlg
      generalize upd H2 lg (.lst (gs.map V.str)) = H3 at s3 h3 ⊢
      have a0 := Int.emod_nonneg (n % 10007) (b := (gs.length : Int)) (by first | lia | omega)
      have a1 := Int.emod_lt_of_pos (n % 10007) (b := (gs.length : Int)) (by first | lia | omega)
      have c0 := Int.emod_nonneg (n / 10007) (b := 7) (by decide)
      have c1 := Int.emod_lt_of_pos (n / 10007) (b := 7) (by decide)
      refine ⟨_, rfl, _, _, rfl, rfl, (show (0 : Int) < 10007 from by decide), _, rfl, lg, _, rfl, .inl (SqL.of h3), _, _, rfl, rfl, (by rw [List.length_map]; first | lia | omega), ?_⟩
      rw [List.length_map]
      obtain ⟨kw, hkw, hat⟩ := at_strs a0 a1
      have ix : ixN (gs.map V.str).length (n % 10007 % (gs.length : Int)) = some (n % 10007 % (gs.length : Int)).toNat := by
        unfold ixN
        rw [if_pos a0, List.length_map, if_pos (by first | lia | omega)]
      have wk := gw kw hkw
      have fin : ∀ H4 k, Same H3 H4 → Wo k → Q (.ref lg) (upd H4 lg (.lst ((gs.map V.str).set (n % 10007 % (gs.length : Int)).toNat (.str k)))) := fun H4 k s4 wk => by
        refine q lg (gs.set (n % 10007 % (gs.length : Int)).toNat k) _ (fun b o z => ?_) (by rw [set_strs, upd_same]) (wo_set gw wk) (by rw [List.length_set]; first | lia | omega)
        rw [upd_ne (ne_of_none z n3)]; exact s4 b o (s3 b o z)
      have two : ∀ H4, Same H3 H4 → ∃ k2 k3, Wo k2 ∧ Wo k3 ∧ atI (lsS2.map V.str) (n / 10007 % 7) = some (.str k2) ∧ atI (lsS3.map V.str) (n / 10007 % 7) = some (.str k3) := fun H4 s4 => by
        obtain ⟨x2, m2, e2⟩ := at_strs (ks := lsS2) c0 c1
        obtain ⟨x3, m3, e3⟩ := at_strs (ks := lsS3) c0 c1
        exact ⟨x2, x3, wo_2 x2 m2, wo_3 x3 m3, e2, e3⟩
      refine ⟨_, rfl, _, rfl, lg, _, _, _, rfl, rfl, SqL.of h3, hat, kw, rfl, wk.1, by have := wk.2; first | lia | omega, fun e H4 _ _ s4 => ?_, fun _ H4 s4 => ?_⟩
      · obtain ⟨x2, x3, w2, w3, e2, e3⟩ := two H4 s4
        refine ⟨rfl, _, rfl, ite3 (fun b => ?_) (fun b => ?_)⟩
        · refine ⟨by rw [List.length_map]; decide, fun t4 nt4 => ⟨_, rfl, _, _, rfl, rfl, divL _ (by decide) (by decide), _, _, rfl, rfl, (show (0 : Int) < 7 from by decide), t4, _, _, _, rfl, rfl, SqL.of upd_same, e2, ?_⟩⟩
          exact ⟨_, rfl, _, rfl, lg, _, _, _, rfl, rfl, Same.new nt4 _ _ (s4 _ _ h3), ix, _, rfl, fin _ x2 (s4.trans (Same.new nt4)) w2⟩
        · refine ⟨by rw [List.length_map]; decide, fun t4 nt4 => ⟨_, rfl, _, _, rfl, rfl, divL _ (by decide) (by decide), _, _, rfl, rfl, (show (0 : Int) < 7 from by decide), t4, _, _, _, rfl, rfl, SqL.of upd_same, e3, ?_⟩⟩
          exact ⟨_, rfl, _, rfl, lg, _, _, _, rfl, rfl, Same.new nt4 _ _ (s4 _ _ h3), ix, _, rfl, fin _ x3 (s4.trans (Same.new nt4)) w3⟩
      · obtain ⟨x2, x3, w2, w3, e2, e3⟩ := two H4 s4
        refine ⟨rfl, _, rfl, iteN (by decide) ?_⟩
        refine ⟨by rw [List.length_map]; decide, fun t4 nt4 => ⟨_, rfl, _, _, rfl, rfl, divL _ (by decide) (by decide), _, _, rfl, rfl, (show (0 : Int) < 7 from by decide), t4, _, _, _, rfl, rfl, SqL.of upd_same, e3, ?_⟩⟩
        exact ⟨_, rfl, _, rfl, lg, _, _, _, rfl, rfl, Same.new nt4 _ _ (s4 _ _ h3), ix, _, rfl, fin _ x3 (s4.trans (Same.new nt4)) w3⟩
theorem sum5 : ∀ {ys : List Str}, (∀ p ∈ ys, Wo p) → (ys.map (·.length)).sum ≤ 5 * ys.length
  | [], _ => Nat.le_refl 0
  | y :: r, h => by
    have a := (h y List.mem_cons_self).2
    have b := sum5 (ys := r) fun p hp => h p (List.mem_cons_of_mem _ hp)
    rw [List.map_cons, List.sum_cons, List.length_cons]
    first | lia | omega
theorem asc_list {z : Str} : Asc z ↔ ∀ a ∈ z.cps.toList, a < 128 := by
  unfold Asc
  rw [← Array.all_toList, List.all_eq_true]
  exact ⟨fun h a ha => of_decide_eq_true (h a ha), fun h a ha => decide_eq_true (h a ha)⟩
theorem asc_join : ∀ {ys : List Str}, (∀ p ∈ ys, Asc p) → Asc (Str.join ⟨#[32]⟩ ys)
  | [], _ => by show Asc Str.empty; unfold Asc; decide +kernel
  | [x], h => h x List.mem_cons_self
  | x :: y :: r, h => by
    rw [asc_list, join2]
    intro a ha
    rcases List.mem_append.mp ha with z | z
    · exact asc_list.mp (h x List.mem_cons_self) a z
    · rcases List.mem_cons.mp z with z | z
      · first | lia | omega
      · exact asc_list.mp (asc_join (ys := y :: r) fun p hp => h p (List.mem_cons_of_mem _ hp)) a z
theorem joined {ws : List Str} (h : ∀ w ∈ ws, Wo w) (hn : ws.length ≤ 1000) : (ws.map (·.length)).sum + ws.length * (" " : Str).length ≤ 16777216 ∧ Asc (Txt.join " " ws) ∧ (Txt.join " " ws).length ≤ 7000 := by
  have a := sum5 h
  have e : (" " : Str) = ⟨#[32]⟩ := by decide +kernel
  refine ⟨by rw [blank1]; first | lia | omega, ?_, ?_⟩
  · rw [join_eq, e]; exact asc_join fun p hp => (h p hp).1
  · rw [join_eq]
    have c := StrLaws.join_length_le " " ws
    rw [blank1] at c
    first | lia | omega
theorem asc_app {x y : Str} (a : Asc x) (b : Asc y) : Asc (x ++ y) := by
  show (x.cps ++ y.cps).all _ = true
  rw [Array.all_append]
  unfold Asc at a b
  rw [a, b]; rfl
theorem asc_blank : Asc " " := by unfold Asc; decide +kernel
def sp_law (K : PySem.W.Frag) : Sp := fun vs H Q _ => ∃ (a : Addr) (ns : List Int), vs = [.ref a] ∧ SqL K H a (ns.map V.int) ∧ ns.length ≤ 63 ∧ ∀ H', Q (.bl true) H'
abbrev N_law : List Str := ["_law_script", "_law_number", "_law_words", "_law_place_here", "_law_wanting", "_law_text"]
theorem S_law : FnScope N_law ["_law_script"] (defScope s_law) := ⟨rfl, rfl, rfl, by decide +kernel, rfl, by decide +kernel, by decide +kernel⟩
/-- what stands between the parts of the law -/
structure Mid (K : PySem.W.Frag) (H : Hp) (a lw : Addr) (ns : List Int) (ws : List Str) (m : Nat) : Prop where
  base : ∃ H0, SqL K H0 a (ns.map V.int) ∧ Same H0 H ∧ H0 lw = none
  lst : H lw = some (.lst (ws.map V.str))
  wo : ∀ w ∈ ws, Wo w
  few : ws.length ≤ m
theorem Mid.scr {K : PySem.W.Frag} {H : Hp} {a lw : Addr} {ns : List Int} {ws : List Str} {m : Nat} (d : Mid K H a lw ns ws m) : SqL K H a (ns.map V.int) := let ⟨_, h, s, _⟩ := d.base; s.seq h
theorem Mid.same {K : PySem.W.Frag} {H H' : Hp} {a lw : Addr} {ns : List Int} {ws : List Str} {m : Nat} (d : Mid K H a lw ns ws m) (s : Same H H') : Mid K H' a lw ns ws m := ⟨let ⟨H0, h, s0, n⟩ := d.base; ⟨H0, h, s0.trans s, n⟩, s _ _ d.lst, d.wo, d.few⟩
theorem Mid.put {K : PySem.W.Frag} {H : Hp} {a lw : Addr} {ns : List Int} {ws ws' : List Str} {m : Nat} (d : Mid K H a lw ns ws m) (w : ∀ w ∈ ws', Wo w) (l : ws'.length ≤ m) : Mid K (upd H lw (.lst (ws'.map V.str))) a lw ns ws' m := ⟨let ⟨H0, h, s0, n⟩ := d.base; ⟨H0, h, fun b o z => by rw [upd_ne (ne_of_none z n)]; exact s0 b o z, n⟩, upd_same, w, l⟩
theorem Mid.more {K : PySem.W.Frag} {H : Hp} {a lw : Addr} {ns : List Int} {ws : List Str} {m m' : Nat} (d : Mid K H a lw ns ws m) (l : ws.length ≤ m') : Mid K H a lw ns ws m' := ⟨d.base, d.lst, d.wo, l⟩
theorem wo_app {a b : List Str} (ha : ∀ w ∈ a, Wo w) (hb : ∀ w ∈ b, Wo w) : ∀ w ∈ a ++ b, Wo w := fun w z => by
  rcases List.mem_append.mp z with z | z
  · exact ha w z
  · exact hb w z
theorem wo_one {a : List Str} {x : Str} (ha : ∀ w ∈ a, Wo w) (hx : Wo x) : ∀ w ∈ a ++ [x], Wo w := wo_app ha fun w z => by rw [List.mem_singleton.mp z]; exact hx
theorem tup2_is {K : PySem.W.Frag} {H : Hp} {t : Addr} {b : Bool} {i : Int} (h : H t = some (.tup [.bl b, .int i])) : DIs K H (.tup (.cons (.at (.bl b)) (.cons (.at (.int i)) .nil))) (.ref t) := by
  rw [DIs]; exact ⟨t, _, rfl, SqT.of h, by rw [DIss]; exact ⟨_, _, rfl, by rw [DIs]; exact ⟨rfl, rfl⟩, by rw [DIss]; exact ⟨_, _, rfl, by rw [DIs]; exact ⟨rfl, rfl⟩, by rw [DIss]⟩⟩⟩
theorem cut_strs (ws : List Str) (lo hi : Option Int) : ∃ ws' : List Str, cutV (ws.map V.str) lo hi = ws'.map V.str ∧ (∀ w ∈ ws', w ∈ ws) ∧ ws'.length ≤ ws.length := by
  unfold cutV
  rw [← List.map_drop, ← List.map_take]
  exact ⟨_, rfl, fun w hw => List.mem_of_mem_drop (List.mem_of_mem_take hw), by rw [List.length_take, List.length_drop]; first | lia | omega⟩
theorem ok_lawE {f : Addr} {cdv : Value} {A : Around} {outer : List Env} {s : Shared} {H : Hp} {E : XK} (hr : Room 64 (A.deeper (PyProof.Rows.envOfC "law" (defScope s_law) s.heap.objs.size f cdv))) (T : Txt mg tk) {Q : VK} (q : ∀ H', Q (.bl true) H') (D__law_asked : DefOk P w K mg base 64 "_law_asked" ["_law_text"] sp_asked) (D__law_refused : DefOk P w K mg base 6 "_law_refused" ["_law_text"] (sp_refused cW cU cL)) :
    ∃ rd, PSs (cxOf CX0 P w K mg base N_law "law" (defScope s_law) f cdv A outer s H E).nox ((defBody s_law).drop 8) rd ∧ ∀ (a lw : Addr) (ns : List Int) (ws : List Str) (n : Int) (z : Str) (x3 x4 : Option V) (H1 : Hp), Mid K H1 a lw ns ws 300 → Asc z → z.length ≤ 8000 →
      rd { nx := fun _ H' => Q .non H', rt := Q } [some (.ref a), some (.int n), some (.ref lw), x3, x4, some (.str z)] H1 := by
  have S := S_law
  refine ⟨_, (pss_cons (ps_if (PW.pt (pw_or (pt_not (pt_val (pe_fn D__law_asked hr (pa_cons (pv 5) pa_nil)))) (pw_or1 (pt_not (pt_val (pe_fn D__law_asked hr (pa_cons (pe_bm PySem.F.plainAttrs_str PySem.F.slot_str_join PySem.F.type_str_join mt_join pe_str (pa_cons (pe_slice sl_list (pv 2) po_none (po_some (pe_op op_mod (pe_op op_fdivL (pv 1) pe_int) (pe_op op_add (pe_callB call_len_seq rfl T.z_len rfl (pa_cons (pv 2) pa_nil)) pe_int)))) pa_nil)) pa_nil))))))) (pss_one (ps_ret pe_bl)) pss_nil)
      (pss_one (ps_ret (pe_cmpR (op_eqD hr) (pe_fn D__law_refused hr (pa_cons (pe_ix ix_list (pe_lst (pa_cons pe_non (pa_cons pe_int (pa_cons (pe_lst (pa_cons pe_str pa_nil)) (pa_cons pe_bl pa_nil))))) (pe_op op_mod (pe_op op_fdivL (pv 1) pe_int) pe_int) (fun _ _ => rfl)) pa_nil)) (pe_tup (pa_cons pe_bl (pa_cons pe_int pa_nil))) (nomark _))))), ?_⟩
  intro a lw ns ws n z x3 x4 H1 d za zl
  refine ⟨_, rfl, z, rfl, za, zl, fun H2 s2 => ⟨_, rfl, iteN rfl ?_⟩⟩
  have d2 := d.same s2
  have few := d.few
  obtain ⟨wc, e, wm, wl⟩ := cut_strs ws none (some (n / 2304 % (((ws.map V.str).length : Int) + 1)))
  obtain ⟨j1, j2, j3⟩ := joined (fun w hw => d.wo w (wm w hw)) (by first | lia | omega)
  refine ⟨rfl, _, rfl, _, rfl, _, _, rfl, rfl, divL _ (by decide) (by decide), _, rfl, lw, _, rfl, .inl (SqL.of d2.lst), _, _, rfl, rfl, _, _, rfl, rfl, (by show (0 : Int) < _ + 1; first | lia | omega), _, rfl, lw, _, rfl, SqL.of d2.lst, fun p np => ?_⟩
  refine ⟨_, p, wc, rfl, rfl, by rw [← e]; exact upd_same, j1, _, rfl, j2, by first | lia | omega, fun H3 s3 => ⟨_, rfl, iteN rfl ?_⟩⟩
  refine ⟨lenOk 1, fun t1 nt1 => ⟨lenOk 4, fun t2 nt2 => ?_⟩⟩
  have r0 := Int.emod_nonneg (n / 2304) (b := 4) (by decide)
  have r1 := Int.emod_lt_of_pos (n / 2304) (b := 4) (by decide)
  have h1 : (upd (upd H3 t1 (.lst [.str "."])) t2 (.lst [.non, .int 3, .ref t1, .bl true])) t1 = some (.lst [.str "."]) := Same.new nt2 _ _ upd_same
  have h2 : (upd (upd H3 t1 (.lst [.str "."])) t2 (.lst [.non, .int 3, .ref t1, .bl true])) t2 = some (.lst [.non, .int 3, .ref t1, .bl true]) := upd_same
  generalize upd (upd H3 t1 (.lst [.str "."])) t2 (.lst [.non, .int 3, .ref t1, .bl true]) = H4 at h1 h2 ⊢
  obtain ⟨v, hv, ty, ht, nT⟩ : ∃ v : V, atI [.non, .int 3, .ref t1, .bl true] (n / 2304 % 4) = some v ∧ ∃ ty, tyS H4 v = some ty ∧ ty ≠ "str" := by
    obtain e | e | e | e : n / 2304 % 4 = 0 ∨ n / 2304 % 4 = 1 ∨ n / 2304 % 4 = 2 ∨ n / 2304 % 4 = 3 := by first | lia | omega
    · rw [e]; exact ⟨_, rfl, _, rfl, by decide⟩
    · rw [e]; exact ⟨_, rfl, _, rfl, by decide⟩
    · rw [e]; exact ⟨_, rfl, "list", by show tyO (H4 t1) = _; rw [h1]; rfl, by decide⟩
    · rw [e]; exact ⟨_, rfl, _, rfl, by decide⟩
  refine ⟨_, rfl, _, _, rfl, rfl, divL _ (by decide) (by decide), _, _, rfl, rfl, (show (0 : Int) < 4 from by decide), t2, _, _, v, rfl, rfl, SqL.of h2, hv, v, rfl, .inl ⟨⟨ty, ht, nT⟩, fun t3 H5 s5 h5 => ⟨lenOk 2, fun t6 nt6 => ?_⟩⟩⟩
  have i1 := tup2_is (K := K) (Same.new (o := .tup [.bl false, .int 0]) nt6 _ _ h5)
  refine ⟨_, _, i1, tup2_is upd_same, ⟨_, rfl⟩, ⟨_, rfl⟩, by decide, ?_⟩
  rw [if_neg Bool.false_ne_true, deq_refl _ i1]
  exact q _
theorem ok_lawD {f : Addr} {cdv : Value} {A : Around} {outer : List Env} {s : Shared} {H : Hp} {E : XK} (hr : Room 64 (A.deeper (PyProof.Rows.envOfC "law" (defScope s_law) s.heap.objs.size f cdv))) (D__law_at : DefOk P w K mg base 1 "_law_at" ["_law_script", "_law_k"] (sp_at K)) (D__law_knead : DefOk P w K mg base 1 "_law_knead" ["_law_number", "_law_by"] sp_knead) (D__law_one_odd : DefOk P w K mg base 3 "_law_one_odd" ["_law_words", "_law_number"] sp_odd) (D__law_asked : DefOk P w K mg base 64 "_law_asked" ["_law_text"] sp_asked)
    {D : Ends} {tE : TS} (hE : PSs (cxOf CX0 P w K mg base N_law "law" (defScope s_law) f cdv A outer s H E).nox ((defBody s_law).drop 8) tE) (kE : ∀ (a lw : Addr) (ns : List Int) (ws : List Str) (n : Int) (z : Str) (x3 x4 : Option V) (H1 : Hp), Mid K H1 a lw ns ws 300 → Asc z → z.length ≤ 8000 →
      tE D [some (.ref a), some (.int n), some (.ref lw), x3, x4, some (.str z)] H1) :
    ∃ rd, PSs (cxOf CX0 P w K mg base N_law "law" (defScope s_law) f cdv A outer s H E).nox ((defBody s_law).drop 5) rd ∧ ∀ (a lw : Addr) (ns : List Int) (ws : List Str) (n : Int) (x3 x4 x5 : Option V) (H1 : Hp), Mid K H1 a lw ns ws 300 →
      rd D [some (.ref a), some (.int n), some (.ref lw), x3, x4, x5] H1 := by
  have S := S_law
  refine ⟨_, (pss_cons (ps_if (pt_not (pt_val (pe_fn D__law_asked hr (pa_cons (pe_bm PySem.F.plainAttrs_str PySem.F.slot_str_join PySem.F.type_str_join mt_join pe_str (pa_cons (pe_fn D__law_one_odd hr (pa_cons (pv 2) (pa_cons (pe_fn D__law_knead hr (pa_cons (pe_fn D__law_at hr (pa_cons (pv 0) (pa_cons pe_int pa_nil))) (pa_cons pe_int pa_nil))) pa_nil))) pa_nil)) pa_nil)))) (pss_one (ps_ret pe_bl)) pss_nil)
      (pss_cons (ps_set (i := 5) S.nd rfl (Or.inl rfl) (pe_bm PySem.F.plainAttrs_str PySem.F.slot_str_join PySem.F.type_str_join mt_join pe_str (pa_cons (pv 2) pa_nil)))
      (pss_cons (ps_if (pt_cmpR op_eq (pe_op op_mod (pe_op op_fdivL (pv 1) pe_int) pe_int) pe_int (nomark _)) (pss_one (ps_set (i := 5) S.nd rfl (Or.inl rfl) (pe_ix ix_list (pe_lst (pa_cons (pe_op op_add_str (pv 5) pe_str) (pa_cons (pe_op op_add_str pe_str (pv 5)) pa_nil))) (pe_op op_mod (pe_op op_fdivL (pv 1) pe_int) pe_int) (fun _ _ => rfl)))) pss_nil)
      hE))), ?_⟩
  intro a lw ns ws n x3 x4 x5 H1 d
  refine ⟨rfl, _, rfl, _, rfl, a, ns, 0, rfl, d.scr, by decide, by decide, fun z H2 s2 => ⟨z, 4, rfl, by decide, by decide, fun r _ => ⟨lw, ws, r, rfl, s2 _ _ d.lst, d.wo, d.few, fun l' ws' H3 s3 h3 w3 n3 => ?_⟩⟩⟩
  obtain ⟨j1, j2, j3⟩ := joined w3 (by first | lia | omega)
  refine ⟨_, l', ws', rfl, rfl, h3, j1, _, rfl, j2, by first | lia | omega, fun H4 s4 => ⟨_, rfl, iteN rfl ?_⟩⟩
  have d4 := d.same (s2.trans (s3.trans s4))
  have few := d.few
  obtain ⟨j1, j2, j3⟩ := joined d.wo (by first | lia | omega)
  refine ⟨rfl, _, rfl, _, lw, ws, rfl, rfl, d4.lst, j1, ?_⟩
  generalize Txt.join " " ws = z at j2 j3 ⊢
  refine ⟨_, rfl, _, _, rfl, rfl, divL _ (by decide) (by decide), _, _, rfl, rfl, (show (0 : Int) < 8 from by decide), rfl, _, rfl, ite3 (fun b => ?_) (fun b => ?_)⟩
  · have r0 := Int.emod_nonneg (n / 1152) (b := 2) (by decide)
    have r1 := Int.emod_lt_of_pos (n / 1152) (b := 2) (by decide)
    obtain ⟨y, hy, ya, yl⟩ : ∃ y : Str, atI [V.str (z ++ " "), V.str (" " ++ z)] (n / 1152 % 2) = some (.str y) ∧ Asc y ∧ y.length ≤ 8000 := by
      obtain e | e : n / 1152 % 2 = 0 ∨ n / 1152 % 2 = 1 := by first | lia | omega
      · rw [e]; exact ⟨_, rfl, asc_app j2 asc_blank, by rw [strLen_append, blank1]; first | lia | omega⟩
      · rw [e]; exact ⟨_, rfl, asc_app asc_blank j2, by rw [strLen_append, blank1]; first | lia | omega⟩
    refine ⟨_, rfl, _, _, rfl, rfl, Nat.le_of_lt (small9 (by rw [blank1]; first | lia | omega)), _, rfl, _, _, rfl, rfl, Nat.le_of_lt (small9 (by rw [blank1]; first | lia | omega)), lenOk 2, fun t nt => ?_⟩
    exact ⟨_, rfl, _, _, rfl, rfl, divL _ (by decide) (by decide), _, _, rfl, rfl, (show (0 : Int) < 2 from by decide), t, _, _, _, rfl, rfl, SqL.of upd_same, hy, kE a lw ns ws n y _ _ _ (d4.same (Same.new nt)) ya yl⟩
  · exact kE a lw ns ws n z _ _ _ d4 j2 (by first | lia | omega)
theorem ok_lawC {f : Addr} {cdv : Value} {A : Around} {outer : List Env} {s : Shared} {H : Hp} {E : XK} (hr : Room 64 (A.deeper (PyProof.Rows.envOfC "law" (defScope s_law) s.heap.objs.size f cdv))) (T : Txt mg tk) (D__law_kind : DefOk P w K mg base 2 "_law_kind" ["_law_word_here"] sp_kd)
    {D : Ends} {tD : TS} (hD : PSs (cxOf CX0 P w K mg base N_law "law" (defScope s_law) f cdv A outer s H E).nox ((defBody s_law).drop 5) tD) (kD : ∀ (a lw : Addr) (ns : List Int) (ws : List Str) (n : Int) (x3 x4 x5 : Option V) (H1 : Hp), Mid K H1 a lw ns ws 300 →
      tD D [some (.ref a), some (.int n), some (.ref lw), x3, x4, x5] H1) :
    ∃ rd, PSs (cxOf CX0 P w K mg base N_law "law" (defScope s_law) f cdv A outer s H E).nox ((defBody s_law).drop 4) rd ∧ ∀ (a lw : Addr) (ns : List Int) (ws : List Str) (n : Int) (x3 x4 x5 : Option V) (H1 : Hp), Mid K H1 a lw ns ws 102 →
      rd D [some (.ref a), some (.int n), some (.ref lw), x3, x4, x5] H1 := by
  have S := S_law
  refine ⟨_, (pss_cons (ps_if (pt_cmpR op_eq (pe_op op_mod (pe_op op_fdivL (pv 1) pe_int) pe_int) pe_int (nomark _)) (pss_cons (ps_set (i := 4) S.nd rfl (Or.inl rfl) (pe_op op_add pe_int (pe_callB call_sum rfl T.z_sum rfl (pa_cons (pe_comp rfl (pi_list (pv 2)) (fun _ _ _ _ _ => (pg_name (i := 0) (show List.Nodup (["_law_word_here"] : List Str) from by decide +kernel) rfl (Or.inl rfl))) (fun _ _ _ _ _ => (pe_op op_sub (pe_callB (call_max2 rfl) rfl T.z_max rfl (pa_cons pe_int (pa_cons (pe_fn D__law_kind hr (pa_cons (pv 0) pa_nil)) pa_nil))) pe_int)) (N := ["_law_word_here"]) (fr := [none])) pa_nil))))
      (pss_one (ps_set (i := 2) S.nd rfl (Or.inl rfl) (pe_op op_cat (pv 2) (pe_comp rfl (pi_range1 rfl T.z_range (pa_cons (pv 4) pa_nil)) (fun _ _ _ _ _ => (pg_name (i := 0) (show List.Nodup (["_law_k", "_law_number"] : List Str) from by decide +kernel) rfl (Or.inl rfl))) (fun _ _ _ _ _ => (pe_op op_add_str pe_str (pe_callTy call_str_int rfl T.z_str rfl (pa_cons (pe_op op_mod (pe_op op_add (pv 1) (pv 0)) pe_int) pa_nil)))) (N := ["_law_k", "_law_number"]) (fr := [none, some 1])))))) pss_nil)
      hD), ?_⟩
  intro a lw ns ws n x3 x4 x5 H1 d
  have few := d.few
  refine ⟨_, rfl, _, _, rfl, rfl, divL _ (by decide) (by decide), _, _, rfl, rfl, (show (0 : Int) < 4 from by decide), rfl, _, rfl, ite3 (fun b => ?_) (fun b => kD a lw ns ws n _ _ _ _ (d.more (by first | lia | omega)))⟩
  have yl : (ws.map V.str).length = ws.length := List.length_map _
  refine ⟨_, rfl, lw, rfl, ⟨_, SqL.of d.lst⟩, fun acc na => comp_list (K := K) (a := lw) (ys := ws.map V.str) (fun i zs σ H' => (∃ x, σ = [x]) ∧ Same H1 H' ∧ ∃ ks : List Int, zs = ks.map V.int ∧ -(i : Int) ≤ ks.sum ∧ ks.sum ≤ i) ⟨⟨_, rfl⟩, Same.new na, [], rfl, by decide, by decide⟩ (fun i zs σ H' _ _ hp => SqL.of (hp.2.1 _ _ d.lst)) ?_ ?_⟩
  · rintro i x zs σ H' hx hi hl hacc ⟨⟨y, rfl⟩, hs, ks, rfl, k0, k1⟩
    obtain ⟨wd, hwd, rfl⟩ : ∃ wd, ws[i]? = some wd ∧ x = .str wd := by
      rw [List.getElem?_map] at hx
      cases he : ws[i]? with
      | none => rw [he] at hx; cases hx
      | some e => rw [he] at hx; exact ⟨e, rfl, (Option.some.inj hx).symm⟩
    have wo := d.wo wd (List.mem_of_getElem? hwd)
    have fin : ∀ (j : Int) (H2 : Hp), -1 ≤ j → j ≤ 1 → Same H' H2 → cNx acc (ws.map V.str).length (fun i zs σ H' => (∃ x, σ = [x]) ∧ Same H1 H' ∧ ∃ ks : List Int, zs = ks.map V.int ∧ -(i : Int) ≤ ks.sum ∧ ks.sum ≤ i) i [some (.str wd)] (.int j) H2 := fun j H2 j0 j1 s2 => by
      refine cNx.mk (Nat.le_of_lt (small9 (by first | lia | omega))) hi hl (s2 _ _ hacc) ⟨⟨_, rfl⟩, fun b o e => ?_, ks ++ [j], by rw [List.map_append]; rfl, ?_, ?_⟩
      · rw [upd_ne (ne_of_none e na)]; exact s2 b o (hs b o e)
      · rw [List.sum_append]; simp only [List.sum_cons, List.sum_nil]; first | lia | omega
      · rw [List.sum_append]; simp only [List.sum_cons, List.sum_nil]; first | lia | omega
    refine ⟨_, rfl, wd, rfl, wo.1, by have := wo.2; first | lia | omega, fun e H2 _ _ s2 => ?_, fun _ H2 s2 => ?_⟩
    · have ke := kd_b e
      refine ⟨0, _, rfl, _, _, rfl, rfl, fin _ H2 ?_ ?_ s2⟩
      · show -1 ≤ (if kdE e > 0 then kdE e else 0) - 1
        split <;> first | lia | omega
      · show (if kdE e > 0 then kdE e else 0) - 1 ≤ 1
        split <;> first | lia | omega
    · exact ⟨0, _, rfl, _, _, rfl, rfl, fin _ H2 (by decide) (by decide) s2⟩
  · rintro zs σ H2 hl hacc ⟨_, s2, ks, rfl, k0, k1⟩
    have d2 := d.same s2
    refine ⟨acc, ks, rfl, SqL.of hacc, rfl, _, _, rfl, rfl, ?_⟩
    refine ⟨_, rfl, _, rfl, 1 + ks.sum, rfl, by first | lia | omega, by first | lia | omega, fun ac2 na2 => comp_range (lo := 0) (n := (1 + ks.sum).toNat) (fun i zs σ H' => (∃ x, σ = [x, some (.int n)]) ∧ Same H2 H' ∧ ∃ us : List Str, zs = us.map V.str ∧ ∀ w ∈ us, Wo w) ⟨⟨_, rfl⟩, Same.new na2, [], rfl, fun w z => nomatch z⟩ ?_ ?_⟩
    · rintro i zs σ H3 hi hl hacc ⟨⟨y, rfl⟩, hs, us, rfl, hu⟩
      have r0 := Int.emod_nonneg (n + (0 + (i : Int))) (b := 1000) (by decide)
      have r1 := Int.emod_lt_of_pos (n + (0 + (i : Int))) (b := 1000) (by decide)
      refine ⟨_, rfl, _, rfl, _, _, rfl, rfl, _, _, rfl, rfl, (show (0 : Int) < 1000 from by decide), _, rfl, log_ok r0 (by first | lia | omega), _, _, rfl, rfl, sum_len (c := 35) r0 (by first | lia | omega), cNx.mk (Nat.le_of_lt (small9 (by first | lia | omega))) hi hl hacc ⟨⟨_, rfl⟩, fun b o e => ?_, us ++ [(⟨#[35]⟩ : Str) ++ num ((n + (0 + (i : Int))) % 1000)], by rw [List.map_append]; rfl, wo_one hu (wo_num (by decide) r0 (by first | lia | omega))⟩⟩
      rw [upd_ne (ne_of_none e na2)]; exact hs b o e
    · rintro zs σ H3 hl hacc ⟨_, s3, us, rfl, hu⟩
      rw [List.length_map] at hl
      have d3 := d2.same s3
      refine ⟨lw, ac2, _, _, rfl, rfl, d3.lst, hacc, Nat.le_of_lt (small9 (by rw [List.length_map, List.length_map]; first | lia | omega)), fun p np => ?_⟩
      rw [← List.map_append]
      exact kD a p ns (ws ++ us) n _ _ _ _ ⟨⟨H3, d3.scr, Same.new np, np⟩, upd_same, wo_app d.wo hu, by rw [List.length_append]; first | lia | omega⟩
theorem ok_lawB {f : Addr} {cdv : Value} {A : Around} {outer : List Env} {s : Shared} {H : Hp} {E : XK} (hr : Room 64 (A.deeper (PyProof.Rows.envOfC "law" (defScope s_law) s.heap.objs.size f cdv))) (T : Txt mg tk) (D__law_kind : DefOk P w K mg base 2 "_law_kind" ["_law_word_here"] sp_kd)
    {D : Ends} {tC : TS} (hC : PSs (cxOf CX0 P w K mg base N_law "law" (defScope s_law) f cdv A outer s H E).nox ((defBody s_law).drop 4) tC) (kC : ∀ (a lw : Addr) (ns : List Int) (ws : List Str) (n : Int) (x3 x4 x5 : Option V) (H1 : Hp), Mid K H1 a lw ns ws 102 →
      tC D [some (.ref a), some (.int n), some (.ref lw), x3, x4, x5] H1) :
    ∃ rd, PSs (cxOf CX0 P w K mg base N_law "law" (defScope s_law) f cdv A outer s H E).nox ((defBody s_law).drop 3) rd ∧ ∀ (a lw : Addr) (ns : List Int) (ws : List Str) (n : Int) (x3 x4 x5 : Option V) (H1 : Hp), Mid K H1 a lw ns ws 102 →
      rd D [some (.ref a), some (.int n), some (.ref lw), x3, x4, x5] H1 := by
  have S := S_law
  refine ⟨_, (pss_cons (ps_if (pt_cmpR op_gt (pe_op op_mod (pe_op op_fdivL (pv 1) pe_int) pe_int) pe_int (nomark _)) (pss_one (ps_for PassesOwn.never rfl (pi_range1 rfl T.z_range (pa_cons (pe_callB call_len_seq rfl T.z_len rfl (pa_cons (pv 2) pa_nil)) pa_nil)) (pg_name (i := 3) S.nd rfl (Or.inl rfl)) (pss_one (ps_if (pt_cmpR op_lt (pe_fn D__law_kind hr (pa_cons (pe_ix ix_list (pv 2) (pv 3) (fun _ _ => rfl)) pa_nil)) pe_int (nomark _)) (pss_one (ps_asg (pe_ix ix_list (pe_lst (pa_cons pe_str (pa_cons pe_str pa_nil))) (pe_op op_mod (pe_op op_fdivL (pv 1) pe_int) pe_int) (fun _ _ => rfl)) (pg_sub (pv 2) (pv 3) set_list))) pss_nil)))) pss_nil)
      hC), ?_⟩
  intro a lw ns ws n x3 x4 x5 H1 d
  have few := d.few
  refine ⟨_, rfl, _, _, rfl, rfl, divL _ (by decide) (by decide), _, _, rfl, rfl, (show (0 : Int) < 3 from by decide), _, _, rfl, rfl, _, rfl, ite3 (fun b => ?_) (fun b => kC a lw ns ws n _ _ _ _ d)⟩
  have yl : (ws.map V.str).length = ws.length := List.length_map _
  refine ⟨_, rfl, lw, _, rfl, .inl (SqL.of d.lst), ((ws.map V.str).length : Int), rfl, by first | lia | omega, by first | lia | omega, for_range (lo := 0) (n := ((ws.map V.str).length : Int).toNat) (fun i σ H' => ∃ (us : List Str) (y3 : Option V), σ = [some (.ref a), some (.int n), some (.ref lw), y3, x4, x5] ∧ Mid K H' a lw ns us 102 ∧ us.length = ws.length) ⟨ws, _, rfl, d, rfl⟩ ?_ ?_⟩
  · rintro i σ H2 hi ⟨us, y3, rfl, d2, ul⟩
    have hi : i < us.length := by first | lia | omega
    have hx : (us.map V.str)[i]? = some (.str us[i]) := by rw [List.getElem?_map, List.getElem?_eq_getElem hi]; rfl
    have hz : (0 : Int) + (i : Int) = (i : Int) := Int.zero_add _
    rw [hz]
    have wo := d2.wo us[i] (List.getElem_mem hi)
    generalize us[i] = wd at hx wo
    refine ⟨_, rfl, _, rfl, lw, _, _, _, rfl, rfl, SqL.of d2.lst, atI_nat hx, wd, rfl, wo.1, by have := wo.2; first | lia | omega, fun e H3 _ _ s3 => ?_, fun _ H3 s3 => ?_⟩
    · have ke := kd_b e
      exact ⟨_, _, rfl, rfl, _, rfl, iteN (decide_eq_false (by first | lia | omega)) ⟨us, _, rfl, d2.same s3, ul⟩⟩
    · refine ⟨_, _, rfl, rfl, _, rfl, iteP (by decide) ?_⟩
      have r0 := Int.emod_nonneg (n / 12) (b := 2) (by decide)
      have r1 := Int.emod_lt_of_pos (n / 12) (b := 2) (by decide)
      obtain ⟨k, hk, wk⟩ : ∃ k : Str, atI [V.str ".", V.str "|3"] (n / 12 % 2) = some (.str k) ∧ Wo k := by
        obtain e | e : n / 12 % 2 = 0 ∨ n / 12 % 2 = 1 := by first | lia | omega
        · rw [e]; exact ⟨_, rfl, wo_dot⟩
        · rw [e]; exact ⟨_, rfl, woB_of (by decide +kernel)⟩
      refine ⟨lenOk 2, fun t nt => ⟨_, rfl, _, _, rfl, rfl, divL _ (by decide) (by decide), _, _, rfl, rfl, (show (0 : Int) < 2 from by decide), t, _, _, _, rfl, rfl, SqL.of upd_same, hk, ?_⟩⟩
      have d4 := (d2.same s3).same (Same.new (o := .lst [V.str ".", V.str "|3"]) nt)
      have ix : ixN (us.map V.str).length (i : Int) = some i := by
        unfold ixN
        rw [if_pos (by first | lia | omega), List.length_map, if_pos (by first | lia | omega)]; rfl
      refine ⟨_, rfl, _, rfl, lw, _, _, _, rfl, rfl, d4.lst, ix, us.set i k, _, rfl, ?_, by rw [List.length_set]; exact ul⟩
      rw [set_strs]
      exact d4.put (wo_set d2.wo wk) (by rw [List.length_set]; first | lia | omega)
  · rintro σ H2 ⟨us, y3, rfl, d2, ul⟩
    exact kC a lw ns us n _ _ _ _ d2
theorem ok_lawA {f : Addr} {cdv : Value} {A : Around} {outer : List Env} {s : Shared} {H : Hp} {E : XK} (T : Txt mg tk)
    {D : Ends} {tB : TS} (hB : PSs (cxOf CX0 P w K mg base N_law "law" (defScope s_law) f cdv A outer s H E).nox ((defBody s_law).drop 3) tB) (kB : ∀ (a lw : Addr) (ns : List Int) (ws : List Str) (n : Int) (x3 x4 x5 : Option V) (H1 : Hp), Mid K H1 a lw ns ws 102 →
      tB D [some (.ref a), some (.int n), some (.ref lw), x3, x4, x5] H1) :
    ∃ rd, PSs (cxOf CX0 P w K mg base N_law "law" (defScope s_law) f cdv A outer s H E).nox ((defBody s_law).drop 2) rd ∧ ∀ (a lw : Addr) (ns : List Int) (ws : List Str) (n : Int) (x3 x4 x5 : Option V) (H1 : Hp), Mid K H1 a lw ns ws 52 →
      rd D [some (.ref a), some (.int n), some (.ref lw), x3, x4, x5] H1 := by
  have S := S_law
  refine ⟨_, (pss_cons (ps_if (pt_cmpR op_eq (pe_op op_mod (pv 1) pe_int) pe_int (nomark _)) (pss_one (ps_set (i := 2) S.nd rfl (Or.inl rfl) (pe_op op_cat (pe_comp rfl (pi_range1 rfl T.z_range (pa_cons pe_int pa_nil)) (fun _ _ _ _ _ => (pg_name (i := 0) (show List.Nodup (["_law_k", "_law_number"] : List Str) from by decide +kernel) rfl (Or.inl rfl))) (fun _ _ _ _ _ => (pe_op op_add_str pe_str (pe_callTy call_str_int rfl T.z_str rfl (pa_cons (pe_op op_add pe_int (pe_op op_mod (pe_op op_add (pe_op op_fdivL (pv 1) pe_int) (pe_op op_mulL (pv 0) (pv 0))) pe_int)) pa_nil)))) (N := ["_law_k", "_law_number"]) (fr := [none, some 1])) (pv 2)))) pss_nil)
      hB), ?_⟩
  intro a lw ns ws n x3 x4 x5 H1 d
  have few := d.few
  refine ⟨_, rfl, _, _, rfl, rfl, (show (0 : Int) < 4 from by decide), rfl, _, rfl, ite3 (fun b => ?_) (fun b => kB a lw ns ws n _ _ _ _ (d.more (by first | lia | omega)))⟩
  refine ⟨50, rfl, by decide, by decide, fun acc na => comp_range (lo := 0) (n := 50) (fun i zs σ H' => (∃ x, σ = [x, some (.int n)]) ∧ Same H1 H' ∧ ∃ us : List Str, zs = us.map V.str ∧ ∀ w ∈ us, Wo w) ⟨⟨_, rfl⟩, Same.new na, [], rfl, fun w z => nomatch z⟩ ?_ ?_⟩
  · rintro i zs σ H3 hi hl hacc ⟨⟨y, rfl⟩, hs, us, rfl, hu⟩
    have r0 := Int.emod_nonneg (n / 4 + (0 + (i : Int)) * (0 + (i : Int))) (b := 11) (by decide)
    have r1 := Int.emod_lt_of_pos (n / 4 + (0 + (i : Int)) * (0 + (i : Int))) (b := 11) (by decide)
    refine ⟨_, rfl, _, _, rfl, rfl, divL _ (by decide) (by decide), _, rfl, _, rfl, _, _, rfl, rfl, mul64 (by first | lia | omega) (by first | lia | omega) (by first | lia | omega) (by first | lia | omega), _, _, rfl, rfl, _, _, rfl, rfl, (show (0 : Int) < 11 from by decide), _, _, rfl, rfl, _, rfl, log_ok (by first | lia | omega) (by first | lia | omega), _, _, rfl, rfl, sum_len (c := 124) (i := 1 + (n / 4 + (0 + (i : Int)) * (0 + (i : Int))) % 11) (by first | lia | omega) (by first | lia | omega), cNx.mk (Nat.le_of_lt (small9 (by first | lia | omega))) hi hl hacc ⟨⟨_, rfl⟩, fun b o e => ?_, us ++ [(⟨#[124]⟩ : Str) ++ num (1 + (n / 4 + (0 + (i : Int)) * (0 + (i : Int))) % 11)], by rw [List.map_append]; rfl, wo_one hu (wo_num (by decide) (by first | lia | omega) (by first | lia | omega))⟩⟩
    rw [upd_ne (ne_of_none e na)]; exact hs b o e
  · rintro zs σ H3 hl hacc ⟨_, s3, us, rfl, hu⟩
    rw [List.length_map] at hl
    have d3 := d.same s3
    refine ⟨_, rfl, acc, lw, _, _, rfl, rfl, hacc, d3.lst, Nat.le_of_lt (small9 (by rw [List.length_map, List.length_map]; first | lia | omega)), fun p np => ?_⟩
    rw [← List.map_append]
    exact kB a p ns (us ++ ws) n _ _ _ _ ⟨⟨H3, d3.scr, Same.new np, np⟩, upd_same, wo_app hu d.wo, by rw [List.length_append]; first | lia | omega⟩
theorem ok_law {f : Addr} {fd : FuncData} (F : Fun K "law" "law" s_law f fd) (T : Txt mg tk) (D__law_at : DefOk P w K mg base 1 "_law_at" ["_law_script", "_law_k"] (sp_at K)) (D__law_more : DefOk P w K mg base 2 "_law_more" ["_law_script", "_law_at_here", "_law_many"] (sp_more K)) (D__law_knead : DefOk P w K mg base 1 "_law_knead" ["_law_number", "_law_by"] sp_knead) (D__law_word : DefOk P w K mg base 1 "_law_word" ["_law_number"] sp_word) (D__law_kind : DefOk P w K mg base 2 "_law_kind" ["_law_word_here"] sp_kd) (D__law_one_odd : DefOk P w K mg base 3 "_law_one_odd" ["_law_words", "_law_number"] sp_odd) (D__law_asked : DefOk P w K mg base 64 "_law_asked" ["_law_text"] sp_asked) (D__law_refused : DefOk P w K mg base 6 "_law_refused" ["_law_text"] (sp_refused cW cU cL)) : FnOk P w K mg base CX0 65 f fd ["_law_script"] (sp_law K) := by
  have S := S_law
  refine F.ok S (fun vs H Q E h => ?_) (fun cdv A outer s H vs Q E hr h => ?_)
  · obtain ⟨a, ns, rfl, _⟩ := h; rfl
  · obtain ⟨a, ns, rfl, hS, hlen, q⟩ := h
    obtain ⟨tE, hE, kE⟩ := ok_lawE (f := f) (cdv := cdv) (A := A) (outer := outer) (s := s) (H := H) (E := E) (P := P) (w := w) (K := K) (mg := mg) (base := base) (cW := cW) (cU := cU) (cL := cL) hr T q D__law_asked D__law_refused
    obtain ⟨tD, hD, kD⟩ := ok_lawD (f := f) (cdv := cdv) (A := A) (outer := outer) (s := s) (H := H) (E := E) (P := P) (w := w) (K := K) (mg := mg) (base := base) hr D__law_at D__law_knead D__law_one_odd D__law_asked hE kE
    obtain ⟨tC, hC, kC⟩ := ok_lawC (f := f) (cdv := cdv) (A := A) (outer := outer) (s := s) (H := H) (E := E) (P := P) (w := w) (K := K) (mg := mg) (base := base) hr T D__law_kind hD kD
    obtain ⟨tB, hB, kB⟩ := ok_lawB (f := f) (cdv := cdv) (A := A) (outer := outer) (s := s) (H := H) (E := E) (P := P) (w := w) (K := K) (mg := mg) (base := base) hr T D__law_kind hC kC
    obtain ⟨tA, hA, kA⟩ := ok_lawA (f := f) (cdv := cdv) (A := A) (outer := outer) (s := s) (H := H) (E := E) (P := P) (w := w) (K := K) (mg := mg) (base := base) T hB kB
    refine ⟨_, (pss_cons (ps_set (i := 1) S.nd rfl (Or.inr rfl) (pe_fn D__law_knead hr (pa_cons (pe_fn D__law_at hr (pa_cons (pv 0) (pa_cons pe_int pa_nil))) (pa_cons pe_int pa_nil))))
      (pss_cons (ps_setComp rfl (pg_name (i := 2) S.nd rfl (Or.inl rfl)) (pi_list (pe_fn D__law_more hr (pa_cons (pv 0) (pa_cons pe_int (pa_cons (pe_op op_mod (pe_fn D__law_knead hr (pa_cons (pe_fn D__law_at hr (pa_cons (pv 0) (pa_cons pe_int pa_nil))) (pa_cons pe_int pa_nil))) pe_int) pa_nil))))) (fun _ _ _ _ _ => (pg_name (i := 0) (show List.Nodup (["_law_cell"] : List Str) from by decide +kernel) rfl (Or.inl rfl))) (fun _ _ _ _ _ => (pe_fn D__law_word hr (pa_cons (pe_fn D__law_knead hr (pa_cons (pv 0) (pa_cons pe_int pa_nil))) pa_nil))) (N := ["_law_cell"]) (fr := [none]))
      hA)), ?_⟩
    refine ⟨_, rfl, a, ns, 0, rfl, hS, by decide, by decide, fun z0 H1 s1 => ⟨z0, 1, rfl, by decide, by decide, fun n _ => ?_⟩⟩
    refine ⟨_, rfl, _, rfl, a, ns, 0, rfl, s1.seq hS, by decide, by decide, fun z1 H2 s2 => ⟨z1, 3, rfl, by decide, by decide, fun r3 _ => ⟨_, _, rfl, rfl, (show (0 : Int) < 53 from by decide), ?_⟩⟩⟩
    have r0 := Int.emod_nonneg r3 (b := 53) (by decide)
    have r1 := Int.emod_lt_of_pos r3 (b := 53) (by decide)
    refine ⟨a, ns, 1, r3 % 53, rfl, (s1.trans s2).seq hS, by decide, by decide, r0, by first | lia | omega, fun l ms H3 s3 nl hl ml => ⟨l, rfl, ⟨_, SqL.of hl⟩, fun acc na => comp_list (K := K) (a := l) (ys := ms.map V.int) (fun i zs σ H' => (∃ x, σ = [x]) ∧ Same H3 H' ∧ ∃ us : List Str, zs = us.map V.str ∧ ∀ w ∈ us, Wo w) ⟨⟨_, rfl⟩, Same.new na, [], rfl, fun w z => nomatch z⟩ (fun i zs σ H' _ _ hp => SqL.of (hp.2.1 _ _ hl)) ?_ ?_⟩⟩
    · rintro i x zs σ H' hx hi hl' hacc ⟨⟨y, rfl⟩, hs, us, rfl, hu⟩
      obtain ⟨c, rfl⟩ : ∃ c, x = .int c := by
        rw [List.getElem?_map] at hx
        cases he : ms[i]? with
        | none => rw [he] at hx; cases hx
        | some e => rw [he] at hx; exact ⟨e, (Option.some.inj hx).symm⟩
      refine ⟨_, rfl, c, 2, rfl, by decide, by decide, fun r _ => ⟨r, rfl, fun wd H4 wo s4 => cNx.mk (Nat.le_of_lt (small9 (by rw [List.length_map]; first | lia | omega))) hi hl' (s4 _ _ hacc) ⟨⟨_, rfl⟩, fun b o e => ?_, us ++ [wd], by rw [List.map_append]; rfl, wo_one hu wo⟩⟩⟩
      rw [upd_ne (ne_of_none e na)]; exact s4 b o (hs b o e)
    · rintro zs σ H4 hl' hacc ⟨_, s4, us, rfl, hu⟩
      rw [List.length_map, List.length_map] at hl'
      have ss := s1.trans (s2.trans (s3.trans s4))
      exact kA a acc ns us n _ _ _ _ ⟨⟨H3, (s1.trans (s2.trans s3)).seq hS, s4, na⟩, hacc, hu, by first | lia | omega⟩
theorem len1 {α : Type} {us : List α} (h : us.length = 1) : ∃ a, us = [a] := List.length_eq_one_iff.mp h
theorem len2 {α : Type} {us : List α} (h : us.length = 2) : ∃ a b, us = [a, b] := by
  cases us with
  | nil => cases h
  | cons a r => obtain ⟨b, rfl⟩ := len1 (Nat.succ.inj h); exact ⟨a, b, rfl⟩
theorem len3 {α : Type} {us : List α} (h : us.length = 3) : ∃ a b c, us = [a, b, c] := by
  cases us with
  | nil => cases h
  | cons a r => obtain ⟨b, c, rfl⟩ := len2 (Nat.succ.inj h); exact ⟨a, b, c, rfl⟩
theorem len4 {α : Type} {us : List α} (h : us.length = 4) : ∃ a b c d, us = [a, b, c, d] := by
  cases us with
  | nil => cases h
  | cons a r => obtain ⟨b, c, d, rfl⟩ := len3 (Nat.succ.inj h); exact ⟨a, b, c, d, rfl⟩
theorem xfin {H H1 : Hp} {Q : VK} {x d : Addr} {o1 o2 : HO} {E1 : HO} (hx : H x = some E1) (hd : H d = none) : (upd (upd H d o1) x o2) x = some o2 ∧ (upd (upd H d o1) x o2) d = some o1 ∧ ∀ a o, a ≠ x → H a = some o → (upd (upd H d o1) x o2) a = some o :=
  ⟨upd_same, by rw [upd_ne (Ne.symm (ne_of_none hx hd)), upd_same], fun a o ne e => by rw [upd_ne ne, upd_ne (ne_of_none e hd)]; exact e⟩
theorem S_NoTree_init : FnScope ["self", "place"] ["self", "place"] (defScope s_NoTree_init) := ⟨rfl, rfl, rfl, by decide +kernel, rfl, by decide +kernel, by decide +kernel⟩
theorem ok_NoTree_init {f cN : Addr} {fd : FuncData} (F : Fun K "__init__" "NoTree.__init__" s_NoTree_init f fd) (xc : XCls K cN) (xn : NoAttr K cN "place") : FnOk P w K mg base CX0 1 f fd ["self", "place"] (sp_x cN ["place"]) := by
  have S := S_NoTree_init
  refine F.ok S (fun vs H Q E h => ?_) (fun cdv A outer s H vs Q E hr h => ?_)
  · obtain ⟨x, ws, rfl, hl, _⟩ := h; rw [List.length_cons, hl]; rfl
  · obtain ⟨x, ws, rfl, hl, hx, q⟩ := h
    obtain ⟨v0, rfl⟩ := len1 hl
    refine ⟨_, (pss_one (ps_xfld (pv 0) (pv 1) rfl)), ?_⟩
    refine ⟨_, rfl, _, rfl, x, cN, rfl, xc, xn, .inl ⟨hx, fun d hd => ?_⟩⟩
    obtain ⟨e1, e2, e3⟩ := xfin (H1 := H) (Q := Q) (o1 := ExcD d [("place", v0)]) (o2 := ExcO cN d x) hx hd
    exact q d _ hd e1 e2 e3
def icB (K : PySem.W.Frag) (C : Addr) : Bool := PySem.W.plainGet K C Str.empty && (PySem.W.hasDictIn K C && (PySem.W.plainOver K C && ((PySem.W.findIn K (.ref C) "__setattr__" == some (some (.builtin "object.__setattr__"))) && ((PySem.W.findIn K (.ref C) "__class__" == some (some (.builtin "object.__class__"))) &&
  ((PySem.W.specialIn K (.builtin "object.__class__") "__get__" == some (some (.builtin "getset_descriptor.__get__"))) && ((PySem.W.takesIn K (.builtin "object.__class__") == some true) && ((PySem.W.mroIn K C (.type "object") == some true) && (PySem.W.makesIn K C && PySem.W.keepIn K (.ref C)))))))))
theorem icB_of {C : Addr} (h : icB K C = true) : ICls K C ∧ PySem.W.makesIn K C = true ∧ PySem.W.keepIn K (.ref C) = true := by
  unfold icB at h
  simp only [Bool.and_eq_true, beq_iff_eq] at h
  obtain ⟨a, b, c, d, e, f, g, i, j, l⟩ := h
  exact ⟨⟨⟨a, b, c, d⟩, e, f, g, i⟩, j, l⟩
def kitB (K : PySem.W.Frag) (cT cW cU cL : Addr) : Bool := ([(cW, "mark"), (cU, "at"), (cU, "first"), (cU, "other"), (cL, "at"), (cL, "first"), (cL, "other")] : List (Addr × Str)).all (fun p => PySem.W.findIn K (.ref p.1) p.2 == some none) &&
  ([(cW, cW, true), (cW, cU, false), (cW, cL, false), (cU, cW, false), (cL, cW, false), (cU, cU, true), (cU, cL, false), (cL, cU, false), (cL, cL, true), (cW, cT, true), (cU, cT, true), (cL, cT, true)] : List (Addr × Addr × Bool)).all (fun p => PySem.W.kitOne K (.ref p.1) (.ref p.2.1) == some p.2.2)
theorem rt_of (h : kitB K cT cW cU cL = true) (iW : ICls K cW) (iU : ICls K cU) (iL : ICls K cL) (gT : mg "Tree" = some (.ref cT)) (gW : mg "Whole" = some (.ref cW)) (gU : mg "Upright" = some (.ref cU)) (gL : mg "Level" = some (.ref cL)) : RT mg K cT cW cU cL := by
  unfold kitB at h
  rw [Bool.and_eq_true, List.all_eq_true, List.all_eq_true] at h
  obtain ⟨h1, h2⟩ := h
  have f1 : ∀ p ∈ ([(cW, "mark"), (cU, "at"), (cU, "first"), (cU, "other"), (cL, "at"), (cL, "first"), (cL, "other")] : List (Addr × Str)), PySem.W.findIn K (.ref p.1) p.2 = some none := fun p hp => beq_iff_eq.mp (h1 p hp)
  have f2 : ∀ p ∈ ([(cW, cW, true), (cW, cU, false), (cW, cL, false), (cU, cW, false), (cL, cW, false), (cU, cU, true), (cU, cL, false), (cL, cU, false), (cL, cL, true), (cW, cT, true), (cU, cT, true), (cL, cT, true)] : List (Addr × Addr × Bool)), PySem.W.kitOne K (.ref p.1) (.ref p.2.1) = some p.2.2 := fun p hp => beq_iff_eq.mp (h2 p hp)
  simp only [List.forall_mem_cons, List.not_mem_nil, false_implies, implies_true, and_true] at f1 f2
  obtain ⟨a1, a2, a3, a4, a5, a6, a7⟩ := f1
  obtain ⟨k1, k2, k3, k4, k5, k6, k7, k8, k9, k10, k11, k12⟩ := f2
  refine ⟨gT, gW, gU, gL, iW, ?_, a1, ?_, ?_, ?_, k1, ?_, ?_, ?_, k10, ?_⟩
  · intro u; cases u; exact iL; exact iU
  · intro u; cases u; exact a5; exact a2
  · intro u; cases u; exact a6; exact a3
  · intro u; cases u; exact a7; exact a4
  · intro u; cases u; exact k3; exact k2
  · intro u; cases u; exact k5; exact k4
  · intro u v; cases u <;> cases v; exact k9; exact k8; exact k7; exact k6
  · intro u; cases u; exact k12; exact k11
end
theorem fn_none {P : Program} {w : World} {K : PySem.W.Frag} {mg : Str → Option Value} {base : Heap} {f : Addr} {fd : FuncData} {x qual : Str} {st : Stmt} {N ps : List Str} {k : Nat} {sp : Sp} (F : Fun K x qual st f fd) (S : FnScope N ps (defScope st)) (h : ∀ vs H Q E, ¬ sp vs H Q E) : FnOk P w K mg base CX0 (k + 1) f fd ps sp :=
  F.ok S (fun vs H Q E z => absurd z (h vs H Q E)) (fun cdv A outer s H vs Q E hr z => absurd z (h vs H Q E))
def kit4B (K : PySem.W.Frag) (cS cN cK : Addr) : Bool := PySem.W.kitOne K (.ref cS) (.ref cS) == some true && (PySem.W.kitOne K (.ref cS) (.ref cN) == some false && (PySem.W.kitOne K (.ref cS) (.ref cK) == some false && PySem.W.kitOne K (.ref cS) (.type "ValueError") == some true))
theorem kit4_of {K : PySem.W.Frag} {cS cN cK : Addr} (h : kit4B K cS cN cK = true) : PySem.W.kitOne K (.ref cS) (.ref cS) = some true ∧ PySem.W.kitOne K (.ref cS) (.ref cN) = some false ∧ PySem.W.kitOne K (.ref cS) (.ref cK) = some false ∧ PySem.W.kitOne K (.ref cS) (.type "ValueError") = some true := by
  unfold kit4B at h
  rw [Bool.and_eq_true, Bool.and_eq_true, Bool.and_eq_true, beq_iff_eq, beq_iff_eq, beq_iff_eq, beq_iff_eq] at h
  exact h
theorem all_mk {l : PySem.W.OpenLaw} {w : World} {K : PySem.W.Frag} {h : Heap} {mg : Str → Option Value} {fa : Addr} (X : K.In h) (G : h.Ns mainGlobals mg) (hfa : mg "law" = some (.ref fa))
    {cT : Addr} (aT : PySem.W.nsIn K mainGlobals "Tree" = some (some (.ref cT)))
    {cW : Addr} (aC_cW : PySem.W.nsIn K mainGlobals "Whole" = some (some (.ref cW))) (ic_cW : icB K cW = true)
    {f_cW : Addr} {od_cW an_cW : Option Addr} {sl_cW : Array (Option Value)} {oc_cW kV_cW dc_cW pm_cW cd_cW ct_cW : Value} {T_cW : Addr} {to_cW : Value} {td_cW : Option Addr} {ts_cW : Array (Option Value)} {ti_cW : Array Value} {tn_cW : Nat} (a_cWcW : PySem.W.findIn K (.ref cW) "__init__" = some (some (.ref f_cW))) (i_cW : PySem.W.isFn K (.ref f_cW) = true) (l_cW : K.lookup f_cW = some ⟨oc_cW, od_cW, .func (PySem.W.fnOf "__init__" "Whole.__init__" (defArgs s_Whole_init) (defBody s_Whole_init) (defScope s_Whole_init) (.ref T_cW) kV_cW dc_cW pm_cW an_cW cd_cW ct_cW), sl_cW⟩) (cc_cW : PySem.W.codeIn K cd_cW "Whole.__init__" = true) (k_cW : PySem.W.keepIn K (.ref f_cW) = true) (lT_cW : K.lookup T_cW = some ⟨to_cW, td_cW, .seq ti_cW tn_cW, ts_cW⟩) (eT_cW : ti_cW = #[.none])
    {cU : Addr} (aC_cU : PySem.W.nsIn K mainGlobals "Upright" = some (some (.ref cU))) (ic_cU : icB K cU = true)
    {f_cU : Addr} {od_cU an_cU : Option Addr} {sl_cU : Array (Option Value)} {oc_cU kV_cU dc_cU pm_cU cd_cU ct_cU : Value} (a_cUcU : PySem.W.findIn K (.ref cU) "__init__" = some (some (.ref f_cU))) (i_cU : PySem.W.isFn K (.ref f_cU) = true) (l_cU : K.lookup f_cU = some ⟨oc_cU, od_cU, .func (PySem.W.fnOf "__init__" "Upright.__init__" (defArgs s_Upright_init) (defBody s_Upright_init) (defScope s_Upright_init) .none kV_cU dc_cU pm_cU an_cU cd_cU ct_cU), sl_cU⟩) (cc_cU : PySem.W.codeIn K cd_cU "Upright.__init__" = true) (k_cU : PySem.W.keepIn K (.ref f_cU) = true)
    {cL : Addr} (aC_cL : PySem.W.nsIn K mainGlobals "Level" = some (some (.ref cL))) (ic_cL : icB K cL = true)
    {f_cL : Addr} {od_cL an_cL : Option Addr} {sl_cL : Array (Option Value)} {oc_cL kV_cL dc_cL pm_cL cd_cL ct_cL : Value} (a_cLcL : PySem.W.findIn K (.ref cL) "__init__" = some (some (.ref f_cL))) (i_cL : PySem.W.isFn K (.ref f_cL) = true) (l_cL : K.lookup f_cL = some ⟨oc_cL, od_cL, .func (PySem.W.fnOf "__init__" "Level.__init__" (defArgs s_Level_init) (defBody s_Level_init) (defScope s_Level_init) .none kV_cL dc_cL pm_cL an_cL cd_cL ct_cL), sl_cL⟩) (cc_cL : PySem.W.codeIn K cd_cL "Level.__init__" = true) (k_cL : PySem.W.keepIn K (.ref f_cL) = true)
    (kit : kitB K cT cW cU cL = true)
    {cG : Addr} (aG : PySem.W.nsIn K mainGlobals "GlassError" = some (some (.ref cG))) (eG : PySem.W.excIn K cG vErr "ValueError.__new__" = true)
    {cN : Addr} (aC_cN : PySem.W.nsIn K mainGlobals "NoTree" = some (some (.ref cN))) (kC_cN : PySem.W.keepIn K (.ref cN) = true) (nC_cN : PySem.W.findIn K (.ref cN) "place" = some none)
    {f_cN : Addr} {od_cN an_cN : Option Addr} {sl_cN : Array (Option Value)} {oc_cN kV_cN dc_cN pm_cN cd_cN ct_cN : Value} (a_cNcN : PySem.W.findIn K (.ref cN) "__init__" = some (some (.ref f_cN))) (i_cN : PySem.W.isFn K (.ref f_cN) = true) (l_cN : K.lookup f_cN = some ⟨oc_cN, od_cN, .func (PySem.W.fnOf "__init__" "NoTree.__init__" (defArgs s_NoTree_init) (defBody s_NoTree_init) (defScope s_NoTree_init) .none kV_cN dc_cN pm_cN an_cN cd_cN ct_cN), sl_cN⟩) (cc_cN : PySem.W.codeIn K cd_cN "NoTree.__init__" = true) (k_cN : PySem.W.keepIn K (.ref f_cN) = true)
    (ei_cN : excInI K cN f_cN = true) (xc_cN : xclsB K cN = true) (xm_cN : PySem.W.mroIn K cN (.ref cG) = some true)
    {cS : Addr} (aC_cS : PySem.W.nsIn K mainGlobals "NoSide" = some (some (.ref cS))) {cC : Addr} (aC_cC : PySem.W.nsIn K mainGlobals "NoCut" = some (some (.ref cC)))
    (kit4 : kit4B K cN cS cC = true)
    {f0 : Addr} {od0 an0 : Option Addr} {sl0 : Array (Option Value)} {oc0 kV0 dc0 pm0 cd0 ct0 : Value} (a0 : PySem.W.nsIn K mainGlobals "cut_from" = some (some (.ref f0))) (l0 : K.lookup f0 = some ⟨oc0, od0, .func (PySem.W.fnOf "cut_from" "cut_from" (defArgs s_cut_from) (defBody s_cut_from) (defScope s_cut_from) .none kV0 dc0 pm0 an0 cd0 ct0), sl0⟩) (cc0 : PySem.W.codeIn K cd0 "cut_from" = true) (k0 : PySem.W.keepIn K (.ref f0) = true)
    {f1 : Addr} {od1 an1 : Option Addr} {sl1 : Array (Option Value)} {oc1 kV1 dc1 pm1 cd1 ct1 : Value} (a1 : PySem.W.nsIn K mainGlobals "tree_from" = some (some (.ref f1))) (l1 : K.lookup f1 = some ⟨oc1, od1, .func (PySem.W.fnOf "tree_from" "tree_from" (defArgs s_tree_from) (defBody s_tree_from) (defScope s_tree_from) .none kV1 dc1 pm1 an1 cd1 ct1), sl1⟩) (cc1 : PySem.W.codeIn K cd1 "tree_from" = true) (k1 : PySem.W.keepIn K (.ref f1) = true)
    {f2 : Addr} {od2 an2 : Option Addr} {sl2 : Array (Option Value)} {oc2 kV2 dc2 pm2 cd2 ct2 : Value} (a2 : PySem.W.nsIn K mainGlobals "number_in" = some (some (.ref f2))) (l2 : K.lookup f2 = some ⟨oc2, od2, .func (PySem.W.fnOf "number_in" "number_in" (defArgs s_number_in) (defBody s_number_in) (defScope s_number_in) .none kV2 dc2 pm2 an2 cd2 ct2), sl2⟩) (cc2 : PySem.W.codeIn K cd2 "number_in" = true) (k2 : PySem.W.keepIn K (.ref f2) = true)
    {f3 : Addr} {od3 an3 : Option Addr} {sl3 : Array (Option Value)} {oc3 kV3 dc3 pm3 cd3 ct3 : Value} (a3 : PySem.W.nsIn K mainGlobals "entry_in" = some (some (.ref f3))) (l3 : K.lookup f3 = some ⟨oc3, od3, .func (PySem.W.fnOf "entry_in" "entry_in" (defArgs s_entry_in) (defBody s_entry_in) (defScope s_entry_in) .none kV3 dc3 pm3 an3 cd3 ct3), sl3⟩) (cc3 : PySem.W.codeIn K cd3 "entry_in" = true) (k3 : PySem.W.keepIn K (.ref f3) = true)
    {f4 : Addr} {od4 an4 : Option Addr} {sl4 : Array (Option Value)} {oc4 kV4 dc4 pm4 cd4 ct4 : Value} (a4 : PySem.W.nsIn K mainGlobals "entries_in" = some (some (.ref f4))) (l4 : K.lookup f4 = some ⟨oc4, od4, .func (PySem.W.fnOf "entries_in" "entries_in" (defArgs s_entries_in) (defBody s_entries_in) (defScope s_entries_in) .none kV4 dc4 pm4 an4 cd4 ct4), sl4⟩) (cc4 : PySem.W.codeIn K cd4 "entries_in" = true) (k4 : PySem.W.keepIn K (.ref f4) = true)
    {f5 : Addr} {od5 an5 : Option Addr} {sl5 : Array (Option Value)} {oc5 kV5 dc5 pm5 cd5 ct5 : Value} (a5 : PySem.W.nsIn K mainGlobals "read_tree" = some (some (.ref f5))) (l5 : K.lookup f5 = some ⟨oc5, od5, .func (PySem.W.fnOf "read_tree" "read_tree" (defArgs s_read_tree) (defBody s_read_tree) (defScope s_read_tree) .none kV5 dc5 pm5 an5 cd5 ct5), sl5⟩) (cc5 : PySem.W.codeIn K cd5 "read_tree" = true) (k5 : PySem.W.keepIn K (.ref f5) = true)
    {f6 : Addr} {od6 an6 : Option Addr} {sl6 : Array (Option Value)} {oc6 kV6 dc6 pm6 cd6 ct6 : Value} (a6 : PySem.W.nsIn K mainGlobals "_law_at" = some (some (.ref f6))) (l6 : K.lookup f6 = some ⟨oc6, od6, .func (PySem.W.fnOf "_law_at" "_law_at" (defArgs s__law_at) (defBody s__law_at) (defScope s__law_at) .none kV6 dc6 pm6 an6 cd6 ct6), sl6⟩) (cc6 : PySem.W.codeIn K cd6 "_law_at" = true) (k6 : PySem.W.keepIn K (.ref f6) = true)
    {f7 : Addr} {od7 an7 : Option Addr} {sl7 : Array (Option Value)} {oc7 kV7 dc7 pm7 cd7 ct7 : Value} (a7 : PySem.W.nsIn K mainGlobals "_law_more" = some (some (.ref f7))) (l7 : K.lookup f7 = some ⟨oc7, od7, .func (PySem.W.fnOf "_law_more" "_law_more" (defArgs s__law_more) (defBody s__law_more) (defScope s__law_more) .none kV7 dc7 pm7 an7 cd7 ct7), sl7⟩) (cc7 : PySem.W.codeIn K cd7 "_law_more" = true) (k7 : PySem.W.keepIn K (.ref f7) = true)
    {f8 : Addr} {od8 an8 : Option Addr} {sl8 : Array (Option Value)} {oc8 kV8 dc8 pm8 cd8 ct8 : Value} (a8 : PySem.W.nsIn K mainGlobals "_law_knead" = some (some (.ref f8))) (l8 : K.lookup f8 = some ⟨oc8, od8, .func (PySem.W.fnOf "_law_knead" "_law_knead" (defArgs s__law_knead) (defBody s__law_knead) (defScope s__law_knead) .none kV8 dc8 pm8 an8 cd8 ct8), sl8⟩) (cc8 : PySem.W.codeIn K cd8 "_law_knead" = true) (k8 : PySem.W.keepIn K (.ref f8) = true)
    {f9 : Addr} {od9 an9 : Option Addr} {sl9 : Array (Option Value)} {oc9 kV9 dc9 pm9 cd9 ct9 : Value} (a9 : PySem.W.nsIn K mainGlobals "_law_word" = some (some (.ref f9))) (l9 : K.lookup f9 = some ⟨oc9, od9, .func (PySem.W.fnOf "_law_word" "_law_word" (defArgs s__law_word) (defBody s__law_word) (defScope s__law_word) .none kV9 dc9 pm9 an9 cd9 ct9), sl9⟩) (cc9 : PySem.W.codeIn K cd9 "_law_word" = true) (k9 : PySem.W.keepIn K (.ref f9) = true)
    {f10 : Addr} {od10 an10 : Option Addr} {sl10 : Array (Option Value)} {oc10 kV10 dc10 pm10 cd10 ct10 : Value} (a10 : PySem.W.nsIn K mainGlobals "_law_figures" = some (some (.ref f10))) (l10 : K.lookup f10 = some ⟨oc10, od10, .func (PySem.W.fnOf "_law_figures" "_law_figures" (defArgs s__law_figures) (defBody s__law_figures) (defScope s__law_figures) .none kV10 dc10 pm10 an10 cd10 ct10), sl10⟩) (cc10 : PySem.W.codeIn K cd10 "_law_figures" = true) (k10 : PySem.W.keepIn K (.ref f10) = true)
    {f11 : Addr} {od11 an11 : Option Addr} {sl11 : Array (Option Value)} {oc11 kV11 dc11 pm11 cd11 ct11 : Value} (a11 : PySem.W.nsIn K mainGlobals "_law_kind" = some (some (.ref f11))) (l11 : K.lookup f11 = some ⟨oc11, od11, .func (PySem.W.fnOf "_law_kind" "_law_kind" (defArgs s__law_kind) (defBody s__law_kind) (defScope s__law_kind) .none kV11 dc11 pm11 an11 cd11 ct11), sl11⟩) (cc11 : PySem.W.codeIn K cd11 "_law_kind" = true) (k11 : PySem.W.keepIn K (.ref f11) = true)
    {f12 : Addr} {od12 an12 : Option Addr} {sl12 : Array (Option Value)} {oc12 kV12 dc12 pm12 cd12 ct12 : Value} (a12 : PySem.W.nsIn K mainGlobals "_law_place" = some (some (.ref f12))) (l12 : K.lookup f12 = some ⟨oc12, od12, .func (PySem.W.fnOf "_law_place" "_law_place" (defArgs s__law_place) (defBody s__law_place) (defScope s__law_place) .none kV12 dc12 pm12 an12 cd12 ct12), sl12⟩) (cc12 : PySem.W.codeIn K cd12 "_law_place" = true) (k12 : PySem.W.keepIn K (.ref f12) = true)
    {f13 : Addr} {od13 an13 : Option Addr} {sl13 : Array (Option Value)} {oc13 kV13 dc13 pm13 cd13 ct13 : Value} (a13 : PySem.W.nsIn K mainGlobals "_law_read" = some (some (.ref f13))) (l13 : K.lookup f13 = some ⟨oc13, od13, .func (PySem.W.fnOf "_law_read" "_law_read" (defArgs s__law_read) (defBody s__law_read) (defScope s__law_read) .none kV13 dc13 pm13 an13 cd13 ct13), sl13⟩) (cc13 : PySem.W.codeIn K cd13 "_law_read" = true) (k13 : PySem.W.keepIn K (.ref f13) = true)
    {f14 : Addr} {od14 an14 : Option Addr} {sl14 : Array (Option Value)} {oc14 kV14 dc14 pm14 cd14 ct14 : Value} (a14 : PySem.W.nsIn K mainGlobals "_law_whole" = some (some (.ref f14))) (l14 : K.lookup f14 = some ⟨oc14, od14, .func (PySem.W.fnOf "_law_whole" "_law_whole" (defArgs s__law_whole) (defBody s__law_whole) (defScope s__law_whole) .none kV14 dc14 pm14 an14 cd14 ct14), sl14⟩) (cc14 : PySem.W.codeIn K cd14 "_law_whole" = true) (k14 : PySem.W.keepIn K (.ref f14) = true)
    {f15 : Addr} {od15 an15 : Option Addr} {sl15 : Array (Option Value)} {oc15 kV15 dc15 pm15 cd15 ct15 : Value} (a15 : PySem.W.nsIn K mainGlobals "_law_like" = some (some (.ref f15))) (l15 : K.lookup f15 = some ⟨oc15, od15, .func (PySem.W.fnOf "_law_like" "_law_like" (defArgs s__law_like) (defBody s__law_like) (defScope s__law_like) .none kV15 dc15 pm15 an15 cd15 ct15), sl15⟩) (cc15 : PySem.W.codeIn K cd15 "_law_like" = true) (k15 : PySem.W.keepIn K (.ref f15) = true)
    {f16 : Addr} {od16 an16 : Option Addr} {sl16 : Array (Option Value)} {oc16 kV16 dc16 pm16 cd16 ct16 : Value} (a16 : PySem.W.nsIn K mainGlobals "_law_refused" = some (some (.ref f16))) (l16 : K.lookup f16 = some ⟨oc16, od16, .func (PySem.W.fnOf "_law_refused" "_law_refused" (defArgs s__law_refused) (defBody s__law_refused) (defScope s__law_refused) .none kV16 dc16 pm16 an16 cd16 ct16), sl16⟩) (cc16 : PySem.W.codeIn K cd16 "_law_refused" = true) (k16 : PySem.W.keepIn K (.ref f16) = true)
    {f17 : Addr} {od17 an17 : Option Addr} {sl17 : Array (Option Value)} {oc17 kV17 dc17 pm17 cd17 ct17 : Value} (a17 : PySem.W.nsIn K mainGlobals "_law_asked" = some (some (.ref f17))) (l17 : K.lookup f17 = some ⟨oc17, od17, .func (PySem.W.fnOf "_law_asked" "_law_asked" (defArgs s__law_asked) (defBody s__law_asked) (defScope s__law_asked) .none kV17 dc17 pm17 an17 cd17 ct17), sl17⟩) (cc17 : PySem.W.codeIn K cd17 "_law_asked" = true) (k17 : PySem.W.keepIn K (.ref f17) = true)
    {f18 : Addr} {od18 an18 : Option Addr} {sl18 : Array (Option Value)} {oc18 kV18 dc18 pm18 cd18 ct18 : Value} (a18 : PySem.W.nsIn K mainGlobals "_law_one_odd" = some (some (.ref f18))) (l18 : K.lookup f18 = some ⟨oc18, od18, .func (PySem.W.fnOf "_law_one_odd" "_law_one_odd" (defArgs s__law_one_odd) (defBody s__law_one_odd) (defScope s__law_one_odd) .none kV18 dc18 pm18 an18 cd18 ct18), sl18⟩) (cc18 : PySem.W.codeIn K cd18 "_law_one_odd" = true) (k18 : PySem.W.keepIn K (.ref f18) = true)
    {f19 : Addr} {od19 an19 : Option Addr} {sl19 : Array (Option Value)} {oc19 kV19 dc19 pm19 cd19 ct19 : Value} (a19 : PySem.W.nsIn K mainGlobals "law" = some (some (.ref f19))) (l19 : K.lookup f19 = some ⟨oc19, od19, .func (PySem.W.fnOf "law" "law" (defArgs s_law) (defBody s_law) (defScope s_law) .none kV19 dc19 pm19 an19 cd19 ct19), sl19⟩) (cc19 : PySem.W.codeIn K cd19 "law" = true) (k19 : PySem.W.keepIn K (.ref f19) = true)
    (z0 : PySem.W.nsIn K mainGlobals "isinstance" = some none)
    (z1 : PySem.W.nsIn K mainGlobals "int" = some none)
    (z2 : PySem.W.nsIn K mainGlobals "bool" = some none)
    (z3 : PySem.W.nsIn K mainGlobals "len" = some none)
    (z4 : PySem.W.nsIn K mainGlobals "abs" = some none)
    (z5 : PySem.W.nsIn K mainGlobals "range" = some none)
    (z6 : PySem.W.nsIn K mainGlobals "str" = some none)
    (z7 : PySem.W.nsIn K mainGlobals "all" = some none)
    (z8 : PySem.W.nsIn K mainGlobals "enumerate" = some none)
    (z9 : PySem.W.nsIn K mainGlobals "max" = some none)
    (z10 : PySem.W.nsIn K mainGlobals "sum" = some none)
    (z11 : PySem.W.nsIn K mainGlobals "ValueError" = some none)
    (z12 : PySem.W.nsIn K mainGlobals "reversed" = some none)
    {tk0 : Tok} (g0 : PySem.W.nsIn K mainGlobals "WHOLE" = some (some (.str "whole" tk0)))
    {tk1 : Tok} (g1 : PySem.W.nsIn K mainGlobals "UPRIGHT" = some (some (.str "upright" tk1)))
    {tk2 : Tok} (g2 : PySem.W.nsIn K mainGlobals "LEVEL" = some (some (.str "level" tk2)))
    {tk3 : Tok} (g3 : PySem.W.nsIn K mainGlobals "FIGURES" = some (some (.str "0123456789" tk3)))
    {tk4 : Tok} (g4 : PySem.W.nsIn K mainGlobals "MARK_FIGURES" = some (some (.int 3 tk4)))
    {tk5 : Tok} (g5 : PySem.W.nsIn K mainGlobals "MOST_WORDS" = some (some (.int 103 tk5)))
    {tk6 : Tok} (g6 : PySem.W.nsIn K mainGlobals "LONGEST_SIDE" = some (some (.int 12 tk6)))
    : ∃ fd : FuncData, (∀ (s : Shared) (v : Value), BindsTo s fd ⟨[v], []⟩ [("_law_script", v)]) ∧ ∀ base : Heap, K.In base → base.Ns mainGlobals mg → FnOk l.prog w K mg base CX0 65 fa fd ["_law_script"] (sp_law K) := by
  have e := hfa.symm.trans (PySem.W.mg_of X G a19)
  cases e
  have T : Txt mg (tk0, tk1, tk2, tk3, tk4, tk5, tk6) := ⟨PySem.W.mg_none_of X G z0, PySem.W.mg_none_of X G z1, PySem.W.mg_none_of X G z2, PySem.W.mg_none_of X G z3, PySem.W.mg_none_of X G z4, PySem.W.mg_none_of X G z5, PySem.W.mg_none_of X G z6, PySem.W.mg_none_of X G z7, PySem.W.mg_none_of X G z8, PySem.W.mg_none_of X G z9, PySem.W.mg_none_of X G z10, PySem.W.mg_none_of X G z11, PySem.W.mg_none_of X G z12, PySem.W.mg_of X G g0, PySem.W.mg_of X G g1, PySem.W.mg_of X G g2, PySem.W.mg_of X G g3, PySem.W.mg_of X G g4, PySem.W.mg_of X G g5, PySem.W.mg_of X G g6⟩
  obtain ⟨I_cW, mk_cW, kc_cW⟩ := icB_of ic_cW
  obtain ⟨I_cU, mk_cU, kc_cU⟩ := icB_of ic_cU
  obtain ⟨I_cL, mk_cL, kc_cL⟩ := icB_of ic_cL
  have R : RT mg K cT cW cU cL := rt_of kit I_cW I_cU I_cL (PySem.W.mg_of X G aT) (PySem.W.mg_of X G aC_cW) (PySem.W.mg_of X G aC_cU) (PySem.W.mg_of X G aC_cL)
  obtain ⟨q1, q2, q3, q4⟩ := kit4_of kit4
  have RG0 : RG mg K cG cS cC cN := ⟨PySem.W.mg_of X G aG, PySem.W.mg_of X G aC_cS, PySem.W.mg_of X G aC_cC, PySem.W.mg_of X G aC_cN, eG, xm_cN, XCls.of xc_cN, nC_cN, q1, q2, q3, q4⟩
  have F_cW : FunD K "__init__" "Whole.__init__" s_Whole_init f_cW _ := ⟨⟨_, _, _, _, _, _, _, _, _, _, _, tn_cW, rfl, l_cW, cc_cW, lT_cW, by rw [eT_cW]⟩, k_cW⟩
  have b_cW := F_cW.binds (ps := ["self", "mark"]) (ds := []) fun _ _ _ _ _ _ _ us hl => by obtain ⟨u0, u1, rfl⟩ := len2 ((List.append_nil us) ▸ hl); exact ⟨_, rfl, rfl⟩
  have F_cU := fun_mk (st := s_Upright_init) l_cU cc_cU k_cU
  have b_cU := F_cU.binds (ps := ["self", "at", "first", "other"]) fun _ _ _ _ _ _ us hl => by obtain ⟨u0, u1, u2, u3, rfl⟩ := len4 hl; rfl
  have F_cL := fun_mk (st := s_Level_init) l_cL cc_cL k_cL
  have b_cL := F_cL.binds (ps := ["self", "at", "first", "other"]) fun _ _ _ _ _ _ us hl => by obtain ⟨u0, u1, u2, u3, rfl⟩ := len4 hl; rfl
  have F_cN := fun_mk (st := s_NoTree_init) l_cN cc_cN k_cN
  have b_cN := F_cN.binds (ps := ["self", "place"]) fun _ _ _ _ _ _ us hl => by obtain ⟨u0, u1, rfl⟩ := len2 hl; rfl
  have F0 := fun_mk (st := s_cut_from) l0 cc0 k0
  have b0 := F0.binds (ps := ["word", "at", "first", "other"]) fun _ _ _ _ _ _ us hl => by obtain ⟨u0, u1, u2, u3, rfl⟩ := len4 hl; rfl
  have F1 := fun_mk (st := s_tree_from) l1 cc1 k1
  have b1 := F1.binds (ps := ["entries"]) fun _ _ _ _ _ _ us hl => by obtain ⟨u0, rfl⟩ := len1 hl; rfl
  have F2 := fun_mk (st := s_number_in) l2 cc2 k2
  have b2 := F2.binds (ps := ["text", "most"]) fun _ _ _ _ _ _ us hl => by obtain ⟨u0, u1, rfl⟩ := len2 hl; rfl
  have F3 := fun_mk (st := s_entry_in) l3 cc3 k3
  have b3 := F3.binds (ps := ["word"]) fun _ _ _ _ _ _ us hl => by obtain ⟨u0, rfl⟩ := len1 hl; rfl
  have F4 := fun_mk (st := s_entries_in) l4 cc4 k4
  have b4 := F4.binds (ps := ["words"]) fun _ _ _ _ _ _ us hl => by obtain ⟨u0, rfl⟩ := len1 hl; rfl
  have F5 := fun_mk (st := s_read_tree) l5 cc5 k5
  have b5 := F5.binds (ps := ["text"]) fun _ _ _ _ _ _ us hl => by obtain ⟨u0, rfl⟩ := len1 hl; rfl
  have F6 := fun_mk (st := s__law_at) l6 cc6 k6
  have b6 := F6.binds (ps := ["_law_script", "_law_k"]) fun _ _ _ _ _ _ us hl => by obtain ⟨u0, u1, rfl⟩ := len2 hl; rfl
  have F7 := fun_mk (st := s__law_more) l7 cc7 k7
  have b7 := F7.binds (ps := ["_law_script", "_law_at_here", "_law_many"]) fun _ _ _ _ _ _ us hl => by obtain ⟨u0, u1, u2, rfl⟩ := len3 hl; rfl
  have F8 := fun_mk (st := s__law_knead) l8 cc8 k8
  have b8 := F8.binds (ps := ["_law_number", "_law_by"]) fun _ _ _ _ _ _ us hl => by obtain ⟨u0, u1, rfl⟩ := len2 hl; rfl
  have F9 := fun_mk (st := s__law_word) l9 cc9 k9
  have b9 := F9.binds (ps := ["_law_number"]) fun _ _ _ _ _ _ us hl => by obtain ⟨u0, rfl⟩ := len1 hl; rfl
  have F10 := fun_mk (st := s__law_figures) l10 cc10 k10
  have b10 := F10.binds (ps := ["_law_word_here", "_law_low", "_law_high"]) fun _ _ _ _ _ _ us hl => by obtain ⟨u0, u1, u2, rfl⟩ := len3 hl; rfl
  have F11 := fun_mk (st := s__law_kind) l11 cc11 k11
  have b11 := F11.binds (ps := ["_law_word_here"]) fun _ _ _ _ _ _ us hl => by obtain ⟨u0, rfl⟩ := len1 hl; rfl
  have F12 := fun_mk (st := s__law_place) l12 cc12 k12
  have b12 := F12.binds (ps := ["_law_words"]) fun _ _ _ _ _ _ us hl => by obtain ⟨u0, rfl⟩ := len1 hl; rfl
  have F13 := fun_mk (st := s__law_read) l13 cc13 k13
  have b13 := F13.binds (ps := ["_law_words", "_law_at_here"]) fun _ _ _ _ _ _ us hl => by obtain ⟨u0, u1, rfl⟩ := len2 hl; rfl
  have F14 := fun_mk (st := s__law_whole) l14 cc14 k14
  have b14 := F14.binds (ps := ["_law_found", "_law_due"]) fun _ _ _ _ _ _ us hl => by obtain ⟨u0, u1, rfl⟩ := len2 hl; rfl
  have F15 := fun_mk (st := s__law_like) l15 cc15 k15
  have b15 := F15.binds (ps := ["_law_tree", "_law_told"]) fun _ _ _ _ _ _ us hl => by obtain ⟨u0, u1, rfl⟩ := len2 hl; rfl
  have F16 := fun_mk (st := s__law_refused) l16 cc16 k16
  have b16 := F16.binds (ps := ["_law_text"]) fun _ _ _ _ _ _ us hl => by obtain ⟨u0, rfl⟩ := len1 hl; rfl
  have F17 := fun_mk (st := s__law_asked) l17 cc17 k17
  have b17 := F17.binds (ps := ["_law_text"]) fun _ _ _ _ _ _ us hl => by obtain ⟨u0, rfl⟩ := len1 hl; rfl
  have F18 := fun_mk (st := s__law_one_odd) l18 cc18 k18
  have b18 := F18.binds (ps := ["_law_words", "_law_number"]) fun _ _ _ _ _ _ us hl => by obtain ⟨u0, u1, rfl⟩ := len2 hl; rfl
  have F19 := fun_mk (st := s_law) l19 cc19 k19
  refine ⟨PySem.W.fnOf "law" "law" (defArgs s_law) (defBody s_law) (defScope s_law) .none kV19 dc19 pm19 an19 cd19 ct19, fun s v => .of_eq rfl, fun base _ _ => ?_⟩
  have K_Whole : MkOk l.prog w K mg base 1 "Whole" cW ["self", "mark"] (sp_iW cW) := ⟨_, _, ⟨mk_cW, a_cWcW, i_cW, kc_cW⟩, ok_Whole_init F_cW R, PySem.W.mg_of X G aC_cW, b_cW⟩
  have K_Upright : MkOk l.prog w K mg base 1 "Upright" cU ["self", "at", "first", "other"] (sp_iC cU) := ⟨_, _, ⟨mk_cU, a_cUcU, i_cU, kc_cU⟩, ok_Upright_init F_cU R, PySem.W.mg_of X G aC_cU, b_cU⟩
  have K_Level : MkOk l.prog w K mg base 1 "Level" cL ["self", "at", "first", "other"] (sp_iC cL) := ⟨_, _, ⟨mk_cL, a_cLcL, i_cL, kc_cL⟩, ok_Level_init F_cL R, PySem.W.mg_of X G aC_cL, b_cL⟩
  have X_NoTree : XMkOk l.prog w K mg base 1 "NoTree" cN ["self", "place"] ["place"] := ⟨by decide, f_cN, _, ⟨XCls.of xc_cN, ei_cN, kC_cN, i_cN⟩, ok_NoTree_init F_cN (XCls.of xc_cN) nC_cN, PySem.W.mg_of X G aC_cN, b_cN⟩
  have D_cut_from : DefOk l.prog w K mg base 3 "cut_from" ["word", "at", "first", "other"] (sp_cutfrom cW cU cL) := ⟨_, _, ok_cut_from F0 T K_Upright K_Level, PySem.W.mg_of X G a0, k0, b0⟩
  have D_tree_from : DefOk l.prog w K mg base 4 "tree_from" ["entries"] (sp_from K cW cU cL) := ⟨_, _, ok_tree_from F1 T R K_Whole D_cut_from, PySem.W.mg_of X G a1, k1, b1⟩
  have D_number_in : DefOk l.prog w K mg base 1 "number_in" ["text", "most"] sp_number := ⟨_, _, ok_number_in F2 T, PySem.W.mg_of X G a2, k2, b2⟩
  have D_entry_in : DefOk l.prog w K mg base 2 "entry_in" ["word"] sp_ein := ⟨_, _, ok_entry_in F3 T D_number_in, PySem.W.mg_of X G a3, k3, b3⟩
  have D_entries_in : DefOkX l.prog w K mg base 3 "entries_in" ["words"] (sp_esin cN) := ⟨_, _, ok_entries_in F4 T X_NoTree D_entry_in, PySem.W.mg_of X G a4, k4, b4⟩
  have D_read_tree : DefOkX l.prog w K mg base 5 "read_tree" ["text"] (sp_read1 cW cU cL cN) := ⟨_, _, ok_read_tree F5 T X_NoTree D_entries_in D_tree_from, PySem.W.mg_of X G a5, k5, b5⟩
  have D__law_at : DefOk l.prog w K mg base 1 "_law_at" ["_law_script", "_law_k"] (sp_at K) := ⟨_, _, ok_law_at F6 T, PySem.W.mg_of X G a6, k6, b6⟩
  have D__law_more : DefOk l.prog w K mg base 2 "_law_more" ["_law_script", "_law_at_here", "_law_many"] (sp_more K) := ⟨_, _, ok_law_more F7 T D__law_at, PySem.W.mg_of X G a7, k7, b7⟩
  have D__law_knead : DefOk l.prog w K mg base 1 "_law_knead" ["_law_number", "_law_by"] sp_knead := ⟨_, _, ok_law_knead F8 T, PySem.W.mg_of X G a8, k8, b8⟩
  have D__law_word : DefOk l.prog w K mg base 1 "_law_word" ["_law_number"] sp_word := ⟨_, _, ok_law_word F9 T, PySem.W.mg_of X G a9, k9, b9⟩
  have D__law_figures : DefOk l.prog w K mg base 1 "_law_figures" ["_law_word_here", "_law_low", "_law_high"] sp_fig := ⟨_, _, ok_law_figures F10 T, PySem.W.mg_of X G a10, k10, b10⟩
  have D__law_kind : DefOk l.prog w K mg base 2 "_law_kind" ["_law_word_here"] sp_kd := ⟨_, _, ok_law_kind F11 D__law_figures, PySem.W.mg_of X G a11, k11, b11⟩
  have D__law_place : DefOk l.prog w K mg base 3 "_law_place" ["_law_words"] sp_place := ⟨_, _, ok_law_place F12 T D__law_kind, PySem.W.mg_of X G a12, k12, b12⟩
  have A__law_read : ∀ n : Nat, DefOk l.prog w K mg base (n + 3) "_law_read" ["_law_words", "_law_at_here"] (sp_lread n) := fun n => by
    induction n with
    | zero => exact ⟨_, _, fn_none F13 S_law_read (fun _ _ _ _ => lread0), PySem.W.mg_of X G a13, k13, b13⟩
    | succ n ih => exact ⟨_, _, ok_law_read F13 T ih, PySem.W.mg_of X G a13, k13, b13⟩
  have D__law_read := A__law_read 60
  have D__law_whole : DefOk l.prog w K mg base 1 "_law_whole" ["_law_found", "_law_due"] sp_lwhole := ⟨_, _, ok_law_whole F14 T, PySem.W.mg_of X G a14, k14, b14⟩
  have A__law_like : ∀ n : Nat, DefOk l.prog w K mg base (n + 3) "_law_like" ["_law_tree", "_law_told"] (sp_like cW cU cL n) := fun n => by
    induction n with
    | zero => exact ⟨_, _, fn_none F15 S_law_like (fun _ _ _ _ => like0), PySem.W.mg_of X G a15, k15, b15⟩
    | succ n ih => exact ⟨_, _, ok_law_like F15 T R D__law_whole ih, PySem.W.mg_of X G a15, k15, b15⟩
  have D__law_like := A__law_like 60
  have D__law_refused : DefOk l.prog w K mg base 6 "_law_refused" ["_law_text"] (sp_refused cW cU cL) := ⟨_, _, ok_law_refused F16 T RG0 D_read_tree, PySem.W.mg_of X G a16, k16, b16⟩
  have D__law_asked : DefOk l.prog w K mg base 64 "_law_asked" ["_law_text"] sp_asked := ⟨_, _, ok_law_asked F17 D__law_place D__law_refused D__law_like D__law_read, PySem.W.mg_of X G a17, k17, b17⟩
  have D__law_one_odd : DefOk l.prog w K mg base 3 "_law_one_odd" ["_law_words", "_law_number"] sp_odd := ⟨_, _, ok_law_one_odd F18 T D__law_kind, PySem.W.mg_of X G a18, k18, b18⟩
  exact ok_law F19 T D__law_at D__law_more D__law_knead D__law_word D__law_kind D__law_one_odd D__law_asked D__law_refused
theorem walk {l : PySem.W.OpenLaw} {q : Program} {loose : List Str} {XP : (Str → Option Value) → Heap → Prop} {YP : World → Heap → Prop} {d : DefRec} {K : Params → PySem.W.Frag} (hn : l.most = some 63) (hdf : d.params.defaults = [])
    (hY : ∀ (w : World) (h : Heap), YP w h → (K w.params).In h)
    (F : ∀ (w : World) (mg : Str → Option Value) (fa : Addr) (h : Heap), (K w.params).In h → h.Ns mainGlobals mg → mg d.name = some (.ref fa) →
      ∃ fd : FuncData, (∀ (s : Shared) (u : Value), BindsTo s fd ⟨[u], []⟩ [("_law_script", u)]) ∧ ∀ base : Heap, (K w.params).In base → base.Ns mainGlobals mg → FnOk l.prog w (K w.params) mg base CX0 65 fa fd ["_law_script"] (sp_law (K w.params))) :
    PySem.W.WalkO q loose XP YP l.row.toRowW d [] (fun f vs => PySem.call f vs) :=
  L2.walk_of (n := 63) (k := 65) (x := "_law_script") (CX := fun _ => CX0) (sp := fun w => sp_law (K w.params)) hn (by decide) hdf ⟨rfl, by decide, by decide⟩ hY F (fun _ _ a ns hl _ hS => ⟨a, ns, rfl, hS, hl, fun _ => rfl⟩) fun _ _ _ _ _ z => z
end K14
namespace KH
open PySem PySem.W PyProof.Rows L2
def top (i : Nat) : Stmt := PySem.Challenge.pw_glazebench_k14_words_that_are_no_tree.main.body.getD i (.Pass ⟨0, 0, 0, 0⟩)
def kE (P : Params) (x : Str) (t : Tok) (v : Value) : DictEntry := ⟨PyData.keyHash P x, .str x t, v⟩
def k2 (P : Params) : Obj := ⟨.none, none, (.dict #[] 0), #[]⟩
def k3 (P : Params) : Obj := ⟨(.type "dict"), none, (.dict #[kE P "__name__" 165 (.str "law_glazebench_k14_words_that_are_no_tree" 503), kE P "__doc__" 166 .none, kE P "__package__" 167 .none, kE P "__loader__" 168 (.builtin "__main__.__loader__#opaque"), kE P "__spec__" 169 .none, kE P "__annotations__" 170 (.ref 6), kE P "__builtins__" 171 (.ref 4), kE P "__file__" 173 (.str "/claim/cut.py" 172), kE P "__cached__" 174 .none, kE P "_wall" 193 (.ref 21), kE P "GlassError" 213 (.ref 31), kE P "NoSide" 238 (.ref 51), kE P "NoCut" 263 (.ref 70), kE P "NoTree" 288 (.ref 89), kE P "LONGEST_SIDE" 290 (.int (12) 289), kE P "WHOLE" 294 (.str "whole" 293), kE P "UPRIGHT" 296 (.str "upright" 295), kE P "LEVEL" 298 (.str "level" 297), kE P "Tree" 356 (.ref 136), kE P "Whole" 381 (.ref 158), kE P "Upright" 410 (.ref 177), kE P "Level" 439 (.ref 196), kE P "cut_from" 449 (.ref 205), kE P "tree_from" 461 (.ref 212), kE P "FIGURES" 465 (.str "0123456789" 464), kE P "MARK_FIGURES" 467 (.int (3) 466), kE P "MOST_WORDS" 469 (.int (103) 468), kE P "number_in" 475 (.ref 217), kE P "entry_in" 483 (.ref 224), kE P "entries_in" 495 (.ref 231), kE P "read_tree" 502 (.ref 238), kE P "_law_at" 513 (.ref 245), kE P "_law_more" 519 (.ref 250), kE P "_law_knead" 530 (.ref 257), kE P "_law_word" 539 (.ref 264), kE P "_law_figures" 545 (.ref 269), kE P "_law_kind" 552 (.ref 276), kE P "_law_place" 562 (.ref 283), kE P "_law_read" 575 (.ref 290), kE P "_law_whole" 583 (.ref 297), kE P "_law_like" 591 (.ref 304), kE P "_law_refused" 601 (.ref 311), kE P "_law_asked" 612 (.ref 318), kE P "_law_one_odd" 624 (.ref 325), kE P "law" 630 (.ref 330)] 45), #[]⟩
def k15 (P : Params) : Obj := ⟨(.type "tuple"), none, (.seq #[] 0), #[]⟩
def k17 (P : Params) : Obj := ⟨(.type "tuple"), none, (.seq #[(.str "k" 190)] 0), #[]⟩
def k18 (P : Params) : Obj := ⟨(.type "tuple"), none, (.seq #[] 0), #[]⟩
def k20 (P : Params) : Obj := ⟨(.type "code"), none, (.fields #[(.str "_wall" 187), (.str "_wall" 188), (.str "/claim/cut.py" 189), (.int (1) 0), (.int (1) 0), (.int (0) 0), (.int (0) 0), (.int (3) 0), (.ref 15), (.bool true), (.int (181) 0), (.ref 16), .none, (.ref 17), (.ref 18), (.ref 19), (.int (191) 0), (.int (1) 0), (.str "/claim/cut.py" 192)]), #[]⟩
def k21 (P : Params) : Obj := ⟨(.type "function"), none, (.func (fnOf "_wall" "_wall" (defArgs (top 0)) (defBody (top 0)) (defScope (top 0)) .none .none .none (.str "__main__" 164) none (.ref 20) .none)), #[]⟩
def k22 (P : Params) : Obj := ⟨(.type "tuple"), none, (.seq #[(.type "ValueError")] 0), #[]⟩
def k29 (P : Params) : Obj := ⟨(.type "tuple"), none, (.seq #[] 0), #[]⟩
def k30 (P : Params) : Obj := ⟨(.type "dict"), none, (.dict #[kE P "__module__" 203 (.str "glazebench.errors" 194), kE P "__firstlineno__" 207 (.int (5) 206), kE P "__static_attributes__" 208 (.ref 29), kE P "__weakref__" 210 (.ref 32), kE P "__doc__" 211 .none] 3), #[]⟩
def k31 (P : Params) : Obj := ⟨(.type "type"), none, (.cls { name := "GlassError", bases := [(.type "ValueError")], mro := [(.ref 31), (.type "ValueError"), (.type "Exception"), (.type "BaseException"), (.type "object")], ns := 30, qualname := "GlassError", hasDict := true, slotNames := [], subclasses := [(.ref 51), (.ref 70), (.ref 89)], abstract := false, collection := none, hasDel := false }), #[some (.ref 22), none, some (.str "GlassError" 196), some (.str "GlassError" 204), some (.builtin "ValueError.__new__"), some (.bool true)]⟩
def k32 (P : Params) : Obj := ⟨(.type "getset_descriptor"), none, (.fields #[(.str "__weakref__" 209), (.ref 31), (.builtin "ExceptionGroup.__weakref__"), .none]), #[]⟩
def k35 (P : Params) : Obj := ⟨(.type "tuple"), none, (.seq #[(.ref 31)] 0), #[]⟩
def k42 (P : Params) : Obj := ⟨(.type "tuple"), none, (.seq #[] 0), #[]⟩
def k44 (P : Params) : Obj := ⟨(.type "tuple"), none, (.seq #[(.str "self" 229), (.str "side" 230)] 0), #[]⟩
def k45 (P : Params) : Obj := ⟨(.type "tuple"), none, (.seq #[] 0), #[]⟩
def k47 (P : Params) : Obj := ⟨(.type "code"), none, (.fields #[(.str "__init__" 226), (.str "NoSide.__init__" 227), (.str "/claim/cut.py" 228), (.int (9) 0), (.int (2) 0), (.int (0) 0), (.int (0) 0), (.int (3) 0), (.ref 42), (.bool true), (.int (181) 0), (.ref 43), .none, (.ref 44), (.ref 45), (.ref 46), (.int (231) 0), (.int (9) 0), (.str "/claim/cut.py" 232)]), #[]⟩
def k48 (P : Params) : Obj := ⟨(.type "function"), none, (.func (fnOf "__init__" "NoSide.__init__" (defArgs (inClass (top 3) 0)) (defBody (inClass (top 3) 0)) (defScope (inClass (top 3) 0)) .none .none .none (.str "glazebench.errors" 194) none (.ref 47) .none)), #[]⟩
def k49 (P : Params) : Obj := ⟨(.type "tuple"), none, (.seq #[(.str "side" 234)] 0), #[]⟩
def k50 (P : Params) : Obj := ⟨(.type "dict"), none, (.dict #[kE P "__module__" 221 (.str "glazebench.errors" 194), kE P "__firstlineno__" 225 (.int (7) 224), kE P "__init__" 233 (.ref 48), kE P "__static_attributes__" 235 (.ref 49), kE P "__doc__" 236 .none] 2), #[]⟩
def k51 (P : Params) : Obj := ⟨(.type "type"), none, (.cls { name := "NoSide", bases := [(.ref 31)], mro := [(.ref 51), (.ref 31), (.type "ValueError"), (.type "Exception"), (.type "BaseException"), (.type "object")], ns := 50, qualname := "NoSide", hasDict := true, slotNames := [], subclasses := [], abstract := false, collection := none, hasDel := false }), #[some (.ref 35), none, some (.str "NoSide" 214), some (.str "NoSide" 222), some (.builtin "ValueError.__new__"), some (.bool true)]⟩
def k54 (P : Params) : Obj := ⟨(.type "tuple"), none, (.seq #[(.ref 31)] 0), #[]⟩
def k61 (P : Params) : Obj := ⟨(.type "tuple"), none, (.seq #[] 0), #[]⟩
def k63 (P : Params) : Obj := ⟨(.type "tuple"), none, (.seq #[(.str "self" 254), (.str "at" 255)] 0), #[]⟩
def k64 (P : Params) : Obj := ⟨(.type "tuple"), none, (.seq #[] 0), #[]⟩
def k66 (P : Params) : Obj := ⟨(.type "code"), none, (.fields #[(.str "__init__" 251), (.str "NoCut.__init__" 252), (.str "/claim/cut.py" 253), (.int (13) 0), (.int (2) 0), (.int (0) 0), (.int (0) 0), (.int (3) 0), (.ref 61), (.bool true), (.int (181) 0), (.ref 62), .none, (.ref 63), (.ref 64), (.ref 65), (.int (256) 0), (.int (13) 0), (.str "/claim/cut.py" 257)]), #[]⟩
def k67 (P : Params) : Obj := ⟨(.type "function"), none, (.func (fnOf "__init__" "NoCut.__init__" (defArgs (inClass (top 4) 0)) (defBody (inClass (top 4) 0)) (defScope (inClass (top 4) 0)) .none .none .none (.str "glazebench.errors" 194) none (.ref 66) .none)), #[]⟩
def k68 (P : Params) : Obj := ⟨(.type "tuple"), none, (.seq #[(.str "at" 259)] 0), #[]⟩
def k69 (P : Params) : Obj := ⟨(.type "dict"), none, (.dict #[kE P "__module__" 246 (.str "glazebench.errors" 194), kE P "__firstlineno__" 250 (.int (11) 249), kE P "__init__" 258 (.ref 67), kE P "__static_attributes__" 260 (.ref 68), kE P "__doc__" 261 .none] 2), #[]⟩
def k70 (P : Params) : Obj := ⟨(.type "type"), none, (.cls { name := "NoCut", bases := [(.ref 31)], mro := [(.ref 70), (.ref 31), (.type "ValueError"), (.type "Exception"), (.type "BaseException"), (.type "object")], ns := 69, qualname := "NoCut", hasDict := true, slotNames := [], subclasses := [], abstract := false, collection := none, hasDel := false }), #[some (.ref 54), none, some (.str "NoCut" 239), some (.str "NoCut" 247), some (.builtin "ValueError.__new__"), some (.bool true)]⟩
def k73 (P : Params) : Obj := ⟨(.type "tuple"), none, (.seq #[(.ref 31)] 0), #[]⟩
def k80 (P : Params) : Obj := ⟨(.type "tuple"), none, (.seq #[] 0), #[]⟩
def k82 (P : Params) : Obj := ⟨(.type "tuple"), none, (.seq #[(.str "self" 279), (.str "place" 280)] 0), #[]⟩
def k83 (P : Params) : Obj := ⟨(.type "tuple"), none, (.seq #[] 0), #[]⟩
def k85 (P : Params) : Obj := ⟨(.type "code"), none, (.fields #[(.str "__init__" 276), (.str "NoTree.__init__" 277), (.str "/claim/cut.py" 278), (.int (17) 0), (.int (2) 0), (.int (0) 0), (.int (0) 0), (.int (3) 0), (.ref 80), (.bool true), (.int (181) 0), (.ref 81), .none, (.ref 82), (.ref 83), (.ref 84), (.int (281) 0), (.int (17) 0), (.str "/claim/cut.py" 282)]), #[]⟩
def k86 (P : Params) : Obj := ⟨(.type "function"), none, (.func (fnOf "__init__" "NoTree.__init__" (defArgs (inClass (top 5) 0)) (defBody (inClass (top 5) 0)) (defScope (inClass (top 5) 0)) .none .none .none (.str "glazebench.errors" 194) none (.ref 85) .none)), #[]⟩
def k87 (P : Params) : Obj := ⟨(.type "tuple"), none, (.seq #[(.str "place" 284)] 0), #[]⟩
def k88 (P : Params) : Obj := ⟨(.type "dict"), none, (.dict #[kE P "__module__" 271 (.str "glazebench.errors" 194), kE P "__firstlineno__" 275 (.int (15) 274), kE P "__init__" 283 (.ref 86), kE P "__static_attributes__" 285 (.ref 87), kE P "__doc__" 286 .none] 2), #[]⟩
def k89 (P : Params) : Obj := ⟨(.type "type"), none, (.cls { name := "NoTree", bases := [(.ref 31)], mro := [(.ref 89), (.ref 31), (.type "ValueError"), (.type "Exception"), (.type "BaseException"), (.type "object")], ns := 88, qualname := "NoTree", hasDict := true, slotNames := [], subclasses := [], abstract := false, collection := none, hasDel := false }), #[some (.ref 73), none, some (.str "NoTree" 264), some (.str "NoTree" 272), some (.builtin "ValueError.__new__"), some (.bool true)]⟩
def k99 (P : Params) : Obj := ⟨(.type "tuple"), none, (.seq #[] 0), #[]⟩
def k101 (P : Params) : Obj := ⟨(.type "tuple"), none, (.seq #[(.str "self" 314)] 0), #[]⟩
def k102 (P : Params) : Obj := ⟨(.type "tuple"), none, (.seq #[] 0), #[]⟩
def k104 (P : Params) : Obj := ⟨(.type "code"), none, (.fields #[(.str "leaves" 311), (.str "Tree.leaves" 312), (.str "/claim/cut.py" 313), (.int (26) 0), (.int (1) 0), (.int (0) 0), (.int (0) 0), (.int (3) 0), (.ref 99), (.bool true), (.int (181) 0), (.ref 100), .none, (.ref 101), (.ref 102), (.ref 103), (.int (315) 0), (.int (26) 0), (.str "/claim/cut.py" 316)]), #[]⟩
def k105 (P : Params) : Obj := ⟨(.type "function"), none, (.func (fnOf "leaves" "Tree.leaves" (defArgs (inClass (top 11) 0)) (defBody (inClass (top 11) 0)) (defScope (inClass (top 11) 0)) .none .none .none (.str "glazebench.cuts" 291) none (.ref 104) .none)), #[]⟩
def k106 (P : Params) : Obj := ⟨(.type "tuple"), none, (.seq #[] 0), #[]⟩
def k108 (P : Params) : Obj := ⟨(.type "tuple"), none, (.seq #[(.str "self" 321)] 0), #[]⟩
def k109 (P : Params) : Obj := ⟨(.type "tuple"), none, (.seq #[] 0), #[]⟩
def k111 (P : Params) : Obj := ⟨(.type "code"), none, (.fields #[(.str "depth" 318), (.str "Tree.depth" 319), (.str "/claim/cut.py" 320), (.int (29) 0), (.int (1) 0), (.int (0) 0), (.int (0) 0), (.int (3) 0), (.ref 106), (.bool true), (.int (181) 0), (.ref 107), .none, (.ref 108), (.ref 109), (.ref 110), (.int (322) 0), (.int (29) 0), (.str "/claim/cut.py" 323)]), #[]⟩
def k112 (P : Params) : Obj := ⟨(.type "function"), none, (.func (fnOf "depth" "Tree.depth" (defArgs (inClass (top 11) 1)) (defBody (inClass (top 11) 1)) (defScope (inClass (top 11) 1)) .none .none .none (.str "glazebench.cuts" 291) none (.ref 111) .none)), #[]⟩
def k113 (P : Params) : Obj := ⟨(.type "tuple"), none, (.seq #[] 0), #[]⟩
def k115 (P : Params) : Obj := ⟨(.type "tuple"), none, (.seq #[(.str "self" 328)] 0), #[]⟩
def k116 (P : Params) : Obj := ⟨(.type "tuple"), none, (.seq #[] 0), #[]⟩
def k118 (P : Params) : Obj := ⟨(.type "code"), none, (.fields #[(.str "turned" 325), (.str "Tree.turned" 326), (.str "/claim/cut.py" 327), (.int (32) 0), (.int (1) 0), (.int (0) 0), (.int (0) 0), (.int (3) 0), (.ref 113), (.bool true), (.int (181) 0), (.ref 114), .none, (.ref 115), (.ref 116), (.ref 117), (.int (329) 0), (.int (32) 0), (.str "/claim/cut.py" 330)]), #[]⟩
def k119 (P : Params) : Obj := ⟨(.type "function"), none, (.func (fnOf "turned" "Tree.turned" (defArgs (inClass (top 11) 2)) (defBody (inClass (top 11) 2)) (defScope (inClass (top 11) 2)) .none .none .none (.str "glazebench.cuts" 291) none (.ref 118) .none)), #[]⟩
def k120 (P : Params) : Obj := ⟨(.type "tuple"), none, (.seq #[] 0), #[]⟩
def k122 (P : Params) : Obj := ⟨(.type "tuple"), none, (.seq #[(.str "self" 335), (.str "width" 336), (.str "height" 337)] 0), #[]⟩
def k123 (P : Params) : Obj := ⟨(.type "tuple"), none, (.seq #[] 0), #[]⟩
def k125 (P : Params) : Obj := ⟨(.type "code"), none, (.fields #[(.str "fits" 332), (.str "Tree.fits" 333), (.str "/claim/cut.py" 334), (.int (35) 0), (.int (3) 0), (.int (0) 0), (.int (0) 0), (.int (3) 0), (.ref 120), (.bool true), (.int (181) 0), (.ref 121), .none, (.ref 122), (.ref 123), (.ref 124), (.int (338) 0), (.int (35) 0), (.str "/claim/cut.py" 339)]), #[]⟩
def k126 (P : Params) : Obj := ⟨(.type "function"), none, (.func (fnOf "fits" "Tree.fits" (defArgs (inClass (top 11) 3)) (defBody (inClass (top 11) 3)) (defScope (inClass (top 11) 3)) .none .none .none (.str "glazebench.cuts" 291) none (.ref 125) .none)), #[]⟩
def k127 (P : Params) : Obj := ⟨(.type "tuple"), none, (.seq #[] 0), #[]⟩
def k129 (P : Params) : Obj := ⟨(.type "tuple"), none, (.seq #[(.str "self" 344), (.str "other" 345)] 0), #[]⟩
def k130 (P : Params) : Obj := ⟨(.type "tuple"), none, (.seq #[] 0), #[]⟩
def k132 (P : Params) : Obj := ⟨(.type "code"), none, (.fields #[(.str "same" 341), (.str "Tree.same" 342), (.str "/claim/cut.py" 343), (.int (38) 0), (.int (2) 0), (.int (0) 0), (.int (0) 0), (.int (3) 0), (.ref 127), (.bool true), (.int (181) 0), (.ref 128), .none, (.ref 129), (.ref 130), (.ref 131), (.int (346) 0), (.int (38) 0), (.str "/claim/cut.py" 347)]), #[]⟩
def k133 (P : Params) : Obj := ⟨(.type "function"), none, (.func (fnOf "same" "Tree.same" (defArgs (inClass (top 11) 4)) (defBody (inClass (top 11) 4)) (defScope (inClass (top 11) 4)) .none .none .none (.str "glazebench.cuts" 291) none (.ref 132) .none)), #[]⟩
def k134 (P : Params) : Obj := ⟨(.type "tuple"), none, (.seq #[] 0), #[]⟩
def k135 (P : Params) : Obj := ⟨(.type "dict"), none, (.dict #[kE P "__module__" 306 (.str "glazebench.cuts" 291), kE P "__firstlineno__" 310 (.int (24) 309), kE P "leaves" 317 (.ref 105), kE P "depth" 324 (.ref 112), kE P "turned" 331 (.ref 119), kE P "fits" 340 (.ref 126), kE P "same" 348 (.ref 133), kE P "__static_attributes__" 349 (.ref 134), kE P "__dict__" 351 (.ref 137), kE P "__weakref__" 353 (.ref 138), kE P "__doc__" 354 .none] 4), #[]⟩
def k136 (P : Params) : Obj := ⟨(.type "type"), none, (.cls { name := "Tree", bases := [(.type "object")], mro := [(.ref 136), (.type "object")], ns := 135, qualname := "Tree", hasDict := true, slotNames := [], subclasses := [(.ref 158), (.ref 177), (.ref 196)], abstract := false, collection := none, hasDel := false }), #[none, none, some (.str "Tree" 299), some (.str "Tree" 307), some (.builtin "object.__new__"), some (.bool true)]⟩
def k137 (P : Params) : Obj := ⟨(.type "getset_descriptor"), none, (.fields #[(.str "__dict__" 350), (.ref 136), (.builtin "function.__dict__"), (.builtin "function.__dict__#set")]), #[]⟩
def k138 (P : Params) : Obj := ⟨(.type "getset_descriptor"), none, (.fields #[(.str "__weakref__" 352), (.ref 136), (.builtin "ExceptionGroup.__weakref__"), .none]), #[]⟩
def k141 (P : Params) : Obj := ⟨(.type "tuple"), none, (.seq #[(.ref 136)] 0), #[]⟩
def k148 (P : Params) : Obj := ⟨(.type "tuple"), none, (.seq #[.none] 0), #[]⟩
def k149 (P : Params) : Obj := ⟨(.type "tuple"), none, (.seq #[] 0), #[]⟩
def k151 (P : Params) : Obj := ⟨(.type "tuple"), none, (.seq #[(.str "self" 372), (.str "mark" 373)] 0), #[]⟩
def k152 (P : Params) : Obj := ⟨(.type "tuple"), none, (.seq #[] 0), #[]⟩
def k154 (P : Params) : Obj := ⟨(.type "code"), none, (.fields #[(.str "__init__" 369), (.str "Whole.__init__" 370), (.str "/claim/cut.py" 371), (.int (42) 0), (.int (2) 0), (.int (0) 0), (.int (0) 0), (.int (3) 0), (.ref 149), (.bool true), (.int (181) 0), (.ref 150), .none, (.ref 151), (.ref 152), (.ref 153), (.int (374) 0), (.int (42) 0), (.str "/claim/cut.py" 375)]), #[]⟩
def k155 (P : Params) : Obj := ⟨(.type "function"), none, (.func (fnOf "__init__" "Whole.__init__" (defArgs (inClass (top 12) 0)) (defBody (inClass (top 12) 0)) (defScope (inClass (top 12) 0)) (.ref 148) .none .none (.str "glazebench.cuts" 291) none (.ref 154) .none)), #[]⟩
def k156 (P : Params) : Obj := ⟨(.type "tuple"), none, (.seq #[(.str "mark" 377)] 0), #[]⟩
def k157 (P : Params) : Obj := ⟨(.type "dict"), none, (.dict #[kE P "__module__" 364 (.str "glazebench.cuts" 291), kE P "__firstlineno__" 368 (.int (40) 367), kE P "__init__" 376 (.ref 155), kE P "__static_attributes__" 378 (.ref 156), kE P "__doc__" 379 .none] 2), #[]⟩
def k158 (P : Params) : Obj := ⟨(.type "type"), none, (.cls { name := "Whole", bases := [(.ref 136)], mro := [(.ref 158), (.ref 136), (.type "object")], ns := 157, qualname := "Whole", hasDict := true, slotNames := [], subclasses := [], abstract := false, collection := none, hasDel := false }), #[some (.ref 141), none, some (.str "Whole" 357), some (.str "Whole" 365), some (.builtin "object.__new__"), some (.bool true)]⟩
def k161 (P : Params) : Obj := ⟨(.type "tuple"), none, (.seq #[(.ref 136)] 0), #[]⟩
def k168 (P : Params) : Obj := ⟨(.type "tuple"), none, (.seq #[] 0), #[]⟩
def k170 (P : Params) : Obj := ⟨(.type "tuple"), none, (.seq #[(.str "self" 397), (.str "at" 398), (.str "first" 399), (.str "other" 400)] 0), #[]⟩
def k171 (P : Params) : Obj := ⟨(.type "tuple"), none, (.seq #[] 0), #[]⟩
def k173 (P : Params) : Obj := ⟨(.type "code"), none, (.fields #[(.str "__init__" 394), (.str "Upright.__init__" 395), (.str "/claim/cut.py" 396), (.int (46) 0), (.int (4) 0), (.int (0) 0), (.int (0) 0), (.int (3) 0), (.ref 168), (.bool true), (.int (181) 0), (.ref 169), .none, (.ref 170), (.ref 171), (.ref 172), (.int (401) 0), (.int (46) 0), (.str "/claim/cut.py" 402)]), #[]⟩
def k174 (P : Params) : Obj := ⟨(.type "function"), none, (.func (fnOf "__init__" "Upright.__init__" (defArgs (inClass (top 13) 0)) (defBody (inClass (top 13) 0)) (defScope (inClass (top 13) 0)) .none .none .none (.str "glazebench.cuts" 291) none (.ref 173) .none)), #[]⟩
def k175 (P : Params) : Obj := ⟨(.type "tuple"), none, (.seq #[(.str "at" 404), (.str "first" 405), (.str "other" 406)] 0), #[]⟩
def k176 (P : Params) : Obj := ⟨(.type "dict"), none, (.dict #[kE P "__module__" 389 (.str "glazebench.cuts" 291), kE P "__firstlineno__" 393 (.int (44) 392), kE P "__init__" 403 (.ref 174), kE P "__static_attributes__" 407 (.ref 175), kE P "__doc__" 408 .none] 2), #[]⟩
def k177 (P : Params) : Obj := ⟨(.type "type"), none, (.cls { name := "Upright", bases := [(.ref 136)], mro := [(.ref 177), (.ref 136), (.type "object")], ns := 176, qualname := "Upright", hasDict := true, slotNames := [], subclasses := [], abstract := false, collection := none, hasDel := false }), #[some (.ref 161), none, some (.str "Upright" 382), some (.str "Upright" 390), some (.builtin "object.__new__"), some (.bool true)]⟩
def k180 (P : Params) : Obj := ⟨(.type "tuple"), none, (.seq #[(.ref 136)] 0), #[]⟩
def k187 (P : Params) : Obj := ⟨(.type "tuple"), none, (.seq #[] 0), #[]⟩
def k189 (P : Params) : Obj := ⟨(.type "tuple"), none, (.seq #[(.str "self" 426), (.str "at" 427), (.str "first" 428), (.str "other" 429)] 0), #[]⟩
def k190 (P : Params) : Obj := ⟨(.type "tuple"), none, (.seq #[] 0), #[]⟩
def k192 (P : Params) : Obj := ⟨(.type "code"), none, (.fields #[(.str "__init__" 423), (.str "Level.__init__" 424), (.str "/claim/cut.py" 425), (.int (52) 0), (.int (4) 0), (.int (0) 0), (.int (0) 0), (.int (3) 0), (.ref 187), (.bool true), (.int (181) 0), (.ref 188), .none, (.ref 189), (.ref 190), (.ref 191), (.int (430) 0), (.int (52) 0), (.str "/claim/cut.py" 431)]), #[]⟩
def k193 (P : Params) : Obj := ⟨(.type "function"), none, (.func (fnOf "__init__" "Level.__init__" (defArgs (inClass (top 14) 0)) (defBody (inClass (top 14) 0)) (defScope (inClass (top 14) 0)) .none .none .none (.str "glazebench.cuts" 291) none (.ref 192) .none)), #[]⟩
def k194 (P : Params) : Obj := ⟨(.type "tuple"), none, (.seq #[(.str "at" 433), (.str "first" 434), (.str "other" 435)] 0), #[]⟩
def k195 (P : Params) : Obj := ⟨(.type "dict"), none, (.dict #[kE P "__module__" 418 (.str "glazebench.cuts" 291), kE P "__firstlineno__" 422 (.int (50) 421), kE P "__init__" 432 (.ref 193), kE P "__static_attributes__" 436 (.ref 194), kE P "__doc__" 437 .none] 2), #[]⟩
def k196 (P : Params) : Obj := ⟨(.type "type"), none, (.cls { name := "Level", bases := [(.ref 136)], mro := [(.ref 196), (.ref 136), (.type "object")], ns := 195, qualname := "Level", hasDict := true, slotNames := [], subclasses := [], abstract := false, collection := none, hasDel := false }), #[some (.ref 180), none, some (.str "Level" 411), some (.str "Level" 419), some (.builtin "object.__new__"), some (.bool true)]⟩
def k199 (P : Params) : Obj := ⟨(.type "tuple"), none, (.seq #[] 0), #[]⟩
def k201 (P : Params) : Obj := ⟨(.type "tuple"), none, (.seq #[(.str "word" 443), (.str "at" 444), (.str "first" 445), (.str "other" 446)] 0), #[]⟩
def k202 (P : Params) : Obj := ⟨(.type "tuple"), none, (.seq #[] 0), #[]⟩
def k204 (P : Params) : Obj := ⟨(.type "code"), none, (.fields #[(.str "cut_from" 440), (.str "cut_from" 441), (.str "/claim/cut.py" 442), (.int (56) 0), (.int (4) 0), (.int (0) 0), (.int (0) 0), (.int (3) 0), (.ref 199), (.bool true), (.int (181) 0), (.ref 200), .none, (.ref 201), (.ref 202), (.ref 203), (.int (447) 0), (.int (56) 0), (.str "/claim/cut.py" 448)]), #[]⟩
def k205 (P : Params) : Obj := ⟨(.type "function"), none, (.func (fnOf "cut_from" "cut_from" (defArgs (top 15)) (defBody (top 15)) (defScope (top 15)) .none .none .none (.str "glazebench.cuts" 291) none (.ref 204) .none)), #[]⟩
def k206 (P : Params) : Obj := ⟨(.type "tuple"), none, (.seq #[] 0), #[]⟩
def k208 (P : Params) : Obj := ⟨(.type "tuple"), none, (.seq #[(.str "entries" 453), (.str "done" 454), (.str "word" 455), (.str "number" 456), (.str "first" 457), (.str "other" 458)] 0), #[]⟩
def k209 (P : Params) : Obj := ⟨(.type "tuple"), none, (.seq #[] 0), #[]⟩
def k211 (P : Params) : Obj := ⟨(.type "code"), none, (.fields #[(.str "tree_from" 450), (.str "tree_from" 451), (.str "/claim/cut.py" 452), (.int (60) 0), (.int (1) 0), (.int (0) 0), (.int (0) 0), (.int (3) 0), (.ref 206), (.bool true), (.int (181) 0), (.ref 207), .none, (.ref 208), (.ref 209), (.ref 210), (.int (459) 0), (.int (60) 0), (.str "/claim/cut.py" 460)]), #[]⟩
def k212 (P : Params) : Obj := ⟨(.type "function"), none, (.func (fnOf "tree_from" "tree_from" (defArgs (top 16)) (defBody (top 16)) (defScope (top 16)) .none .none .none (.str "glazebench.cuts" 291) none (.ref 211) .none)), #[]⟩
def k213 (P : Params) : Obj := ⟨(.type "tuple"), none, (.seq #[] 0), #[]⟩
def k216 (P : Params) : Obj := ⟨(.type "code"), none, (.fields #[(.str "number_in" 470), (.str "number_in" 471), (.str "/claim/cut.py" 472), (.int (74) 0), (.int (2) 0), (.int (0) 0), (.int (0) 0), (.int (3) 0), (.ref 213), (.bool true), (.int (181) 0), (.ref 214), .none, .none, .none, (.ref 215), (.int (473) 0), (.int (74) 0), (.str "/claim/cut.py" 474)]), #[]⟩
def k217 (P : Params) : Obj := ⟨(.type "function"), none, (.func (fnOf "number_in" "number_in" (defArgs (top 21)) (defBody (top 21)) (defScope (top 21)) .none .none .none (.str "glazebench.cuttexts" 462) none (.ref 216) .none)), #[]⟩
def k218 (P : Params) : Obj := ⟨(.type "tuple"), none, (.seq #[] 0), #[]⟩
def k220 (P : Params) : Obj := ⟨(.type "tuple"), none, (.seq #[(.str "word" 479), (.str "number" 480)] 0), #[]⟩
def k221 (P : Params) : Obj := ⟨(.type "tuple"), none, (.seq #[] 0), #[]⟩
def k223 (P : Params) : Obj := ⟨(.type "code"), none, (.fields #[(.str "entry_in" 476), (.str "entry_in" 477), (.str "/claim/cut.py" 478), (.int (80) 0), (.int (1) 0), (.int (0) 0), (.int (0) 0), (.int (3) 0), (.ref 218), (.bool true), (.int (181) 0), (.ref 219), .none, (.ref 220), (.ref 221), (.ref 222), (.int (481) 0), (.int (80) 0), (.str "/claim/cut.py" 482)]), #[]⟩
def k224 (P : Params) : Obj := ⟨(.type "function"), none, (.func (fnOf "entry_in" "entry_in" (defArgs (top 22)) (defBody (top 22)) (defScope (top 22)) .none .none .none (.str "glazebench.cuttexts" 462) none (.ref 223) .none)), #[]⟩
def k225 (P : Params) : Obj := ⟨(.type "tuple"), none, (.seq #[] 0), #[]⟩
def k227 (P : Params) : Obj := ⟨(.type "tuple"), none, (.seq #[(.str "words" 487), (.str "entries" 488), (.str "lacking" 489), (.str "place" 490), (.str "word" 491), (.str "entry" 492)] 0), #[]⟩
def k228 (P : Params) : Obj := ⟨(.type "tuple"), none, (.seq #[] 0), #[]⟩
def k230 (P : Params) : Obj := ⟨(.type "code"), none, (.fields #[(.str "entries_in" 484), (.str "entries_in" 485), (.str "/claim/cut.py" 486), (.int (91) 0), (.int (1) 0), (.int (0) 0), (.int (0) 0), (.int (3) 0), (.ref 225), (.bool true), (.int (181) 0), (.ref 226), .none, (.ref 227), (.ref 228), (.ref 229), (.int (493) 0), (.int (91) 0), (.str "/claim/cut.py" 494)]), #[]⟩
def k231 (P : Params) : Obj := ⟨(.type "function"), none, (.func (fnOf "entries_in" "entries_in" (defArgs (top 23)) (defBody (top 23)) (defScope (top 23)) .none .none .none (.str "glazebench.cuttexts" 462) none (.ref 230) .none)), #[]⟩
def k232 (P : Params) : Obj := ⟨(.type "tuple"), none, (.seq #[] 0), #[]⟩
def k234 (P : Params) : Obj := ⟨(.type "tuple"), none, (.seq #[(.str "text" 499)] 0), #[]⟩
def k235 (P : Params) : Obj := ⟨(.type "tuple"), none, (.seq #[] 0), #[]⟩
def k237 (P : Params) : Obj := ⟨(.type "code"), none, (.fields #[(.str "read_tree" 496), (.str "read_tree" 497), (.str "/claim/cut.py" 498), (.int (103) 0), (.int (1) 0), (.int (0) 0), (.int (0) 0), (.int (3) 0), (.ref 232), (.bool true), (.int (181) 0), (.ref 233), .none, (.ref 234), (.ref 235), (.ref 236), (.int (500) 0), (.int (103) 0), (.str "/claim/cut.py" 501)]), #[]⟩
def k238 (P : Params) : Obj := ⟨(.type "function"), none, (.func (fnOf "read_tree" "read_tree" (defArgs (top 24)) (defBody (top 24)) (defScope (top 24)) .none .none .none (.str "glazebench.cuttexts" 462) none (.ref 237) .none)), #[]⟩
def k239 (P : Params) : Obj := ⟨(.type "tuple"), none, (.seq #[] 0), #[]⟩
def k241 (P : Params) : Obj := ⟨(.type "tuple"), none, (.seq #[(.str "_law_script" 508), (.str "_law_k" 509), (.str "_law_cell" 510)] 0), #[]⟩
def k242 (P : Params) : Obj := ⟨(.type "tuple"), none, (.seq #[] 0), #[]⟩
def k244 (P : Params) : Obj := ⟨(.type "code"), none, (.fields #[(.str "_law_at" 505), (.str "_law_at" 506), (.str "/claim/cut.py" 507), (.int (108) 0), (.int (2) 0), (.int (0) 0), (.int (0) 0), (.int (3) 0), (.ref 239), (.bool true), (.int (181) 0), (.ref 240), .none, (.ref 241), (.ref 242), (.ref 243), (.int (511) 0), (.int (108) 0), (.str "/claim/cut.py" 512)]), #[]⟩
def k245 (P : Params) : Obj := ⟨(.type "function"), none, (.func (fnOf "_law_at" "_law_at" (defArgs (top 26)) (defBody (top 26)) (defScope (top 26)) .none .none .none (.str "law_glazebench_k14_words_that_are_no_tree" 503) none (.ref 244) .none)), #[]⟩
def k246 (P : Params) : Obj := ⟨(.type "tuple"), none, (.seq #[] 0), #[]⟩
def k249 (P : Params) : Obj := ⟨(.type "code"), none, (.fields #[(.str "_law_more" 514), (.str "_law_more" 515), (.str "/claim/cut.py" 516), (.int (115) 0), (.int (3) 0), (.int (0) 0), (.int (0) 0), (.int (3) 0), (.ref 246), (.bool true), (.int (181) 0), (.ref 247), .none, .none, .none, (.ref 248), (.int (517) 0), (.int (115) 0), (.str "/claim/cut.py" 518)]), #[]⟩
def k250 (P : Params) : Obj := ⟨(.type "function"), none, (.func (fnOf "_law_more" "_law_more" (defArgs (top 27)) (defBody (top 27)) (defScope (top 27)) .none .none .none (.str "law_glazebench_k14_words_that_are_no_tree" 503) none (.ref 249) .none)), #[]⟩
def k251 (P : Params) : Obj := ⟨(.type "tuple"), none, (.seq #[] 0), #[]⟩
def k253 (P : Params) : Obj := ⟨(.type "tuple"), none, (.seq #[(.str "_law_number" 523), (.str "_law_by" 524), (.str "_law_digits" 525), (.str "_law_k" 526), (.str "_law_found" 527)] 0), #[]⟩
def k254 (P : Params) : Obj := ⟨(.type "tuple"), none, (.seq #[] 0), #[]⟩
def k256 (P : Params) : Obj := ⟨(.type "code"), none, (.fields #[(.str "_law_knead" 520), (.str "_law_knead" 521), (.str "/claim/cut.py" 522), (.int (117) 0), (.int (2) 0), (.int (0) 0), (.int (0) 0), (.int (3) 0), (.ref 251), (.bool true), (.int (181) 0), (.ref 252), .none, (.ref 253), (.ref 254), (.ref 255), (.int (528) 0), (.int (117) 0), (.str "/claim/cut.py" 529)]), #[]⟩
def k257 (P : Params) : Obj := ⟨(.type "function"), none, (.func (fnOf "_law_knead" "_law_knead" (defArgs (top 28)) (defBody (top 28)) (defScope (top 28)) .none .none .none (.str "law_glazebench_k14_words_that_are_no_tree" 503) none (.ref 256) .none)), #[]⟩
def k258 (P : Params) : Obj := ⟨(.type "tuple"), none, (.seq #[] 0), #[]⟩
def k260 (P : Params) : Obj := ⟨(.type "tuple"), none, (.seq #[(.str "_law_number" 534), (.str "_law_odd" 535), (.str "_law_way" 536)] 0), #[]⟩
def k261 (P : Params) : Obj := ⟨(.type "tuple"), none, (.seq #[] 0), #[]⟩
def k263 (P : Params) : Obj := ⟨(.type "code"), none, (.fields #[(.str "_law_word" 531), (.str "_law_word" 532), (.str "/claim/cut.py" 533), (.int (131) 0), (.int (1) 0), (.int (0) 0), (.int (0) 0), (.int (3) 0), (.ref 258), (.bool true), (.int (181) 0), (.ref 259), .none, (.ref 260), (.ref 261), (.ref 262), (.int (537) 0), (.int (131) 0), (.str "/claim/cut.py" 538)]), #[]⟩
def k264 (P : Params) : Obj := ⟨(.type "function"), none, (.func (fnOf "_law_word" "_law_word" (defArgs (top 29)) (defBody (top 29)) (defScope (top 29)) .none .none .none (.str "law_glazebench_k14_words_that_are_no_tree" 503) none (.ref 263) .none)), #[]⟩
def k265 (P : Params) : Obj := ⟨(.type "tuple"), none, (.seq #[] 0), #[]⟩
def k268 (P : Params) : Obj := ⟨(.type "code"), none, (.fields #[(.str "_law_figures" 540), (.str "_law_figures" 541), (.str "/claim/cut.py" 542), (.int (142) 0), (.int (3) 0), (.int (0) 0), (.int (0) 0), (.int (3) 0), (.ref 265), (.bool true), (.int (181) 0), (.ref 266), .none, .none, .none, (.ref 267), (.int (543) 0), (.int (142) 0), (.str "/claim/cut.py" 544)]), #[]⟩
def k269 (P : Params) : Obj := ⟨(.type "function"), none, (.func (fnOf "_law_figures" "_law_figures" (defArgs (top 30)) (defBody (top 30)) (defScope (top 30)) .none .none .none (.str "law_glazebench_k14_words_that_are_no_tree" 503) none (.ref 268) .none)), #[]⟩
def k270 (P : Params) : Obj := ⟨(.type "tuple"), none, (.seq #[] 0), #[]⟩
def k272 (P : Params) : Obj := ⟨(.type "tuple"), none, (.seq #[(.str "_law_word_here" 549)] 0), #[]⟩
def k273 (P : Params) : Obj := ⟨(.type "tuple"), none, (.seq #[] 0), #[]⟩
def k275 (P : Params) : Obj := ⟨(.type "code"), none, (.fields #[(.str "_law_kind" 546), (.str "_law_kind" 547), (.str "/claim/cut.py" 548), (.int (146) 0), (.int (1) 0), (.int (0) 0), (.int (0) 0), (.int (3) 0), (.ref 270), (.bool true), (.int (181) 0), (.ref 271), .none, (.ref 272), (.ref 273), (.ref 274), (.int (550) 0), (.int (146) 0), (.str "/claim/cut.py" 551)]), #[]⟩
def k276 (P : Params) : Obj := ⟨(.type "function"), none, (.func (fnOf "_law_kind" "_law_kind" (defArgs (top 31)) (defBody (top 31)) (defScope (top 31)) .none .none .none (.str "law_glazebench_k14_words_that_are_no_tree" 503) none (.ref 275) .none)), #[]⟩
def k277 (P : Params) : Obj := ⟨(.type "tuple"), none, (.seq #[] 0), #[]⟩
def k279 (P : Params) : Obj := ⟨(.type "tuple"), none, (.seq #[(.str "_law_words" 556), (.str "_law_wanting" 557), (.str "_law_place_here" 558), (.str "_law_kind_here" 559)] 0), #[]⟩
def k280 (P : Params) : Obj := ⟨(.type "tuple"), none, (.seq #[] 0), #[]⟩
def k282 (P : Params) : Obj := ⟨(.type "code"), none, (.fields #[(.str "_law_place" 553), (.str "_law_place" 554), (.str "/claim/cut.py" 555), (.int (152) 0), (.int (1) 0), (.int (0) 0), (.int (0) 0), (.int (3) 0), (.ref 277), (.bool true), (.int (181) 0), (.ref 278), .none, (.ref 279), (.ref 280), (.ref 281), (.int (560) 0), (.int (152) 0), (.str "/claim/cut.py" 561)]), #[]⟩
def k283 (P : Params) : Obj := ⟨(.type "function"), none, (.func (fnOf "_law_place" "_law_place" (defArgs (top 32)) (defBody (top 32)) (defScope (top 32)) .none .none .none (.str "law_glazebench_k14_words_that_are_no_tree" 503) none (.ref 282) .none)), #[]⟩
def k284 (P : Params) : Obj := ⟨(.type "tuple"), none, (.seq #[] 0), #[]⟩
def k286 (P : Params) : Obj := ⟨(.type "tuple"), none, (.seq #[(.str "_law_words" 566), (.str "_law_at_here" 567), (.str "_law_word_here" 568), (.str "_law_first" 569), (.str "_law_behind" 570), (.str "_law_other" 571), (.str "_law_end" 572)] 0), #[]⟩
def k287 (P : Params) : Obj := ⟨(.type "tuple"), none, (.seq #[] 0), #[]⟩
def k289 (P : Params) : Obj := ⟨(.type "code"), none, (.fields #[(.str "_law_read" 563), (.str "_law_read" 564), (.str "/claim/cut.py" 565), (.int (164) 0), (.int (2) 0), (.int (0) 0), (.int (0) 0), (.int (3) 0), (.ref 284), (.bool true), (.int (181) 0), (.ref 285), .none, (.ref 286), (.ref 287), (.ref 288), (.int (573) 0), (.int (164) 0), (.str "/claim/cut.py" 574)]), #[]⟩
def k290 (P : Params) : Obj := ⟨(.type "function"), none, (.func (fnOf "_law_read" "_law_read" (defArgs (top 33)) (defBody (top 33)) (defScope (top 33)) .none .none .none (.str "law_glazebench_k14_words_that_are_no_tree" 503) none (.ref 289) .none)), #[]⟩
def k291 (P : Params) : Obj := ⟨(.type "tuple"), none, (.seq #[] 0), #[]⟩
def k293 (P : Params) : Obj := ⟨(.type "tuple"), none, (.seq #[(.str "_law_found" 579), (.str "_law_due" 580)] 0), #[]⟩
def k294 (P : Params) : Obj := ⟨(.type "tuple"), none, (.seq #[] 0), #[]⟩
def k296 (P : Params) : Obj := ⟨(.type "code"), none, (.fields #[(.str "_law_whole" 576), (.str "_law_whole" 577), (.str "/claim/cut.py" 578), (.int (173) 0), (.int (2) 0), (.int (0) 0), (.int (0) 0), (.int (3) 0), (.ref 291), (.bool true), (.int (181) 0), (.ref 292), .none, (.ref 293), (.ref 294), (.ref 295), (.int (581) 0), (.int (173) 0), (.str "/claim/cut.py" 582)]), #[]⟩
def k297 (P : Params) : Obj := ⟨(.type "function"), none, (.func (fnOf "_law_whole" "_law_whole" (defArgs (top 34)) (defBody (top 34)) (defScope (top 34)) .none .none .none (.str "law_glazebench_k14_words_that_are_no_tree" 503) none (.ref 296) .none)), #[]⟩
def k298 (P : Params) : Obj := ⟨(.type "tuple"), none, (.seq #[] 0), #[]⟩
def k300 (P : Params) : Obj := ⟨(.type "tuple"), none, (.seq #[(.str "_law_tree" 587), (.str "_law_told" 588)] 0), #[]⟩
def k301 (P : Params) : Obj := ⟨(.type "tuple"), none, (.seq #[] 0), #[]⟩
def k303 (P : Params) : Obj := ⟨(.type "code"), none, (.fields #[(.str "_law_like" 584), (.str "_law_like" 585), (.str "/claim/cut.py" 586), (.int (175) 0), (.int (2) 0), (.int (0) 0), (.int (0) 0), (.int (3) 0), (.ref 298), (.bool true), (.int (181) 0), (.ref 299), .none, (.ref 300), (.ref 301), (.ref 302), (.int (589) 0), (.int (175) 0), (.str "/claim/cut.py" 590)]), #[]⟩
def k304 (P : Params) : Obj := ⟨(.type "function"), none, (.func (fnOf "_law_like" "_law_like" (defArgs (top 35)) (defBody (top 35)) (defScope (top 35)) .none .none .none (.str "law_glazebench_k14_words_that_are_no_tree" 503) none (.ref 303) .none)), #[]⟩
def k305 (P : Params) : Obj := ⟨(.type "tuple"), none, (.seq #[] 0), #[]⟩
def k307 (P : Params) : Obj := ⟨(.type "tuple"), none, (.seq #[(.str "_law_text" 595), (.str "_law_caught" 596), (.str "_law_found" 597), (.str "e" 598)] 0), #[]⟩
def k308 (P : Params) : Obj := ⟨(.type "tuple"), none, (.seq #[] 0), #[]⟩
def k310 (P : Params) : Obj := ⟨(.type "code"), none, (.fields #[(.str "_law_refused" 592), (.str "_law_refused" 593), (.str "/claim/cut.py" 594), (.int (183) 0), (.int (1) 0), (.int (0) 0), (.int (0) 0), (.int (3) 0), (.ref 305), (.bool true), (.int (181) 0), (.ref 306), .none, (.ref 307), (.ref 308), (.ref 309), (.int (599) 0), (.int (183) 0), (.str "/claim/cut.py" 600)]), #[]⟩
def k311 (P : Params) : Obj := ⟨(.type "function"), none, (.func (fnOf "_law_refused" "_law_refused" (defArgs (top 36)) (defBody (top 36)) (defScope (top 36)) .none .none .none (.str "law_glazebench_k14_words_that_are_no_tree" 503) none (.ref 310) .none)), #[]⟩
def k312 (P : Params) : Obj := ⟨(.type "tuple"), none, (.seq #[] 0), #[]⟩
def k314 (P : Params) : Obj := ⟨(.type "tuple"), none, (.seq #[(.str "_law_text" 605), (.str "_law_words" 606), (.str "_law_place_here" 607), (.str "_law_good" 608), (.str "_law_found" 609)] 0), #[]⟩
def k315 (P : Params) : Obj := ⟨(.type "tuple"), none, (.seq #[] 0), #[]⟩
def k317 (P : Params) : Obj := ⟨(.type "code"), none, (.fields #[(.str "_law_asked" 602), (.str "_law_asked" 603), (.str "/claim/cut.py" 604), (.int (197) 0), (.int (1) 0), (.int (0) 0), (.int (0) 0), (.int (3) 0), (.ref 312), (.bool true), (.int (181) 0), (.ref 313), .none, (.ref 314), (.ref 315), (.ref 316), (.int (610) 0), (.int (197) 0), (.str "/claim/cut.py" 611)]), #[]⟩
def k318 (P : Params) : Obj := ⟨(.type "function"), none, (.func (fnOf "_law_asked" "_law_asked" (defArgs (top 37)) (defBody (top 37)) (defScope (top 37)) .none .none .none (.str "law_glazebench_k14_words_that_are_no_tree" 503) none (.ref 317) .none)), #[]⟩
def k319 (P : Params) : Obj := ⟨(.type "tuple"), none, (.seq #[] 0), #[]⟩
def k321 (P : Params) : Obj := ⟨(.type "tuple"), none, (.seq #[(.str "_law_words" 616), (.str "_law_number" 617), (.str "_law_found" 618), (.str "_law_wanting" 619), (.str "_law_word_here" 620), (.str "_law_at_here" 621)] 0), #[]⟩
def k322 (P : Params) : Obj := ⟨(.type "tuple"), none, (.seq #[] 0), #[]⟩
def k324 (P : Params) : Obj := ⟨(.type "code"), none, (.fields #[(.str "_law_one_odd" 613), (.str "_law_one_odd" 614), (.str "/claim/cut.py" 615), (.int (204) 0), (.int (2) 0), (.int (0) 0), (.int (0) 0), (.int (3) 0), (.ref 319), (.bool true), (.int (181) 0), (.ref 320), .none, (.ref 321), (.ref 322), (.ref 323), (.int (622) 0), (.int (204) 0), (.str "/claim/cut.py" 623)]), #[]⟩
def k325 (P : Params) : Obj := ⟨(.type "function"), none, (.func (fnOf "_law_one_odd" "_law_one_odd" (defArgs (top 38)) (defBody (top 38)) (defScope (top 38)) .none .none .none (.str "law_glazebench_k14_words_that_are_no_tree" 503) none (.ref 324) .none)), #[]⟩
def k326 (P : Params) : Obj := ⟨(.type "tuple"), none, (.seq #[] 0), #[]⟩
def k329 (P : Params) : Obj := ⟨(.type "code"), none, (.fields #[(.str "law" 625), (.str "law" 626), (.str "/claim/cut.py" 627), (.int (218) 0), (.int (1) 0), (.int (0) 0), (.int (0) 0), (.int (3) 0), (.ref 326), (.bool true), (.int (181) 0), (.ref 327), .none, .none, .none, (.ref 328), (.int (628) 0), (.int (218) 0), (.str "/claim/cut.py" 629)]), #[]⟩
def k330 (P : Params) : Obj := ⟨(.type "function"), none, (.func (fnOf "law" "law" (defArgs (top 39)) (defBody (top 39)) (defScope (top 39)) .none .none .none (.str "law_glazebench_k14_words_that_are_no_tree" 503) none (.ref 329) .none)), #[]⟩
def KK : Params → Frag := fun P => (nat_lit 2, k2 P) :: (nat_lit 3, k3 P) :: (nat_lit 15, k15 P) :: (nat_lit 17, k17 P) :: (nat_lit 18, k18 P) :: (nat_lit 20, k20 P) :: (nat_lit 21, k21 P) :: (nat_lit 22, k22 P) :: (nat_lit 29, k29 P) :: (nat_lit 30, k30 P) :: (nat_lit 31, k31 P) :: (nat_lit 32, k32 P) :: (nat_lit 35, k35 P) :: (nat_lit 42, k42 P) :: (nat_lit 44, k44 P) :: (nat_lit 45, k45 P) :: (nat_lit 47, k47 P) :: (nat_lit 48, k48 P) :: (nat_lit 49, k49 P) :: (nat_lit 50, k50 P) :: (nat_lit 51, k51 P) :: (nat_lit 54, k54 P) :: (nat_lit 61, k61 P) :: (nat_lit 63, k63 P) :: (nat_lit 64, k64 P) :: (nat_lit 66, k66 P) :: (nat_lit 67, k67 P) :: (nat_lit 68, k68 P) :: (nat_lit 69, k69 P) :: (nat_lit 70, k70 P) :: (nat_lit 73, k73 P) :: (nat_lit 80, k80 P) :: (nat_lit 82, k82 P) :: (nat_lit 83, k83 P) :: (nat_lit 85, k85 P) :: (nat_lit 86, k86 P) :: (nat_lit 87, k87 P) :: (nat_lit 88, k88 P) :: (nat_lit 89, k89 P) :: (nat_lit 99, k99 P) :: (nat_lit 101, k101 P) :: (nat_lit 102, k102 P) :: (nat_lit 104, k104 P) :: (nat_lit 105, k105 P) :: (nat_lit 106, k106 P) :: (nat_lit 108, k108 P) :: (nat_lit 109, k109 P) :: (nat_lit 111, k111 P) :: (nat_lit 112, k112 P) :: (nat_lit 113, k113 P) :: (nat_lit 115, k115 P) :: (nat_lit 116, k116 P) :: (nat_lit 118, k118 P) :: (nat_lit 119, k119 P) :: (nat_lit 120, k120 P) :: (nat_lit 122, k122 P) :: (nat_lit 123, k123 P) :: (nat_lit 125, k125 P) :: (nat_lit 126, k126 P) :: (nat_lit 127, k127 P) :: (nat_lit 129, k129 P) :: (nat_lit 130, k130 P) :: (nat_lit 132, k132 P) :: (nat_lit 133, k133 P) :: (nat_lit 134, k134 P) :: (nat_lit 135, k135 P) :: (nat_lit 136, k136 P) :: (nat_lit 137, k137 P) :: (nat_lit 138, k138 P) :: (nat_lit 141, k141 P) :: (nat_lit 148, k148 P) :: (nat_lit 149, k149 P) :: (nat_lit 151, k151 P) :: (nat_lit 152, k152 P) :: (nat_lit 154, k154 P) :: (nat_lit 155, k155 P) :: (nat_lit 156, k156 P) :: (nat_lit 157, k157 P) :: (nat_lit 158, k158 P) :: (nat_lit 161, k161 P) :: (nat_lit 168, k168 P) :: (nat_lit 170, k170 P) :: (nat_lit 171, k171 P) :: (nat_lit 173, k173 P) :: (nat_lit 174, k174 P) :: (nat_lit 175, k175 P) :: (nat_lit 176, k176 P) :: (nat_lit 177, k177 P) :: (nat_lit 180, k180 P) :: (nat_lit 187, k187 P) :: (nat_lit 189, k189 P) :: (nat_lit 190, k190 P) :: (nat_lit 192, k192 P) :: (nat_lit 193, k193 P) :: (nat_lit 194, k194 P) :: (nat_lit 195, k195 P) :: (nat_lit 196, k196 P) :: (nat_lit 199, k199 P) :: (nat_lit 201, k201 P) :: (nat_lit 202, k202 P) :: (nat_lit 204, k204 P) :: (nat_lit 205, k205 P) :: (nat_lit 206, k206 P) :: (nat_lit 208, k208 P) :: (nat_lit 209, k209 P) :: (nat_lit 211, k211 P) :: (nat_lit 212, k212 P) :: (nat_lit 213, k213 P) :: (nat_lit 216, k216 P) :: (nat_lit 217, k217 P) :: (nat_lit 218, k218 P) :: (nat_lit 220, k220 P) :: (nat_lit 221, k221 P) :: (nat_lit 223, k223 P) :: (nat_lit 224, k224 P) :: (nat_lit 225, k225 P) :: (nat_lit 227, k227 P) :: (nat_lit 228, k228 P) :: (nat_lit 230, k230 P) :: (nat_lit 231, k231 P) :: (nat_lit 232, k232 P) :: (nat_lit 234, k234 P) :: (nat_lit 235, k235 P) :: (nat_lit 237, k237 P) :: (nat_lit 238, k238 P) :: (nat_lit 239, k239 P) :: (nat_lit 241, k241 P) :: (nat_lit 242, k242 P) :: (nat_lit 244, k244 P) :: (nat_lit 245, k245 P) :: (nat_lit 246, k246 P) :: (nat_lit 249, k249 P) :: (nat_lit 250, k250 P) :: (nat_lit 251, k251 P) :: (nat_lit 253, k253 P) :: (nat_lit 254, k254 P) :: (nat_lit 256, k256 P) :: (nat_lit 257, k257 P) :: (nat_lit 258, k258 P) :: (nat_lit 260, k260 P) :: (nat_lit 261, k261 P) :: (nat_lit 263, k263 P) :: (nat_lit 264, k264 P) :: (nat_lit 265, k265 P) :: (nat_lit 268, k268 P) :: (nat_lit 269, k269 P) :: (nat_lit 270, k270 P) :: (nat_lit 272, k272 P) :: (nat_lit 273, k273 P) :: (nat_lit 275, k275 P) :: (nat_lit 276, k276 P) :: (nat_lit 277, k277 P) :: (nat_lit 279, k279 P) :: (nat_lit 280, k280 P) :: (nat_lit 282, k282 P) :: (nat_lit 283, k283 P) :: (nat_lit 284, k284 P) :: (nat_lit 286, k286 P) :: (nat_lit 287, k287 P) :: (nat_lit 289, k289 P) :: (nat_lit 290, k290 P) :: (nat_lit 291, k291 P) :: (nat_lit 293, k293 P) :: (nat_lit 294, k294 P) :: (nat_lit 296, k296 P) :: (nat_lit 297, k297 P) :: (nat_lit 298, k298 P) :: (nat_lit 300, k300 P) :: (nat_lit 301, k301 P) :: (nat_lit 303, k303 P) :: (nat_lit 304, k304 P) :: (nat_lit 305, k305 P) :: (nat_lit 307, k307 P) :: (nat_lit 308, k308 P) :: (nat_lit 310, k310 P) :: (nat_lit 311, k311 P) :: (nat_lit 312, k312 P) :: (nat_lit 314, k314 P) :: (nat_lit 315, k315 P) :: (nat_lit 317, k317 P) :: (nat_lit 318, k318 P) :: (nat_lit 319, k319 P) :: (nat_lit 321, k321 P) :: (nat_lit 322, k322 P) :: (nat_lit 324, k324 P) :: (nat_lit 325, k325 P) :: (nat_lit 326, k326 P) :: (nat_lit 329, k329 P) :: (nat_lit 330, k330 P) :: []
def kas : List Addr := nat_lit 2 :: nat_lit 3 :: nat_lit 15 :: nat_lit 17 :: nat_lit 18 :: nat_lit 20 :: nat_lit 21 :: nat_lit 22 :: nat_lit 29 :: nat_lit 30 :: nat_lit 31 :: nat_lit 32 :: nat_lit 35 :: nat_lit 42 :: nat_lit 44 :: nat_lit 45 :: nat_lit 47 :: nat_lit 48 :: nat_lit 49 :: nat_lit 50 :: nat_lit 51 :: nat_lit 54 :: nat_lit 61 :: nat_lit 63 :: nat_lit 64 :: nat_lit 66 :: nat_lit 67 :: nat_lit 68 :: nat_lit 69 :: nat_lit 70 :: nat_lit 73 :: nat_lit 80 :: nat_lit 82 :: nat_lit 83 :: nat_lit 85 :: nat_lit 86 :: nat_lit 87 :: nat_lit 88 :: nat_lit 89 :: nat_lit 99 :: nat_lit 101 :: nat_lit 102 :: nat_lit 104 :: nat_lit 105 :: nat_lit 106 :: nat_lit 108 :: nat_lit 109 :: nat_lit 111 :: nat_lit 112 :: nat_lit 113 :: nat_lit 115 :: nat_lit 116 :: nat_lit 118 :: nat_lit 119 :: nat_lit 120 :: nat_lit 122 :: nat_lit 123 :: nat_lit 125 :: nat_lit 126 :: nat_lit 127 :: nat_lit 129 :: nat_lit 130 :: nat_lit 132 :: nat_lit 133 :: nat_lit 134 :: nat_lit 135 :: nat_lit 136 :: nat_lit 137 :: nat_lit 138 :: nat_lit 141 :: nat_lit 148 :: nat_lit 149 :: nat_lit 151 :: nat_lit 152 :: nat_lit 154 :: nat_lit 155 :: nat_lit 156 :: nat_lit 157 :: nat_lit 158 :: nat_lit 161 :: nat_lit 168 :: nat_lit 170 :: nat_lit 171 :: nat_lit 173 :: nat_lit 174 :: nat_lit 175 :: nat_lit 176 :: nat_lit 177 :: nat_lit 180 :: nat_lit 187 :: nat_lit 189 :: nat_lit 190 :: nat_lit 192 :: nat_lit 193 :: nat_lit 194 :: nat_lit 195 :: nat_lit 196 :: nat_lit 199 :: nat_lit 201 :: nat_lit 202 :: nat_lit 204 :: nat_lit 205 :: nat_lit 206 :: nat_lit 208 :: nat_lit 209 :: nat_lit 211 :: nat_lit 212 :: nat_lit 213 :: nat_lit 216 :: nat_lit 217 :: nat_lit 218 :: nat_lit 220 :: nat_lit 221 :: nat_lit 223 :: nat_lit 224 :: nat_lit 225 :: nat_lit 227 :: nat_lit 228 :: nat_lit 230 :: nat_lit 231 :: nat_lit 232 :: nat_lit 234 :: nat_lit 235 :: nat_lit 237 :: nat_lit 238 :: nat_lit 239 :: nat_lit 241 :: nat_lit 242 :: nat_lit 244 :: nat_lit 245 :: nat_lit 246 :: nat_lit 249 :: nat_lit 250 :: nat_lit 251 :: nat_lit 253 :: nat_lit 254 :: nat_lit 256 :: nat_lit 257 :: nat_lit 258 :: nat_lit 260 :: nat_lit 261 :: nat_lit 263 :: nat_lit 264 :: nat_lit 265 :: nat_lit 268 :: nat_lit 269 :: nat_lit 270 :: nat_lit 272 :: nat_lit 273 :: nat_lit 275 :: nat_lit 276 :: nat_lit 277 :: nat_lit 279 :: nat_lit 280 :: nat_lit 282 :: nat_lit 283 :: nat_lit 284 :: nat_lit 286 :: nat_lit 287 :: nat_lit 289 :: nat_lit 290 :: nat_lit 291 :: nat_lit 293 :: nat_lit 294 :: nat_lit 296 :: nat_lit 297 :: nat_lit 298 :: nat_lit 300 :: nat_lit 301 :: nat_lit 303 :: nat_lit 304 :: nat_lit 305 :: nat_lit 307 :: nat_lit 308 :: nat_lit 310 :: nat_lit 311 :: nat_lit 312 :: nat_lit 314 :: nat_lit 315 :: nat_lit 317 :: nat_lit 318 :: nat_lit 319 :: nat_lit 321 :: nat_lit 322 :: nat_lit 324 :: nat_lit 325 :: nat_lit 326 :: nat_lit 329 :: nat_lit 330 :: []
def keeps : List Nat := 0 :: 2 :: 3 :: 4 :: 5 :: 6 :: 8 :: 9 :: 10 :: 11 :: 12 :: 13 :: 14 :: 15 :: 16 :: 18 :: 19 :: 20 :: 21 :: 22 :: 23 :: 24 :: 26 :: 27 :: 28 :: 29 :: 30 :: 31 :: 32 :: 33 :: 34 :: 35 :: 36 :: 37 :: 38 :: 39 :: []
def lo : List Str := ["Whole"]

theorem prep (h : PySem.Challenge.rw_glazebench_k14_words_that_are_no_tree.row.wellSaid = true → PySem.Challenge.rw_glazebench_k14_words_that_are_no_tree.row.Holds) : PySem.Challenge.rw_glazebench_k14_words_that_are_no_tree.Holds := by
  w_on
  o_law
  exact h (by assumption)
def qv (p : Program) : Program := view p keeps
def Xp (p : Program) (s : Shared) : Bool := xlAt (qv p) [] s && recOk (RowW.records (OpenRow.toRowW PySem.Challenge.rw_glazebench_k14_words_that_are_no_tree.row)) s
theorem kas_is (P : Params) : kas = (KK P).map (fun x => x.1) := by kernel_rfl
theorem op_is : opening PySem.Challenge.pw_glazebench_k14_words_that_are_no_tree = plainProg PySem.Challenge.pw_glazebench_k14_words_that_are_no_tree.main.scope.names := by kernel_rfl
theorem fence_is (s : Shared) : fenceModules? PySem.Challenge.pw_glazebench_k14_words_that_are_no_tree s = some s := by kernel_rfl
theorem boot_is (w : World) : ((boot_heap w.params).isNs mainGlobals, (boot_heap w.params).objs.size, (boot_heap w.params).nsMap mainGlobals "__annotations__") = (true, 11, (some (.ref 6))) := by kernel_rfl
theorem ran : ∀ (w : World) (os : OsState), Option.map (lookO openSeen (importedModules PySem.Challenge.pw_glazebench_k14_words_that_are_no_tree.main.body) PySem.Challenge.pw_glazebench_k14_words_that_are_no_tree (qv PySem.Challenge.pw_glazebench_k14_words_that_are_no_tree) lo (Xp PySem.Challenge.pw_glazebench_k14_words_that_are_no_tree) (kHook KK kas kas_is).obs (boot_heap w.params)) (topRun treeTable PySem.Challenge.pw_glazebench_k14_words_that_are_no_tree w 11 (some (.ref 6)) 5632 (atBoot w.params os) (topStub PySem.Challenge.pw_glazebench_k14_words_that_are_no_tree)) = some (true, openGood (qv PySem.Challenge.pw_glazebench_k14_words_that_are_no_tree) lo, (kHook KK kas kas_is).val w) :=
  run_by (q := qv) (Xt := Xp) (Yf := (kHook KK kas kas_is).obs) (Ya := (kHook KK kas kas_is).val) (lo := lo) PySem.W.Fast.te10156331382660048174 PySem.W.Fast.te11892475500146522536 PySem.W.Fast.te14364793385576792824 PySem.W.Fast.te5923862056798008813 PySem.W.Fast.te4187177175401517315 PySem.W.Fast.te3319461541249732288 fun w os => by kernel_rfl
theorem left : LeftO PySem.Challenge.pw_glazebench_k14_words_that_are_no_tree (qv PySem.Challenge.pw_glazebench_k14_words_that_are_no_tree) lo (Xp PySem.Challenge.pw_glazebench_k14_words_that_are_no_tree) (kHook KK kas kas_is).obs (kHook KK kas kas_is).val 5632 := left_once (boot_open op_is (by decide) fence_is) boot_is ran
end KH
open PySem PySem.W PyProof.Rows
set_option maxRecDepth 100000 in
set_option maxHeartbeats 0 in
theorem PySem.Challenge.cw_glazebench_k14_words_that_are_no_tree_holds : PySem.Challenge.rw_glazebench_k14_words_that_are_no_tree.Holds := by
  refine KH.prep fun said => ?_
  have fx : ∀ s, KH.Xp PySem.Challenge.pw_glazebench_k14_words_that_are_no_tree s = true → XL (KH.qv PySem.Challenge.pw_glazebench_k14_words_that_are_no_tree) [] (s.heap.nsMap mainGlobals) s.heap := fun s e => xl_of s (Bool.and_eq_true_iff.mp e).1
  have fr : ∀ s, KH.Xp PySem.Challenge.pw_glazebench_k14_words_that_are_no_tree s = true → RecFacts (RowW.records (OpenRow.toRowW PySem.Challenge.rw_glazebench_k14_words_that_are_no_tree.row)) s.heap := fun s e => recFacts_of (Bool.and_eq_true_iff.mp e).2
  refine holds_open (XP := XL (KH.qv PySem.Challenge.pw_glazebench_k14_words_that_are_no_tree) []) KH.left (kHook KH.KK KH.kas KH.kas_is).of (kHook KH.KK KH.kas KH.kas_is).keeps fx XL.keeps (by rfl) (by rfl) (by rfl) fr (by rfl) said (by decide +kernel) ?hb ?hw ?hc
  case hb => exact ⟨rfl, rfl, rfl, rfl, rfl, by decide +kernel⟩
  case hw => w_witness2
  case hc =>
    k_fill
    refine K14.walk (l := PySem.Challenge.rw_glazebench_k14_words_that_are_no_tree) rfl rfl (fun w h Y => PySem.W.kIn_of Y) ?F
    case F =>
      intro w mg fa h KX G hmg
      refine' K14.all_mk KX G hmg ?my_aT ?my_aC_cW ?my_ic_cW ?my_a_cWcW ?my_i_cW ?my_l_cW ?my_cc_cW ?my_k_cW ?my_lT_cW ?my_eT_cW ?my_aC_cU ?my_ic_cU ?my_a_cUcU ?my_i_cU ?my_l_cU ?my_cc_cU ?my_k_cU ?my_aC_cL ?my_ic_cL ?my_a_cLcL ?my_i_cL ?my_l_cL ?my_cc_cL ?my_k_cL ?my_kit ?my_aG ?my_eG ?my_aC_cN ?my_kC_cN ?my_nC_cN ?my_a_cNcN ?my_i_cN ?my_l_cN ?my_cc_cN ?my_k_cN ?my_ei_cN ?my_xc_cN ?my_xm_cN ?my_aC_cS ?my_aC_cC ?my_kit4 ?my_a0 ?my_l0 ?my_cc0 ?my_k0 ?my_a1 ?my_l1 ?my_cc1 ?my_k1 ?my_a2 ?my_l2 ?my_cc2 ?my_k2 ?my_a3 ?my_l3 ?my_cc3 ?my_k3 ?my_a4 ?my_l4 ?my_cc4 ?my_k4 ?my_a5 ?my_l5 ?my_cc5 ?my_k5 ?my_a6 ?my_l6 ?my_cc6 ?my_k6 ?my_a7 ?my_l7 ?my_cc7 ?my_k7 ?my_a8 ?my_l8 ?my_cc8 ?my_k8 ?my_a9 ?my_l9 ?my_cc9 ?my_k9 ?my_a10 ?my_l10 ?my_cc10 ?my_k10 ?my_a11 ?my_l11 ?my_cc11 ?my_k11 ?my_a12 ?my_l12 ?my_cc12 ?my_k12 ?my_a13 ?my_l13 ?my_cc13 ?my_k13 ?my_a14 ?my_l14 ?my_cc14 ?my_k14 ?my_a15 ?my_l15 ?my_cc15 ?my_k15 ?my_a16 ?my_l16 ?my_cc16 ?my_k16 ?my_a17 ?my_l17 ?my_cc17 ?my_k17 ?my_a18 ?my_l18 ?my_cc18 ?my_k18 ?my_a19 ?my_l19 ?my_cc19 ?my_k19 ?my_z0 ?my_z1 ?my_z2 ?my_z3 ?my_z4 ?my_z5 ?my_z6 ?my_z7 ?my_z8 ?my_z9 ?my_z10 ?my_z11 ?my_z12 ?my_g0 ?my_g1 ?my_g2 ?my_g3 ?my_g4 ?my_g5 ?my_g6
      (case my_aT => k_is); (case my_aC_cW => k_is); (case my_a_cWcW => k_is); (case my_i_cW => k_is); (case my_l_cW => k_is); (case my_cc_cW => k_is); (case my_k_cW => k_is); (case my_lT_cW => k_is)
      (case my_aC_cU => k_is); (case my_a_cUcU => k_is); (case my_i_cU => k_is); (case my_l_cU => k_is); (case my_cc_cU => k_is); (case my_k_cU => k_is); (case my_aC_cL => k_is); (case my_a_cLcL => k_is)
      (case my_i_cL => k_is); (case my_l_cL => k_is); (case my_cc_cL => k_is); (case my_k_cL => k_is); (case my_aG => k_is); (case my_aC_cN => k_is); (case my_kC_cN => k_is); (case my_nC_cN => k_is)
      (case my_a_cNcN => k_is); (case my_i_cN => k_is); (case my_l_cN => k_is); (case my_cc_cN => k_is); (case my_k_cN => k_is); (case my_xm_cN => k_is); (case my_aC_cS => k_is); (case my_aC_cC => k_is)
      (case my_a0 => k_is); (case my_l0 => k_is); (case my_cc0 => k_is); (case my_k0 => k_is); (case my_a1 => k_is); (case my_l1 => k_is); (case my_cc1 => k_is); (case my_k1 => k_is)
      (case my_a2 => k_is); (case my_l2 => k_is); (case my_cc2 => k_is); (case my_k2 => k_is); (case my_a3 => k_is); (case my_l3 => k_is); (case my_cc3 => k_is); (case my_k3 => k_is)
      (case my_a4 => k_is); (case my_l4 => k_is); (case my_cc4 => k_is); (case my_k4 => k_is); (case my_a5 => k_is); (case my_l5 => k_is); (case my_cc5 => k_is); (case my_k5 => k_is)
      (case my_a6 => k_is); (case my_l6 => k_is); (case my_cc6 => k_is); (case my_k6 => k_is); (case my_a7 => k_is); (case my_l7 => k_is); (case my_cc7 => k_is); (case my_k7 => k_is)
      (case my_a8 => k_is); (case my_l8 => k_is); (case my_cc8 => k_is); (case my_k8 => k_is); (case my_a9 => k_is); (case my_l9 => k_is); (case my_cc9 => k_is); (case my_k9 => k_is)
      (case my_a10 => k_is); (case my_l10 => k_is); (case my_cc10 => k_is); (case my_k10 => k_is); (case my_a11 => k_is); (case my_l11 => k_is); (case my_cc11 => k_is); (case my_k11 => k_is)
      (case my_a12 => k_is); (case my_l12 => k_is); (case my_cc12 => k_is); (case my_k12 => k_is); (case my_a13 => k_is); (case my_l13 => k_is); (case my_cc13 => k_is); (case my_k13 => k_is)
      (case my_a14 => k_is); (case my_l14 => k_is); (case my_cc14 => k_is); (case my_k14 => k_is); (case my_a15 => k_is); (case my_l15 => k_is); (case my_cc15 => k_is); (case my_k15 => k_is)
      (case my_a16 => k_is); (case my_l16 => k_is); (case my_cc16 => k_is); (case my_k16 => k_is); (case my_a17 => k_is); (case my_l17 => k_is); (case my_cc17 => k_is); (case my_k17 => k_is)
      (case my_a18 => k_is); (case my_l18 => k_is); (case my_cc18 => k_is); (case my_k18 => k_is); (case my_a19 => k_is); (case my_l19 => k_is); (case my_cc19 => k_is); (case my_k19 => k_is)
      (case my_z0 => k_is); (case my_z1 => k_is); (case my_z2 => k_is); (case my_z3 => k_is); (case my_z4 => k_is); (case my_z5 => k_is); (case my_z6 => k_is); (case my_z7 => k_is)
      (case my_z8 => k_is); (case my_z9 => k_is); (case my_z10 => k_is); (case my_z11 => k_is); (case my_z12 => k_is); (case my_g0 => k_is); (case my_g1 => k_is); (case my_g2 => k_is)
      (case my_g3 => k_is); (case my_g4 => k_is); (case my_g5 => k_is); (case my_g6 => k_is); (case my_eT_cW => rfl); (case my_ic_cW => kernel_rfl); (case my_ic_cU => kernel_rfl); (case my_ic_cL => kernel_rfl)
      (case my_kit => kernel_rfl); (case my_eG => kernel_rfl); (case my_ei_cN => kernel_rfl); (case my_xc_cN => kernel_rfl); (case my_kit4 => kernel_rfl)
