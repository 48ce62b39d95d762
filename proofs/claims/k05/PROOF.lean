import PyProof.Rows.All
import Wide.All
import OpenK.AllK
import Wide.FinOn
import Lean
import PyProof.EqAt
import PyProof.EqKinds
import PyProof.TupleCall
import PyProof.NeKinds
import PyProof.ExcAttrAll.ValueError
import PyProof.StationsW
import PyProof.PassesOwn
import PyProof.RulesAs
import PyProof.NsDelKeeps
import PyProof.CompMap
import KE.KRevIter
import PyProof.Rows.StrJoin2
import PyProof.Rows.StrNews
import PyProof.StrLawsTight
import PyProof.StrWalks
import PyProof.StrBlockH
import KE.KIntText
import PyProof.DictItems
import KE.KPairComp
import KE.KMinKey
import KE.KDictList
import KE.KDictOf
import KE.KEqDict
import KE.KDictSum
import PyProof.Rows.SetFrom
import PyProof.Draws
import KE.KDictLaws
import KE.LcSums
import PyProof.DictIter
import PyProof.DictWalks
import PyProof.Rows.DictUnroll
import PyProof.StrBlock2
import PySem.Challenge.RW_glazebench_k05_drawings_refused
set_option Elab.async false
set_option linter.all false
set_option maxRecDepth 100000
namespace L2
open PySem PySem.Spec PyProof.Rows

/-- a key: an int or a str -/
abbrev Key := Sum Int Str
def keyIs : Key → Value → Bool
  | .inl k, v => Value.isInt k v
  | .inr x, v => Value.isStrOf x v
def keyH (w : World) : Key → Int
  | .inl k => hashInt k
  | .inr x => hashStr w x
theorem keyIs_shape : ∀ {k : Key} {v : Value}, keyIs k v = true → (∃ i t, k = Sum.inl i ∧ v = Value.int i t) ∨ (∃ x t, k = Sum.inr x ∧ v = Value.str x t)
  | .inl i, v, h => by
    obtain ⟨t, e⟩ := Value.isInt_shape (k := i) (v := v) h
    exact .inl ⟨i, t, rfl, e⟩
  | .inr x, v, h => by
    obtain ⟨t, e⟩ := Value.isStrOf_shape (x := x) (v := v) h
    exact .inr ⟨x, t, rfl, e⟩
theorem keyIs_int (i : Int) (t : Tok) : keyIs (.inl i) (.int i t) = true := by simp [keyIs, Value.isInt]
theorem keyIs_str (x : Str) (t : Tok) : keyIs (.inr x) (.str x t) = true := by simp [keyIs, Value.isStrOf]
theorem key_ll (a b : Int) : decide ((Sum.inl a : Key) = Sum.inl b) = (a == b) := by
  by_cases e : a = b
  · subst e; simp
  · have h : ¬ (Sum.inl a : Key) = Sum.inl b := fun q => e (Sum.inl.inj q)
    rw [decide_eq_false h]
    exact (beq_eq_false_iff_ne.mpr e).symm
theorem key_rr (a b : Str) : decide ((Sum.inr a : Key) = Sum.inr b) = decide (a = b) := by
  by_cases e : a = b
  · subst e; simp
  · have h : ¬ (Sum.inr a : Key) = Sum.inr b := fun q => e (Sum.inr.inj q)
    rw [decide_eq_false h, decide_eq_false e]
theorem key_lr (a : Int) (b : Str) : decide ((Sum.inl a : Key) = Sum.inr b) = false := decide_eq_false (fun q => nomatch q)
theorem key_rl (a : Str) (b : Int) : decide ((Sum.inr a : Key) = Sum.inl b) = false := decide_eq_false (fun q => nomatch q)

def mixKind (prog : Program) (w : World) : PySem.KeyKind prog w Key where
  is := keyIs
  hash := keyH w
  inj := fun v a b ha hb => by
    rcases keyIs_shape ha with ⟨i, t, rfl, rfl⟩ | ⟨x, t, rfl, rfl⟩
    · rcases keyIs_shape hb with ⟨j, u, rfl, e⟩ | ⟨y, u, rfl, e⟩
      · injection e with e1 _; rw [e1]
      · exact nomatch e
    · rcases keyIs_shape hb with ⟨j, u, rfl, e⟩ | ⟨y, u, rfl, e⟩
      · exact nomatch e
      · injection e with e1 _; rw [e1]
  byValue := fun k v h => by
    rcases keyIs_shape h with ⟨i, t, rfl, rfl⟩ | ⟨x, t, rfl, rfl⟩ <;> rfl
  pyHash := fun hv h => by
    rcases keyIs_shape hv with ⟨i, t, rfl, rfl⟩ | ⟨x, t, rfl, rfl⟩
    · exact wpAny_pyHash_int h
    · exact wpAny_pyHash_str h
  eqBool := fun hu hv h => by
    rcases keyIs_shape hu with ⟨i, t, rfl, rfl⟩ | ⟨x, t, rfl, rfl⟩
    · rcases keyIs_shape hv with ⟨j, u, rfl, rfl⟩ | ⟨y, u, rfl, rfl⟩
      · rw [key_ll] at h; exact wpAny_eqBool_int h
      · rw [key_lr] at h; exact SeqAt.EqAt.int_str i t y u _ _ _ _ h
    · rcases keyIs_shape hv with ⟨j, u, rfl, rfl⟩ | ⟨y, u, rfl, rfl⟩
      · rw [key_rl] at h; exact SeqAt.EqAt.str_int x t j u _ _ _ _ h
      · rw [key_rr] at h; exact wpAny_eqBool_str h
  «strs» := fun k x t v h => by
    rcases keyIs_shape h with ⟨i, u, rfl, e⟩ | ⟨y, u, rfl, e⟩
    · exact nomatch e
    · injection e with e1 _
      subst e1
      cases v <;> rfl

theorem mixKind_int (prog : Program) (w : World) (i : Int) (t : Tok) : (mixKind prog w).is (.inl i) (.int i t) = true := keyIs_int i t
theorem mixKind_str (prog : Program) (w : World) (x : Str) (t : Tok) : (mixKind prog w).is (.inr x) (.str x t) = true := keyIs_str x t
end L2

namespace L2
open PySem PySem.Spec PyProof.Rows

/-- a value, without the heap -/
inductive V where
  | non | bl (b : Bool) | int (i : Int) | str (x : Str) | byt (b : Array UInt8) | flt (b : UInt64) | ref (a : Addr) | ty (n : String)
  deriving DecidableEq

def RelV : V → Value → Prop
  | .non, u => u = Value.none
  | .bl b, u => u = Value.bool b
  | .int i, u => ∃ t, u = Value.int i t
  | .str x, u => ∃ t, u = Value.str x t
  | .byt b, u => ∃ t, u = Value.bytes b t
  | .flt b, u => ∃ t, u = Value.float b t
  | .ref a, u => u = Value.ref a
  | .ty n, u => u = Value.type n

abbrev Vals : List V → List Value → Prop := Paired RelV
theorem Vals.length {xs : List V} {us : List Value} (r : Vals xs us) : xs.length = us.length := Paired.length r
theorem Vals.get : ∀ {xs : List V} {us : List Value} {i : Nat} {x : V}, Vals xs us → xs[i]? = some x → ∃ u, us[i]? = some u ∧ RelV x u
  | _, _, _, _, .nil, e => by simp at e
  | _, _, 0, _, .cons r _, e => by simp at e; subst e; exact ⟨_, rfl, r⟩
  | _, _, i + 1, x, .cons _ t, e => by
    obtain ⟨u, h1, h2⟩ := Vals.get (i := i) (x := x) t (by simpa using e)
    exact ⟨u, by simpa using h1, h2⟩
theorem Vals.set {x : V} {u : Value} (r : RelV x u) : ∀ {xs : List V} {us : List Value} (i : Nat), Vals xs us → Vals (xs.set i x) (us.set i u)
  | _, _, _, .nil => .nil
  | _, _, 0, .cons _ t => .cons r t
  | _, _, i + 1, .cons q t => .cons q (Vals.set r i t)
theorem Vals.append : ∀ {xs ys : List V} {us ws : List Value}, Vals xs us → Vals ys ws → Vals (xs ++ ys) (us ++ ws)
  | _, _, _, _, .nil, s => s
  | _, _, _, _, .cons r t, s => .cons r (Vals.append t s)
def RelO : Option V → Option Value → Prop
  | some v, some u => RelV v u
  | none, none => True
  | _, _ => False
def KV {κ : Type} : List (κ × V) → List (κ × Value) → Prop := Paired fun (p : κ × V) (q : κ × Value) => p.1 = q.1 ∧ RelV p.2 q.2

/-- a key of a dict (00_mix): an int or a text -/
def kV : Key → V
  | .inl i => .int i
  | .inr x => .str x

/-- what stands at a tracked address -/
inductive HO where
  /-- a list -/
  | lst (xs : List V)
  /-- a tuple (never changes) -/
  | tup (xs : List V)
  /-- a dict whose keys are ints and texts; one whose keys are tuples of ints and texts (the empty one is both) -/
  | dK (kvs : List (Key × V)) | dT (kvs : List (List Key × V))
  /-- a set of ints: its members, its size -/
  | set (S : Int → Bool) (n : Nat)
  /-- an instance of the class at C, its dict at dx, its attributes -/
  | ins (C dx : Addr) (fs : List (Str × V))
  /-- the dict of the instance at x -/
  | own (x : Addr)
  /-- the dict of an exception -/
  | xd (fs : List (Str × V))
  /-- a bound method, f of x -/
  | met (f x : Addr)
  /-- a range object lo, lo + 1, .. below hi -/
  | rng (lo hi : Int)
  /-- a thing that is known to the object (the script; a dict while a loop walks it): read, never written while it is so -/
  | frz (o : Obj) (u : HO)
  /-- a code object's table -/
  | tbl (ps : Array Value)
  /-- any other thing, by what is true of its one object (a def of one's own: SetO a S n := HO.ext fun h => ..) -/
  | ext (φ : Heap → Prop)

abbrev Hp := Addr → Option HO
def upd (H : Hp) (a : Addr) (o : HO) : Hp := fun b => if b = a then some o else H b
theorem upd_same {H : Hp} {a : Addr} {o : HO} : upd H a o a = some o := by unfold upd; rw [if_pos rfl]
theorem upd_ne {H : Hp} {a b : Addr} {o : HO} (h : b ≠ a) : upd H a o b = H b := by unfold upd; rw [if_neg h]
/-- two objects of different content stand apart -/
theorem ne_of {H : Hp} {a b : Addr} {o u : HO} (h : H a = some o) (h' : H b = some u) (d : o ≠ u) : a ≠ b := by
  intro e; subst e; rw [h] at h'; exact d (Option.some.inj h')
theorem ne_of_none {H : Hp} {a b : Addr} {o : HO} (h : H a = some o) (h' : H b = none) : a ≠ b := by
  intro e; subst e; rw [h] at h'; cases h'

section
variable (P : Program) (w : World)
def ObjOk (H : Hp) (h : Heap) (a : Addr) : HO → Prop
  | .lst xs => xs.length ≤ sizeLine ∧ ∃ (its : List Value) (n : Nat), Vals xs its ∧ h.get? a = some { cls := .type "list", data := .seq its.toArray n }
  | .tup xs => xs.length ≤ sizeLine ∧ ∃ its : List Value, Vals xs its ∧ IsTup h a its.toArray
  | .dK kvs => kvs.length ≤ sizeLine ∧ (a == sysModules) = false ∧ ∃ vs, KV kvs vs ∧ h.DictOf (mixKind P w) a vs
  | .dT kvs => kvs.length ≤ sizeLine ∧ (a == sysModules) = false ∧ ∃ xs : List (List Key × Addr × Value),
      Paired (fun (p : List Key × V) (q : List Key × Addr × Value) => p.1 = q.1 ∧ H q.2.1 = some (.tup (p.1.map kV)) ∧ RelV p.2 q.2.2) kvs xs ∧
      ∃ o es ep, h.get? a = some o ∧ o.ExactDict ∧ o.data = .dict es ep ∧ es.toList = xs.map (entryOfKey (tupleKind (mixKind P w))) ∧ (xs.map (·.1)).Nodup
  | .set S n => h.SetOf (intKind P w) a S n
  | .ins C dx fs => H dx = some (.own a) ∧ fs.length ≤ 1000 ∧ dx ≠ a ∧ h.get? a = some (PySem.W.instObj C dx) ∧
      ∃ mA, h.Ns1 dx mA ∧ (∀ f, RelO (fs.lookup f) (mA f)) ∧ PySem.Within mA (fs.map (·.1))
  | .own _ => ∃ o, h.get? a = some o
  | .xd fs => ∃ mA, h.Ns1 a mA ∧ ∀ f, RelO (fs.lookup f) (mA f)
  | .rng lo hi => ∃ t u v, h.get? a = some { cls := .type "range", data := .fields #[.int lo t, .int hi u, .int 1 v] }
  | .frz o u => h.get? a = some o ∧ ObjOk H h a u
  | .tbl ps => h.get? a = some { cls := .none, data := .fields ps }
  | .met f x => h.get? a = some (PySem.W.methodObj (.ref f) (.ref x))
  | .ext φ => φ h ∧ (∃ o, h.get? a = some o) ∧ ∀ h1 h2 : Heap, φ h1 → (∀ o, h1.get? a = some o → h2.get? a = some o) → φ h2
/-- the abstract heap is held -/
def HOk (H : Hp) (h : Heap) : Prop := ∀ a o, H a = some o → ObjOk P w H h a o
end

section
variable {P : Program} {w : World} {H H' : Hp} {h h' : Heap} {a : Addr} {o : HO}
theorem ObjOk.lt (x : ObjOk P w H h a o) : a < h.objs.size := by
  cases o with
  | lst xs => obtain ⟨_, _, _, _, e⟩ := x; exact Heap.lt_size e
  | tup xs => obtain ⟨_, _, _, p⟩ := x; exact p.lt
  | dK kvs => obtain ⟨_, _, _, _, o, _, _, e, _⟩ := x; exact Heap.lt_size e
  | dT kvs => obtain ⟨_, _, _, _, o, _, _, e, _⟩ := x; exact Heap.lt_size e
  | set S n => obtain ⟨o, _, _, _, e, _⟩ := x; exact Heap.lt_size e
  | ins C dx fs => obtain ⟨_, _, _, e, _⟩ := x; exact Heap.lt_size e
  | own y => obtain ⟨_, e⟩ := x; exact Heap.lt_size e
  | xd fs => obtain ⟨_, ⟨_, _, _, e, _⟩, _⟩ := x; exact Heap.lt_size e
  | rng lo hi => obtain ⟨_, _, _, e⟩ := x; exact Heap.lt_size e
  | frz ob u => obtain ⟨e, _⟩ := x; exact Heap.lt_size e
  | tbl ps => exact Heap.lt_size (show h.get? a = some _ from x)
  | met f y => exact Heap.lt_size (show h.get? a = some _ from x)
  | ext φ => obtain ⟨_, ⟨_, e⟩, _⟩ := x; exact Heap.lt_size e
theorem Paired.mapP {α β : Type} {F G : α → β → Prop} : ∀ {l₁ : List α} {l₂ : List β}, Paired F l₁ l₂ → (∀ a b, F a b → G a b) → Paired G l₁ l₂
  | _, _, .nil, _ => .nil
  | _, _, .cons r t, f => .cons (f _ _ r) (Paired.mapP t f)
/-- what an object's description leans on: its own object, its own dict, the tuples -/
theorem ObjOk.stay (x : ObjOk P w H h a o) (k : ∀ b u, (b = a ∨ H b = some (.own a)) → h.get? b = some u → h'.get? b = some u)
    (ho : ∀ b, H b = some (.own a) → H' b = some (.own a)) (ht : ∀ b xs, H b = some (.tup xs) → H' b = some (.tup xs)) : ObjOk P w H' h' a o := by
  induction o with
  | lst xs => obtain ⟨z, its, n, r, e⟩ := x; exact ⟨z, its, n, r, k _ _ (.inl rfl) e⟩
  | tup xs => obtain ⟨z, its, r, ob, e, c⟩ := x; exact ⟨z, its, r, ob, k _ _ (.inl rfl) e, c⟩
  | dK kvs => obtain ⟨z, y, vs, r, ob, es, ep, e, c⟩ := x; exact ⟨z, y, vs, r, ob, es, ep, k _ _ (.inl rfl) e, c⟩
  | dT kvs =>
    obtain ⟨z, y, xs, r, ob, es, ep, e, c⟩ := x
    exact ⟨z, y, xs, Paired.mapP r fun p q z => ⟨z.1, ht _ _ z.2.1, z.2.2⟩, ob, es, ep, k _ _ (.inl rfl) e, c⟩
  | set S n => obtain ⟨ob, es, ep, t, e, c⟩ := x; exact ⟨ob, es, ep, t, k _ _ (.inl rfl) e, c⟩
  | ins C dx fs =>
    obtain ⟨d, z, ne, e, mA, ⟨od, es, ep, e2, c⟩, r⟩ := x
    exact ⟨ho _ d, z, ne, k _ _ (.inl rfl) e, mA, ⟨od, es, ep, k _ _ (.inr d) e2, c⟩, r⟩
  | own y => obtain ⟨ob, e⟩ := x; exact ⟨ob, k _ _ (.inl rfl) e⟩
  | xd fs => obtain ⟨mA, ⟨od, es, ep, e, c⟩, r⟩ := x; exact ⟨mA, ⟨od, es, ep, k _ _ (.inl rfl) e, c⟩, r⟩
  | rng lo hi => obtain ⟨t, u, v, e⟩ := x; exact ⟨t, u, v, k _ _ (.inl rfl) e⟩
  | frz ob u ih => obtain ⟨e, q⟩ := x; exact ⟨k _ _ (.inl rfl) e, ih q⟩
  | tbl ps =>
    have e : h.get? a = some { cls := .none, data := .fields ps } := x
    show h'.get? a = some { cls := .none, data := .fields ps }
    exact k a _ (.inl rfl) e
  | met f y =>
    have e : h.get? a = some (PySem.W.methodObj (.ref f) (.ref y)) := x
    show h'.get? a = some (PySem.W.methodObj (.ref f) (.ref y))
    exact k a _ (.inl rfl) e
  | ext φ => obtain ⟨p, ⟨o, e⟩, st⟩ := x; exact ⟨st _ _ p fun o q => k _ _ (.inl rfl) q, ⟨o, k _ _ (.inl rfl) e⟩, st⟩
theorem HOk.lt (x : HOk P w H h) (e : H a = some o) : a < h.objs.size := (x a o e).lt
theorem HOk.fresh (x : HOk P w H h) (e : h.objs.size ≤ a) : H a = none := by
  cases q : H a with
  | none => rfl
  | some u => exact absurd (Nat.lt_of_lt_of_le (x.lt q) e) (Nat.lt_irrefl _)
/-- every object of the heap is kept -/
theorem HOk.kept (x : HOk P w H h) (k : ∀ b u, h.get? b = some u → h'.get? b = some u) : HOk P w H h' := fun a o e =>
  (x a o e).stay (fun b u _ q => k b u q) (fun _ q => q) fun _ _ q => q
/-- a new object is laid and tracked -/
theorem HOk.laid (x : HOk P w H h) (k : ∀ b u, h.get? b = some u → h'.get? b = some u) (hp : h.objs.size ≤ a) (new : ObjOk P w (upd H a o) h' a o) : HOk P w (upd H a o) h' := fun b u e => by
  have hn := x.fresh hp
  by_cases hb : b = a
  · subst hb; rw [upd_same] at e; cases e; exact new
  · rw [upd_ne hb] at e
    exact (x b u e).stay (fun c v _ q => k c v q) (fun c q => by rw [upd_ne (ne_of_none q hn)]; exact q) fun c xs q => by rw [upd_ne (ne_of_none q hn)]; exact q
end

/-- what may be read as u: it is u, or a known u -/
def Rd (H : Hp) (a : Addr) (u : HO) : Prop := H a = some u ∨ ∃ o, H a = some (.frz o u)
theorem Rd.of {H : Hp} {a : Addr} {u : HO} (h : H a = some u) : Rd H a u := .inl h
theorem Rd.ok {P : Program} {w : World} {H : Hp} {h : Heap} {a : Addr} {u : HO} (r : Rd H a u) (x : HOk P w H h) : ObjOk P w H h a u := by
  rcases r with r | ⟨o, r⟩
  · exact x a u r
  · obtain ⟨_, q⟩ := x a _ r
    exact q
/-- what may be written -/
def Mut : Option HO → Prop
  | some (.lst _) => True
  | some (.dK _) => True
  | some (.dT _) => True
  | some (.set _ _) => True
  | some (.ins _ _ _) => True
  | some (.ext _) => True
  | _ => False
section
variable {P : Program} {w : World} {H : Hp} {h h' : Heap} {x e : Addr} {o' : HO}
/-- the object at e is changed: x itself, or the dict of the instance x -/
theorem HOk.write (ok : HOk P w H h) (mu : Mut (H x)) (he : e = x ∨ H e = some (.own x)) (k : ∀ b u, b ≠ e → h.get? b = some u → h'.get? b = some u) (heo : ∃ u, h'.get? e = some u)
    (new : ObjOk P w (upd H x o') h' x o') : HOk P w (upd H x o') h' := fun b u q => by
  have nown : ∀ c y, H c = some (.own y) → c ≠ x := fun c y r z => by subst z; rw [r] at mu; exact mu
  have ntup : ∀ c xs, H c = some (.tup xs) → c ≠ x := fun c xs r z => by subst z; rw [r] at mu; exact mu
  by_cases hb : b = x
  · subst hb; rw [upd_same] at q; cases q; exact new
  · rw [upd_ne hb] at q
    by_cases hbe : b = e
    · have q' : H b = some (.own x) := by
        rcases he with z | z
        · exact absurd (hbe.trans z) hb
        · rw [hbe]; exact z
      rw [q] at q'; cases q'
      obtain ⟨v, hv⟩ := heo
      exact ⟨v, by rw [hbe]; exact hv⟩
    · refine (ok b u q).stay (fun c v hc r => k c v ?_ r) (fun c r => by rw [upd_ne (nown c b r)]; exact r) fun c xs r => by rw [upd_ne (ntup c xs r)]; exact r
      rcases hc with rfl | hc
      · exact hbe
      · rintro rfl
        rcases he with z | z
        · exact nown c b hc z
        · rw [hc] at z; cases z; exact hb rfl
end

structure Un (fs ex : List Addr) (H H' : Hp) (h h' : Heap) : Prop where
  keep : ∀ b o, h.get? b = some o → H b = none → b ∉ fs → b ∉ ex → h'.get? b = some o
  slot : ∀ b o, h.get? b = some o → H b = none → b ∈ fs → b ∉ ex → ∃ sl, h'.get? b = some { o with slots := sl }
  free : ∀ b o, h.get? b = some o → H b = none → b ∉ ex → H' b = none
  there : ∀ b o, h.get? b = some o → b ∉ ex → ∃ o', h'.get? b = some o'
  tups : ∀ b xs, H b = some (.tup xs) → H' b = some (.tup xs)
  frzs : ∀ b o u, H b = some (.frz o u) → H' b = some (.frz o u)
  tbls : ∀ b ps, H b = some (.tbl ps) → ∃ more, H' b = some (.tbl (ps ++ more))
section
variable {fs fs' ex ex' : List Addr} {H H1 H2 : Hp} {h h1 h2 h' : Heap} {a x e : Addr} {o : HO}
theorem Un.any (u : Un fs ex H H1 h h1) {b : Addr} {ob : Obj} (q : h.get? b = some ob) (n : H b = none) (hx : b ∉ ex) : ∃ sl, h1.get? b = some { ob with slots := sl } := by
  by_cases hb : b ∈ fs
  · exact u.slot b ob q n hb hx
  · exact ⟨ob.slots, u.keep b ob q n hb hx⟩
theorem Un.kept (k : ∀ b u, h.get? b = some u → h'.get? b = some u) : Un fs ex H H h h' :=
  ⟨fun b ob q _ _ _ => k b ob q, fun b ob q _ _ _ => ⟨ob.slots, k b ob q⟩, fun _ _ _ n _ => n, fun b ob q _ => ⟨ob, k b ob q⟩, fun _ _ q => q, fun _ _ _ q => q, fun _ ps q => ⟨#[], by rw [q]; simp⟩⟩
theorem Un.refl : Un fs ex H H h h := Un.kept fun _ _ q => q
theorem Un.laid (k : ∀ b u, h.get? b = some u → h'.get? b = some u) (hp : h.objs.size ≤ a) (hn : H a = none) : Un fs ex H (upd H a o) h h' where
  keep := fun b u q _ _ _ => k b u q
  slot := fun b u q _ _ _ => ⟨u.slots, k b u q⟩
  free := fun b u q n _ => by rw [upd_ne (Nat.ne_of_lt (Nat.lt_of_lt_of_le (Heap.lt_size q) hp))]; exact n
  there := fun b u q _ => ⟨u, k b u q⟩
  tups := fun b xs q => by rw [upd_ne (ne_of_none q hn)]; exact q
  frzs := fun b u xs q => by rw [upd_ne (ne_of_none q hn)]; exact q
  tbls := fun b ps q => ⟨#[], by rw [upd_ne (ne_of_none q hn), q]; simp⟩
theorem Un.write (mu : Mut (H x)) (he : e = x ∨ H e = some (.own x)) (k : ∀ b u, b ≠ e → h.get? b = some u → h'.get? b = some u) (heo : ∃ u, h'.get? e = some u) : Un fs ex H (upd H x o) h h' := by
  have hx : ∀ b, H b = none → b ≠ x := fun b n z => by subst z; rw [n] at mu; exact mu
  have hb : ∀ b, H b = none → b ≠ e := fun b n z => by
    subst z
    rcases he with r | r
    · exact hx b n r
    · rw [n] at r; cases r
  have hm : ∀ b u, H b = some u → ¬ Mut (some u) → b ≠ x := fun b u q nm z => by subst z; rw [q] at mu; exact nm mu
  refine ⟨fun b u q n _ _ => k b u (hb b n) q, fun b u q n _ _ => ⟨u.slots, k b u (hb b n) q⟩, fun b u q n _ => by rw [upd_ne (hx b n)]; exact n, fun b u q _ => ?_,
    fun b xs q => by rw [upd_ne (hm b _ q fun z => z)]; exact q, fun b u xs q => by rw [upd_ne (hm b _ q fun z => z)]; exact q, fun b ps q => ⟨#[], by rw [upd_ne (hm b _ q fun z => z), q]; simp⟩⟩
  by_cases hbe : b = e
  · subst hbe; exact heo
  · exact ⟨u, k b u hbe q⟩
end

def trk (h : Heap) (H : Hp) : List Addr := (List.range h.objs.size).filter fun a => (H a).isSome
def hidT (h : Heap) (H : Hp) : Heap := PySem.W.hideAll h (trk h H)
theorem hidT_size (h : Heap) (H : Hp) : (hidT h H).objs.size = h.objs.size := PySem.W.hideAll_size _ _
theorem hidT_get {h : Heap} {H : Hp} {b : Addr} {o : Obj} (e : h.get? b = some o) (n : H b = none) : (hidT h H).get? b = some o :=
  PySem.W.hideAll_get _ e fun hm => by
    have q : (H b).isSome = true := (List.mem_filter.mp hm).2
    rw [n] at q; simp at q
theorem of_hidT {h : Heap} {H : Hp} {b : Addr} {o : Obj} (e : (hidT h H).get? b = some o) : h.get? b = some o ∧ H b = none := by
  have e' : h.get? b = some o := PySem.W.of_hideAll (trk h H) e
  refine ⟨e', ?_⟩
  cases q : H b with
  | none => rfl
  | some x =>
    have hm : b ∈ trk h H := List.mem_filter.mpr ⟨List.mem_range.mpr (Heap.lt_size e'), by simp [q]⟩
    have z : (hidT h H).get? b = none := PySem.W.hideAll_none (trk h H) hm
    rw [z] at e; cases e

def allNews (g h : Heap) (L : Addr) : List (Addr × Obj) := (List.range h.objs.size).filterMap fun a => if a = L ∨ (g.get? a).isSome = true then none else (h.get? a).map fun o => (a, o)
def rest (g h : Heap) (L d : Addr) : List (Addr × Obj) := (allNews g h L).filter fun p => decide (p.1 ≠ d)
end L2

namespace L2
open PySem PySem.Spec PyProof.Rows

/-- the module's facts, over the base: the heap at the law's entry without what is tracked there -/
structure Mod (K : PySem.W.Frag) (mg : Str → Option Value) (base : Heap) : Prop where
  kin : K.In base
  glob : base.Ns mainGlobals mg
  blt : ∃ mb, base.Ns builtinsNs mb ∧ ∀ x : Str, x ≠ "__name__" → mb x = bootBuiltins x
  nolimit : base.NoLimit

/-- the context: a def's body (or a comprehension's block) running. base: fixed through the whole law; s₀, H₀: the entry; outer: the frames whose slots others may change (a def's callers); stack: all frames that run;
   ex: iterators that were made ahead of the entry and are walked here (a comprehension's); fn: the names whose cells were made at the entry (a def: all; a comprehension's block: its own); calm: not within an except suite; pn: pins that every state bears; xe: what is wanted of an exception that leaves the code -/
structure Cx where
  prog : Program
  w : World
  K : PySem.W.Frag
  mg : Str → Option Value
  base : Heap
  A : Around
  N : List Str
  s₀ : Shared
  H₀ : Hp
  env : Env
  outer : List Env
  stack : List Env
  ex : List Addr
  fn : Str → Bool
  calm : Bool
  pn : List (Addr × Obj)
  xe : Value → Shared → Prop
/-- the callers' frames -/
def frs (l : List Env) : List Addr := l.filterMap (·.frame)
abbrev Cx.fs (X : Cx) : List Addr := frs X.outer

def Vis (sc : Scope) (x : Str) : Prop := sc.names.lookup x = some .local ∨ sc.names.lookup x = some .cell ∨ sc.names.lookup x = some .free
def Loc (sc : Scope) (x : Str) : Prop := sc.names.lookup x = some .local ∨ sc.names.lookup x = some .cell
def Look (env : Env) (h : Heap) (m : Str → Option Value) (x : Str) (u : Value) : Prop :=
  (env.kindOf x = some .local ∧ m x = some u) ∨ ((env.kindOf x = some .cell ∨ env.kindOf x = some .free) ∧ ∃ c, env.cells.lookup x = some c ∧ h.IsCell c (some u))

structure Cx.Ok (X : Cx) : Prop where
  mod : Mod X.K X.mg X.base
  kind : X.env.scope.kind = .function
  glob : X.env.globals = mainGlobals
  blt : X.env.builtins = builtinsNs
  above : X.s₀.heap.objs.size ≤ X.env.locals
  inj : ∀ x y c, X.env.cells.lookup x = some c → X.env.cells.lookup y = some c → x = y
  has : ∀ x, (X.env.kindOf x = some .cell ∨ X.env.kindOf x = some .free) → ∃ c, X.env.cells.lookup x = some c
  cab : ∀ x c, X.fn x = true → X.env.cells.lookup x = some c → X.s₀.heap.objs.size ≤ c
  hd : X.calm = true → X.A.handled = none
  frames : X.A.frames = some X.stack
  stk : X.stack = X.outer ∨ (X.stack = X.env :: X.outer ∧ X.env.frame = some X.env.locals)
  exf : ∀ b ∈ X.ex, b ≠ X.env.locals ∧ ∀ x c, X.env.cells.lookup x = some c → c ≠ b
  bs : ∀ b o, X.base.get? b = some o → X.s₀.heap.get? b = some o ∧ X.H₀ b = none
  bsz : X.base.objs.size ≤ X.s₀.heap.objs.size
  noex : ∀ b o, X.base.get? b = some o → b ∉ X.ex
  exfs : ∀ b ∈ X.ex, b ∉ X.fs
  funs : X.s₀.heap.FunFrames X.base X.outer
  frf : ∀ b ∈ X.fs, X.H₀ b = none

structure Inv (X : Cx) (pins : List (Addr × Obj)) (σ : List (Option V)) (H : Hp) (s : Shared) : Prop where
  ok : X.Ok
  os : s.os = X.s₀.os
  bare : AllBare s.gens
  base : Un X.fs X.ex X.H₀ H X.s₀.heap s.heap
  loc : ∃ m, s.heap.Ns X.env.locals m ∧ ∀ (i : Nat) (x : Str) (v : V), X.N[i]? = some x → σ[i]? = some (some v) → Vis X.env.scope x → ∃ u, RelV v u ∧ Look X.env s.heap m x u
  cell : ∀ x c, X.env.cells.lookup x = some c → ∃ v, s.heap.IsCell c v
  free : H X.env.locals = none
  freeC : ∀ x c, X.env.cells.lookup x = some c → H c = none
  pin : ∀ p ∈ X.pn ++ pins, s.heap.get? p.1 = some p.2 ∧ H p.1 = none ∧ p.1 ≠ X.env.locals ∧ p.1 ∉ X.fs ∧ ∀ v, p.2.data ≠ .cell v
  hok : HOk X.prog X.w H s.heap
  len : σ.length = X.N.length

section
variable {X : Cx} {pins : List (Addr × Obj)} {σ : List (Option V)} {H H' : Hp} {s : Shared} {h' : Heap}

theorem Cx.Ok.nofr (ok : X.Ok) {b : Addr} {o : Obj} (e : X.base.get? b = some o) : b ∉ X.fs := fun hb => by
  have := (ok.funs.mem hb).1
  rw [e] at this; cases this
theorem Inv.bs (I : Inv X pins σ H s) : ∀ b o, X.base.get? b = some o → s.heap.get? b = some o ∧ H b = none := fun b o e =>
  ⟨I.base.keep b o (I.ok.bs b o e).1 (I.ok.bs b o e).2 (I.ok.nofr e) (I.ok.noex b o e), I.base.free b o (I.ok.bs b o e).1 (I.ok.bs b o e).2 (I.ok.noex b o e)⟩
theorem Inv.bk (I : Inv X pins σ H s) : ∀ b o, X.base.get? b = some o → s.heap.get? b = some o := fun b o e => (I.bs b o e).1
theorem Inv.mod (I : Inv X pins σ H s) : Mod X.K X.mg X.base := I.ok.mod
theorem Inv.kIn (I : Inv X pins σ H s) : X.K.In s.heap := I.ok.mod.kin.keeps I.bk
theorem Inv.lt (I : Inv X pins σ H s) : X.env.locals < s.heap.objs.size := let ⟨_, hn, _⟩ := I.loc; hn.lt
theorem Inv.sz (I : Inv X pins σ H s) : X.s₀.heap.objs.size ≤ s.heap.objs.size := Nat.le_trans I.ok.above (Nat.le_of_lt I.lt)
theorem Inv.nofs (I : Inv X pins σ H s) {a : Addr} (h : s.heap.objs.size ≤ a) : a ∉ X.fs := fun hb => by
  obtain ⟨_, o, ho, _⟩ := I.ok.funs.mem hb
  exact absurd (Nat.lt_of_lt_of_le (Heap.lt_size ho) (Nat.le_trans I.sz h)) (Nat.lt_irrefl _)
theorem Inv.cne (I : Inv X pins σ H s) : ∀ x c, X.env.cells.lookup x = some c → c ≠ X.env.locals := fun x c e z => by
  obtain ⟨v, o, ho, hd⟩ := I.cell x c e
  obtain ⟨m, ⟨o', es, ep, ho', hd', _⟩, _⟩ := I.loc
  rw [z, ho'] at ho; cases ho; rw [hd'] at hd; cases hd
theorem Inv.funs (I : Inv X pins σ H s) : s.heap.FunFrames X.base X.outer := by
  have all : ∀ (l : List Env), (∀ b ∈ frs l, b ∈ X.fs) → X.s₀.heap.FunFrames X.base l → s.heap.FunFrames X.base l := by
    intro l
    induction l with
    | nil => intro _ _; trivial
    | cons env r ih =>
      intro hs hl
      obtain ⟨hk, ⟨L, o, hf, hn, ho, hd⟩, hr⟩ := hl
      have hL : L ∈ X.fs := hs L (by unfold frs; rw [List.filterMap_cons, hf]; exact List.mem_cons_self)
      obtain ⟨sl, e⟩ := I.base.slot L o ho (I.ok.frf L hL) hL fun z => I.ok.exfs L z hL
      exact ⟨hk, ⟨L, _, hf, hn, e, hd⟩, ih (fun b hb => hs b (by unfold frs; rw [List.filterMap_cons, hf]; exact List.mem_cons_of_mem _ hb)) hr⟩
  exact all X.outer (fun _ hb => hb) I.ok.funs

/-- the frames that run, for a call -/
theorem Inv.stack (I : Inv X pins σ H s) : s.heap.FunFrames X.base X.stack := by
  rcases I.ok.stk with e | ⟨e, hf⟩
  · rw [e]; exact I.funs
  · rw [e]
    obtain ⟨m, hn, _⟩ := I.loc
    refine .cons (by rw [I.ok.kind]; decide) hf hn ?_ I.funs
    exact Heap.get?_none_of_le (Nat.le_trans I.ok.bsz I.ok.above)
theorem Inv.stkSub (I : Inv X pins σ H s) : ∀ b ∈ frs X.stack, b ∈ X.env.locals :: X.fs := fun b hb => by
  rcases I.ok.stk with e | ⟨e, hf⟩
  · rw [e] at hb; exact List.mem_cons_of_mem _ hb
  · rw [e] at hb
    unfold frs at hb
    rw [List.filterMap_cons, hf] at hb
    exact hb
theorem Inv.stkFree (I : Inv X pins σ H s) : ∀ b ∈ frs X.stack, H b = none := fun b hb => by
  rcases List.mem_cons.mp (I.stkSub b hb) with e | hb
  · rw [e]; exact I.free
  · obtain ⟨_, o, ho, _⟩ := I.ok.funs.mem hb
    exact I.base.free b o ho (I.ok.frf b hb) fun z => I.ok.exfs b z hb

/-- THE STEP: the untracked objects but the frame and the records at ch are kept (the callers' frames up to slots), the frame's map is kept, the new abstract heap is held -/
theorem Inv.step {g' : Array GenState} {t' : Nat} {d' : Drawn} {ch : List Addr} (I : Inv X pins σ H s)
    (hch : ∀ b ∈ ch, (b ∈ X.ex ∨ X.s₀.heap.objs.size ≤ b) ∧ b ≠ X.env.locals ∧ (∀ x c, X.env.cells.lookup x = some c → c ≠ b) ∧ ∀ p ∈ X.pn ++ pins, p.1 ≠ b)
    (keep : ∀ b o, b ≠ X.env.locals → b ∉ X.fs → b ∉ ch → s.heap.get? b = some o → H b = none → h'.get? b = some o)
    (slot : ∀ b o, b ≠ X.env.locals → b ∈ X.fs → b ∉ ch → s.heap.get? b = some o → H b = none → ∃ sl, h'.get? b = some { o with slots := sl }) (free : ∀ b o, b ∉ ch → s.heap.get? b = some o → H b = none → H' b = none)
    (there : ∀ b o, b ∉ ch → s.heap.get? b = some o → ∃ o', h'.get? b = some o')
    (tups : ∀ b xs, H b = some (.tup xs) → H' b = some (.tup xs)) (frzs : ∀ b o u, H b = some (.frz o u) → H' b = some (.frz o u)) (tbls : ∀ b ps, H b = some (.tbl ps) → ∃ more, H' b = some (.tbl (ps ++ more)))
    (ns : ∀ m, s.heap.Ns X.env.locals m → h'.Ns X.env.locals m) (hok : HOk X.prog X.w H' h') (hg : AllBare g') :
    Inv X pins σ H' { s with heap := h', gens := g', drawn := d', toks := t' } := by
  have neL : ∀ b o, X.s₀.heap.get? b = some o → b ≠ X.env.locals := fun b o e => Nat.ne_of_lt (Nat.lt_of_lt_of_le (Heap.lt_size e) I.ok.above)
  have neC : ∀ b o, X.s₀.heap.get? b = some o → b ∉ X.ex → b ∉ ch := fun b o e hx hb => by
    rcases (hch b hb).1 with z | z
    · exact hx z
    · exact absurd (Nat.lt_of_lt_of_le (Heap.lt_size e) z) (Nat.lt_irrefl _)
  have cellK : ∀ x c, X.env.cells.lookup x = some c → ∀ v, s.heap.IsCell c v → h'.IsCell c v := fun x c e v ⟨o, ho, hd⟩ => by
    have nch : c ∉ ch := fun z => (hch c z).2.2.1 x c e rfl
    by_cases hc : c ∈ X.fs
    · obtain ⟨sl, q⟩ := slot c o (I.cne x c e) hc nch ho (I.freeC x c e)
      exact ⟨_, q, hd⟩
    · exact ⟨o, keep c o (I.cne x c e) hc nch ho (I.freeC x c e), hd⟩
  refine ⟨I.ok, I.os, hg, ⟨fun b o e n hb hx => ?_, fun b o e n hb hx => ?_, fun b o e n hx => ?_, fun b o e hx => ?_, fun b xs e => tups b xs (I.base.tups b xs e), fun b o xs e => frzs b o xs (I.base.frzs b o xs e), fun b ps e => ?_⟩, ?_, fun x c e => ?_, ?_, fun x c e => ?_, fun p hp => ?_, hok, I.len⟩
  · exact keep b o (neL b o e) hb (neC b o e hx) (I.base.keep b o e n hb hx) (I.base.free b o e n hx)
  · obtain ⟨sl, e1⟩ := I.base.slot b o e n hb hx
    obtain ⟨sl', e2⟩ := slot b _ (neL b o e) hb (neC b o e hx) e1 (I.base.free b o e n hx)
    exact ⟨sl', e2⟩
  · obtain ⟨o', e1⟩ := I.base.there b o e hx
    exact free b o' (neC b o e hx) e1 (I.base.free b o e n hx)
  · obtain ⟨o', e1⟩ := I.base.there b o e hx
    exact there b o' (neC b o e hx) e1
  · obtain ⟨m1, e1⟩ := I.base.tbls b ps e
    obtain ⟨m2, e2⟩ := tbls b _ e1
    exact ⟨m1 ++ m2, by rw [e2, Array.append_assoc]⟩
  · obtain ⟨m, hn, hl⟩ := I.loc
    refine ⟨m, ns m hn, fun i x v e1 e2 e3 => ?_⟩
    obtain ⟨u, r, l⟩ := hl i x v e1 e2 e3
    refine ⟨u, r, ?_⟩
    rcases l with l | ⟨k, c, e, z⟩
    · exact .inl l
    · exact .inr ⟨k, c, e, cellK x c e _ z⟩
  · obtain ⟨v, z⟩ := I.cell x c e
    exact ⟨v, cellK x c e v z⟩
  · obtain ⟨m, ⟨o, _, _, ho, _⟩, _⟩ := I.loc
    exact free _ o (fun z => (hch _ z).2.1 rfl) ho I.free
  · obtain ⟨v, o, ho, hd⟩ := I.cell x c e
    exact free c o (fun z => (hch c z).2.2.1 x c e rfl) ho (I.freeC x c e)
  · obtain ⟨e, n, ne, nf, d⟩ := I.pin p hp
    have nch : p.1 ∉ ch := fun z => (hch p.1 z).2.2.2 p hp rfl
    exact ⟨keep p.1 p.2 ne nf nch e n, free p.1 p.2 nch e n, ne, nf, d⟩
/-- .. where the frame's own object is kept too -/
theorem Inv.un {t' : Nat} (I : Inv X pins σ H s) (u : Un X.fs [] H H' s.heap h') (hok : HOk X.prog X.w H' h') : Inv X pins σ H' { s with heap := h', toks := t' } := by
  obtain ⟨m, ⟨o, es, ep, ho, r⟩, _⟩ := id I.loc
  obtain ⟨sl, hL⟩ := u.any ho I.free (by simp)
  exact I.step (g' := s.gens) (d' := s.drawn) (ch := []) (fun _ z => nomatch z) (fun b o _ hb _ e n => u.keep b o e n hb (by simp)) (fun b o _ hb _ e n => u.slot b o e n hb (by simp)) (fun b o _ e n => u.free b o e n (by simp)) (fun b o _ e => u.there b o e (by simp)) u.tups u.frzs u.tbls (fun m' hm => by
    obtain ⟨o', es', ep', ho', r'⟩ := hm
    rw [ho] at ho'; cases ho'
    exact ⟨_, es', ep', hL, r'⟩) hok I.bare
/-- behind a call (or a comprehension's block): the slots of this frame may have changed too, the records at ch may have turned -/
theorem Inv.call {g' : Array GenState} {t' : Nat} {d' : Drawn} {ch : List Addr} (I : Inv X pins σ H s) (u : Un (frs X.stack) ch H H' s.heap h') (hok : HOk X.prog X.w H' h') (hg : AllBare g')
    (hch : ∀ b ∈ ch, (b ∈ X.ex ∨ X.s₀.heap.objs.size ≤ b) ∧ b ≠ X.env.locals ∧ (∀ x c, X.env.cells.lookup x = some c → c ≠ b) ∧ ∀ p ∈ X.pn ++ pins, p.1 ≠ b) :
    Inv X pins σ H' { s with heap := h', gens := g', drawn := d', toks := t' } := by
  obtain ⟨m, ⟨o, es, ep, ho, r⟩, _⟩ := id I.loc
  obtain ⟨sl, hL⟩ := u.any ho I.free fun z => (hch _ z).2.1 rfl
  exact I.step (ch := ch) hch (fun b o hL hb hc e n => u.keep b o e n (fun z => (List.mem_cons.mp (I.stkSub b z)).elim hL hb) hc) (fun b o _ _ hc e n => u.any e n hc) (fun b o hc e n => u.free b o e n hc) (fun b o hc e => u.there b o e hc) u.tups u.frzs u.tbls (fun m' hm => by
    obtain ⟨o', es', ep', ho', r'⟩ := hm
    rw [ho] at ho'; cases ho'
    exact ⟨_, es', ep', hL, r'⟩) hok hg
/-- an untracked record of ours (an iterator) has turned -/
theorem Inv.turned {t' : Nat} {it : Addr} (I : Inv X pins σ H s) (k : ∀ b o, b ≠ it → s.heap.get? b = some o → h'.get? b = some o) (hn : H it = none) (hL : it ≠ X.env.locals)
    (h1 : it ∈ X.ex ∨ X.s₀.heap.objs.size ≤ it) (h2 : ∀ x c, X.env.cells.lookup x = some c → c ≠ it) (h3 : ∀ p ∈ X.pn ++ pins, p.1 ≠ it) : Inv X pins σ H { s with heap := h', toks := t' } := by
  have nit : ∀ b u, H b = some u → b ≠ it := fun b u e z => by rw [z, hn] at e; cases e
  refine I.step (g' := s.gens) (d' := s.drawn) (ch := [it]) (fun b hb => ?_) (fun b o _ _ hc e _ => k b o (fun z => hc (by simp [z])) e) (fun b o _ _ hc e _ => ⟨o.slots, k b o (fun z => hc (by simp [z])) e⟩) (fun _ _ _ _ n => n)
    (fun b o hc e => ⟨o, k b o (fun z => hc (by simp [z])) e⟩) (fun _ _ e => e) (fun _ _ _ e => e) (fun b ps e => ⟨#[], by rw [e]; simp⟩) (fun m hm => ?_) (fun b u e => ?_) I.bare
  · have e : b = it := by simpa using hb
    subst e
    exact ⟨h1, hL, h2, h3⟩
  · obtain ⟨o, es, ep, ho, r⟩ := hm
    exact ⟨o, es, ep, k _ o (Ne.symm hL) ho, r⟩
  · refine (I.hok b u e).stay (fun c v hc q => k c v ?_ q) (fun _ q => q) fun _ _ q => q
    rcases hc with z | z
    · rw [z]; exact nit b u e
    · exact nit c _ z
theorem Inv.tok (I : Inv X pins σ H s) (t : Nat) : Inv X pins σ H { s with toks := t } := I.un (h' := s.heap) (t' := t) Un.refl I.hok
/-- all objects kept -/
theorem Inv.kept {t' : Nat} (I : Inv X pins σ H s) (k : ∀ b u, s.heap.get? b = some u → h'.get? b = some u) : Inv X pins σ H { s with heap := h', toks := t' } := I.un (Un.kept k) (I.hok.kept k)
/-- a new object laid and tracked -/
theorem Inv.laid {a : Addr} {o : HO} {t' : Nat} (I : Inv X pins σ H s) (k : ∀ b u, s.heap.get? b = some u → h'.get? b = some u) (hp : s.heap.objs.size ≤ a) (new : ObjOk X.prog X.w (upd H a o) h' a o) :
    Inv X pins σ (upd H a o) { s with heap := h', toks := t' } := I.un (Un.laid k hp (I.hok.fresh hp)) (I.hok.laid k hp new)
/-- an object written -/
theorem Inv.write {x e : Addr} {o : HO} {t' : Nat} (I : Inv X pins σ H s) (mu : Mut (H x)) (he : e = x ∨ H e = some (.own x)) (k : ∀ b u, b ≠ e → s.heap.get? b = some u → h'.get? b = some u) (heo : ∃ u, h'.get? e = some u)
    (new : ObjOk X.prog X.w (upd H x o) h' x o) : Inv X pins σ (upd H x o) { s with heap := h', toks := t' } := I.un (Un.write mu he k heo) (I.hok.write mu he k heo new)
theorem Inv.pins_of {pins' : List (Addr × Obj)} (I : Inv X pins σ H s) (h : ∀ p ∈ pins', s.heap.get? p.1 = some p.2 ∧ H p.1 = none ∧ p.1 ≠ X.env.locals ∧ p.1 ∉ X.fs ∧ ∀ v, p.2.data ≠ .cell v) : Inv X pins' σ H s :=
  ⟨I.ok, I.os, I.bare, I.base, I.loc, I.cell, I.free, I.freeC, fun p hp => (List.mem_append.mp hp).elim (fun z => I.pin p (List.mem_append_left _ z)) (h p), I.hok, I.len⟩

theorem nodup_ix {N : List Str} (hN : N.Nodup) {i j : Nat} {x : Str} (a : N[i]? = some x) (b : N[j]? = some x) : i = j := by
  obtain ⟨h1, e1⟩ := List.getElem?_eq_some_iff.mp a
  obtain ⟨h2, e2⟩ := List.getElem?_eq_some_iff.mp b
  exact (List.getElem_inj hN).mp (e1.trans e2.symm)

/-- a name is stored; what changed -/
theorem store_ok2 {M : Model} {A : Around} {E : Value → Shared → Prop} {i : Nat} {x : Str} {v : V} {u : Value} {Q : Unit → Shared → Prop} (I : Inv X pins σ H s) (hN : X.N.Nodup) (hi : X.N[i]? = some x) (hx : Loc X.env.scope x) (r : RelV v u)
    (h : ∀ s', Inv X pins (σ.set i (some v)) H s' → (∃ a, Heap.SameBut a s.heap s'.heap ∧ (a = X.env.locals ∨ X.env.cells.lookup x = some a)) → Q () s') (hf : X.fn x = true ∨ X.env.scope.names.lookup x = some .local := by first | exact .inl rfl | exact .inr rfl | assumption) : wpAny M A (storeName X.env x u) Q E s := by
  obtain ⟨m, hn, hl⟩ := id I.loc
  have hcls : (X.env.scope.kind == .class || (X.env.scope.kind == .module && X.env.locals != X.env.globals)) = false := by rw [I.ok.kind]; rfl
  have hiσ : i < σ.length := by rw [I.len]; exact (List.getElem?_eq_some_iff.mp hi).1
  have cne := I.cne
  have tracked : ∀ {a : Addr} {h' : Heap}, (∃ o, s.heap.get? a = some o ∧ H a = none) → Heap.SameBut a s.heap h' → HOk X.prog X.w H h' := fun {a h'} ha hs b ob e => by
    obtain ⟨_, _, hfree⟩ := ha
    refine (I.hok b ob e).stay (fun c w' hc q => (hs.2 c ?_).trans q) (fun _ q => q) fun _ _ q => q
    rintro rfl
    rcases hc with rfl | hc
    · rw [hfree] at e; cases e
    · rw [hfree] at hc; cases hc
  rcases hx with hk | hk
  · refine wpAny_storeName_local hk hn (fun h' hn' hs => ?_) hcls
    obtain ⟨oL, _, _, hoL, _⟩ := id hn
    refine h _ ⟨I.ok, I.os, I.bare, ⟨fun b o e n hb hx => ?_, fun b o e n hb hx => ?_, I.base.free, fun b o e hx => ?_, I.base.tups, I.base.frzs, I.base.tbls⟩, ⟨_, hn', fun j y v' e1 e2 e3 => ?_⟩, fun y c e => ?_, I.free, I.freeC, fun p hp => ?_, tracked ⟨oL, hoL, I.free⟩ hs, by simpa using I.len⟩ ⟨_, hs, .inl rfl⟩
    · exact (hs.2 b (Nat.ne_of_lt (Nat.lt_of_lt_of_le (Heap.lt_size e) I.ok.above))).trans (I.base.keep b o e n hb hx)
    · obtain ⟨sl, e1⟩ := I.base.slot b o e n hb hx
      exact ⟨sl, (hs.2 b (Nat.ne_of_lt (Nat.lt_of_lt_of_le (Heap.lt_size e) I.ok.above))).trans e1⟩
    · obtain ⟨o', e1⟩ := I.base.there b o e hx
      exact ⟨o', (hs.2 b (Nat.ne_of_lt (Nat.lt_of_lt_of_le (Heap.lt_size e) I.ok.above))).trans e1⟩
    · by_cases hj : j = i
      · subst hj
        rw [hi] at e1; cases e1
        rw [List.getElem?_set_self hiσ] at e2
        cases e2
        exact ⟨u, r, .inl ⟨hk, by simp⟩⟩
      · rw [List.getElem?_set_ne (Ne.symm hj)] at e2
        obtain ⟨u', r', q⟩ := hl j y v' e1 e2 e3
        refine ⟨u', r', ?_⟩
        rcases q with ⟨k, e⟩ | ⟨k, c, e, z⟩
        · refine .inl ⟨k, ?_⟩
          have : y ≠ x := fun e => hj (nodup_ix hN e1 (e ▸ hi))
          simp [this, e]
        · exact .inr ⟨k, c, e, z.sameBut hs (cne y c e)⟩
    · obtain ⟨w', z⟩ := I.cell y c e
      exact ⟨w', z.sameBut hs (cne y c e)⟩
    · obtain ⟨e, n, ne, nf, d⟩ := I.pin p hp
      exact ⟨(hs.2 p.1 ne).trans e, n, ne, nf, d⟩
  · have hfn : X.fn x = true := by
      rcases hf with z | z
      · exact z
      · rw [z] at hk; cases hk
    obtain ⟨c, hc⟩ := I.ok.has x (.inl hk)
    obtain ⟨w', z⟩ := I.cell x c hc
    refine wpAny_storeName_cell I.ok.kind hk hc z (fun h' hc' hs => ?_)
    obtain ⟨oc, hoc, hocd⟩ := id z
    refine h { s with heap := h' } ⟨I.ok, I.os, I.bare, ⟨fun b o e n hb hx => ?_, fun b o e n hb hx => ?_, I.base.free, fun b o e hx => ?_, I.base.tups, I.base.frzs, I.base.tbls⟩, ⟨m, hn.sameBut hs (Ne.symm (cne x c hc)), fun j y v' e1 e2 e3 => ?_⟩, fun y c' e => ?_, I.free, I.freeC, fun p hp => ?_, tracked ⟨oc, hoc, I.freeC x c hc⟩ hs, by simpa using I.len⟩ ⟨c, hs, .inr hc⟩
    · exact (hs.2 b (Nat.ne_of_lt (Nat.lt_of_lt_of_le (Heap.lt_size e) (I.ok.cab x c hfn hc)))).trans (I.base.keep b o e n hb hx)
    · obtain ⟨sl, e1⟩ := I.base.slot b o e n hb hx
      exact ⟨sl, (hs.2 b (Nat.ne_of_lt (Nat.lt_of_lt_of_le (Heap.lt_size e) (I.ok.cab x c hfn hc)))).trans e1⟩
    · obtain ⟨o', e1⟩ := I.base.there b o e hx
      exact ⟨o', (hs.2 b (Nat.ne_of_lt (Nat.lt_of_lt_of_le (Heap.lt_size e) (I.ok.cab x c hfn hc)))).trans e1⟩
    · by_cases hj : j = i
      · subst hj
        rw [hi] at e1; cases e1
        rw [List.getElem?_set_self hiσ] at e2
        cases e2
        exact ⟨u, r, .inr ⟨.inl hk, c, hc, hc'⟩⟩
      · rw [List.getElem?_set_ne (Ne.symm hj)] at e2
        obtain ⟨u', r', q⟩ := hl j y v' e1 e2 e3
        refine ⟨u', r', ?_⟩
        rcases q with q | ⟨k, c', e, z'⟩
        · exact .inl q
        · refine .inr ⟨k, c', e, z'.sameBut hs ?_⟩
          rintro rfl
          exact hj (nodup_ix hN e1 (I.ok.inj _ _ _ e hc ▸ hi))
    · by_cases hcc : c' = c
      · subst hcc; exact ⟨_, hc'⟩
      · obtain ⟨w2, z2⟩ := I.cell y c' e
        exact ⟨w2, z2.sameBut hs hcc⟩
    · obtain ⟨e, n, ne, nf, d⟩ := I.pin p hp
      refine ⟨(hs.2 p.1 ?_).trans e, n, ne, nf, d⟩
      intro q
      rw [q, hoc] at e
      have q' : oc = p.2 := Option.some.inj e
      exact d w' (by rw [← q']; exact hocd)
theorem store_ok {M : Model} {A : Around} {E : Value → Shared → Prop} {i : Nat} {x : Str} {v : V} {u : Value} {Q : Unit → Shared → Prop} (I : Inv X pins σ H s) (hN : X.N.Nodup) (hi : X.N[i]? = some x) (hx : Loc X.env.scope x) (r : RelV v u)
    (h : ∀ s', Inv X pins (σ.set i (some v)) H s' → Q () s') (hf : X.fn x = true ∨ X.env.scope.names.lookup x = some .local := by first | exact .inl rfl | exact .inr rfl | assumption) : wpAny M A (storeName X.env x u) Q E s :=
  store_ok2 I hN hi hx r (fun s' I' _ => h s' I') hf
/-- behind a call or a block, the state as it is -/
theorem Inv.call' {s' : Shared} {ch : List Addr} (I : Inv X pins σ H s) (ho : s'.os = s.os) (u : Un (frs X.stack) ch H H' s.heap s'.heap) (hok : HOk X.prog X.w H' s'.heap) (hg : AllBare s'.gens)
    (hch : ∀ b ∈ ch, (b ∈ X.ex ∨ X.s₀.heap.objs.size ≤ b) ∧ b ≠ X.env.locals ∧ (∀ x c, X.env.cells.lookup x = some c → c ≠ b) ∧ ∀ p ∈ X.pn ++ pins, p.1 ≠ b) : Inv X pins σ H' s' := by
  obtain ⟨h', g', d', t', o'⟩ := s'
  have e : o' = s.os := ho
  subst e
  exact I.call (g' := g') (t' := t') (d' := d') u hok hg hch
end

/-- an exception: its class, its own dict's address (where it has one), the abstract heap behind it -/
abbrev XK := Value → Option Addr → Hp → Prop
abbrev St := List (Option V)
abbrev VK := V → Hp → Prop
/-- an expression's reading; a test's; an argument list's -/
abbrev TE := St → Hp → VK → Prop
abbrev TT := St → Hp → (Bool → Hp → Prop) → Prop
abbrev TA := St → Hp → (List V → Hp → Prop) → Prop
/-- what is wanted behind a statement -/
structure Ends where
  nx : St → Hp → Prop
  rt : VK
  bk : St → Hp → Prop := fun _ _ => False
  ct : St → Hp → Prop := fun _ _ => False
abbrev TS := Ends → St → Hp → Prop

def EP (X : Cx) (pins : List (Addr × Obj)) (σ : St) (Q : VK) (u : Value) (s' : Shared) : Prop := ∃ v H', Inv X pins σ H' s' ∧ RelV v u ∧ Q v H'
def TP (X : Cx) (pins : List (Addr × Obj)) (σ : St) (Q : Bool → Hp → Prop) (b : Bool) (s' : Shared) : Prop := ∃ H', Inv X pins σ H' s' ∧ Q b H'
def AP (X : Cx) (pins : List (Addr × Obj)) (σ : St) (Q : List V → Hp → Prop) (us : List Value) (s' : Shared) : Prop := ∃ vs H', Inv X pins σ H' s' ∧ Vals vs us ∧ Q vs H'
def SP (X : Cx) (pins : List (Addr × Obj)) (D : Ends) (f : Flow) (s' : Shared) : Prop :=
  match f with
  | .next => ∃ σ' H', Inv X pins σ' H' s' ∧ D.nx σ' H'
  | .brk => ∃ σ' H', Inv X pins σ' H' s' ∧ D.bk σ' H'
  | .cont => ∃ σ' H', Inv X pins σ' H' s' ∧ D.ct σ' H'
  | .ret u => ∃ v σ' H', Inv X pins σ' H' s' ∧ RelV v u ∧ D.rt v H'

def PE (X : Cx) (e : Expr) (t : TE) : Prop :=
  ∀ (pins : List (Addr × Obj)) (s : Shared) (σ : St) (H : Hp) (Q : VK), Inv X pins σ H s → t σ H Q → wpAny (model X.prog X.w) X.A (eval e X.env) (EP X pins σ Q) X.xe s
def PT (X : Cx) (e : Expr) (t : TT) : Prop :=
  ∀ (pins : List (Addr × Obj)) (s : Shared) (σ : St) (H : Hp) (Q : Bool → Hp → Prop), Inv X pins σ H s → t σ H Q → wpAny (model X.prog X.w) X.A (isTrue e X.env (eval e X.env)) (TP X pins σ Q) X.xe s
/-- a test whatever its 'whole' is (and, or) -/
def PW (X : Cx) (e : Expr) (t : TT) : Prop :=
  ∀ (whole : Sem Value) (pins : List (Addr × Obj)) (s : Shared) (σ : St) (H : Hp) (Q : Bool → Hp → Prop), Inv X pins σ H s → t σ H Q → wpAny (model X.prog X.w) X.A (isTrue e X.env whole) (TP X pins σ Q) X.xe s
theorem PW.pt {X : Cx} {e : Expr} {t : TT} (h : PW X e t) : PT X e t := h _
/-- an argument list (no star), from the left -/
def PA (X : Cx) (es : List Expr) (t : TA) : Prop :=
  ∀ (pos : Pos) (pins : List (Addr × Obj)) (s : Shared) (σ : St) (H : Hp) (Q : List V → Hp → Prop), Inv X pins σ H s → t σ H Q → wpAny (model X.prog X.w) X.A (spliced (backTo pos (starEach es X.env))) (AP X pins σ Q) X.xe s
def PS (X : Cx) (st : Stmt) (t : TS) : Prop :=
  ∀ (pins : List (Addr × Obj)) (s : Shared) (σ : St) (H : Hp) (D : Ends), Inv X pins σ H s → t D σ H → wpAny (model X.prog X.w) X.A (exec st X.env) (SP X pins D) X.xe s
def PSs (X : Cx) (st : List Stmt) (t : TS) : Prop :=
  ∀ (pins : List (Addr × Obj)) (s : Shared) (σ : St) (H : Hp) (D : Ends), Inv X pins σ H s → t D σ H → wpAny (model X.prog X.w) X.A (execs st X.env) (SP X pins D) X.xe s
/-- weaken the end -/
theorem thn {α : Type} {t : Sem α} {Q Q' : α → Shared → Prop} {M : Model} {A : Around} {E : Value → Shared → Prop} {s : Shared} (h : wpAny M A t Q E s) (hQ : ∀ a s, Q a s → Q' a s) : wpAny M A t Q' E s := wpAny_mono h hQ fun _ _ x => x
end L2

namespace L2
open PySem PySem.Spec PyProof.Rows
section
variable {X : Cx}

def tVar (i : Nat) : TE := fun σ H Q => ∃ v, σ[i]? = some (some v) ∧ Q v H
def tC (v : V) : TE := fun _ H Q => Q v H
theorem pe_var {i : Nat} {x : Str} {pos : Pos} (hN : X.N[i]? = some x) (hv : Vis X.env.scope x) (hd : (x == ("__debug__" : Str)) = false := by decide) (hcd : (x == ("__classdict__" : Str)) = false := by decide) : PE X (.Name x pos) (tVar i) := by
  intro pins s σ H Q I h
  obtain ⟨v, e, h⟩ := h
  obtain ⟨m, hn, hl⟩ := I.loc
  obtain ⟨u, r, l⟩ := hl i x v hN e hv
  have fin : EP X pins σ Q u s := ⟨v, H, I, r, h⟩
  rcases l with ⟨hk, hm⟩ | ⟨hk, c, hc, hcell⟩
  · exact wpAny_Name (wpAny_loadName_local I.ok.kind hk hn hm fin) hd
  · rcases hk with hk | hk
    · exact wpAny_Name (wpAny_loadName_cell I.ok.kind hk hc hcell fin) hd
    · exact wpAny_Name (wpAny_loadName_free I.ok.kind hk hc hcell fin hcd) hd
theorem pe_int {i j pos} : PE X (.Constant (.int i) j pos) (tC (.int i)) := fun _ _ _ H _ I h => wpAny_Constant_int ⟨.int i, H, I.tok _, ⟨_, rfl⟩, h⟩
theorem pe_bl {b j pos} : PE X (.Constant (.bool b) j pos) (tC (.bl b)) := fun _ _ _ H _ I h => Constant_bool ⟨.bl b, H, I, rfl, h⟩
theorem pe_non {j pos} : PE X (.Constant .none j pos) (tC .non) := fun _ _ _ H _ I h => Constant_none ⟨.non, H, I, rfl, h⟩
theorem pe_str {x j pos} : PE X (.Constant (.str x) j pos) (tC (.str x)) := fun _ _ _ H _ I h => Calls.Constant_str ⟨.str x, H, I.tok _, ⟨_, rfl⟩, h⟩

/-- a global name of the def -/
def Gl (X : Cx) (x : Str) : Prop := X.env.kindOf x = some .globalImplicit
theorem ld_glob {E : Value → Shared → Prop} {pins : List (Addr × Obj)} {s : Shared} {σ : St} {H : Hp} {x : Str} {u : Value} {pos : Pos} {Q : Value → Shared → Prop} (I : Inv X pins σ H s) (hg : Gl X x) (hm : X.mg x = some u) (h : Q u s)
    (hd : (x == ("__debug__" : Str)) = false := by decide) : wpAny (model X.prog X.w) X.A (eval (.Name x pos) X.env) Q E s :=
  Calls.Name_function_global I.ok.kind hg (Calls.loadGlobal_global (by rw [I.ok.glob]; exact I.mod.glob.keeps I.bk) hm h) hd
theorem ld_blt {E : Value → Shared → Prop} {pins : List (Addr × Obj)} {s : Shared} {σ : St} {H : Hp} {x : Str} {u : Value} {pos : Pos} {Q : Value → Shared → Prop} (I : Inv X pins σ H s) (hg : Gl X x) (hm : X.mg x = none) (hv : bootBuiltins x = some u) (h : Q u s)
    (hn : x ≠ "__name__" := by decide) (hd : (x == ("__debug__" : Str)) = false := by decide) : wpAny (model X.prog X.w) X.A (eval (.Name x pos) X.env) Q E s := by
  obtain ⟨mb, h1, h2⟩ := I.mod.blt
  exact Calls.Name_function_global I.ok.kind hg (Calls.loadGlobal_builtin (by rw [I.ok.glob]; exact I.mod.glob.keeps I.bk) hm (by rw [I.ok.blt]; exact h1.keeps I.bk) ((h2 x hn).trans hv) h) hd
/-- a module's constant, a class, a function, as a value -/
theorem pe_glob {x : Str} {v : V} {u : Value} {pos : Pos} (hg : Gl X x) (hm : X.mg x = some u) (r : RelV v u) (hd : (x == ("__debug__" : Str)) = false := by decide) : PE X (.Name x pos) (tC v) :=
  fun _ _ _ H _ I h => ld_glob I hg hm ⟨v, H, I, r, h⟩ hd
theorem pe_bltn {x : Str} {v : V} {u : Value} {pos : Pos} (hg : Gl X x) (hm : X.mg x = none) (hv : bootBuiltins x = some u) (r : RelV v u) (hn : x ≠ "__name__" := by decide) (hd : (x == ("__debug__" : Str)) = false := by decide) : PE X (.Name x pos) (tC v) :=
  fun _ _ _ H _ I h => ld_blt I hg hm hv ⟨v, H, I, r, h⟩ hn hd

variable {a b : Expr} {ta tb : TE} {pos : Pos}
def PC (X : Cx) (op : CmpOp) (a b : Expr) (t : TE) : Prop :=
  ∀ (pins : List (Addr × Obj)) (s : Shared) (σ : St) (H : Hp) (Q : VK), Inv X pins σ H s → t σ H Q →
    wpAny (model X.prog X.w) X.A (eval a X.env) (fun v s₁ => wpAny (model X.prog X.w) X.A (eval b X.env) (fun u s₂ => wpAny (model X.prog X.w) X.A (compareOp op v u) (EP X pins σ Q) X.xe s₂) X.xe s₁) X.xe s
theorem nobehind (b : Expr) {op : CmpOp} (h : op ≠ .In) (h2 : op ≠ .NotIn) : behindInMarks op b = false := by
  have e1 : (op == CmpOp.In) = false := by cases op <;> first | rfl | exact absurd rfl h
  have e2 : (op == CmpOp.NotIn) = false := by cases op <;> first | rfl | exact absurd rfl h2
  cases b <;> simp [behindInMarks, e1, e2]
/-- a comparison as a value, as a test -/
def tB (t : TE) : TT := fun σ H Q => t σ H fun x H1 => ∃ c, x = .bl c ∧ Q c H1
theorem pt_cmp {op : CmpOp} {t : TE} (h : PC X op a b t) (h1 : behindInMarks op b = false := by first | exact nobehind _ (by decide) (by decide) | rfl) : PT X (.Compare a [op] [b] pos) (tB t) := by
  intro pins s σ H Q I hw
  refine wpAny_isTrue_Compare1 (thn (h pins s σ H _ I hw) fun v s1 h1 => thn h1 fun u s2 h2 => thn h2 fun c s3 ⟨x, H1, I1, r1, q1⟩ => ?_) h1
  obtain ⟨d, rfl, q⟩ := q1
  cases r1
  exact wpAny_truthy_bool ⟨H1, I1, q⟩
/-- an expression whose value is a bool, as a test -/
theorem pt_val {e : Expr} {t : TE} (h : PE X e t) (he : ∀ whole, isTrue e X.env whole = (do let v ← whole; standAt e.pos; holding [v] (truthy v)) := by intro _; rfl) : PT X e (tB t) := by
  intro pins s σ H Q I hw
  refine isTrue_plain (thn (h pins s σ H _ I hw) fun v s1 ⟨x, H1, I1, r1, q1⟩ => ?_) (he _)
  obtain ⟨d, rfl, q⟩ := q1
  cases r1
  exact wpAny_truthy_bool ⟨H1, I1, q⟩

variable {tA tB' : TT} {rest : List Expr}
def tAnd (t u : TT) : TT := fun σ H Q => t σ H fun c H1 => if c = true then u σ H1 Q else Q false H1
def tOr (t u : TT) : TT := fun σ H Q => t σ H fun c H1 => if c = true then Q true H1 else u σ H1 Q
def tNot (t : TT) : TT := fun σ H Q => t σ H fun c H1 => Q (!c) H1
theorem pw_and1 (ha : PT X a tA) : PW X (.BoolOp .And [a] pos) tA := by
  intro wh pins s σ H Q I h
  refine isTrue_and (thn (ha pins s σ H Q I h) fun c s1 e => ?_)
  cases c with
  | true => exact isTrue_and_nil e
  | false => exact e
theorem pw_or1 (ha : PT X a tA) : PW X (.BoolOp .Or [a] pos) tA := by
  intro wh pins s σ H Q I h
  refine isTrue_or (thn (ha pins s σ H Q I h) fun c s1 e => ?_)
  cases c with
  | false => exact isTrue_or_nil e
  | true => exact e
theorem pw_and (ha : PT X a tA) (hb : PW X (.BoolOp .And (b :: rest) pos) tB') : PW X (.BoolOp .And (a :: b :: rest) pos) (tAnd tA tB') := by
  intro wh pins s σ H Q I h
  refine isTrue_and (thn (ha pins s σ H _ I h) fun c s1 ⟨H1, I1, q1⟩ => ?_)
  cases c with
  | true => exact hb wh pins s1 σ H1 Q I1 q1
  | false => exact ⟨H1, I1, q1⟩
theorem pw_or (ha : PT X a tA) (hb : PW X (.BoolOp .Or (b :: rest) pos) tB') : PW X (.BoolOp .Or (a :: b :: rest) pos) (tOr tA tB') := by
  intro wh pins s σ H Q I h
  refine isTrue_or (thn (ha pins s σ H _ I h) fun c s1 ⟨H1, I1, q1⟩ => ?_)
  cases c with
  | true => exact ⟨H1, I1, q1⟩
  | false => exact hb wh pins s1 σ H1 Q I1 q1
theorem pt_not (ha : PT X a tA) : PT X (.UnaryOp .Not a pos) (tNot tA) := by
  intro pins s σ H Q I h
  exact isTrue_not (ha pins s σ H (fun c H1 => Q (!c) H1) I h)
/-- .. as values (bools) -/
def tAndV (ta tb : TE) : TE := fun σ H Q => ta σ H fun x H1 => ∃ c, x = .bl c ∧ if c = true then tb σ H1 Q else Q (.bl false) H1
def tNotV (ta : TE) : TE := fun σ H Q => ta σ H fun x H1 => ∃ c, x = .bl c ∧ Q (.bl (!c)) H1
theorem pe_one {op} {t : TE} (h : PE X a t) : PE X (.BoolOp op [a] pos) t := fun pins s σ H Q I hw => BoolOp_one (h pins s σ H Q I hw)
theorem pe_and (ha : PE X a ta) (hb : PE X (.BoolOp .And (b :: rest) pos) tb) : PE X (.BoolOp .And (a :: b :: rest) pos) (tAndV ta tb) := by
  intro pins s σ H Q I h
  refine BoolOp_and (thn (ha pins s σ H _ I h) fun v s1 ⟨x, H1, I1, r1, q1⟩ => ?_)
  obtain ⟨c, rfl, q1⟩ := q1
  cases r1
  refine wpAny_truthy_bool ?_
  cases c with
  | true => exact hb pins s1 σ H1 Q I1 q1
  | false => exact ⟨.bl false, H1, I1, rfl, q1⟩
theorem pe_not (ha : PE X a ta) : PE X (.UnaryOp .Not a pos) (tNotV ta) := by
  intro pins s σ H Q I h
  refine UnaryOp_ (thn (ha pins s σ H _ I h) fun v s1 ⟨x, H1, I1, r1, q1⟩ => ?_)
  obtain ⟨c, rfl, q1⟩ := q1
  cases r1
  exact not_of (wpAny_truthy_bool ⟨.bl (!c), H1, I1, rfl, q1⟩)
end
end L2

namespace L2
open PySem PySem.Spec PyProof.Rows

def SqL (K : PySem.W.Frag) (H : Hp) (a : Addr) (xs : List V) : Prop :=
  Rd H a (.lst xs) ∨
    ∃ (o : Obj) (its : Array Value) (n : Nat), K.lookup a = some o ∧ o.cls = .type "list" ∧ o.dict = none ∧ o.data = .seq its n ∧ its.size ≤ sizeLine ∧ Vals xs its.toList
def SqT (K : PySem.W.Frag) (H : Hp) (a : Addr) (xs : List V) : Prop :=
  Rd H a (.tup xs) ∨
    ∃ (o : Obj) (its : Array Value) (n : Nat), K.lookup a = some o ∧ o.cls = .type "tuple" ∧ o.data = .seq its n ∧ its.size ≤ sizeLine ∧ Vals xs its.toList
def absV : Value → Option V
  | .none => some .non
  | .bool b => some (.bl b)
  | .int i _ => some (.int i)
  | .str x _ => some (.str x)
  | .bytes b _ => some (.byt b)
  | .float b _ => some (.flt b)
  | .ref a => some (.ref a)
  | .type n => some (.ty n)
  | _ => none
theorem RelV.abs {x : V} {u : Value} (r : RelV x u) : absV u = some x := by
  cases x with
  | non => cases r; rfl
  | bl _ => cases r; rfl
  | int _ => obtain ⟨t, rfl⟩ := r; rfl
  | str _ => obtain ⟨t, rfl⟩ := r; rfl
  | byt _ => obtain ⟨t, rfl⟩ := r; rfl
  | flt _ => obtain ⟨t, rfl⟩ := r; rfl
  | ref _ => cases r; rfl
  | ty _ => cases r; rfl
theorem RelV.inj {x y : V} {u : Value} (r : RelV x u) (q : RelV y u) : x = y := Option.some.inj (r.abs.symm.trans q.abs)
theorem Vals.inj : ∀ {xs ys : List V} {us : List Value}, Vals xs us → Vals ys us → xs = ys
  | _, _, _, .nil, .nil => rfl
  | _, _, _, .cons r t, .cons r' t' => by rw [r.inj r', Vals.inj t t']
section
variable {X : Cx} {pins : List (Addr × Obj)} {σ : St} {H : Hp} {s : Shared} {a : Addr} {xs ys : List V}
theorem SqL.of {K : PySem.W.Frag} (h : H a = some (.lst xs)) : SqL K H a xs := .inl (.inl h)
theorem SqT.of {K : PySem.W.Frag} (h : H a = some (.tup xs)) : SqT K H a xs := .inl (.inl h)
theorem Inv.list (I : Inv X pins σ H s) (h : SqL X.K H a xs) : ∃ its : List Value, Vals xs its ∧ PlainL s.heap a its.toArray ∧ xs.length ≤ sizeLine := by
  rcases h with h | ⟨o, its, n, hk, hc, hd, hs, hz, r⟩
  · obtain ⟨z, its, n, r, e⟩ := h.ok I.hok
    exact ⟨its, r, ⟨_, n, e, rfl, rfl, rfl⟩, z⟩
  · refine ⟨its.toList, r, ⟨o, n, I.kIn a o hk, hc, hd, by simpa using hs⟩, ?_⟩
    have e := r.length
    simp only [Array.length_toList] at e
    first | lia | omega
theorem Inv.tuple (I : Inv X pins σ H s) (h : SqT X.K H a xs) : ∃ its : List Value, Vals xs its ∧ IsTup s.heap a its.toArray ∧ xs.length ≤ sizeLine := by
  rcases h with h | ⟨o, its, n, hk, hc, hs, hz, r⟩
  · obtain ⟨z, its, r, p⟩ := h.ok I.hok
    exact ⟨its, r, p, z⟩
  · refine ⟨its.toList, r, ⟨o, I.kIn a o hk, hc, n, by simpa using hs⟩, ?_⟩
    have e := r.length
    simp only [Array.length_toList] at e
    first | lia | omega
theorem Inv.list_inj (I : Inv X pins σ H s) (h : SqL X.K H a xs) (h' : SqL X.K H a ys) : xs = ys := by
  obtain ⟨its, r, ⟨o, n, e, _, _, d⟩, _⟩ := I.list h
  obtain ⟨its', r', ⟨o', n', e', _, _, d'⟩, _⟩ := I.list h'
  rw [e] at e'; cases e'
  rw [d] at d'
  injection d' with d1 _
  have : its = its' := by simpa using congrArg Array.toList d1
  subst this
  exact r.inj r'
theorem Inv.tuple_inj (I : Inv X pins σ H s) (h : SqT X.K H a xs) (h' : SqT X.K H a ys) : xs = ys := by
  obtain ⟨its, r, ⟨o, e, _, n, d⟩, _⟩ := I.tuple h
  obtain ⟨its', r', ⟨o', e', _, n', d'⟩, _⟩ := I.tuple h'
  rw [e] at e'; cases e'
  rw [d] at d'
  injection d' with d1 _
  have : its = its' := by simpa using congrArg Array.toList d1
  subst this
  exact r.inj r'
end

abbrev Cx.wish (X : Cx) (E : Value → Shared → Prop) : Cx := { X with xe := E }
/-- no exception leaves -/
abbrev Cx.nox (X : Cx) : Cx := X.wish fun _ _ => False
theorem Cx.Ok.wish {X : Cx} (ok : X.Ok) (E : Value → Shared → Prop) : (X.wish E).Ok :=
  ⟨ok.mod, ok.kind, ok.glob, ok.blt, ok.above, ok.inj, ok.has, ok.cab, ok.hd, ok.frames, ok.stk, ok.exf, ok.bs, ok.bsz, ok.noex, ok.exfs, ok.funs, ok.frf⟩
theorem Cx.Ok.unwish {X : Cx} {E : Value → Shared → Prop} (ok : (X.wish E).Ok) : X.Ok :=
  ⟨ok.mod, ok.kind, ok.glob, ok.blt, ok.above, ok.inj, ok.has, ok.cab, ok.hd, ok.frames, ok.stk, ok.exf, ok.bs, ok.bsz, ok.noex, ok.exfs, ok.funs, ok.frf⟩
section
variable {X : Cx} {pins : List (Addr × Obj)} {σ : St} {H : Hp} {s : Shared} {E : Value → Shared → Prop}
theorem Inv.wish (I : Inv X pins σ H s) (E : Value → Shared → Prop) : Inv (X.wish E) pins σ H s := ⟨I.ok.wish E, I.os, I.bare, I.base, I.loc, I.cell, I.free, I.freeC, I.pin, I.hok, I.len⟩
theorem Inv.unwish (I : Inv (X.wish E) pins σ H s) : Inv X pins σ H s := ⟨I.ok.unwish, I.os, I.bare, I.base, I.loc, I.cell, I.free, I.freeC, I.pin, I.hok, I.len⟩
theorem SP.unwish {D : Ends} {f : Flow} {s' : Shared} (h : SP (X.wish E) pins D f s') : SP X pins D f s' := by
  cases f with
  | next => obtain ⟨σ', H', I, q⟩ := h; exact ⟨σ', H', I.unwish, q⟩
  | brk => obtain ⟨σ', H', I, q⟩ := h; exact ⟨σ', H', I.unwish, q⟩
  | cont => obtain ⟨σ', H', I, q⟩ := h; exact ⟨σ', H', I.unwish, q⟩
  | ret u => obtain ⟨v, σ', H', I, r, q⟩ := h; exact ⟨v, σ', H', I.unwish, r, q⟩
theorem PSs.nox {st : List Stmt} {t : TS} (h : PSs X.nox st t) : PSs X st t := fun pins s σ H D I hw =>
  wpAny_mono (h pins s σ H D (I.wish _) hw) (fun _ _ q => q.unwish) fun _ _ z => False.elim z
end

section
variable {X : Cx} {st : Stmt} {rest : List Stmt} {t u : TS} {e : Expr} {te : TE} {pos : Pos}
def tNext : TS := fun D σ H => D.nx σ H
def tSeq (t u : TS) : TS := fun D σ H => t { D with nx := u D } σ H
theorem pss_nil : PSs X [] tNext := fun _ _ σ H _ I h => wpAny_execs_nil ⟨σ, H, I, h⟩
theorem pss_cons (h1 : PS X st t) (h2 : PSs X rest u) : PSs X (st :: rest) (tSeq t u) := by
  intro pins s σ H D I h
  refine wpAny_execs_cons (thn (h1 pins s σ H { D with nx := u D } I h) fun f s1 q => ?_)
  cases f with
  | next =>
    obtain ⟨σ', H', I', q⟩ := q
    exact h2 pins s1 σ' H' D I' q
  | ret v => exact q
  | brk => exact q
  | cont => exact q
theorem pss_one (h1 : PS X st t) : PSs X [st] t := by
  intro pins s σ H D I h
  refine wpAny_execs_cons (thn (h1 pins s σ H D I h) fun f s1 q => ?_)
  cases f with
  | next => exact wpAny_execs_nil q
  | ret v => exact q
  | brk => exact q
  | cont => exact q
def tCont : TS := fun D σ H => D.ct σ H
theorem ps_continue : PS X (.Continue pos) tCont := fun _ _ σ H _ I h => wpAny_Continue ⟨σ, H, I, h⟩
/-- in a def's body nothing is shown -/
theorem Inv.quiet {pins : List (Addr × Obj)} {σ : St} {H : Hp} {s : Shared} (I : Inv X pins σ H s) : interactive X.env = false := by simp [interactive, I.ok.kind]
/-- an expression whose value is dropped -/
def tDrop (te : TE) : TS := fun D σ H => te σ H fun _ H1 => D.nx σ H1
theorem ps_expr (he : PE X e te) (hs : swapsWith e none pos.line X.env = pure false := by rfl) : PS X (.Expr e pos) (tDrop te) := by
  intro pins s σ H D I h
  exact wpAny_Expr_any (thn (he pins s σ H _ I h) fun v s1 ⟨x, H1, I1, r1, q1⟩ => ⟨σ, H1, I1, q1⟩) I.quiet hs
def tRet (te : TE) : TS := fun D σ H => te σ H D.rt
theorem ps_ret (he : PE X e te) : PS X (.Return (some e) pos) (tRet te) := by
  intro pins s σ H D I h
  exact wpAny_Return_some (thn (he pins s σ H _ I h) fun v s1 ⟨x, H1, I1, r1, q1⟩ => ⟨x, σ, H1, I1, r1, q1⟩)
def tIfS (c : TT) (t u : TS) : TS := fun D σ H => c σ H fun b H1 => if b = true then t D σ H1 else u D σ H1
theorem ps_if {c : Expr} {a b : List Stmt} {tc : TT} (hc : PT X c tc) (ha : PSs X a t) (hb : PSs X b u) : PS X (.If c a b pos) (tIfS tc t u) := by
  intro pins s σ H D I h
  refine wpAny_If (thn (hc pins s σ H _ I h) fun d s1 ⟨H1, I1, q1⟩ => ?_)
  cases d with
  | true => exact ha pins s1 σ H1 D I1 q1
  | false => exact hb pins s1 σ H1 D I1 q1
/-- code that the proof never comes to -/
def tNever : TS := fun _ _ _ => False
theorem ps_never : PS X st tNever := fun _ _ _ _ _ _ h => h.elim
end

abbrev TG := V → St → Hp → (St → Hp → Prop) → Prop
abbrev TGs := List V → St → Hp → (St → Hp → Prop) → Prop
def PG (X : Cx) (target : Expr) (t : TG) : Prop :=
  ∀ (pins : List (Addr × Obj)) (s : Shared) (σ : St) (H : Hp) (v : V) (u : Value) (Q : St → Hp → Prop), Inv X pins σ H s → RelV v u → t v σ H Q →
    wpAny (model X.prog X.w) X.A (assign target X.env u) (fun _ s' => ∃ σ' H', Inv X pins σ' H' s' ∧ Q σ' H') X.xe s
/-- several targets, one after another -/
def PGs (X : Cx) (ts : List Expr) (t : TGs) : Prop :=
  ∀ (pins : List (Addr × Obj)) (s : Shared) (σ : St) (H : Hp) (vs : List V) (us : List Value) (Q : St → Hp → Prop), Inv X pins σ H s → Vals vs us → t vs σ H Q →
    wpAny (model X.prog X.w) X.A (assignInOrder ((assignEach ts X.env).map (·.2)) us) (fun _ s' => ∃ σ' H', Inv X pins σ' H' s' ∧ Q σ' H') X.xe s
/-- o[i] = v, by values -/
abbrev TSet := V → V → V → Hp → (Hp → Prop) → Prop
def PSet (X : Cx) (t : TSet) : Prop :=
  ∀ (pins : List (Addr × Obj)) (s : Shared) (σ : St) (H : Hp) (o i v : V) (ov iv u : Value) (Q : Hp → Prop), Inv X pins σ H s → RelV o ov → RelV i iv → RelV v u → t o i v H Q →
    wpAny (model X.prog X.w) X.A (setItem ov iv u) (fun _ s' => ∃ H', Inv X pins σ H' s' ∧ Q H') X.xe s
section
variable {X : Cx} {pos : Pos}
def gName (i : Nat) : TG := fun v σ H Q => Q (σ.set i (some v)) H
theorem pg_name {i : Nat} {x : Str} (hN : X.N.Nodup) (hi : X.N[i]? = some x) (hx : Loc X.env.scope x) (hf : X.fn x = true ∨ X.env.scope.names.lookup x = some .local := by first | exact .inl rfl | exact .inr rfl | assumption) : PG X (.Name x pos) (gName i) := by
  intro pins s σ H v u Q I r h
  exact wpAny_assign_Name (store_ok I hN hi hx r (fun s' I' => ⟨_, H, I', h⟩) hf)
def gNil : TGs := fun vs σ H Q => vs = [] ∧ Q σ H
def gCons (t : TG) (u : TGs) : TGs := fun vs σ H Q => ∃ v r, vs = v :: r ∧ t v σ H fun σ' H' => u r σ' H' Q
theorem pgs_nil : PGs X [] gNil := by
  intro pins s σ H vs us Q I r h
  obtain ⟨e, h⟩ := h
  subst e
  cases r
  exact assignInOrder_nil ⟨σ, H, I, h⟩
theorem pgs_cons {e : Expr} {es : List Expr} {t : TG} {u : TGs} (h1 : PG X e t) (h2 : PGs X es u)
    (hs : (assignEach (e :: es) X.env).map (·.2) = assign e X.env :: (assignEach es X.env).map (·.2) := by rfl) : PGs X (e :: es) (gCons t u) := by
  intro pins s σ H vs us Q I r h
  obtain ⟨v, vr, e1, h⟩ := h
  subst e1
  cases r with
  | cons r rr =>
    rw [hs]
    refine assignInOrder_cons (thn (h1 pins s σ H _ _ _ I r h) fun _ s1 ⟨σ1, H1, I1, q1⟩ => ?_)
    exact h2 pins s1 σ1 H1 _ _ Q I1 rr q1
/-- (a, b, ..) = a tuple of that length -/
def gTup (K : PySem.W.Frag) (n : Nat) (t : TGs) : TG := fun v σ H Q => ∃ a xs, v = .ref a ∧ SqT K H a xs ∧ xs.length = n ∧ t xs σ H Q
theorem pg_tup {es : List Expr} {k : Nat} {t : TGs} {n : Nat} (hc : X.calm = true) (h : PGs X es t)
    (hn : (assignEach es X.env).length = n := by rfl) (hst : (assignEach es X.env).findIdx? (·.1) = none := by rfl) : PG X (.Tuple es k pos) (gTup X.K n t) := by
  intro pins s σ H v u Q I r hw
  obtain ⟨a, xs, e1, hq, hl, hw⟩ := hw
  subst e1
  cases r
  obtain ⟨its, rv, ht, hz⟩ := I.tuple hq
  refine assign_Tuple_tuple (I.ok.hd hc) ht (by simp [hn, ← hl, rv.length]) hst fun h' hx => ?_
  have I1 : Inv X pins σ H { s with heap := h' } := I.kept (t' := s.toks) fun b o e => hx b o (Nat.ne_of_lt (Heap.lt_size e)) e
  exact h pins _ σ H xs _ Q I1 (by simpa using rv) hw
/-- o[i] = .. -/
def gSub (to ti : TE) (t : TSet) : TG := fun v σ H Q => to σ H fun o H1 => ti σ H1 fun i H2 => t o i v H2 fun H3 => Q σ H3
theorem pg_sub {o i : Expr} {to ti : TE} {t : TSet} (ho : PE X o to) (hi : PE X i ti) (hs : PSet X t)
    (ha : ∀ v, assign (.Subscript o i pos) X.env v = (do
      let ov ← holding [v] (eval o X.env)
      let iv ← holding [v, ov] (eval i X.env)
      standAt pos
      holding [v, ov, iv] (setItem ov iv v)
      release [v, ov, iv] []) := by intro _; rfl) : PG X (.Subscript o i pos) (gSub to ti t) := by
  intro pins s σ H v u Q I r h
  rw [ha]
  refine wpAny_bind (wpAny_holding (thn (ho pins s σ H _ I h) fun ov s1 ⟨x, H1, I1, r1, q1⟩ => ?_))
  refine wpAny_bind (wpAny_holding (thn (hi pins s1 σ H1 _ I1 q1) fun iv s2 ⟨y, H2, I2, r2, q2⟩ => ?_))
  refine wpAny_bind (wpAny_standAt (wpAny_bind (wpAny_holding (thn (hs pins s2 σ H2 x y v ov iv u _ I2 r1 r2 r q2) fun _ s3 ⟨H3, I3, q3⟩ => ?_))))
  exact wpAny_release ⟨σ, H3, I3, q3⟩
/-- target = value -/
def tAsg (te : TE) (g : TG) : TS := fun D σ H => te σ H fun x H1 => g x σ H1 D.nx
theorem ps_asg {tg e : Expr} {te : TE} {g : TG} (he : PE X e te) (hg : PG X tg g) (hs : swapsWithSole [tg] e pos.line X.env = pure false := by rfl) (hw : swappedStores [tg] e X.env = pure none := by rfl)
    (h1 : (assignEach [tg] X.env).map (·.2) = [assign tg X.env] := by rfl) : PS X (.Assign [tg] e pos) (tAsg te g) := by
  intro pins s σ H D I h
  refine wpAny_Assign_stores (thn (he pins s σ H _ I h) fun v s1 ⟨x, H1, I1, r1, q1⟩ => ?_) hs hw
  rw [h1]
  exact thn (hg pins s1 σ H1 x v _ I1 r1 q1) fun _ s2 q => q
/-- name = value -/
theorem ps_set {i : Nat} {x : Str} {e : Expr} {te : TE} {pos' : Pos} (hN : X.N.Nodup) (hi : X.N[i]? = some x) (hx : Loc X.env.scope x) (he : PE X e te) (hs : swapsWith e (some (.Name x pos')) pos.line X.env = pure false := by rfl) (hf : X.fn x = true ∨ X.env.scope.names.lookup x = some .local := by first | exact .inl rfl | exact .inr rfl | assumption) :
    PS X (.Assign [.Name x pos'] e pos) (tAsg te (gName i)) := by
  intro pins s σ H D I h
  refine wpAny_Assign_Name (thn (he pins s σ H _ I h) fun v s1 ⟨y, H1, I1, r1, q1⟩ => ?_) hs
  exact store_ok I1 hN hi hx r1 (fun s2 I2 => ⟨_, H1, I2, q1⟩) hf
end

section
variable {X : Cx} {pos : Pos}
/-- the invariant W with its measure -/
def tWhile (c : TT) (tb : TS) : TS := fun D σ H => ∃ W : Nat → St → Hp → Prop, (∃ m, W m σ H) ∧ ∀ m σ H, W m σ H →
  c σ H fun b H1 => if b = true then ∃ N : St → Hp → Prop, (∀ σ' H', N σ' H' → ∃ m', m' < m ∧ W m' σ' H') ∧ tb { D with nx := N, ct := N, bk := D.nx } σ H1 else D.nx σ H1
theorem ps_while {c : Expr} {body : List Stmt} {tc : TT} {tb : TS} (hp : PassesOwn (model X.prog X.w) X.A X.env X.xe) (hc : PT X c tc) (hb : PSs X body tb) : PS X (.While c body [] pos) (tWhile tc tb) := by
  intro pins s σ H D I h
  obtain ⟨W, ⟨m0, w0⟩, turn⟩ := h
  refine wpAny_While (codeAny_whileLoop (fun n s' => ∃ σ' H', Inv X pins σ' H' s' ∧ W n σ' H') ?_ m0 ⟨σ, H, I, w0⟩)
  rintro n s1 ⟨σ1, H1, I1, w1⟩
  refine wpAny_passesOwn hp (thn (hc pins s1 σ1 H1 _ I1 (turn n σ1 H1 w1)) fun b s2 ⟨H2, I2, q2⟩ => ?_)
  cases b with
  | true =>
    obtain ⟨N, hN, q2⟩ := q2
    rw [if_pos rfl]
    refine wpAny_passesOwn hp (thn (hb pins s2 σ1 H2 _ I2 q2) fun f s3 q3 => ?_)
    cases f with
    | next =>
      obtain ⟨σ3, H3, I3, n3⟩ := q3
      obtain ⟨m', hm, w3⟩ := hN σ3 H3 n3
      exact ⟨m', hm, σ3, H3, I3, w3⟩
    | cont =>
      obtain ⟨σ3, H3, I3, n3⟩ := q3
      obtain ⟨m', hm, w3⟩ := hN σ3 H3 n3
      exact ⟨m', hm, σ3, H3, I3, w3⟩
    | brk => exact q3
    | ret v => exact q3
  | false =>
    rw [if_neg Bool.false_ne_true]
    exact wpAny_execs_nil ⟨σ1, H2, I2, q2⟩
end

/-- at turn i: it yields x (the heap may grow), or it stops -/
structure It where
  go : Nat → Hp → Prop
  yld : Nat → Hp → V → Hp → Prop
  stop : Nat → Hp → Prop
/-- the iterator's own objects may turn: they are not the frame's, not pinned, younger than the entry (or a comprehension's own) -/
def FpOk (X : Cx) (pins : List (Addr × Obj)) (H : Hp) (b : Addr) : Prop :=
  H b = none ∧ b ≠ X.env.locals ∧ b ∉ X.fs ∧ (b ∈ X.ex ∨ X.s₀.heap.objs.size ≤ b) ∧ (∀ x c, X.env.cells.lookup x = some c → c ≠ b) ∧ ∀ p ∈ X.pn ++ pins, p.1 ≠ b
theorem Inv.fpOk {X : Cx} {pins : List (Addr × Obj)} {σ : St} {H H' : Hp} {s : Shared} {b : Addr} (I : Inv X pins σ H s) (hb : s.heap.objs.size ≤ b) (hn : H' b = none) : FpOk X pins H' b := by
  refine ⟨hn, Nat.ne_of_gt (Nat.lt_of_lt_of_le I.lt hb), I.nofs hb, .inr (Nat.le_trans I.sz hb), fun x c e z => ?_, fun p hp z => ?_⟩
  · obtain ⟨v, q⟩ := I.cell x c e
    exact absurd (Nat.lt_of_lt_of_le q.lt (by rw [z]; exact hb)) (Nat.lt_irrefl _)
  · exact absurd (Nat.lt_of_lt_of_le (Heap.lt_size (I.pin p hp).1) (by rw [z]; exact hb)) (Nat.lt_irrefl _)
structure Turn (P : Program) (w : World) (K : PySem.W.Frag) (tg : Expr) (J : It) (fp : List Addr) (it : Addr) (tn : Nat → Heap → Prop) : Prop where
  mem : it ∈ fp
  obj : ∀ i h, tn i h → ∀ b ∈ fp, ∃ o, h.get? b = some o ∧ ∀ v, o.data ≠ .cell v
  keep : ∀ i h h', tn i h → (∀ b ∈ fp, ∀ o, h.get? b = some o → h'.get? b = some o) → tn i h'
  item : ∀ (X : Cx), X.prog = P → X.w = w → X.K = K → X.calm = true → ∀ (i : Nat) (pins : List (Addr × Obj)) (s : Shared) (σ : St) (H : Hp) (E : Value → Shared → Prop), Inv X pins σ H s → (∀ b ∈ fp, FpOk X pins H b) → tn i s.heap → J.go i H →
    wpAny (model P w) X.A (pyNext (.ref it)) (fun r s1 => ∃ u, r = some u ∧
      wpAny (model P w) X.A (letOwnedTupleGo tg (.ref it) u) (fun _ s2 => ∃ x H', Inv X pins σ H' s2 ∧ RelV x u ∧ J.yld i H x H' ∧ tn (i + 1) s2.heap ∧ ∀ b ∈ fp, H' b = none) E s1) E s
  done : ∀ (X : Cx), X.prog = P → X.w = w → X.K = K → X.calm = true → ∀ (i : Nat) (pins : List (Addr × Obj)) (s : Shared) (σ : St) (H : Hp) (E : Value → Shared → Prop), Inv X pins σ H s → (∀ b ∈ fp, FpOk X pins H b) → tn i s.heap → J.stop i H →
    wpAny (model P w) X.A (pyNext (.ref it)) (fun r s1 => r = none ∧ Inv X pins σ H s1) E s
  self : ∀ (A : Around) (i : Nat) (s : Shared) (Q : Value → Shared → Prop) (E : Value → Shared → Prop), tn i s.heap → Q (.ref it) s → wpAny (model P w) A (pyIter (.ref it)) Q E s
abbrev TI := St → Hp → (It → Hp → Prop) → Prop
/-- an iterator has come -/
def PIE (X : Cx) (pins : List (Addr × Obj)) (σ : St) (tg : Expr) (R : It → Hp → Prop) (itv : Value) (s2 : Shared) : Prop :=
  ∃ (it : Addr) (fp : List Addr) (tn : Nat → Heap → Prop) (J : It) (H' : Hp), itv = .ref it ∧ Inv X pins σ H' s2 ∧ Turn X.prog X.w X.K tg J fp it tn ∧ tn 0 s2.heap ∧ (∀ b ∈ fp, FpOk X pins H' b) ∧ R J H'
def PI (X : Cx) (tg iter : Expr) (wi : TI) : Prop :=
  ∀ (pins : List (Addr × Obj)) (s : Shared) (σ : St) (H : Hp) (R : It → Hp → Prop), Inv X pins σ H s → wi σ H R →
    wpAny (model X.prog X.w) X.A (eval iter X.env) (fun v s1 => wpAny (model X.prog X.w) X.A (pyIter v) (PIE X pins σ tg R) X.xe s1) X.xe s

/-- the step ahead of the store is nothing for an iterator that keeps no tuple -/
theorem go_of {M : Model} {A : Around} {E : Value → Shared → Prop} {s : Shared} {tg : Expr} {it : Addr} {u : Value} {o : Obj} {n : String} {vs : Array Value} {Q : Unit → Shared → Prop} (ho : s.heap.get? it = some o) (hc : o.cls = .type n) (hd : o.data = .fields vs)
    (hn : ["enumerate", "zip", "dict_itemiterator", "dict_reverseitemiterator", "odict_iterator", "itertools.zip_longest", "itertools.pairwise"].contains n = false) (hQ : Q () s) : wpAny M A (letOwnedTupleGo tg (.ref it) u) Q E s := by
  unfold letOwnedTupleGo
  cases tg <;> first
    | exact wpAny_pure hQ
    | (cases u <;> first
        | exact wpAny_pure hQ
        | (refine wpAny_bind (wpAny_load ho ?_)
           rw [hc, hd]
           show wpAny M A (if (["enumerate", "zip", "dict_itemiterator", "dict_reverseitemiterator", "odict_iterator", "itertools.zip_longest", "itertools.pairwise"].contains n && vs[0]? == some (rawInt _)) = true then _ else _) Q E s
           rw [if_neg (by intro h; rw [hn, Bool.false_and] at h; cases h)]
           exact wpAny_pure hQ))

/-- the list at a, as it stands at each turn (a loop may append to it) -/
def Itl (K : PySem.W.Frag) (a : Addr) : It :=
  ⟨fun i H => ∃ xs x, SqL K H a xs ∧ xs[i]? = some x, fun i H x H' => H' = H ∧ ∀ xs, SqL K H a xs → xs[i]? = some x, fun i H => ∃ xs, SqL K H a xs ∧ xs.length ≤ i⟩
def Itt (K : PySem.W.Frag) (a : Addr) : It :=
  ⟨fun i H => ∃ xs x, SqT K H a xs ∧ xs[i]? = some x, fun i H x H' => H' = H ∧ ∀ xs, SqT K H a xs → xs[i]? = some x, fun i H => ∃ xs, SqT K H a xs ∧ xs.length ≤ i⟩
/-- lo, lo + 1, .. (n of them) -/
def Itr (lo : Int) (n : Nat) : It := ⟨fun i _ => i < n, fun i H x H' => H' = H ∧ x = .int (lo + i), fun i _ => n ≤ i⟩
theorem turn_list {P : Program} {w : World} {K : PySem.W.Frag} {tg : Expr} (a it : Addr) : Turn P w K tg (Itl K a) [it] it (fun i h => h.IsListIter it a i) where
  mem := by simp
  obj := fun i h st b hb => by
    have e : b = it := by simpa using hb
    subst e
    obtain ⟨o, e, c, d⟩ := st
    exact ⟨o, e, fun v z => by rw [d] at z; cases z⟩
  keep := fun i h h' st k => st.at fun o e => k it (by simp) o e
  item := by
    intro X hP hw hK hc i pins s σ H E I hf st hg
    subst hP hw hK
    obtain ⟨xs, x, hq, hx⟩ := hg
    obtain ⟨its, rv, p, hz⟩ := I.list hq
    obtain ⟨u, hu, ru⟩ := rv.get hx
    obtain ⟨f0, f1, f2, f3, f4, f5⟩ := hf it (by simp)
    refine wpAny_pyNext_list_item st p.isList (x := u) (by simpa using hu) fun h' st' sb => ?_
    have I1 : Inv X pins σ H { s with heap := h' } := I.turned (t' := s.toks) (fun b o hb e => (sb.2 b hb).trans e) f0 f1 f3 f4 f5
    obtain ⟨o, e, c, d⟩ := id st'
    exact ⟨u, rfl, go_of (s := { s with heap := h' }) e c d (by decide) ⟨x, H, I1, ru, ⟨rfl, fun ys hy => by rw [I.list_inj hy hq]; exact hx⟩, st', fun b hb => (hf b hb).1⟩⟩
  done := by
    intro X hP hw hK hc i pins s σ H E I hf st hg
    subst hP hw hK
    obtain ⟨xs, hq, hx⟩ := hg
    obtain ⟨its, rv, p, hz⟩ := I.list hq
    obtain ⟨f0, f1, f2, f3, f4, f5⟩ := hf it (by simp)
    have hl := rv.length
    exact wpAny_pyNext_list_end (I.ok.hd hc) st p.isList (by simp; first | lia | omega) fun h' eb => ⟨rfl, I.turned (t' := s.toks) (fun b o hb e => eb b o hb e) f0 f1 f3 f4 f5⟩
  self := fun _ _ _ _ _ st h => wpAny_pyIter_listiter st h
theorem turn_tuple {P : Program} {w : World} {K : PySem.W.Frag} {tg : Expr} (a it : Addr) : Turn P w K tg (Itt K a) [it] it (fun i h => h.IsTupleIter it a i) where
  mem := by simp
  obj := fun i h st b hb => by
    have e : b = it := by simpa using hb
    subst e
    obtain ⟨o, e, c, d⟩ := st
    exact ⟨o, e, fun v z => by rw [d] at z; cases z⟩
  keep := fun i h h' st k => st.at fun o e => k it (by simp) o e
  item := by
    intro X hP hw hK hc i pins s σ H E I hf st hg
    subst hP hw hK
    obtain ⟨xs, x, hq, hx⟩ := hg
    obtain ⟨its, rv, p, hz⟩ := I.tuple hq
    obtain ⟨u, hu, ru⟩ := rv.get hx
    obtain ⟨f0, f1, f2, f3, f4, f5⟩ := hf it (by simp)
    refine wpAny_pyNext_tuple_item st (show s.heap.IsTuple a its.toArray from p) (x := u) (by simpa using hu) fun h' st' sb => ?_
    have I1 : Inv X pins σ H { s with heap := h' } := I.turned (t' := s.toks) (fun b o hb e => (sb.2 b hb).trans e) f0 f1 f3 f4 f5
    obtain ⟨o, e, c, d⟩ := id st'
    exact ⟨u, rfl, go_of (s := { s with heap := h' }) e c d (by decide) ⟨x, H, I1, ru, ⟨rfl, fun ys hy => by rw [I.tuple_inj hy hq]; exact hx⟩, st', fun b hb => (hf b hb).1⟩⟩
  done := by
    intro X hP hw hK hc i pins s σ H E I hf st hg
    subst hP hw hK
    obtain ⟨xs, hq, hx⟩ := hg
    obtain ⟨its, rv, p, hz⟩ := I.tuple hq
    obtain ⟨f0, f1, f2, f3, f4, f5⟩ := hf it (by simp)
    have hl := rv.length
    exact wpAny_pyNext_tuple_end (I.ok.hd hc) st (show s.heap.IsTuple a its.toArray from p) (by simp; first | lia | omega) fun h' eb => ⟨rfl, I.turned (t' := s.toks) (fun b o hb e => eb b o hb e) f0 f1 f3 f4 f5⟩
  self := fun _ _ _ _ _ st h => wpAny_pyIter_tupleiter st h
theorem turn_range {P : Program} {w : World} {K : PySem.W.Frag} {tg : Expr} (it : Addr) (lo : Int) (n : Nat) : Turn P w K tg (Itr lo n) [it] it (fun i h => IsRangeIter h it (lo + (i : Nat) * 1) ((n : Int) - (i : Nat)) 1) where
  mem := by simp
  obj := fun i h st b hb => by
    have e : b = it := by simpa using hb
    subst e
    exact ⟨_, st, fun v z => by
      have z' : Data.fields _ = Data.cell v := z
      cases z'⟩
  keep := fun i h h' st k => k it (by simp) _ st
  item := by
    intro X hP hw hK hc i pins s σ H E I hf st hg
    subst hP hw hK
    obtain ⟨f0, f1, f2, f3, f4, f5⟩ := hf it (by simp)
    have W := Walks.range (prog := X.prog) (w := X.w) (I.ok.hd hc) it lo 1 n
    refine W.item i s _ _ hg st fun v h' tk hv st' kk => ?_
    obtain ⟨t, rfl⟩ := hv
    have I1 : Inv X pins σ H { s with heap := h', toks := tk } := I.turned (fun b o hb e => kk b o (by simpa using hb) e) f0 f1 f3 f4 f5
    refine ⟨_, rfl, go_of (s := { s with heap := h', toks := tk }) (n := "range_iterator") st' rfl rfl (by decide) ⟨.int (lo + i), H, I1, ⟨t, ?_⟩, ⟨rfl, rfl⟩, st', fun b hb => (hf b hb).1⟩⟩
    rw [Int.mul_one]
  done := by
    intro X hP hw hK hc i pins s σ H E I hf st hg
    subst hP hw hK
    obtain ⟨f0, f1, f2, f3, f4, f5⟩ := hf it (by simp)
    exact wpAny_pyNext_range_end (I.ok.hd hc) st (by have : n ≤ i := hg; first | lia | omega) fun h' eb => ⟨rfl, I.turned (t' := s.toks) (fun b o hb e => eb b o hb e) f0 f1 f3 f4 f5⟩
  self := fun _ _ _ _ _ st h => wpAny_pyIter_rangeiter st h
end L2

namespace L2
open PySem PySem.Spec PyProof.Rows
section
variable {X : Cx} {tg : Expr}
def iList (K : PySem.W.Frag) (tl : TE) : TI := fun σ H R => tl σ H fun x H1 => ∃ a, x = .ref a ∧ (∃ xs, SqL K H1 a xs) ∧ R (Itl K a) H1
def iTup (K : PySem.W.Frag) (tl : TE) : TI := fun σ H R => tl σ H fun x H1 => ∃ a, x = .ref a ∧ (∃ xs, SqT K H1 a xs) ∧ R (Itt K a) H1
theorem pi_list {l : Expr} {tl : TE} (hl : PE X l tl) : PI X tg l (iList X.K tl) := by
  intro pins s σ H R I h
  refine thn (hl pins s σ H _ I h) fun v s1 ⟨x, H1, I1, r1, q1⟩ => ?_
  obtain ⟨a, e, ⟨xs, hq⟩, q⟩ := q1
  subst e
  cases r1
  obtain ⟨its, rv, p, hz⟩ := I1.list hq
  refine wpAny_pyIter_list p.isList ?_
  refine ⟨s1.heap.objs.size, [s1.heap.objs.size], _, _, H1, rfl, I1.kept (t' := s1.toks) fun b o e => Heap.get?_push_of_some _ e, turn_list a _, ⟨_, Heap.get?_push_size _ rfl, rfl, rfl⟩, fun b hb => ?_, q⟩
  have e : b = s1.heap.objs.size := by simpa using hb
  subst e
  exact I1.fpOk (Nat.le_refl _) (I1.hok.fresh (Nat.le_refl _))
theorem pi_tup {l : Expr} {tl : TE} (hl : PE X l tl) : PI X tg l (iTup X.K tl) := by
  intro pins s σ H R I h
  refine thn (hl pins s σ H _ I h) fun v s1 ⟨x, H1, I1, r1, q1⟩ => ?_
  obtain ⟨a, e, ⟨xs, hq⟩, q⟩ := q1
  subst e
  cases r1
  obtain ⟨its, rv, p, hz⟩ := I1.tuple hq
  refine wpAny_pyIter_tuple (show s1.heap.IsTuple a its.toArray from p) ?_
  refine ⟨s1.heap.objs.size, [s1.heap.objs.size], _, _, H1, rfl, I1.kept (t' := s1.toks) fun b o e => Heap.get?_push_of_some _ e, turn_tuple a _, ⟨_, Heap.get?_push_size _ rfl, rfl, rfl⟩, fun b hb => ?_, q⟩
  have e : b = s1.heap.objs.size := by simpa using hb
  subst e
  exact I1.fpOk (Nat.le_refl _) (I1.hok.fresh (Nat.le_refl _))
/-- a range object just made, walked -/
theorem range_it {pins : List (Addr × Obj)} {σ : St} {H : Hp} {s : Shared} {R : It → Hp → Prop} {E : Value → Shared → Prop} {lo hi : Int} {t u v : Tok} {tk : Nat} (I : Inv X pins σ H s) (h1 : -(2 ^ 62) ≤ lo) (h2 : lo < 2 ^ 62) (h3 : -(2 ^ 62) ≤ hi) (h4 : hi < 2 ^ 62)
    (q : R (Itr lo (hi - lo).toNat) H) : wpAny (model X.prog X.w) X.A (pyIter (.ref s.heap.objs.size)) (PIE X pins σ tg R) E { s with heap := s.heap.push { cls := .type "range", data := .fields #[.int lo t, .int hi u, .int 1 v] }, toks := tk } := by
  refine wpAny_pyIter_range (IsRange.new ..) (small_one h1 h2 h3 h4) ?_
  have I1 : Inv X pins σ H { s with heap := s.heap.push { cls := .type "range", data := .fields #[.int lo t, .int hi u, .int 1 v] }, toks := tk } := I.kept fun b o e => Heap.get?_push_of_some _ e
  refine ⟨(s.heap.push { cls := .type "range", data := .fields #[.int lo t, .int hi u, .int 1 v] }).objs.size, [(s.heap.push { cls := .type "range", data := .fields #[.int lo t, .int hi u, .int 1 v] }).objs.size], _, _, H, rfl,
    I1.kept (t' := tk) fun b o e => Heap.get?_push_of_some _ e, turn_range _ lo (hi - lo).toNat, ?_, fun b hb => ?_, q⟩
  · have e1 : lo + ((0 : Nat) : Int) * 1 = lo := by simp
    have e2 : (((hi - lo).toNat : Nat) : Int) - ((0 : Nat) : Int) = Builtin.Range.rangeSize lo hi 1 := by rw [rangeSize_one]; split <;> first | lia | omega
    show IsRangeIter _ _ (lo + ((0 : Nat) : Int) * 1) ((((hi - lo).toNat : Nat) : Int) - ((0 : Nat) : Int)) 1
    rw [e1, e2]
    exact Heap.get?_push_size _ rfl
  · have e : b = (s.heap.push { cls := .type "range", data := .fields #[.int lo t, .int hi u, .int 1 v] }).objs.size := by simpa using hb
    subst e
    exact I1.fpOk (Nat.le_refl _) (I1.hok.fresh (Nat.le_refl _))
def iRng1 (ta : TA) : TI := fun σ H R => ta σ H fun vs H1 => ∃ j : Int, vs = [.int j] ∧ -(2 ^ 62) ≤ j ∧ j < 2 ^ 62 ∧ R (Itr 0 j.toNat) H1
def iRng2 (ta : TA) : TI := fun σ H R => ta σ H fun vs H1 => ∃ i j : Int, vs = [.int i, .int j] ∧ (-(2 ^ 62) ≤ i ∧ i < 2 ^ 62 ∧ -(2 ^ 62) ≤ j ∧ j < 2 ^ 62) ∧ R (Itr i (j - i).toNat) H1
theorem pi_range1 {a : Expr} {ta : TA} {p pos : Pos} (hg : Gl X "range") (hm : X.mg "range" = none) (ha : PA X [a] ta) (hs : starEach [a] X.env = [(false, eval a X.env)] := by rfl) : PI X tg (.Call (.Name "range" p) [a] [] pos) (iRng1 ta) := by
  intro pins s σ H R I h
  refine Call_ (ld_blt I hg hm boot_range (PyProof.Rows.callWith_type1 (thn (ha pos pins s σ H _ I h) fun us s1 ⟨vs, H1, I1, r1, q1⟩ => ?_) hs rfl))
  obtain ⟨j, e, q1, q2, q⟩ := q1
  subst e
  cases r1 with
  | cons r rr =>
    cases rr
    obtain ⟨t, rfl⟩ := r
    exact call_range_1 (range_it I1 (by first | lia | omega) (by first | lia | omega) q1 q2 (by simpa using q))
theorem pi_range2 {a b : Expr} {ta : TA} {p pos : Pos} (hg : Gl X "range") (hm : X.mg "range" = none) (ha : PA X [a, b] ta) (hs : starEach [a, b] X.env = [(false, eval a X.env), (false, eval b X.env)] := by rfl) (hs2 : starEach [b] X.env = [(false, eval b X.env)] := by rfl) :
    PI X tg (.Call (.Name "range" p) [a, b] [] pos) (iRng2 ta) := by
  intro pins s σ H R I h
  refine Call_ (ld_blt I hg hm boot_range (PyProof.Rows.callWith_type1 (thn (ha pos pins s σ H _ I h) fun us s1 ⟨vs, H1, I1, r1, q1⟩ => ?_) (by rw [hs, hs2]) (by rw [hs2]; rfl)))
  obtain ⟨i, j, e, ⟨q1, q2, q3, q4⟩, q⟩ := q1
  subst e
  cases r1 with
  | cons r rr =>
    cases rr with
    | cons r' rr =>
      cases rr
      obtain ⟨t, rfl⟩ := r
      obtain ⟨t', rfl⟩ := r'
      exact call_range_2 (range_it I1 q1 q2 q3 q4 q)

/-- W: the invariant by the turn and a measure; N: what the body is to reach -/
def tFor (wi : TI) (g : TG) (tb : TS) : TS := fun D σ H => wi σ H fun J H1 => ∃ W : Nat → Nat → St → Hp → Prop, (∃ m, W 0 m σ H1) ∧ ∀ i m σ H, W i m σ H →
  (J.stop i H ∧ D.nx σ H) ∨ (J.go i H ∧ ∃ N : St → Hp → Prop, (∀ σ' H', N σ' H' → ∃ m', m' < m ∧ W (i + 1) m' σ' H') ∧ ∀ x H', J.yld i H x H' → g x σ H' fun σ2 H2 => tb { D with nx := N, ct := N, bk := D.nx } σ2 H2)
/-- the records at fp as they stand -/
def pinsAt (fp : List Addr) (h : Heap) : List (Addr × Obj) := fp.filterMap fun b => (h.get? b).map fun o => (b, o)
theorem mem_pinsAt {fp : List Addr} {h : Heap} {b : Addr} {o : Obj} (hb : b ∈ fp) (e : h.get? b = some o) : (b, o) ∈ pinsAt fp h := List.mem_filterMap.mpr ⟨b, hb, by rw [e]; rfl⟩
theorem of_pinsAt {fp : List Addr} {h : Heap} {p : Addr × Obj} (hp : p ∈ pinsAt fp h) : p.1 ∈ fp ∧ h.get? p.1 = some p.2 := by
  obtain ⟨b, hb, e⟩ := List.mem_filterMap.mp hp
  cases q : h.get? b with
  | none => rw [q] at e; cases e
  | some o =>
    rw [q] at e
    have e' : (b, o) = p := Option.some.inj e
    subst e'
    exact ⟨hb, q⟩
theorem Inv.pinned {pins : List (Addr × Obj)} {σ : St} {H : Hp} {s : Shared} {fp : List Addr} (I : Inv X pins σ H s) (hf : ∀ b ∈ fp, FpOk X pins H b) (ho : ∀ b ∈ fp, ∃ o, s.heap.get? b = some o ∧ ∀ v, o.data ≠ .cell v) : Inv X (pins ++ pinsAt fp s.heap) σ H s :=
  I.pins_of fun p hp => (List.mem_append.mp hp).elim (fun z => I.pin p (List.mem_append_right _ z)) fun z => by
    obtain ⟨hb, e⟩ := of_pinsAt z
    obtain ⟨f0, f1, f2, _⟩ := hf p.1 hb
    obtain ⟨o, e', d⟩ := ho p.1 hb
    rw [e] at e'; cases e'
    exact ⟨e, f0, f1, f2, d⟩
theorem Inv.unpinned {pins pl : List (Addr × Obj)} {σ : St} {H : Hp} {s : Shared} (I : Inv X (pins ++ pl) σ H s) : Inv X pins σ H s := I.pins_of fun p hp => I.pin p (List.mem_append_right _ (List.mem_append_left _ hp))
theorem ps_for {iter : Expr} {body : List Stmt} {wi : TI} {g : TG} {tb : TS} {pos : Pos} (hp : PassesOwn (model X.prog X.w) X.A X.env X.xe) (hc : X.calm = true) (hi : PI X tg iter wi) (hg : PG X tg g) (hb : PSs X body tb)
    (hs : ∀ x, foldedSetIterable iter X.env x = pure x := by intro _; rfl) : PS X (.For tg iter body [] pos) (tFor wi g tb) := by
  intro pins s σ H D I h
  refine wpAny_For (thn (hi pins s σ H _ I h) fun v s1 h1 => thn h1 fun itv s2 h2 => ?_) hs
  obtain ⟨it, fp, tn, J, H2, e, I2, T, st2, f2, W, ⟨m0, w0⟩, turn⟩ := h2
  subst e
  -- what stays true of the iterator's objects through the loop
  have stat : ∀ {H' : Hp}, (∀ b ∈ fp, H' b = none) → ∀ b ∈ fp, FpOk X pins H' b := fun hn b hb => ⟨hn b hb, (f2 b hb).2⟩
  refine codeAny_forLoop_any (fun n s' => ∃ i σ' H', Inv X pins σ' H' s' ∧ tn i s'.heap ∧ (∀ b ∈ fp, H' b = none) ∧ W i n σ' H') ?_ m0 ⟨0, σ, H2, I2, st2, fun b hb => (f2 b hb).1, w0⟩
  rintro n s3 ⟨i, σ3, H3, I3, st3, fr3, w3⟩
  rcases turn i n σ3 H3 w3 with ⟨stop, qn⟩ | ⟨go, N, hN, step⟩
  · refine wpAny_passesOwn hp (thn (T.done X rfl rfl rfl hc i pins s3 σ3 H3 X.xe I3 (stat fr3) st3 stop) fun r s4 ⟨hr, I4⟩ => ?_)
    subst hr
    exact wpAny_execs_nil ⟨σ3, H3, I4, qn⟩
  · refine wpAny_passesOwn hp (thn (T.item X rfl rfl rfl hc i pins s3 σ3 H3 X.xe I3 (stat fr3) st3 go) fun r s4 ⟨u, hr, h4⟩ => ?_)
    subst hr
    refine wpAny_passesOwn hp (thn h4 fun _ s5 ⟨x, H5, I5, r5, y5, st5, fr5⟩ => ?_)
    have I5' := I5.pinned (stat fr5) (T.obj _ _ st5)
    refine wpAny_passesOwn hp (thn (hg _ s5 σ3 H5 x u _ I5' r5 (step x H5 y5)) fun _ s6 ⟨σ6, H6, I6, q6⟩ => ?_)
    refine wpAny_passesOwn hp (thn (hb _ s6 σ6 H6 _ I6 q6) fun f s7 q7 => ?_)
    have again : ∀ {σ7 : St} {H7 : Hp}, Inv X (pins ++ pinsAt fp s5.heap) σ7 H7 s7 → N σ7 H7 → ∃ m, m < n ∧ ∃ i σ' H', Inv X pins σ' H' s7 ∧ tn i s7.heap ∧ (∀ b ∈ fp, H' b = none) ∧ W i m σ' H' := fun {σ7 H7} I7 n7 => by
      obtain ⟨m', hm, w7⟩ := hN σ7 H7 n7
      refine ⟨m', hm, i + 1, σ7, H7, I7.unpinned, T.keep _ _ _ st5 fun b hb o e => (I7.pin (b, o) (List.mem_append_right _ (List.mem_append_right _ (mem_pinsAt hb e)))).1, fun b hb => ?_, w7⟩
      obtain ⟨o, e, d⟩ := T.obj _ _ st5 b hb
      exact (I7.pin (b, o) (List.mem_append_right _ (List.mem_append_right _ (mem_pinsAt hb e)))).2.1
    cases f with
    | next => obtain ⟨σ7, H7, I7, n7⟩ := q7; exact again I7 n7
    | cont => obtain ⟨σ7, H7, I7, n7⟩ := q7; exact again I7 n7
    | brk => obtain ⟨σ7, H7, I7, q7⟩ := q7; exact ⟨σ7, H7, I7.unpinned, q7⟩
    | ret v => obtain ⟨x7, σ7, H7, I7, r7, q7⟩ := q7; exact ⟨x7, σ7, H7, I7.unpinned, r7, q7⟩
end

/-- over a list that the body leaves as it is -/
theorem for_list {K : PySem.W.Frag} {a : Addr} {xs : List V} {g : TG} {tb : TS} {D : Ends} {σ : St} {H : Hp} (Pv : Nat → St → Hp → Prop) (h0 : Pv 0 σ H) (hl : ∀ i σ H, i ≤ xs.length → Pv i σ H → SqL K H a xs)
    (hs : ∀ i x σ H, xs[i]? = some x → Pv i σ H → g x σ H fun σ2 H2 => tb { D with nx := Pv (i + 1), ct := Pv (i + 1), bk := D.nx } σ2 H2) (hd : ∀ σ H, Pv xs.length σ H → D.nx σ H) :
    ∃ W : Nat → Nat → St → Hp → Prop, (∃ m, W 0 m σ H) ∧ ∀ i m σ H, W i m σ H →
      ((Itl K a).stop i H ∧ D.nx σ H) ∨ ((Itl K a).go i H ∧ ∃ N : St → Hp → Prop, (∀ σ' H', N σ' H' → ∃ m', m' < m ∧ W (i + 1) m' σ' H') ∧ ∀ x H', (Itl K a).yld i H x H' → g x σ H' fun σ2 H2 => tb { D with nx := N, ct := N, bk := D.nx } σ2 H2) := by
  refine ⟨fun i m σ H => m = xs.length - i ∧ i ≤ xs.length ∧ Pv i σ H, ⟨xs.length, by simp, Nat.zero_le _, h0⟩, ?_⟩
  rintro i m σ H ⟨rfl, hi, p⟩
  have q := hl i σ H hi p
  by_cases hlt : i < xs.length
  · refine .inr ⟨⟨xs, xs[i], q, by simp [hlt]⟩, Pv (i + 1), fun σ' H' p' => ⟨xs.length - (i + 1), by first | lia | omega, rfl, hlt, p'⟩, fun x H' y => ?_⟩
    obtain ⟨e, y⟩ := y
    subst e
    exact hs i x σ _ (y xs q) p
  · have e : i = xs.length := by first | lia | omega
    subst e
    exact .inl ⟨⟨xs, q, Nat.le_refl _⟩, hd σ H p⟩
theorem for_tup {K : PySem.W.Frag} {a : Addr} {xs : List V} {g : TG} {tb : TS} {D : Ends} {σ : St} {H : Hp} (Pv : Nat → St → Hp → Prop) (h0 : Pv 0 σ H) (hl : ∀ i σ H, i ≤ xs.length → Pv i σ H → SqT K H a xs)
    (hs : ∀ i x σ H, xs[i]? = some x → Pv i σ H → g x σ H fun σ2 H2 => tb { D with nx := Pv (i + 1), ct := Pv (i + 1), bk := D.nx } σ2 H2) (hd : ∀ σ H, Pv xs.length σ H → D.nx σ H) :
    ∃ W : Nat → Nat → St → Hp → Prop, (∃ m, W 0 m σ H) ∧ ∀ i m σ H, W i m σ H →
      ((Itt K a).stop i H ∧ D.nx σ H) ∨ ((Itt K a).go i H ∧ ∃ N : St → Hp → Prop, (∀ σ' H', N σ' H' → ∃ m', m' < m ∧ W (i + 1) m' σ' H') ∧ ∀ x H', (Itt K a).yld i H x H' → g x σ H' fun σ2 H2 => tb { D with nx := N, ct := N, bk := D.nx } σ2 H2) := by
  refine ⟨fun i m σ H => m = xs.length - i ∧ i ≤ xs.length ∧ Pv i σ H, ⟨xs.length, by simp, Nat.zero_le _, h0⟩, ?_⟩
  rintro i m σ H ⟨rfl, hi, p⟩
  have q := hl i σ H hi p
  by_cases hlt : i < xs.length
  · refine .inr ⟨⟨xs, xs[i], q, by simp [hlt]⟩, Pv (i + 1), fun σ' H' p' => ⟨xs.length - (i + 1), by first | lia | omega, rfl, hlt, p'⟩, fun x H' y => ?_⟩
    obtain ⟨e, y⟩ := y
    subst e
    exact hs i x σ _ (y xs q) p
  · have e : i = xs.length := by first | lia | omega
    subst e
    exact .inl ⟨⟨xs, q, Nat.le_refl _⟩, hd σ H p⟩
theorem for_range {lo : Int} {n : Nat} {g : TG} {tb : TS} {D : Ends} {σ : St} {H : Hp} (Pv : Nat → St → Hp → Prop) (h0 : Pv 0 σ H)
    (hs : ∀ i σ H, i < n → Pv i σ H → g (.int (lo + i)) σ H fun σ2 H2 => tb { D with nx := Pv (i + 1), ct := Pv (i + 1), bk := D.nx } σ2 H2) (hd : ∀ σ H, Pv n σ H → D.nx σ H) :
    ∃ W : Nat → Nat → St → Hp → Prop, (∃ m, W 0 m σ H) ∧ ∀ i m σ H, W i m σ H →
      ((Itr lo n).stop i H ∧ D.nx σ H) ∨ ((Itr lo n).go i H ∧ ∃ N : St → Hp → Prop, (∀ σ' H', N σ' H' → ∃ m', m' < m ∧ W (i + 1) m' σ' H') ∧ ∀ x H', (Itr lo n).yld i H x H' → g x σ H' fun σ2 H2 => tb { D with nx := N, ct := N, bk := D.nx } σ2 H2) := by
  refine ⟨fun i m σ H => m = n - i ∧ i ≤ n ∧ Pv i σ H, ⟨n, by simp, Nat.zero_le _, h0⟩, ?_⟩
  rintro i m σ H ⟨rfl, hi, p⟩
  by_cases hlt : i < n
  · refine .inr ⟨hlt, Pv (i + 1), fun σ' H' p' => ⟨n - (i + 1), by first | lia | omega, rfl, hlt, p'⟩, fun x H' y => ?_⟩
    obtain ⟨e, y⟩ := y
    subst e y
    exact hs i σ _ hlt p
  · have e : i = n := by first | lia | omega
    subst e
    exact .inl ⟨Nat.le_refl _, hd σ H p⟩
/-- while, by a word and a measure of the state -/
theorem while_by {c : TT} {tb : TS} {D : Ends} {σ : St} {H : Hp} (Pv : St → Hp → Prop) (μ : St → Hp → Nat) (h0 : Pv σ H)
    (hs : ∀ σ H, Pv σ H → c σ H fun b H1 => if b = true then tb { D with nx := fun σ' H' => Pv σ' H' ∧ μ σ' H' < μ σ H, ct := fun σ' H' => Pv σ' H' ∧ μ σ' H' < μ σ H, bk := D.nx } σ H1 else D.nx σ H1)
    (mono : ∀ σ H Q Q', (∀ b H1, Q b H1 → Q' b H1) → c σ H Q → c σ H Q') : tWhile c tb D σ H := by
  refine ⟨fun m σ H => m = μ σ H ∧ Pv σ H, ⟨_, rfl, h0⟩, ?_⟩
  rintro m σ H ⟨rfl, p⟩
  refine mono σ H _ _ (fun b H1 q => ?_) (hs σ H p)
  cases b with
  | true => exact ⟨_, fun σ' H' ⟨p', l⟩ => ⟨_, l, rfl, p'⟩, q⟩
  | false => exact q
end L2

namespace L2
open PySem PySem.Spec PyProof.Rows

abbrev R2 := V → V → Hp → VK → Prop
/-- a two-place operation on values: f is binaryOp op, inplaceOp op or compareOp op -/
def OpR (X : Cx) (f : Value → Value → Sem Value) (r : R2) : Prop :=
  ∀ (pins : List (Addr × Obj)) (s : Shared) (σ : St) (H : Hp) (x y : V) (v u : Value) (Q : VK), Inv X pins σ H s → RelV x v → RelV y u → r x y H Q →
    wpAny (model X.prog X.w) X.A (f v u) (EP X pins σ Q) X.xe s
/-- a call of a value that is known (a builtin, a type) with values -/
def CallR (X : Cx) (f : Value) (r : List V → Hp → VK → Prop) : Prop :=
  ∀ (pins : List (Addr × Obj)) (s : Shared) (σ : St) (H : Hp) (xs : List V) (us : List Value) (Q : VK), Inv X pins σ H s → Vals xs us → r xs H Q →
    wpAny (model X.prog X.w) X.A (call f us) (EP X pins σ Q) X.xe s
def tOp (r : R2) (ta tb : TE) : TE := fun σ H Q => ta σ H fun x H1 => tb σ H1 fun y H2 => r x y H2 Q
/-- ints in, under C, and a value out -/
def rI (C : Int → Int → Prop) (g : Int → Int → V) : R2 := fun x y H Q => ∃ i j, x = .int i ∧ y = .int j ∧ C i j ∧ Q (g i j) H
def rI0 (g : Int → Int → V) : R2 := fun x y H Q => ∃ i j, x = .int i ∧ y = .int j ∧ Q (g i j) H
section
variable {X : Cx} {a b c : Expr} {ta tb tc : TE} {pos : Pos}

theorem binT (ha : PE X a ta) (hb : PE X b tb) {pins : List (Addr × Obj)} {s : Shared} {σ : St} {H : Hp} {R : V → V → Hp → Prop} (I : Inv X pins σ H s)
    (h : ta σ H fun x H1 => tb σ H1 fun y H2 => R x y H2) {Q : Value → Shared → Prop} {f : Value → Value → Sem Value}
    (hf : ∀ v u s2 x y H2, Inv X pins σ H2 s2 → RelV x v → RelV y u → R x y H2 → wpAny (model X.prog X.w) X.A (f v u) Q X.xe s2) :
    wpAny (model X.prog X.w) X.A (eval a X.env) (fun v s₁ => wpAny (model X.prog X.w) X.A (eval b X.env) (fun u s₂ => wpAny (model X.prog X.w) X.A (f v u) Q X.xe s₂) X.xe s₁) X.xe s := by
  refine thn (ha pins s σ H _ I h) fun v s1 ⟨x, H1, I1, r1, q1⟩ => ?_
  refine thn (hb pins s1 σ H1 _ I1 q1) fun u s2 ⟨y, H2, I2, r2, q2⟩ => ?_
  exact hf v u s2 x y H2 I2 r1 r2 q2

theorem pe_op {op : Operator} {r : R2} (ho : OpR X (binaryOp op) r) (ha : PE X a ta) (hb : PE X b tb) : PE X (.BinOp a op b pos) (tOp r ta tb) := by
  intro pins s σ H Q I h
  exact wpAny_BinOp (binT ha hb I h fun v u s2 x y H2 I2 rx ry q => ho pins s2 σ H2 x y v u Q I2 rx ry q)
theorem opI {f : Value → Value → Sem Value} {C : Int → Int → Prop} {g : Int → Int → Int}
    (rule : ∀ (i j : Int) (t u : Tok) (s : Shared) (Q : Value → Shared → Prop) (E : Value → Shared → Prop), C i j → Q (.int (g i j) s.toks) { s with toks := s.toks + 1 } → wpAny (model X.prog X.w) X.A (f (.int i t) (.int j u)) Q E s) :
    OpR X f (rI C fun i j => .int (g i j)) := by
  intro pins s σ H x y v u Q I rx ry h
  obtain ⟨i, j, rfl, rfl, hc, q⟩ := h
  obtain ⟨t, rfl⟩ := rx
  obtain ⟨t', rfl⟩ := ry
  exact rule i j t t' s _ _ hc ⟨.int (g i j), H, I.tok _, ⟨_, rfl⟩, q⟩
theorem opI0 {f : Value → Value → Sem Value} {g : Int → Int → Int}
    (rule : ∀ (i j : Int) (t u : Tok) (s : Shared) (Q : Value → Shared → Prop) (E : Value → Shared → Prop), Q (.int (g i j) s.toks) { s with toks := s.toks + 1 } → wpAny (model X.prog X.w) X.A (f (.int i t) (.int j u)) Q E s) :
    OpR X f (rI0 fun i j => .int (g i j)) := by
  intro pins s σ H x y v u Q I rx ry h
  obtain ⟨i, j, rfl, rfl, q⟩ := h
  obtain ⟨t, rfl⟩ := rx
  obtain ⟨t', rfl⟩ := ry
  exact rule i j t t' s _ _ ⟨.int (g i j), H, I.tok _, ⟨_, rfl⟩, q⟩
theorem opB0 {f : Value → Value → Sem Value} {g : Int → Int → Bool}
    (rule : ∀ (i j : Int) (t u : Tok) (s : Shared) (Q : Value → Shared → Prop) (E : Value → Shared → Prop), Q (.bool (g i j)) s → wpAny (model X.prog X.w) X.A (f (.int i t) (.int j u)) Q E s) :
    OpR X f (rI0 fun i j => .bl (g i j)) := by
  intro pins s σ H x y v u Q I rx ry h
  obtain ⟨i, j, rfl, rfl, q⟩ := h
  obtain ⟨t, rfl⟩ := rx
  obtain ⟨t', rfl⟩ := ry
  exact rule i j t t' s _ _ ⟨.bl (g i j), H, I, rfl, q⟩

def CPow (i j : Int) : Prop := 0 ≤ j ∧ j ≤ 1000000 ∧ i.natAbs < 2 ^ 64
theorem op_add : OpR X (binaryOp .Add) (rI0 fun i j => .int (i + j)) := opI0 fun _ _ _ _ _ _ _ q => add_int q
theorem op_sub : OpR X (binaryOp .Sub) (rI0 fun i j => .int (i - j)) := opI0 fun _ _ _ _ _ _ _ q => sub_int q
/-- % by a positive divisor of any size -/
theorem op_mod : OpR X (binaryOp .Mod) (rI (fun _ j => 0 < j) fun i j => .int (i % j)) := opI fun i j _ _ _ _ _ hc q => by
  have h1 : (0 : Int) < j := hc
  exact mod_int' (by first | lia | omega) (by rw [Int.fmod_eq_emod_of_nonneg i (by first | lia | omega)]; exact q)
theorem op_pow : OpR X (binaryOp .Pow) (rI CPow fun i j => .int (i ^ j.toNat)) := opI fun _ _ _ _ _ _ _ hc q => pow_int_small hc.1 hc.2.1 hc.2.2 q
end

/-- the scalars that == tells apart as data does -/
def scal : V → V → Bool
  | .non, .non => true | .non, .int _ => true | .int _, .non => true | .non, .bl _ => true | .bl _, .non => true | .non, .str _ => true | .str _, .non => true
  | .int _, .int _ => true | .bl _, .bl _ => true | .str _, .str _ => true | .byt _, .byt _ => true
  | .int _, .str _ => true | .str _, .int _ => true | .bl _, .str _ => true | .str _, .bl _ => true
  | _, _ => false
def rEq : R2 := fun x y H Q => scal x y = true ∧ Q (.bl (decide (x = y))) H
def rNe : R2 := fun x y H Q => scal x y = true ∧ Q (.bl (!decide (x = y))) H

theorem dec_int {i j : Int} : decide (V.int i = V.int j) = (i == j) := by
  rw [Bool.eq_iff_iff]
  simp
theorem dec_bl {i j : Bool} : decide (V.bl i = V.bl j) = (i == j) := by
  rw [Bool.eq_iff_iff]
  simp
theorem dec_str {i j : Str} : decide (V.str i = V.str j) = (i == j) := by
  rw [Bool.eq_iff_iff]
  simp
theorem dec_byt {i j : Array UInt8} : decide (V.byt i = V.byt j) = (i.toList == j.toList) := by
  rw [Bool.eq_iff_iff]
  cases i
  cases j
  simp

section
variable {X : Cx} {a b c : Expr} {ta tb tc : TE} {pos : Pos}
theorem fin_bl {pins : List (Addr × Obj)} {σ : St} {H : Hp} {s : Shared} {Q : VK} {k k' : Bool} (I : Inv X pins σ H s) (q : Q (.bl k) H) (e : k = k') : EP X pins σ Q (.bool k') s := by
  subst e
  exact ⟨.bl k, H, I, rfl, q⟩
theorem op_eq : OpR X (compareOp .Eq) rEq := by
  intro pins s σ H x y v u Q I rx ry h
  obtain ⟨hs, q⟩ := h
  cases x with
  | non =>
    cases rx
    cases y with
    | non => cases ry; exact PySem.EqNone.eq_none_none (fin_bl I q (by simp))
    | bl j => cases ry; exact PySem.EqNone.eq_none_bool (fin_bl I q (by simp))
    | int j => obtain ⟨t', rfl⟩ := ry; exact PySem.EqNone.eq_none_int (fin_bl I q (by simp))
    | str j => obtain ⟨t', rfl⟩ := ry; exact PySem.EqNone.eq_none_str (fin_bl I q (by simp))
    | _ => exact absurd (show false = true from hs) Bool.false_ne_true
  | bl i =>
    cases rx
    cases y with
    | non => cases ry; exact PySem.EqNone.eq_bool_none (fin_bl I q (by simp))
    | bl j => cases ry; exact eq_bool (fin_bl I q dec_bl)
    | str j => obtain ⟨t', rfl⟩ := ry; exact PySem.EqMixed.eq_bool_str (fin_bl I q (by simp))
    | _ => exact absurd (show false = true from hs) Bool.false_ne_true
  | int i =>
    obtain ⟨t, rfl⟩ := rx
    cases y with
    | non => cases ry; exact PySem.EqNone.eq_int_none (fin_bl I q (by simp))
    | int j => obtain ⟨t', rfl⟩ := ry; exact eq_int (fin_bl I q dec_int)
    | str j => obtain ⟨t', rfl⟩ := ry; exact PySem.EqMixed.eq_int_str (fin_bl I q (by simp))
    | _ => exact absurd (show false = true from hs) Bool.false_ne_true
  | str i =>
    obtain ⟨t, rfl⟩ := rx
    cases y with
    | non => cases ry; exact PySem.EqNone.eq_str_none (fin_bl I q (by simp))
    | bl j => cases ry; exact PySem.EqMixed.eq_str_bool (fin_bl I q (by simp))
    | int j => obtain ⟨t', rfl⟩ := ry; exact PySem.EqMixed.eq_str_int (fin_bl I q (by simp))
    | str j => obtain ⟨t', rfl⟩ := ry; exact eq_str (fin_bl I q dec_str)
    | _ => exact absurd (show false = true from hs) Bool.false_ne_true
  | byt i =>
    obtain ⟨t, rfl⟩ := rx
    cases y with
    | byt j => obtain ⟨t', rfl⟩ := ry; exact PySem.W.eq_bytes (fin_bl I q dec_byt)
    | _ => exact absurd (show false = true from hs) Bool.false_ne_true
  | _ => cases y <;> exact absurd (show false = true from hs) Bool.false_ne_true
theorem op_ne : OpR X (compareOp .NotEq) rNe := by
  intro pins s σ H x y v u Q I rx ry h
  obtain ⟨hs, q⟩ := h
  cases x with
  | non =>
    cases rx
    cases y with
    | non => cases ry; exact PySem.EqNone.ne_none_none (fin_bl I q (by simp))
    | bl j => cases ry; exact PySem.EqNone.ne_none_bool (fin_bl I q (by simp))
    | int j => obtain ⟨t', rfl⟩ := ry; exact PySem.EqNone.ne_none_int (fin_bl I q (by simp))
    | str j => obtain ⟨t', rfl⟩ := ry; exact PySem.EqNone.ne_none_str (fin_bl I q (by simp))
    | _ => exact absurd (show false = true from hs) Bool.false_ne_true
  | bl i =>
    cases rx
    cases y with
    | non => cases ry; exact PySem.EqNone.ne_bool_none (fin_bl I q (by simp))
    | bl j => cases ry; exact ne_bool (fin_bl I q (congrArg not dec_bl))
    | str j => obtain ⟨t', rfl⟩ := ry; exact PySem.EqMixed.ne_bool_str (fin_bl I q (by simp))
    | _ => exact absurd (show false = true from hs) Bool.false_ne_true
  | int i =>
    obtain ⟨t, rfl⟩ := rx
    cases y with
    | non => cases ry; exact PySem.EqNone.ne_int_none (fin_bl I q (by simp))
    | int j => obtain ⟨t', rfl⟩ := ry; exact ne_int (fin_bl I q (congrArg not dec_int))
    | str j => obtain ⟨t', rfl⟩ := ry; exact PySem.EqMixed.ne_int_str (fin_bl I q (by simp))
    | _ => exact absurd (show false = true from hs) Bool.false_ne_true
  | str i =>
    obtain ⟨t, rfl⟩ := rx
    cases y with
    | non => cases ry; exact PySem.EqNone.ne_str_none (fin_bl I q (by simp))
    | bl j => cases ry; exact PySem.EqMixed.ne_str_bool (fin_bl I q (by simp))
    | int j => obtain ⟨t', rfl⟩ := ry; exact PySem.EqMixed.ne_str_int (fin_bl I q (by simp))
    | str j => obtain ⟨t', rfl⟩ := ry; exact ne_str (fin_bl I q (congrArg not dec_str))
    | _ => exact absurd (show false = true from hs) Bool.false_ne_true
  | byt i =>
    obtain ⟨t, rfl⟩ := rx
    cases y with
    | byt j => obtain ⟨t', rfl⟩ := ry; exact PySem.W.ne_bytes (fin_bl I q (congrArg not dec_byt))
    | _ => exact absurd (show false = true from hs) Bool.false_ne_true
  | _ => cases y <;> exact absurd (show false = true from hs) Bool.false_ne_true

theorem op_lt : OpR X (compareOp .Lt) (rI0 fun i j => .bl (decide (i < j))) := opB0 fun _ _ _ _ _ _ _ q => lt_int q
theorem op_le : OpR X (compareOp .LtE) (rI0 fun i j => .bl (decide (i ≤ j))) := opB0 fun _ _ _ _ _ _ _ q => le_int q
theorem op_gt : OpR X (compareOp .Gt) (rI0 fun i j => .bl (decide (j < i))) := opB0 fun _ _ _ _ _ _ _ q => gt_int q
/-- the one string within the other -/
theorem op_in_str : OpR X (compareOp .In) (fun x y H Q => ∃ i j, x = .str i ∧ y = .str j ∧ Q (.bl (!(Builtin.Str.occurrences j i 0 j.length 1).isEmpty)) H) := by
  intro pins s σ H x y v u Q I rx ry h
  obtain ⟨i, j, rfl, rfl, q⟩ := h
  obtain ⟨t, rfl⟩ := rx
  obtain ⟨t', rfl⟩ := ry
  exact in_str (fin_bl I q rfl)

/-- is None, is not None: the right side a value none -/
theorem op_isN : OpR X (compareOp .Is) (fun x y H Q => y = .non ∧ Q (.bl (decide (x = .non))) H) := by
  intro pins s σ H x y v u Q I rx ry h
  obtain ⟨rfl, q⟩ := h
  cases ry
  refine is_none_gen (fin_bl I q ?_)
  cases x <;> first
    | (cases rx; rfl)
    | (obtain ⟨t, rfl⟩ := rx; rfl)
theorem nomark (b : Expr) {op : CmpOp} (h : op ≠ .In := by decide) (h2 : op ≠ .NotIn := by decide) : behindInMarks op b = false := by
  have e1 : (op == CmpOp.In) = false := by cases op <;> first | rfl | exact absurd rfl h
  have e2 : (op == CmpOp.NotIn) = false := by cases op <;> first | rfl | exact absurd rfl h2
  cases b <;> simp [behindInMarks, e1, e2]
/-- a comparison as a value; hm: nomark b, or (for in, not in) by with_unfolding_all rfl -/
theorem pe_cmpR {op : CmpOp} {r : R2} (ho : OpR X (compareOp op) r) (ha : PE X a ta) (hb : PE X b tb) (hm : behindInMarks op b = false) : PE X (.Compare a [op] [b] pos) (tOp r ta tb) := by
  intro pins s σ H Q I h
  exact wpAny_Compare1 (binT ha hb I h fun v u s2 x y H2 I2 rx ry q => ho pins s2 σ H2 x y v u Q I2 rx ry q) hm
/-- a reading of a value as a test -/
def tTest (t : TE) : TT := fun σ H Q => t σ H fun x H' => ∃ k, x = .bl k ∧ Q k H'
theorem pt_cmpR {op : CmpOp} {r : R2} (ho : OpR X (compareOp op) r) (ha : PE X a ta) (hb : PE X b tb) (hm : behindInMarks op b = false) : PT X (.Compare a [op] [b] pos) (tTest (tOp r ta tb)) := by
  intro pins s σ H Q I h
  refine wpAny_isTrue_Compare1 (thn (ha pins s σ H _ I h) fun v s1 ⟨x, H1, I1, r1, q1⟩ => thn (hb pins s1 σ H1 _ I1 q1) fun u s2 ⟨y, H2, I2, r2, q2⟩ =>
    thn (ho pins s2 σ H2 x y v u _ I2 r1 r2 q2) fun c s3 ⟨z, H3, I3, r3, k, e, q3⟩ => ?_) hm
  subst e
  cases r3
  exact wpAny_truthy_bool ⟨H3, I3, q3⟩
/-- a op1 b op2 c -/
def tChain (r r' : R2) (ta tb tc : TE) : TE := fun σ H Q => ta σ H fun x H1 => tb σ H1 fun y H2 => r x y H2 fun z H3 => ∃ k, z = .bl k ∧
  (if k = true then tc σ H3 fun w' H4 => r' y w' H4 Q else Q (.bl false) H3)
theorem pe_chain {op op' : CmpOp} {r r' : R2} (ho : OpR X (compareOp op) r) (ho' : OpR X (compareOp op') r') (ha : PE X a ta) (hb : PE X b tb) (hc : PE X c tc)
    (hm : lastMarks [op, op'] [b, c] = false := by with_unfolding_all rfl) : PE X (.Compare a [op, op'] [b, c] pos) (tChain r r' ta tb tc) := by
  intro pins s σ H Q I h
  refine Compare_chain (thn (ha pins s σ H _ I h) fun v s1 ⟨x, H1, I1, r1, q1⟩ => chain_link (thn (hb pins s1 σ H1 _ I1 q1) fun u s2 ⟨y, H2, I2, r2, q2⟩ =>
    thn (ho pins s2 σ H2 x y v u _ I2 r1 r2 q2) fun d s3 ⟨z, H3, I3, r3, k, e, q3⟩ => ?_)) hm
  subst e
  cases r3
  refine wpAny_truthy_bool ?_
  cases k with
  | false => exact ite_ff ⟨.bl false, H3, I3, rfl, q3⟩
  | true => exact ite_tt (chain_last (thn (hc pins s3 σ H3 _ I3 q3) fun w' s4 ⟨z', H4, I4, r4, q4⟩ => ho' pins s4 σ H4 y z' u w' Q I4 r2 r4 q4))
theorem line63 : (sizeLine : Nat) < 2 ^ 63 := by rw [sizeLine_eq]; decide
theorem op_add_str : OpR X (binaryOp .Add) (fun x y H Q => ∃ i j, x = .str i ∧ y = .str j ∧ i.length + j.length ≤ sizeLine ∧ Q (.str (i ++ j)) H) := by
  intro pins s σ H x y v u Q I rx ry h
  obtain ⟨i, j, rfl, rfl, hz, q⟩ := h
  obtain ⟨t, rfl⟩ := rx
  obtain ⟨t', rfl⟩ := ry
  exact add_str (fun t' tk => ⟨.str (i ++ j), H, I.tok _, ⟨_, rfl⟩, q⟩) hz
def PlainIxT (b : Expr) : Prop := ∀ o i, subscripted b false o i = operate [o, i] (getItem o i)
/-- s[i], 0 ≤ i < len -/
theorem pe_item_str (ha : PE X a ta) (hb : PE X b tb) (hs : PlainIxT b) :
    PE X (.Subscript a b pos) (tOp (fun x y H Q => ∃ z i c, x = .str z ∧ y = .int i ∧ 0 ≤ i ∧ i < 2 ^ 63 ∧ i < z.length ∧ z.cps[i.toNat]? = some c ∧ Q (.str ⟨#[c]⟩) H) ta tb) := by
  intro pins s σ H Q I h
  refine Subscript_ (binT ha hb I h fun v u s2 x y H2 I2 rx ry q => ?_)
  obtain ⟨z, i, c, rfl, rfl, h0, h63, h1, hc, q⟩ := q
  obtain ⟨t, rfl⟩ := rx
  obtain ⟨t', rfl⟩ := ry
  have e : seqIndex? i z.length = some i.toNat := PySem.StrLaws.seqIndex_nonneg h0 h1
  exact tail_any (typeIs_str s2 z t) slot_str_getitem.lookup (getItem_str (c := c) (by
    have e1 : decide (i < -(2 ^ 63 : Int)) = false := decide_eq_false (by first | lia | omega)
    have e2 : decide (i ≥ 2 ^ 63) = false := decide_eq_false (by first | lia | omega)
    rw [e1, e2] <;> rfl) (by rw [e]; exact hc) ⟨.str ⟨#[c]⟩, H2, I2.tok _, ⟨_, rfl⟩, q⟩) (hs _ _)
theorem vals1 {x : V} {us : List Value} (r : Vals [x] us) : ∃ u, us = [u] ∧ RelV x u := by
  cases r with
  | cons r1 r2 => cases r2; exact ⟨_, rfl, r1⟩
theorem vals2 {x y : V} {us : List Value} (r : Vals [x, y] us) : ∃ u w', us = [u, w'] ∧ RelV x u ∧ RelV y w' := by
  cases r with
  | cons r1 r2 =>
    cases r2 with
    | cons r3 r4 => cases r4; exact ⟨_, _, rfl, r1, r3⟩
theorem call_min2 (hc : X.calm = true) : CallR X (.builtin "min") (fun xs H Q => ∃ i j, xs = [.int i, .int j] ∧ Q (.int (if j < i then j else i)) H) := by
  intro pins s σ H xs us Q I r h
  obtain ⟨i, j, rfl, q⟩ := h
  obtain ⟨u, w', rfl, ⟨t, rfl⟩, ⟨t', rfl⟩⟩ := vals2 r
  refine min_two_ints (I.ok.hd hc) fun h' tk k => ⟨_, H, I.kept k, ?_, q⟩
  by_cases hj : j < i
  · rw [if_pos hj, if_pos hj]; exact ⟨_, rfl⟩
  · rw [if_neg hj, if_neg hj]; exact ⟨_, rfl⟩
end
end L2

namespace L2
open PySem PySem.Spec PyProof.Rows

structure ObjM (h : Heap) (x dx C : Addr) (mA : Str → Option Value) : Prop where
  obj : h.get? x = some (PySem.W.instObj C dx)
  ns : h.Ns1 dx mA
  ne : dx ≠ x

theorem lookIn_ns {h : Heap} {dx : Addr} {mA : Str → Option Value} (n : h.Ns1 dx mA) : ∃ od, h.get? dx = some od ∧ ∀ name, PySem.W.lookIn name od = some (mA name) := by
  obtain ⟨o, es, ep, ho, hd, hk, _, hm⟩ := n
  refine ⟨o, ho, fun name => ?_⟩
  have e := hm name
  unfold nsFind findBy at e
  rw [← Array.find?_toList] at e
  unfold PySem.W.lookIn
  rw [hd]
  dsimp only
  split
  · rename_i y q
    rw [q] at e
    exact congrArg some e
  · rename_i q
    rw [q] at e
    have a : es.toList.any (·.refKey) = false := by
      rw [List.any_eq_false]
      intro y hy
      obtain ⟨z, t, hkey⟩ := hk y (Array.mem_toList_iff.mp hy)
      simp [DictEntry.refKey, hkey]
    have a' : ¬ es.toList.any (·.refKey) = true := by rw [a]; exact Bool.false_ne_true
    rw [if_neg a']
    exact congrArg some e

theorem ObjM.look {h : Heap} {x dx C : Addr} {mA : Str → Option Value} (I : ObjM h x dx C mA) : ∃ od, PySem.W.InstAt h x (PySem.W.instObj C dx) C (some od) ∧ ∀ name, PySem.W.lookIn name od = some (mA name) :=
  let ⟨od, ho, hl⟩ := lookIn_ns I.ns
  ⟨od, ⟨I.obj, rfl, rfl, ho⟩, hl⟩

section
variable {prog : Program} {w : World} {A : Around} {E : Value → Shared → Prop} {s : Shared} {K : PySem.W.Frag} {x dx C f : Addr} {mA : Str → Option Value} {name : Str} {v : Value}

theorem get_map {expr : Bool} {Q : Value → Shared → Prop} (X : K.In s.heap) (I : ObjM s.heap x dx C mA) (hg : PySem.W.plainGet K C name = true) (hh : PySem.W.hasDictIn K C = true)
    (ha : PySem.W.findIn K (.ref C) name = some none) (hv : mA name = some v) (hv' : PySem.W.handedIn v = true) (h : Q v { s with toks := s.toks + 1 }) :
    wpAny (model prog w) A (getAttr (.ref x) name expr) Q E s := by
  obtain ⟨od, J, hl⟩ := I.look
  exact PySem.W.get_value X J (PySem.W.plainGet_of hg).1 (PySem.W.findObj_own hh ha rfl (by rw [hl, hv])) hv' h

theorem get_meth {pl : Sem Bool} {Q : Value × List Value → Shared → Prop} (X : K.In s.heap) (I : ObjM s.heap x dx C mA) (hg : PySem.W.plainGet K C name = true)
    (hf : PySem.W.findIn K (.ref C) name = some (some (.ref f))) (ht : PySem.W.isFn K (.ref f) = true) (hv : mA name = none) (h : Q (.ref f, [.ref x]) s) :
    wpAny (model prog w) A (getMethod (.ref x) name pl) Q E s := by
  obtain ⟨od, J, hl⟩ := I.look
  exact PySem.W.method_fn X J (PySem.W.plainGet_of hg).1 (PySem.W.plainGet_of hg).2 hf (beq_iff_eq.mp ht) (by show (PySem.W.lookIn name od).map (·.isSome) = some false; rw [hl, hv]; rfl) h

theorem set_map {ns : List Str} {Q : Unit → Shared → Prop} (X : K.In s.heap) (I : ObjM s.heap x dx C mA)
    (hs : PySem.W.findIn K (.ref C) "__setattr__" = some (some (.builtin "object.__setattr__"))) (hp : PySem.W.plainOver K C = true) (ht : PySem.W.takerIn K C name = some none) (hh : PySem.W.hasDictIn K C = true)
    (hw : PySem.Within mA ns) (hsz : ns.length ≤ sizeLine)
    (h : ∀ h', ObjM h' x dx C (fun y => if y = name then some v else mA y) → Heap.SameBut dx s.heap h' → Q () { s with heap := h', toks := s.toks + 2 }) :
    wpAny (model prog w) A (setAttr (.ref x) name v) Q E s := by
  obtain ⟨od, J, hl⟩ := I.look
  refine PySem.W.set_plain X J hs (PySem.W.osa_open (s := { s with toks := s.toks + 1 }) (r := none) X J hp ht fun b => ?_)
  obtain ⟨cd, hc, hd'⟩ := PySem.W.any_some hh
  have hx : s.heap.get? x = some ⟨.ref C, some dx, .plain, #[]⟩ := I.obj
  refine wpAny_bind (wpAny_pure (wpAny_bind (wpAny_bind (wpAny_loadPart hx (wpAny_bind (PySem.W.Looks.here (s := { s with toks := s.toks + 1 }) (PySem.W.looks_clsIn X hc) ?_))))))
  rw [hd']
  refine wpAny_pure (a := some dx) (wpAny_bind (wpAny_pure (wpAny_bind ?_)))
  refine wpAny_nsSet1 (s := { s with toks := s.toks + 1 }) I.ns fun h' hn2 hs2 => ?_
  obtain ⟨oD, esD, epD, hoD, hdD, hcD⟩ := hn2.count (PySem.Within.cons name v hw)
  refine wpAny_bind (wpAny_lookBehind hoD (by rw [hdD]; exact pastItsLine_dict (Nat.le_trans hcD (by rw [List.length_cons]; first | lia | omega))) ?_)
  exact wpAny_pure (h _ ⟨(hs2.2 _ (Ne.symm I.ne)).trans I.obj, hn2, I.ne⟩ hs2)

/-- C(..): the dict at the heap's end, the instance behind it; then its __init__ -/
theorem make_map {R : Result → Shared → Prop} {vs : List Value} {kw : List (Str × Value)} (X : K.In s.heap) (hm : PySem.W.makesIn K C = true)
    (hi : PySem.W.findIn K (.ref C) "__init__" = some (some (.ref f))) (hf : PySem.W.typeIn K (.ref f) = some (.type "function"))
    (h : codeAny (model prog w) (A.under (.builtin "type.__call__" ⟨.ref C :: vs, kw⟩)) (.call (.ref f) ⟨.ref (s.heap.objs.size + 1) :: vs, kw⟩) (PySem.W.InitBack (s.heap.objs.size + 1) R)
      { s with heap := (s.heap.push PySem.W.emptyDict).push (PySem.W.instObj C s.heap.objs.size) }) :
    codeAny (model prog w) A (.call (.ref C) ⟨vs, kw⟩) R s := by
  obtain ⟨hh, g, d, t, os⟩ := s
  exact PySem.W.make_core (PySem.W.makes_of X hm) (PySem.W.looks_findIn X hi) (fun self => PySem.W.bind_fn X self hf) (.inl rfl) h
end

def putF (f : Str) (v : V) : List (Str × V) → List (Str × V)
  | [] => [(f, v)]
  | (g, x) :: r => if g = f then (g, v) :: r else (g, x) :: putF f v r
theorem lookup_putF (f g : Str) (v : V) : ∀ fs : List (Str × V), (putF f v fs).lookup g = if g = f then some v else fs.lookup g
  | [] => by
    show List.lookup g [(f, v)] = _
    by_cases h : g = f
    · have hb : (g == f) = true := beq_iff_eq.mpr h
      simp only [List.lookup, hb, if_pos h]
    · have hb : (g == f) = false := beq_eq_false_iff_ne.mpr h
      simp only [List.lookup, hb, if_neg h]
  | (k, x) :: r => by
    have ih := lookup_putF f g v r
    rw [show putF f v ((k, x) :: r) = (if k = f then (k, v) :: r else (k, x) :: putF f v r) from rfl]
    by_cases hk : k = f
    · rw [if_pos hk]
      by_cases h : g = k
      · have hb : (g == k) = true := beq_iff_eq.mpr h
        simp only [List.lookup, hb, if_pos (h.trans hk)]
      · have hb : (g == k) = false := beq_eq_false_iff_ne.mpr h
        simp only [List.lookup, hb, if_neg (fun e : g = f => h (e.trans hk.symm))]
    · rw [if_neg hk]
      by_cases h : g = k
      · have hb : (g == k) = true := beq_iff_eq.mpr h
        simp only [List.lookup, hb, if_neg (fun e : g = f => hk (h.symm.trans e))]
      · have hb : (g == k) = false := beq_eq_false_iff_ne.mpr h
        simp only [List.lookup, hb]
        exact ih
theorem keys_putF (f : Str) (v : V) : ∀ fs : List (Str × V), f ∈ (putF f v fs).map (·.1) ∧ ∀ g, g ∈ fs.map (·.1) → g ∈ (putF f v fs).map (·.1)
  | [] => ⟨by simp [putF], fun g h => by simp at h⟩
  | (k, x) :: r => by
    obtain ⟨i1, i2⟩ := keys_putF f v r
    rw [show putF f v ((k, x) :: r) = (if k = f then (k, v) :: r else (k, x) :: putF f v r) from rfl]
    by_cases hk : k = f
    · rw [if_pos hk]
      subst hk
      exact ⟨by simp, fun g h => by simpa using h⟩
    · rw [if_neg hk]
      refine ⟨?_, fun g h => ?_⟩
      · rw [List.map_cons]
        exact List.mem_cons_of_mem _ i1
      · rw [List.map_cons] at h ⊢
        rcases List.mem_cons.mp h with e | e
        · exact List.mem_cons.mpr (.inl e)
        · exact List.mem_cons_of_mem _ (i2 g e)
theorem length_putF (f : Str) (v : V) : ∀ fs : List (Str × V), (putF f v fs).length ≤ fs.length + 1
  | [] => by simp [putF]
  | (k, x) :: r => by
    have ih := length_putF f v r
    rw [show putF f v ((k, x) :: r) = (if k = f then (k, v) :: r else (k, x) :: putF f v r) from rfl]
    by_cases hk : k = f
    · rw [if_pos hk, List.length_cons, List.length_cons]; first | lia | omega
    · rw [if_neg hk, List.length_cons, List.length_cons]; first | lia | omega

theorem RelO.some_of {v : V} {o : Option Value} (r : RelO (some v) o) : ∃ u, o = some u ∧ RelV v u := by
  cases o with
  | none => exact (show False from r).elim
  | some u => exact ⟨u, rfl, r⟩
theorem RelO.none_of {o : Option Value} (r : RelO none o) : o = none := by
  cases o with
  | none => rfl
  | some u => exact (show False from r).elim
theorem handed_of {v : V} {u : Value} (r : RelV v u) : PySem.W.handedIn u = true := by
  cases v with
  | non => cases (show u = Value.none from r); rfl
  | bl b => cases (show u = Value.bool b from r); rfl
  | int i => obtain ⟨t, e⟩ := (show ∃ t, u = Value.int i t from r); cases e; rfl
  | str x => obtain ⟨t, e⟩ := (show ∃ t, u = Value.str x t from r); cases e; rfl
  | byt b => obtain ⟨t, e⟩ := (show ∃ t, u = Value.bytes b t from r); cases e; rfl
  | flt b => obtain ⟨t, e⟩ := (show ∃ t, u = Value.float b t from r); cases e; rfl
  | ref a => cases (show u = Value.ref a from r); rfl
  | ty n => cases (show u = Value.type n from r); rfl

section
variable {P : Program} {w : World} {H H' : Hp} {h h' : Heap} {a C dx : Addr} {fs fs' : List (Str × V)}
theorem ins_get (hok : HOk P w H h) (e : H a = some (.ins C dx fs)) : ∃ mA, ObjM h a dx C mA ∧ (∀ f, RelO (fs.lookup f) (mA f)) ∧ PySem.Within mA (fs.map (·.1)) ∧ fs.length ≤ 1000 ∧ H dx = some (.own a) := by
  obtain ⟨d, z, ne, ob, mA, n, r, q⟩ := (show ObjOk P w H h a (.ins C dx fs) from hok a _ e)
  exact ⟨mA, ⟨ob, n, ne⟩, r, q, z, d⟩
end

structure Cls (K : PySem.W.Frag) (C : Addr) : Prop where
  pg : PySem.W.plainGet K C Str.empty = true
  hd : PySem.W.hasDictIn K C = true
  po : PySem.W.plainOver K C = true
  sa : PySem.W.findIn K (.ref C) "__setattr__" = some (some (.builtin "object.__setattr__"))
theorem Cls.get {K : PySem.W.Frag} {C : Addr} (c : Cls K C) (f : Str) : PySem.W.plainGet K C f = true := c.pg
/-- no class of it has the name -/
def NoAttr (K : PySem.W.Frag) (C : Addr) (f : Str) : Prop := PySem.W.findIn K (.ref C) f = some none
theorem NoAttr.taker {K : PySem.W.Frag} {C : Addr} {f : Str} (n : NoAttr K C f) : PySem.W.takerIn K C f = some none := by
  unfold PySem.W.takerIn
  rw [show PySem.W.findIn K (.ref C) f = some none from n]
  rfl
/-- a method: a plain def of the class or of one above it -/
structure Meth (K : PySem.W.Frag) (C : Addr) (m : Str) (f : Addr) : Prop where
  at_ : PySem.W.findIn K (.ref C) m = some (some (.ref f))
  fn : PySem.W.isFn K (.ref f) = true
  kp : PySem.W.keepIn K (.ref f) = true

section
variable {X : Cx} {pins : List (Addr × Obj)} {σ : St} {H : Hp} {s : Shared} {a C dx : Addr} {fs : List (Str × V)} {f : Str} {v : V} {A : Around} {E : Value → Shared → Prop}

theorem getattr_ok {b : Bool} {Q : Value → Shared → Prop} (I : Inv X pins σ H s) (e : H a = some (.ins C dx fs)) (c : Cls X.K C) (n : NoAttr X.K C f) (l : fs.lookup f = some v)
    (h : ∀ u s', Inv X pins σ H s' → RelV v u → Q u s') : wpAny (model X.prog X.w) A (getAttr (.ref a) f b) Q E s := by
  obtain ⟨mA, O, r, _, _, _⟩ := ins_get I.hok e
  obtain ⟨u, hu, ru⟩ := RelO.some_of (v := v) (o := mA f) (by rw [← l]; exact r f)
  exact get_map I.kIn O (c.get f) c.hd n hu (handed_of ru) (h u _ (I.tok _) ru)

theorem getmeth_ok {m : Str} {g : Addr} {pl : Sem Bool} {Q : Value × List Value → Shared → Prop} (I : Inv X pins σ H s) (e : H a = some (.ins C dx fs)) (c : Cls X.K C) (k : Meth X.K C m g) (l : fs.lookup m = none)
    (h : Q (.ref g, [.ref a]) s) : wpAny (model X.prog X.w) A (getMethod (.ref a) m pl) Q E s := by
  obtain ⟨mA, O, r, _, _, _⟩ := ins_get I.hok e
  have hn : mA m = none := RelO.none_of (by rw [← l]; exact r m)
  exact get_meth I.kIn O (c.get m) k.at_ k.fn hn h

theorem setattr_ok {y : V} {u : Value} {Q : Unit → Shared → Prop} (I : Inv X pins σ H s) (e : H a = some (.ins C dx fs)) (c : Cls X.K C) (n : NoAttr X.K C f) (hl : fs.length < 1000) (ry : RelV y u)
    (h : ∀ s', Inv X pins σ (upd H a (.ins C dx (putF f y fs))) s' → Q () s') : wpAny (model X.prog X.w) A (setAttr (.ref a) f u) Q E s := by
  obtain ⟨mA, O, r, wi, _, ho⟩ := ins_get I.hok e
  have hz : (fs.map (·.1)).length ≤ sizeLine := by rw [List.length_map, sizeLine_eq]; first | lia | omega
  refine set_map I.kIn O c.sa c.po n.taker c.hd wi hz fun h' O' sb => h _ ?_
  have hd : ∃ o, h'.get? dx = some o := let ⟨o, _, _, e', _⟩ := O'.ns; ⟨o, e'⟩
  refine I.write (x := a) (e := dx) (by rw [e]; exact True.intro) (.inr ho) (fun b q hb z => (sb.2 b hb).trans z) hd ?_
  refine ⟨by rw [upd_ne O.ne]; exact ho, ?_, O.ne, O'.obj, _, O'.ns, fun g => ?_, fun g hg => ?_⟩
  · have := length_putF f y fs; first | lia | omega
  · show RelO ((putF f y fs).lookup g) (if g = f then some u else mA g)
    rw [lookup_putF]
    by_cases q : g = f
    · rw [if_pos q, if_pos q]; exact ry
    · rw [if_neg q, if_neg q]; exact r g
  · by_cases q : g = f
    · rw [q]; exact (keys_putF f y fs).1
    · refine (keys_putF f y fs).2 g (wi g fun z => hg ?_)
      show (if g = f then some u else mA g) = none
      rw [if_neg q]; exact z

/-- a new instance, tracked, without attributes -/
theorem Inv.made (I : Inv X pins σ H s) : Inv X pins σ (upd (upd H s.heap.objs.size (.own (s.heap.objs.size + 1))) (s.heap.objs.size + 1) (.ins C s.heap.objs.size []))
    { s with heap := (s.heap.push PySem.W.emptyDict).push (PySem.W.instObj C s.heap.objs.size) } := by
  have e1 : (s.heap.push PySem.W.emptyDict).get? s.heap.objs.size = some PySem.W.emptyDict := Heap.get?_push_size s.heap rfl
  have e2 : ((s.heap.push PySem.W.emptyDict).push (PySem.W.instObj C s.heap.objs.size)).get? (s.heap.objs.size + 1) = some (PySem.W.instObj C s.heap.objs.size) := by
    have := Heap.get?_push_size (s.heap.push PySem.W.emptyDict) (o := PySem.W.instObj C s.heap.objs.size) rfl
    rwa [Heap.size_push] at this
  have e3 : (s.heap.push PySem.W.emptyDict).Ns s.heap.objs.size (fun _ => none) := ⟨PySem.W.emptyDict, #[], _, e1, rfl, (fun e he => absurd he (by simp)), fun _ => rfl⟩
  have I1 := I.laid (a := s.heap.objs.size) (o := .own (s.heap.objs.size + 1)) (h' := s.heap.push PySem.W.emptyDict) (t' := s.toks) (fun b u q => Heap.get?_push_of_some _ q) (Nat.le_refl _) ⟨_, e1⟩
  refine I1.laid (a := s.heap.objs.size + 1) (o := .ins C s.heap.objs.size []) (t' := s.toks) (fun b u q => Heap.get?_push_of_some _ q) (Nat.le_of_eq (Heap.size_push _ _)) ?_
  have ne : s.heap.objs.size ≠ s.heap.objs.size + 1 := Nat.ne_of_lt (Nat.lt_succ_self _)
  refine ⟨by rw [upd_ne ne, upd_same], Nat.zero_le _, ne, e2, fun _ => none, (Heap.Ns1.of_empty e3).at fun o q => Heap.get?_push_of_some _ q, fun _ => True.intro, fun y hy => absurd rfl hy⟩

/-- e.f where nothing but the object is asked: through attributeBase (super) and the last hold -/
theorem attr_of {prog : Program} {w : World} {env : Env} {e : Expr} {f : Str} {pos : Pos} {s : Shared} {Q : Value → Shared → Prop} (hb : attributeBase e f env (eval e env) = eval e env)
    (h : wpAny (model prog w) A (eval e env) (fun o s₁ => wpAny (model prog w) A (getAttr o f true) Q E s₁) E s) : wpAny (model prog w) A (eval (.Attribute e f pos) env) Q E s :=
  Attribute_any_ h (by rw [arm_eval_Attribute, hb])
end

/-- e.f, an attribute of the instance -/
def tFld (K : PySem.W.Frag) (ta : TE) (f : Str) : TE := fun σ H Q => ta σ H fun x H1 => ∃ a C dx fs v, x = .ref a ∧ H1 a = some (.ins C dx fs) ∧ Cls K C ∧ NoAttr K C f ∧ fs.lookup f = some v ∧ Q v H1
/-- e.f = value -/
def sFld (K : PySem.W.Frag) (ta tv : TE) (f : Str) : TS := fun D σ H => tv σ H fun y H1 => ta σ H1 fun x H2 => ∃ a C dx fs, x = .ref a ∧ H2 a = some (.ins C dx fs) ∧ Cls K C ∧ NoAttr K C f ∧ fs.length < 1000 ∧
  D.nx σ (upd H2 a (.ins C dx (putF f y fs)))
section
variable {X : Cx} {o e value : Expr} {f : Str} {pos pos' tpos : Pos} {ta tv : TE}
theorem pe_fld (he : PE X e ta) (hb : attributeBase e f X.env (eval e X.env) = eval e X.env) : PE X (.Attribute e f pos) (tFld X.K ta f) := by
  intro pins s σ H Q I h
  refine attr_of hb (thn (he pins s σ H _ I h) fun u s1 ⟨x, H1, I1, rx, a, C, dx, fs, v, ex, ea, c, n, l, q⟩ => ?_)
  subst ex
  obtain rfl : u = Value.ref a := rx
  exact getattr_ok I1 ea c n l fun u' s2 I2 ru => ⟨v, H1, I2, ru, q⟩
theorem ps_fld (ha : PE X o ta) (hv : PE X value tv) (hs : swapsWith value (some (.Attribute o f pos')) pos.line X.env = pure false) : PS X (.Assign [.Attribute o f pos'] value pos) (sFld X.K ta tv f) := by
  intro pins s σ H D I h
  refine plainObj_wpAny_Assign_Attribute (thn (hv pins s σ H _ I h) fun u s1 ⟨y, H1, I1, ry, q⟩ => thn (ha pins s1 σ H1 _ I1 q) fun ov s2 ⟨x, H2, I2, rx, a, C, dx, fs, ex, ea, c, n, l, q2⟩ => ?_) hs
  subst ex
  obtain rfl : ov = Value.ref a := rx
  exact setattr_ok I2 ea c n l ry fun s3 I3 => ⟨σ, _, I3, q2⟩
end

section
variable {X : Cx} {pins : List (Addr × Obj)} {σ : St} {H : Hp} {s : Shared} {A : Around} {E : Value → Shared → Prop} {Q : Value → Shared → Prop} {c : Value} {b : Bool}
/-- the type of a value, as the fragment's deciders take it; for an instance its class -/
inductive TyOf (K : PySem.W.Frag) (H : Hp) : V → Value → Prop where
  | non : TyOf K H .non (.type "NoneType")
  | bl (x : Bool) : TyOf K H (.bl x) (.type "bool")
  | int (i : Int) : TyOf K H (.int i) (.type "int")
  | str (x : Str) : TyOf K H (.str x) (.type "str")
  | flt (x : UInt64) : TyOf K H (.flt x) (.type "float")
  | lst {a : Addr} {xs : List V} (e : H a = some (.lst xs)) : TyOf K H (.ref a) (.type "list")
  | frz {a : Addr} {o : Obj} {xs : List V} (e : H a = some (.frz o (.lst xs))) : TyOf K H (.ref a) (.type "list")
  | tup {a : Addr} {xs : List V} (e : H a = some (.tup xs)) : TyOf K H (.ref a) (.type "tuple")
  | dK {a : Addr} {kvs : List (Key × V)} (e : H a = some (.dK kvs)) : TyOf K H (.ref a) (.type "dict")
  | dT {a : Addr} {kvs : List (List Key × V)} (e : H a = some (.dT kvs)) : TyOf K H (.ref a) (.type "dict")
  | ins {a C dx : Addr} {fs : List (Str × V)} (e : H a = some (.ins C dx fs)) (cl : Cls K C) (ha : PySem.W.findIn K (.ref C) "__class__" = some (some (.builtin "object.__class__")))
      (hn : PySem.W.specialIn K (.builtin "object.__class__") "__get__" = some (some (.builtin "getset_descriptor.__get__"))) (htk : PySem.W.takesIn K (.builtin "object.__class__") = some true)
      (hm : PySem.W.mroIn K C (.type "object") = some true) : TyOf K H (.ref a) (.ref C)
/-- isinstance(x, c) for one class c, a built-in or an own one: kitOne's answer -/
theorem isinst_ok {x : V} {u t : Value} (I : Inv X pins σ H s) (rx : RelV x u) (ty : TyOf X.K H x t) (e : PySem.W.kitOne X.K t c = some b) (h : ∀ tk, Q (.bool b) { s with toks := tk }) :
    wpAny (model X.prog X.w) A (call (.builtin "isinstance") [u, c]) Q E s := by
  cases ty with
  | non => cases (show u = Value.none from rx); exact PySem.W.kia_one PySem.W.kitx_none I.kIn True.intro e (fun z => nomatch z) h
  | bl y => cases (show u = Value.bool y from rx); exact PySem.W.kia_one PySem.W.kitx_bool I.kIn True.intro e (fun z => nomatch z) h
  | int i => obtain ⟨t, q⟩ := (show ∃ t, u = Value.int i t from rx); cases q; exact PySem.W.kia_one PySem.W.kitx_int I.kIn True.intro e (fun z => nomatch z) h
  | str y => obtain ⟨t, q⟩ := (show ∃ t, u = Value.str y t from rx); cases q; exact PySem.W.kia_one PySem.W.kitx_str I.kIn True.intro e (fun z => nomatch z) h
  | flt y => obtain ⟨t, q⟩ := (show ∃ t, u = Value.float y t from rx); cases q; exact PySem.W.kia_one PySem.W.kitx_float I.kIn True.intro e (fun z => nomatch z) h
  | @lst a xs ea =>
    cases (show u = Value.ref a from rx)
    obtain ⟨_, _, n, _, h1⟩ := (show ObjOk X.prog X.w H s.heap a (.lst xs) from I.hok a _ ea)
    exact PySem.W.kia_one PySem.W.kitx_list I.kIn ⟨_, h1, rfl⟩ e (fun z => nomatch z) h
  | @frz a ob xs ea =>
    cases (show u = Value.ref a from rx)
    obtain ⟨_, _, _, n, _, h1⟩ := (show ObjOk X.prog X.w H s.heap a (.frz ob (.lst xs)) from I.hok a _ ea)
    exact PySem.W.kia_one PySem.W.kitx_list I.kIn ⟨_, h1, rfl⟩ e (fun z => nomatch z) h
  | @tup a xs ea =>
    cases (show u = Value.ref a from rx)
    obtain ⟨_, _, _, p⟩ := (show ObjOk X.prog X.w H s.heap a (.tup xs) from I.hok a _ ea)
    obtain ⟨o, h1, h2, _⟩ := p
    exact PySem.W.kia_one PySem.W.kitx_tuple I.kIn ⟨o, h1, h2⟩ e (fun z => nomatch z) h
  | @dK a kvs ea =>
    cases (show u = Value.ref a from rx)
    obtain ⟨_, _, vs, _, p⟩ := (show ObjOk X.prog X.w H s.heap a (.dK kvs) from I.hok a _ ea)
    obtain ⟨o, es, ep, h1, h2, _⟩ := p
    exact PySem.W.kia_one PySem.W.kitx_dict I.kIn ⟨o, h1, h2.1⟩ e (fun z => nomatch z) h
  | @dT a kvs ea =>
    cases (show u = Value.ref a from rx)
    obtain ⟨_, _, xs, _, o, es, ep, h1, h2, _⟩ := (show ObjOk X.prog X.w H s.heap a (.dT kvs) from I.hok a _ ea)
    exact PySem.W.kia_one PySem.W.kitx_dict I.kIn ⟨o, h1, h2.1⟩ e (fun z => nomatch z) h
  | @ins a C dx fs ea cl ha hn htk hm =>
    cases (show u = Value.ref a from rx)
    obtain ⟨mA, O, _⟩ := ins_get I.hok ea
    obtain ⟨od, J, _⟩ := O.look
    exact PySem.W.kia_one (PySem.W.kitx_own (cl.get _) cl.hd ha hn htk hm) I.kIn J e (fun z => nomatch z) h
end
end L2

namespace L2
open PySem PySem.Spec PyProof.Rows

structure Room (k : Nat) (A : Around) : Prop where
  hd : A.handled = none
  dp : A.depth + 3 * k + 5 < recursionLimit
  un : A.units + 16 * k + 200 < cLine
theorem Room.mono {j k : Nat} {A : Around} (r : Room k A) (h : j ≤ k) : Room j A := ⟨r.hd, by have := r.dp; first | lia | omega, by have := r.un; first | lia | omega⟩
theorem Room.deeper {k : Nat} {A : Around} (r : Room (k + 1) A) (env : Env) : Room k (A.deeper env) :=
  ⟨r.hd, by have := r.dp; show A.depth + 1 + 3 * k + 5 < _; first | lia | omega, by have := r.un; show A.units + 3 + 16 * k + 200 < _; first | lia | omega⟩
theorem make_depth {A : Around} {C : Addr} {us : List Value} {kw : List (Str × Value)} : (A.under (.builtin "type.__call__" ⟨.ref C :: us, kw⟩)).depth = A.depth + 1 := by
  first | rfl | simp [Around.under, Code.weight, Code.isCreation, Code.isGuard, Code.isCaller, Code.frames, Code.isFrame, guardIds]
theorem make_units {A : Around} {C : Addr} {us : List Value} {kw : List (Str × Value)} : (A.under (.builtin "type.__call__" ⟨.ref C :: us, kw⟩)).units = A.units + 1 := by
  first | rfl | simp [Around.under, Code.cUnits, Code.frames, Code.isFrame]
theorem Room.make {k : Nat} {A : Around} (r : Room (k + 1) A) (C : Addr) (us : List Value) (kw : List (Str × Value)) : Room k (A.under (.builtin "type.__call__" ⟨.ref C :: us, kw⟩)) :=
  ⟨r.hd, by have := r.dp; rw [make_depth]; first | lia | omega, by have := r.un; rw [make_units]; first | lia | omega⟩
theorem Room.depth {k : Nat} {A : Around} (r : Room k A) : A.depth < recursionLimit := by have := r.dp; first | lia | omega
theorem Room.units {k : Nat} {A : Around} (r : Room k A) : A.units + 64 < cLine := by have := r.un; first | lia | omega
def tNil : TA := fun _ H Q => Q [] H
def tCons (ta : TE) (tr : TA) : TA := fun σ H Q => ta σ H fun x H1 => tr σ H1 fun xs H2 => Q (x :: xs) H2
section
variable {X : Cx} {e : Expr} {es : List Expr} {te : TE} {t : TA} {pos : Pos}
theorem pa_nil : PA X [] tNil := fun _ _ _ _ H Q I h => Calls.spliced_nil ⟨[], H, I, .nil, h⟩
theorem pa_cons (ha : PE X e te) (hr : PA X es t) (hs : starEach (e :: es) X.env = (false, eval e X.env) :: starEach es X.env := by rfl) : PA X (e :: es) (tCons te t) := by
  intro pos pins s σ H Q I h
  rw [hs]
  show wpAny _ _ (spliced ((false, eval e X.env) :: backTo pos (starEach es X.env))) _ _ s
  refine Calls.spliced_cons (thn (ha pins s σ H _ I h) fun u s1 ⟨x, H1, I1, r1, q1⟩ => ?_)
  exact thn (hr pos pins s1 σ H1 _ I1 q1) fun us s2 ⟨xs, H2, I2, r2, q2⟩ => ⟨x :: xs, H2, I2, .cons r1 r2, q2⟩

/-- a tuple, a list of written items -/
def tTup (t : TA) : TE := fun σ H Q => t σ H fun xs H1 => xs.length ≤ sizeLine ∧ ∀ p, H1 p = none → Q (.ref p) (upd H1 p (.tup xs))
def tLst (t : TA) : TE := fun σ H Q => t σ H fun xs H1 => xs.length ≤ sizeLine ∧ ∀ p, H1 p = none → Q (.ref p) (upd H1 p (.lst xs))
theorem pe_tup {x1} (h : PA X es t) : PE X (.Tuple es x1 pos) (tTup t) := by
  intro pins s σ H Q I hq
  refine wpAny_Tuple_spliced (thn (h pos pins s σ H _ I hq) fun us s1 ⟨xs, H1, I1, r, z, q⟩ => ⟨by rw [← r.length]; exact z, ?_⟩)
  have hf : H1 s1.heap.objs.size = none := I1.hok.fresh (Nat.le_refl _)
  refine ⟨.ref s1.heap.objs.size, upd H1 s1.heap.objs.size (.tup xs), I1.laid (t' := s1.toks) (fun b u e => Heap.get?_push_of_some _ e) (Nat.le_refl _) ?_, rfl, q _ hf⟩
  exact ⟨z, us, r, ⟨_, Heap.get?_push_size _ rfl, rfl, _, rfl⟩⟩
theorem pe_lst (h : PA X es t) : PE X (.List es pos) (tLst t) := by
  intro pins s σ H Q I hq
  refine wpAny_List_spliced (thn (h pos pins s σ H _ I hq) fun us s1 ⟨xs, H1, I1, r, z, q⟩ => ⟨by rw [← r.length]; exact z, ?_⟩)
  have hf : H1 s1.heap.objs.size = none := I1.hok.fresh (Nat.le_refl _)
  refine ⟨.ref s1.heap.objs.size, upd H1 s1.heap.objs.size (.lst xs), I1.laid (t' := s1.toks) (fun b u e => Heap.get?_push_of_some _ e) (Nat.le_refl _) ?_, rfl, q _ hf⟩
  exact ⟨z, us, 0, r, Heap.get?_push_size _ rfl⟩
end

/-- a def's promise: the bound arguments in the parameters' order, the heap, the wanted end, the wanted exception -/
abbrev Sp := List V → Hp → VK → XK → Prop
/-- how an exception lies behind a call (file 08 gives it): the callers' frames, abstract heap and state ahead of the call, the wish, the exception, the state -/
abbrev CXT := List Env → Hp → Shared → XK → Value → Shared → Prop

/-- the state at a call -/
structure Env0 (P : Program) (w : World) (K : PySem.W.Frag) (mg : Str → Option Value) (base : Heap) (A : Around) (outer : List Env) (s : Shared) (H : Hp) : Prop where
  frames : A.frames = some outer
  mod : Mod K mg base
  bs : ∀ b o, base.get? b = some o → s.heap.get? b = some o ∧ H b = none
  bsz : base.objs.size ≤ s.heap.objs.size
  funs : s.heap.FunFrames base outer
  frf : ∀ b ∈ frs outer, H b = none
  hok : HOk P w H s.heap
  bare : AllBare s.gens
/-- a call's end -/
def CE (outer : List Env) (P : Program) (w : World) (H : Hp) (s : Shared) (Q : VK) (u : Value) (s' : Shared) : Prop :=
  ∃ v H', s'.os = s.os ∧ AllBare s'.gens ∧ Un (frs outer) [] H H' s.heap s'.heap ∧ HOk P w H' s'.heap ∧ RelV v u ∧ Q v H'
def CR (CX : CXT) (outer : List Env) (P : Program) (w : World) (H : Hp) (s : Shared) (Q : VK) (E : XK) (r : Result) (s' : Shared) : Prop :=
  match r with
  | .ok (.ret u) => CE outer P w H s Q u s'
  | .ok _ => False
  | .error e => CX outer H s E e s'
structure FnOk (P : Program) (w : World) (K : PySem.W.Frag) (mg : Str → Option Value) (base : Heap) (CX : CXT) (k : Nat) (f : Addr) (fd : FuncData) (ps : List Str) (sp : Sp) : Prop where
  len : ∀ vs H Q E, sp vs H Q E → vs.length = ps.length
  run : ∀ (A : Around) (outer : List Env) (s : Shared) (H : Hp) (args : Args) (us : List Value) (vs : List V) (Q : VK) (E : XK), Room k A → Env0 P w K mg base A outer s H → BindsTo s fd args (ps.zip us) → Vals vs us → sp vs H Q E →
    codeAny (model P w) A (.call (.ref f) args) (CR CX outer P w H s Q E) s
theorem Env0.make {P : Program} {w : World} {K : PySem.W.Frag} {mg : Str → Option Value} {base : Heap} {A : Around} {outer : List Env} {s : Shared} {H : Hp} (e : Env0 P w K mg base A outer s H) (C : Addr) (us : List Value) (kw : List (Str × Value)) :
    Env0 P w K mg base (A.under (.builtin "type.__call__" ⟨.ref C :: us, kw⟩)) outer s H := ⟨by first | exact e.frames | (simpa [Around.under, Code.envs, Code.isFrame, pushEnvs] using e.frames), e.mod, e.bs, e.bsz, e.funs, e.frf, e.hok, e.bare⟩
section
variable {X : Cx} {pins : List (Addr × Obj)} {σ : St} {H : Hp} {s s' : Shared}
/-- from a body: what a callee wants -/
theorem Inv.env0 (I : Inv X pins σ H s) : Env0 X.prog X.w X.K X.mg X.base X.A X.stack s H :=
  ⟨I.ok.frames, I.ok.mod, I.bs, Nat.le_trans I.ok.bsz I.sz, I.stack, I.stkFree, I.hok, I.bare⟩
/-- behind a call -/
theorem Inv.after {Q : VK} {u : Value} (I : Inv X pins σ H s) (h : CE X.stack X.prog X.w H s Q u s') : EP X pins σ Q u s' := by
  obtain ⟨v, H', os, bare, un, hok, r, q⟩ := h
  obtain ⟨hh, g, d, t, os'⟩ := s'
  obtain rfl : os' = s.os := os
  exact ⟨v, H', I.call (h' := hh) (g' := g) (d' := d) (t' := t) (ch := []) un hok bare (fun b z => absurd z (by simp)), r, q⟩
end

/-- f(..): the written arguments, then the defaults dvs; E: what is wanted of an exception -/
def tCall (sp : Sp) (dvs : List V) (E : XK) (t : TA) : TE := fun σ H Q => t σ H fun vs H1 => sp (vs ++ dvs) H1 Q E
/-- o.m(..) of an instance of the class at C -/
def tMeth (C : Addr) (m : Str) (sp : Sp) (dvs : List V) (E : XK) (ta : TE) (t : TA) : TE := fun σ H Q => ta σ H fun x H1 => ∃ a dx fs, x = .ref a ∧ H1 a = some (.ins C dx fs) ∧ fs.lookup m = none ∧
  t σ H1 fun vs H2 => sp (x :: (vs ++ dvs)) H2 Q E
/-- C(..): a new instance and its dict, then __init__ -/
def tMake (C : Addr) (sp : Sp) (dvs : List V) (E : XK) (t : TA) : TE := fun σ H Q => t σ H fun vs H1 => ∀ x dx, H1 x = none → H1 dx = none → dx ≠ x →
  sp (.ref x :: (vs ++ dvs)) (upd (upd H1 dx (.own x)) x (.ins C dx [])) (fun v H2 => v = .non ∧ Q (.ref x) H2) E

/-- how the parameters are bound: us the positional arguments, kw the keywords' values by name, ds the defaults that fill up -/
def Binds (K : PySem.W.Frag) (fd : FuncData) (ps : List Str) (ds : List Value) : Prop :=
  ∀ (s : Shared) (us : List Value), K.In s.heap → (us ++ ds).length = ps.length → BindsTo s fd ⟨us, []⟩ (ps.zip (us ++ ds))
/-- every parameter is given -/
theorem Binds.all {K : PySem.W.Frag} {fd : FuncData} {ps : List Str} (h : ∀ us : List Value, us.length = ps.length → bindArgs fd ⟨us, []⟩ = pure (ps.zip us)) : Binds K fd ps [] := fun s us _ hl => by
  rw [List.append_nil] at hl ⊢
  exact .of_eq (h us hl)

/-- an exception of a callee reaches what this body wants of exceptions -/
def Passes (CX : CXT) (X : Cx) (E : XK) : Prop := ∀ (pins : List (Addr × Obj)) (σ : St) (H : Hp) (s : Shared) (e : Value) (s' : Shared), Inv X pins σ H s → CX X.stack H s E e s' → X.xe e s'

section
variable {X : Cx} {CX : CXT} {k : Nat} {f C : Addr} {fd : FuncData} {ps : List Str} {sp : Sp} {dvs : List V} {ds : List Value} {E : XK} {x m : Str} {p pos apos : Pos} {e o : Expr} {es : List Expr} {ta : TE} {t : TA}

/-- the callee runs -/
theorem run_fn {pins : List (Addr × Obj)} {σ : St} {H : Hp} {s : Shared} {Q : VK} {us : List Value} {vs : List V} (F : FnOk X.prog X.w X.K X.mg X.base CX k f fd ps sp) (hr : Room k X.A) (hb : Binds X.K fd ps ds) (hd : Vals dvs ds) (hx : Passes CX X E)
    (I : Inv X pins σ H s) (r : Vals vs us) (h : sp (vs ++ dvs) H Q E) : wpAny (model X.prog X.w) X.A (call (.ref f) us) (EP X pins σ Q) X.xe s := by
  have r2 : Vals (vs ++ dvs) (us ++ ds) := r.append hd
  have hl : (us ++ ds).length = ps.length := by rw [← r2.length]; exact F.len _ _ _ _ h
  refine wpAny_call (codeAny_mono (F.run X.A X.stack s H ⟨us, []⟩ (us ++ ds) (vs ++ dvs) Q E hr I.env0 (hb s us I.kIn hl) r2 h) fun r s' hq => ?_)
  cases r with
  | error e => exact hx pins σ H s e s' I hq
  | ok fl =>
    cases fl with
    | ret u => exact I.after hq
    | next => exact False.elim hq
    | brk => exact False.elim hq
    | cont => exact False.elim hq

theorem pe_call (F : FnOk X.prog X.w X.K X.mg X.base CX k f fd ps sp) (hr : Room k X.A) (hg : Gl X x) (hm : X.mg x = some (.ref f)) (hk : PySem.W.keepIn X.K (.ref f) = true) (hb : Binds X.K fd ps ds) (hd : Vals dvs ds) (hx : Passes CX X E)
    (ha : PA X (e :: es) t) (hdb : (x == ("__debug__" : Str)) = false := by decide) (he : starEach (e :: es) X.env = (false, eval e X.env) :: starEach es X.env := by rfl) (hpl : (backTo pos (starEach es X.env)).any (·.1) = false := by rfl) :
    PE X (.Call (.Name x p) (e :: es) [] pos) (tCall sp dvs E t) := by
  intro pins s σ H Q I h
  refine wpAny_Call_Name_kw (ld_glob I hg hm ?_ hdb)
  refine PySem.W.callWith_K (h₀ := X.base) I.ok.mod.kin hk (thn (ha pos pins s σ H _ I h) fun us s1 ⟨vs, H1, I1, r, q⟩ => ⟨I1.kIn, ?_⟩) he hpl
  exact run_fn F hr hb hd hx I1 r q
/-- o.m() -/
theorem pe_meth0 {pl : Sem Bool} (he : PE X o ta) (c : Cls X.K C) (hm : Meth X.K C m f) (F : FnOk X.prog X.w X.K X.mg X.base CX k f fd ps sp) (hr : Room k X.A) (hb : Binds X.K fd ps ds) (hd : Vals dvs ds) (hx : Passes CX X E)
    (ht : eval (.Call (.Attribute o m apos) [] [] pos) X.env = (do
      let ov ← eval o X.env
      standAt apos.atName
      let (f, first) ← holding [ov] (getMethod ov m pl)
      callWith pos f first (backTo pos (starEach [] X.env)) (backToKw pos (keywordEach [] X.env))) := by rfl) :
    PE X (.Call (.Attribute o m apos) [] [] pos) (tMeth C m sp dvs E ta tNil) := by
  intro pins s σ H Q I h
  refine PySem.W.methodCall_KW (pl := pl) (thn (he pins s σ H _ I h) fun u s1 ⟨x, H1, I1, rx, a, dx, fs, ex, ea, l, q⟩ => ?_) ht
  subst ex
  obtain rfl : u = Value.ref a := rx
  refine getmeth_ok I1 ea c hm l ?_
  exact PySem.W.callWith_K0 (first := [.ref a]) I1.kIn hm.kp (run_fn (us := [.ref a]) (vs := [.ref a]) F hr hb hd hx I1 (.cons rfl .nil) q)

/-- what a class must have to be made -/
structure Mk (K : PySem.W.Frag) (C f : Addr) : Prop where
  makes : PySem.W.makesIn K C = true
  init : PySem.W.findIn K (.ref C) "__init__" = some (some (.ref f))
  fn : PySem.W.isFn K (.ref f) = true
  kp : PySem.W.keepIn K (.ref C) = true

theorem run_make {pins : List (Addr × Obj)} {σ : St} {H : Hp} {s : Shared} {Q : VK} {us : List Value} {vs : List V} (M : Mk X.K C f) (F : FnOk X.prog X.w X.K X.mg X.base CX k f fd ps sp) (hr : Room (k + 1) X.A) (hb : Binds X.K fd ps ds) (hd : Vals dvs ds)
    (hx : Passes CX X E) (I : Inv X pins σ H s) (r : Vals vs us)
    (h : ∀ x dx, H x = none → H dx = none → dx ≠ x → sp (.ref x :: (vs ++ dvs)) (upd (upd H dx (.own x)) x (.ins C dx [])) (fun v H2 => v = .non ∧ Q (.ref x) H2) E) :
    wpAny (model X.prog X.w) X.A (call (.ref C) us) (EP X pins σ Q) X.xe s := by
  have hq := h (s.heap.objs.size + 1) s.heap.objs.size (I.hok.fresh (Nat.le_succ _)) (I.hok.fresh (Nat.le_refl _)) (Nat.ne_of_lt (Nat.lt_succ_self _))
  have I2 := Inv.made (C := C) I
  have r2 : Vals (V.ref (s.heap.objs.size + 1) :: (vs ++ dvs)) (Value.ref (s.heap.objs.size + 1) :: (us ++ ds)) := .cons rfl (r.append hd)
  have hl : (Value.ref (s.heap.objs.size + 1) :: us ++ ds).length = ps.length := by
    have e := r2.length
    rw [F.len _ _ _ _ hq] at e
    exact e.symm
  refine wpAny_call (make_map (f := f) I.kIn M.makes M.init (beq_iff_eq.mp M.fn) (codeAny_mono (F.run _ X.stack _ _ ⟨Value.ref (s.heap.objs.size + 1) :: us, []⟩ (Value.ref (s.heap.objs.size + 1) :: (us ++ ds)) _ _ E (hr.make C us [])
    (I2.env0.make C us []) (hb _ (Value.ref (s.heap.objs.size + 1) :: us) I2.kIn hl) r2 hq) fun r s' hq' => ?_))
  cases r with
  | error e => exact hx pins σ _ _ e s' I2 hq'
  | ok fl =>
    cases fl with
    | ret u =>
      obtain ⟨v, H', I3, rv, ev, q3⟩ := I2.after hq'
      subst ev
      exact ⟨rv, ⟨V.ref (s.heap.objs.size + 1), H', I3, rfl, q3⟩⟩
    | next => exact False.elim hq'
    | brk => exact False.elim hq'
    | cont => exact False.elim hq'
theorem pe_make (M : Mk X.K C f) (F : FnOk X.prog X.w X.K X.mg X.base CX k f fd ps sp) (hr : Room (k + 1) X.A) (hg : Gl X x) (hm : X.mg x = some (.ref C)) (hb : Binds X.K fd ps ds) (hd : Vals dvs ds) (hx : Passes CX X E)
    (ha : PA X (e :: es) t) (hdb : (x == ("__debug__" : Str)) = false := by decide) (he : starEach (e :: es) X.env = (false, eval e X.env) :: starEach es X.env := by rfl) (hpl : (backTo pos (starEach es X.env)).any (·.1) = false := by rfl) :
    PE X (.Call (.Name x p) (e :: es) [] pos) (tMake C sp dvs E t) := by
  intro pins s σ H Q I h
  refine wpAny_Call_Name_kw (ld_glob I hg hm ?_ hdb)
  refine PySem.W.callWith_K (h₀ := X.base) I.ok.mod.kin M.kp (thn (ha pos pins s σ H _ I h) fun us s1 ⟨vs, H1, I1, r, q⟩ => ⟨I1.kIn, ?_⟩) he hpl
  exact run_make M F hr hb hd hx I1 r q
end

section
variable {X : Cx} {CX : CXT} {k : Nat} {f C : Addr} {fd : FuncData} {ps ks : List Str} {sp : Sp} {E : XK} {x m : Str} {p pos apos kpos : Pos} {e o : Expr} {es : List Expr} {kws : List Keyword} {te ta : TE} {t tk : TA} {nm : Option Str}
variable {g : List Value → List Value → List Value} {gV : List V → List V → List V}
end

/-- names: the parameters first -/
structure FnScope (N P : List Str) (sc : Scope) : Prop where
  kind : sc.kind = .function
  co : sc.isCoroutine = false
  gen : sc.isGenerator = false
  nd : N.Nodup
  pre : N.take P.length = P
  par : ∀ x ∈ P, sc.names.lookup x = some .local ∨ sc.names.lookup x = some .cell
  nofree : ∀ y ∈ sc.names, y.2 ≠ .free

theorem bindL_out {kindOf : Str → Option NameKind} {x : Str} : ∀ {binds : List (Str × Value)} {m : Str → Option Value}, (∀ v, (x, v) ∉ binds) → bindL kindOf binds m x = m x
  | [], _, _ => rfl
  | (n, v) :: r, m, h => by
    unfold bindL
    rw [bindL_out fun w hw => h w (List.mem_cons_of_mem _ hw)]
    split
    · have : x ≠ n := by rintro rfl; exact h v List.mem_cons_self
      simp [this]
    · rfl
theorem bindC_out {kindOf : Str → Option NameKind} {x : Str} : ∀ {binds : List (Str × Value)} {m : Str → Option Value}, (∀ v, (x, v) ∉ binds) → bindC kindOf binds m x = m x
  | [], _, _ => rfl
  | (n, v) :: r, m, h => by
    unfold bindC
    rw [bindC_out fun w hw => h w (List.mem_cons_of_mem _ hw)]
    split
    · rfl
    · have : x ≠ n := by rintro rfl; exact h v List.mem_cons_self
      simp [this]
theorem bindL_get {kindOf : Str → Option NameKind} {x : Str} {v : Value} : ∀ {P : List Str} {vs : List Value} {i : Nat} {m : Str → Option Value}, P.Nodup → P[i]? = some x → vs[i]? = some v → kindOf x = some .local →
    bindL kindOf (P.zip vs) m x = some v
  | [], _, _, _, _, h, _, _ => by simp at h
  | _ :: _, [], _, _, _, _, h, _ => by simp at h
  | p :: P, w :: vs, 0, m, nd, h1, h2, hk => by
    simp at h1 h2; subst h1; subst h2
    show bindL kindOf ((p, w) :: P.zip vs) m p = _
    unfold bindL
    rw [bindL_out fun v hv => (List.nodup_cons.mp nd).1 (List.of_mem_zip hv).1, if_pos hk]
    simp
  | p :: P, w :: vs, i + 1, m, nd, h1, h2, hk => by
    show bindL kindOf ((p, w) :: P.zip vs) m x = _
    unfold bindL
    exact bindL_get (i := i) (List.nodup_cons.mp nd).2 (by simpa using h1) (by simpa using h2) hk
theorem bindC_get {kindOf : Str → Option NameKind} {x : Str} {v : Value} : ∀ {P : List Str} {vs : List Value} {i : Nat} {m : Str → Option Value}, P.Nodup → P[i]? = some x → vs[i]? = some v → kindOf x ≠ some .local →
    bindC kindOf (P.zip vs) m x = some v
  | [], _, _, _, _, h, _, _ => by simp at h
  | _ :: _, [], _, _, _, _, h, _ => by simp at h
  | p :: P, w :: vs, 0, m, nd, h1, h2, hk => by
    simp at h1 h2; subst h1; subst h2
    show bindC kindOf ((p, w) :: P.zip vs) m p = _
    unfold bindC
    rw [bindC_out fun v hv => (List.nodup_cons.mp nd).1 (List.of_mem_zip hv).1, if_neg hk]
    simp
  | p :: P, w :: vs, i + 1, m, nd, h1, h2, hk => by
    show bindC kindOf ((p, w) :: P.zip vs) m x = _
    unfold bindC
    exact bindC_get (i := i) (List.nodup_cons.mp nd).2 (by simpa using h1) (by simpa using h2) hk

/-- the names' values at the entry -/
def start (N : List Str) (vs : List V) : St := vs.map some ++ List.replicate (N.length - vs.length) none

/-- the context of a def's body, at its entry; an exception leaves the frame, then lies as CX says -/
def cxOf (CX : CXT) (P : Program) (w : World) (K : PySem.W.Frag) (mg : Str → Option Value) (base : Heap) (N : List Str) (qual : Str) (scope : Scope) (f : Addr) (cd : Value) (A : Around) (outer : List Env) (s : Shared) (H : Hp) (E : XK) : Cx where
  prog := P
  w := w
  K := K
  mg := mg
  base := base
  A := A.deeper (envOfC qual scope s.heap.objs.size f cd)
  N := N
  s₀ := s
  H₀ := H
  env := envOfC qual scope s.heap.objs.size f cd
  outer := outer
  stack := envOfC qual scope s.heap.objs.size f cd :: outer
  ex := []
  calm := true
  fn := fun _ => true
  pn := []
  xe := fun e s' => wpAny (model P w) (A.deeper (envOfC qual scope s.heap.objs.size f cd)) (leaving (envOfC qual scope s.heap.objs.size f cd) e) (fun _ s'' => CX outer H s E e s'') (fun e' s'' => CX outer H s E e' s'') s'

theorem cell_has {sc : Scope} {n : Nat} {x : Str} (h : sc.names.lookup x = some .cell) : ∃ c, (cellsFrom n sc.names []).lookup x = some c := by
  have q := PySem.W.cellsFrom_some sc.names n [] (.inl h)
  exact Option.isSome_iff_exists.mp q

theorem inv_start {CX : CXT} {P : Program} {w : World} {K : PySem.W.Frag} {mg : Str → Option Value} {base : Heap} {N ps : List Str} {qual : Str} {scope : Scope} {f : Addr} {cd : Value} {A : Around} {outer : List Env} {s s1 : Shared} {H : Hp} {E : XK} {us : List Value} {vs : List V}
    (S : FnScope N ps scope) (hd : A.handled = none) (e0 : Env0 P w K mg base A outer s H) (hl : vs.length = ps.length) (r : Vals vs us)
    (x : InCallC s s.heap.objs.size (bindL (envOfC qual scope s.heap.objs.size f cd).kindOf (ps.zip us) fun _ => none) (cellsFrom (s.heap.objs.size + 1) scope.names []) (bindC (envOfC qual scope s.heap.objs.size f cd).kindOf (ps.zip us) fun _ => none) s1) :
    Inv (cxOf CX P w K mg base N qual scope f cd A outer s H E) [] (start N vs) H s1 := by
  have hpl : ps.length ≤ N.length := by have := congrArg List.length S.pre; rw [List.length_take] at this; first | lia | omega
  obtain ⟨h1, tk, rfl, hk⟩ := x.done
  have noA : ∀ b : Addr, b ∉ (cxOf CX P w K mg base N qual scope f cd A outer s H E).ex := fun b z => absurd (show b ∈ ([] : List Addr) from z) (by simp)
  refine ⟨⟨e0.mod, S.kind, rfl, rfl, Nat.le_refl _, fun y z c h1 h2 => ?_, fun y hy => ?_, fun y c _ h => ?_, fun _ => hd, Around.frames_deeper e0.frames, .inr ⟨rfl, rfl⟩, fun b z => absurd z (noA b), e0.bs, e0.bsz, fun b _ _ => noA b, fun b z => absurd z (noA b), e0.funs, e0.frf⟩,
    rfl, e0.bare, Un.kept hk, ⟨_, x.toInCall.ns, fun i y v h1 h2 h3 => ?_⟩, fun y c h => ⟨_, x.cell y c h⟩, e0.hok.fresh (Nat.le_refl _), fun y c h => ?_, fun p hp => absurd (show p ∈ ([] : List (Addr × Obj)) from hp) (by simp), e0.hok.kept hk, ?_⟩
  · exact name_of_addr x.apart (PySem.mem_of_lookup h1) (PySem.mem_of_lookup h2)
  · have hy : scope.names.lookup y = some .cell ∨ scope.names.lookup y = some .free := hy
    rcases hy with hy | hy
    · exact cell_has hy
    · exact absurd rfl (S.nofree _ (PySem.mem_of_lookup hy))
  · exact Nat.le_of_lt (x.above y c (PySem.mem_of_lookup h))
  · have hi : i < vs.length := by
      unfold start at h2
      by_cases hi : i < vs.length
      · exact hi
      · rw [List.getElem?_append_right (by simpa using hi)] at h2
        rw [List.getElem?_replicate] at h2
        split at h2 <;> cases h2
    have ha : vs[i]? = some v := by
      unfold start at h2
      rw [List.getElem?_append_left (by simpa using hi), List.getElem?_map] at h2
      cases e : vs[i]? with
      | none => rw [e] at h2; cases h2
      | some a => rw [e] at h2; cases h2; rfl
    obtain ⟨u, hu, rv⟩ := r.get ha
    have hp : ps[i]? = some y := by
      rw [← S.pre, List.getElem?_take_of_lt (by first | lia | omega)]; exact h1
    have ndP : ps.Nodup := by rw [← S.pre]; exact S.nd.sublist (List.take_sublist _ _)
    refine ⟨u, rv, ?_⟩
    rcases S.par y (List.mem_of_getElem? hp) with k | k
    · exact .inl ⟨k, bindL_get ndP hp hu k⟩
    · obtain ⟨c, e⟩ := cell_has (n := s.heap.objs.size + 1) k
      refine .inr ⟨.inl k, c, e, ?_⟩
      have q := x.cell y c e
      rw [bindC_get ndP hp hu (by show scope.names.lookup y ≠ _; rw [k]; decide)] at q
      exact q
  · exact e0.hok.fresh (Nat.le_of_lt (x.above y c (PySem.mem_of_lookup h)))
  · unfold start
    show _ = N.length
    rw [List.length_append, List.length_map, List.length_replicate]
    first | lia | omega

/-- THE RULE: a def (or a method) of the text, by its body. The body's reading t is chosen for each entry; it is run at the parameters' values -/
theorem fn_of {CX : CXT} {P : Program} {w : World} {K : PySem.W.Frag} {mg : Str → Option Value} {base : Heap} {k : Nat} {f : Addr} {name qual : Str} {params : Arguments} {body : List Stmt} {scope : Scope} {dV kV doc pm cdv ct oc : Value} {an od : Option Addr}
    {osl : Array (Option Value)} {N ps : List Str} {sp : Sp} (lk : K.lookup f = some ⟨oc, od, .func (PySem.W.fnOf name qual params body scope dV kV doc pm an cdv ct), osl⟩) (hcd : PySem.W.codeIn K cdv qual = true) (S : FnScope N ps scope)
    (len : ∀ vs H Q E, sp vs H Q E → vs.length = ps.length)
    (hbody : ∀ (A : Around) (outer : List Env) (s : Shared) (H : Hp) (vs : List V) (Q : VK) (E : XK), Room k (A.deeper (envOfC qual scope s.heap.objs.size f cdv)) → sp vs H Q E →
      ∃ t, PSs (cxOf CX P w K mg base N qual scope f cdv A outer s H E) body t ∧ t { nx := fun _ H' => Q .non H', rt := Q } (start N vs) H) :
    FnOk P w K mg base CX (k + 1) f (PySem.W.fnOf name qual params body scope dV kV doc pm an cdv ct) ps sp := by
  refine ⟨len, fun A outer s H args us vs Q E hr e0 hb r hsp => ?_⟩
  have hl := len _ _ _ _ hsp
  have KX : K.In s.heap := e0.mod.kin.keeps fun b o e => (e0.bs b o e).1
  have lim : s.heap.NoLimit := e0.mod.nolimit.keeps fun b o e => (e0.bs b o e).1
  have hkind : ∀ y ∈ ps.zip us, scope.names.lookup y.1 = some .local ∨ (scope.names.lookup y.1 = some .cell ∧ ((cellsFrom (s.heap.objs.size + 1) scope.names []).lookup y.1).isSome = true) := fun ⟨n, v⟩ hy => by
    rcases S.par n (List.of_mem_zip hy).1 with q | q
    · exact .inl q
    · exact .inr ⟨q, PySem.W.cellsFrom_some _ _ _ (.inl q)⟩
  refine codeAny_call_function hr.depth (KX _ _ lk) rfl S.co S.gen rfl (PySem.W.codeRec_of KX hcd) (hb _ _ _ _ ?_)
  refine wpAny_newFunctionEnv_cells S.kind hkind fun env he s1 x => ?_
  subst he
  refine ⟨lim.keeps x.toInCall.keep, codeAny_func ?_⟩
  obtain ⟨t, ht, hq⟩ := hbody A outer s H vs Q E (hr.deeper _) hsp
  have I : Inv (cxOf CX P w K mg base N qual scope f cdv A outer s H E) [] (start N vs) H s1 := inv_start S hr.hd e0 hl r x
  refine wpAny_mono (ht [] s1 (start N vs) H _ I hq) (fun fl s' hs => ?_) fun e s' hs => hs
  have fin : ∀ {σ' : St} {H' : Hp} {v : V} {u : Value}, Inv (cxOf CX P w K mg base N qual scope f cdv A outer s H E) [] σ' H' s' → RelV v u → Q v H' → CE outer P w H s Q u s' :=
    fun {σ' H' v u} J rv q => ⟨v, H', J.os, J.bare, J.base, J.hok, rv, q⟩
  cases fl with
  | ret u =>
    obtain ⟨v, σ', H', J, rv, q⟩ := hs
    exact fin J rv q
  | next =>
    obtain ⟨σ', H', J, q⟩ := hs
    exact fin (v := V.non) (u := Value.none) J rfl q
  | brk =>
    obtain ⟨_, _, _, q⟩ := hs
    exact False.elim q
  | cont =>
    obtain ⟨_, _, _, q⟩ := hs
    exact False.elim q
end L2

namespace L2
open PySem PySem.Spec PyProof.Rows
section
variable {X : Cx} {x : Str} {p pos : Pos} {e : Expr} {es : List Expr} {t : TA} {id T : String} {r : List V → Hp → VK → Prop}

def tCB (r : List V → Hp → VK → Prop) (t : TA) : TE := fun σ H Q => t σ H fun vs H1 => r vs H1 Q
/-- f(e, ..), f a built-in function -/
theorem pe_callB (hc : CallR X (.builtin id) r) (hg : Gl X x) (hm : X.mg x = none) (hv : bootBuiltins x = some (.builtin id)) (ha : PA X (e :: es) t) (hn : x ≠ "__name__" := by decide) (hdb : (x == ("__debug__" : Str)) = false := by decide)
    (he : starEach (e :: es) X.env = (false, eval e X.env) :: starEach es X.env := by rfl) (hpl : (backTo pos (starEach es X.env)).any (·.1) = false := by rfl) : PE X (.Call (.Name x p) (e :: es) [] pos) (tCB r t) := by
  intro pins s σ H Q I h
  refine wpAny_Call_Name_kw (ld_blt I hg hm hv ?_ hn hdb)
  exact PyProof.Rows.callWith_builtin1 (thn (ha pos pins s σ H _ I h) fun us s1 ⟨vs, H1, I1, r1, q1⟩ => hc pins s1 σ H1 vs us Q I1 r1 q1) he hpl
/-- T(e, ..), T a built-in type -/
theorem pe_callTy (hc : CallR X (.type T) r) (hg : Gl X x) (hm : X.mg x = none) (hv : bootBuiltins x = some (.type T)) (ha : PA X (e :: es) t) (hn : x ≠ "__name__" := by decide) (hdb : (x == ("__debug__" : Str)) = false := by decide)
    (he : starEach (e :: es) X.env = (false, eval e X.env) :: starEach es X.env := by rfl) (hpl : (backTo pos (starEach es X.env)).any (·.1) = false := by rfl) : PE X (.Call (.Name x p) (e :: es) [] pos) (tCB r t) := by
  intro pins s σ H Q I h
  refine wpAny_Call_Name_kw (ld_blt I hg hm hv ?_ hn hdb)
  exact PyProof.Rows.callWith_type1 (thn (ha pos pins s σ H _ I h) fun us s1 ⟨vs, H1, I1, r1, q1⟩ => hc pins s1 σ H1 vs us Q I1 r1 q1) he hpl
end
end L2

namespace HT
open PySem PyProof.Rows

/-- t < u of tuples of ints -/
def lexLt : List Int → List Int → Bool
  | [], [] => false
  | [], _ :: _ => true
  | _ :: _, [] => false
  | x :: xs, y :: ys => if x = y then lexLt xs ys else decide (x < y)
theorem lexLt_cons (x y : Int) (xs ys : List Int) : lexLt (x :: xs) (y :: ys) = if x = y then lexLt xs ys else decide (x < y) := rfl
theorem lexLt_nil_nil : lexLt [] [] = false := rfl
section
open PySem.SeqAt
open PySem.AutoSeq1 (wpAny_loadPart')
open PySem.MeetsSeq PySem.MeetsSeq2 PySem.MeetsSeq3

end

section
variable {prog : Program} {w : World} {A : Around} {E : Value → Shared → Prop} {s : Shared}

end
end HT

namespace L2
open PySem PySem.Spec PyProof.Rows

abbrev TO := St → Hp → (Option Int → Hp → Prop) → Prop
/-- a slice's part (left out, or an int) -/
def PO (X : Cx) (e : Option Expr) (t : TO) : Prop :=
  ∀ (pins : List (Addr × Obj)) (s : Shared) (σ : St) (H : Hp) (Q : Option Int → Hp → Prop), Inv X pins σ H s → t σ H Q →
    wpAny (model X.prog X.w) X.A (evalPart e X.env) (fun u s' => ∃ o H', Inv X pins σ H' s' ∧ IsPart u o ∧ Q o H') X.xe s
def tNoPart : TO := fun _ H Q => Q none H
def tPart (t : TE) : TO := fun σ H Q => t σ H fun x H1 => ∃ i, x = .int i ∧ Q (some i) H1

theorem intsAre_of {ns : List Int} : ∀ {us : List Value}, Vals (ns.map V.int) us → IntsAre us ns := by
  induction ns with
  | nil => intro us r; rw [List.map_nil] at r; cases r; exact .nil
  | cons n ns ih =>
    intro us r
    rw [List.map_cons] at r
    cases r with
    | cons r1 r2 =>
      obtain ⟨t, e⟩ := r1
      subst e
      exact .cons n t (ih r2)

section
variable {X : Cx} {e : Expr} {te : TE} {lo hi : Option Expr} {tl th : TO} {pos p2 : Pos}

theorem po_none : PO X none tNoPart := by
  intro pins s σ H Q I h
  rw [evalPart_none]
  exact wpAny_pure ⟨none, H, I, .none, h⟩
theorem po_some (h : PE X e te) : PO X (some e) (tPart te) := by
  intro pins s σ H Q I hw
  rw [evalPart_some]
  refine thn (h pins s σ H _ I hw) fun u s1 ⟨x, H1, I1, r1, q1⟩ => ?_
  obtain ⟨i, rfl, q⟩ := q1
  obtain ⟨t, rfl⟩ := r1
  exact ⟨some i, H1, I1, .int i t, q⟩

/-- what a slice of a value is, by values: the slice object stands at sl -/
def SlR (X : Cx) (r : V → Option Int → Option Int → Hp → VK → Prop) : Prop :=
  ∀ (pins : List (Addr × Obj)) (s : Shared) (σ : St) (H : Hp) (x : V) (v vl vu : Value) (lo hi : Option Int) (sl : Addr) (Q : VK), Inv X pins σ H s → RelV x v → s.heap.IsSliceOf sl vl vu .none → IsPart vl lo → IsPart vu hi → r x lo hi H Q →
    ∃ T id, typeLookup (.type T) "__getitem__" = pure (some (.builtin id)) ∧ s.TypeIs v T ∧ wpAny (model X.prog X.w) X.A (getItem v (.ref sl)) (EP X pins σ Q) X.xe s
def tSl (r : V → Option Int → Option Int → Hp → VK → Prop) (te : TE) (tl th : TO) : TE := fun σ H Q => te σ H fun x H1 => tl σ H1 fun l H2 => th σ H2 fun u H3 => r x l u H3 Q
/-- a[lo:hi], any a -/
theorem pe_slice {r : V → Option Int → Option Int → Hp → VK → Prop} (hr : SlR X r) (he : PE X e te) (hl : PO X lo tl) (hu : PO X hi th) : PE X (.Subscript e (.Slice lo hi none p2) pos) (tSl r te tl th) := by
  intro pins s σ H Q I h
  refine Subscript_ (thn (he pins s σ H _ I h) fun v s1 ⟨x, H1, I1, r1, q1⟩ => ?_)
  refine wpAny_Slice (thn (hl pins s1 σ H1 _ I1 q1) fun vl s2 ⟨l, H2, I2, pl, q2⟩ => thn (hu pins s2 σ H2 _ I2 q2) fun vu s3 ⟨u, H3, I3, pu, q3⟩ => ?_)
  rw [evalPart_none]
  refine wpAny_pure ?_
  have I4 : Inv X pins σ H3 { s3 with heap := s3.heap.push { cls := .type "slice", data := .fields #[vl, vu, .none] } } := I3.kept (t' := s3.toks) fun b ob q => Heap.get?_push_of_some _ q
  obtain ⟨T, id, hT, ht, hg⟩ := hr pins { s3 with heap := s3.heap.push { cls := .type "slice", data := .fields #[vl, vu, .none] } } σ H3 x v vl vu l u s3.heap.objs.size Q I4 r1 (Heap.IsSliceOf.new ..) pl pu q3
  show wpAny (model X.prog X.w) X.A (subscriptTail e (.Slice lo hi none p2) v (.ref s3.heap.objs.size)) (EP X pins σ Q) X.xe { s3 with heap := s3.heap.push { cls := .type "slice", data := .fields #[vl, vu, .none] } }
  exact tail_any (ops := [.ref s3.heap.objs.size, v]) ht hT hg (by with_unfolding_all rfl)

end
end L2

namespace L2
open PySem PySem.Spec PyProof.Rows

/-- the place that an index of any sign means -/
def ixN (n : Nat) (i : Int) : Option Nat := if 0 ≤ i then (if i < n then some i.toNat else none) else if -(n : Int) ≤ i then some (i + n).toNat else none
def atI {α : Type} (xs : List α) (i : Int) : Option α := (ixN xs.length i).bind fun j => xs[j]?
theorem ixN_seq {n : Nat} {i : Int} {j : Nat} (h : ixN n i = some j) : seqIndex? i n = some j ∧ j < n ∧ -(n : Int) ≤ i ∧ i < n := by
  unfold ixN at h
  by_cases h0 : 0 ≤ i
  · rw [if_pos h0] at h
    by_cases h1 : i < n
    · rw [if_pos h1] at h
      have e : i.toNat = j := Option.some.inj h
      exact ⟨by rw [seqIndex_of h0 h1, e], by first | lia | omega, by first | lia | omega, h1⟩
    · rw [if_neg h1] at h; cases h
  · rw [if_neg h0] at h
    by_cases h1 : -(n : Int) ≤ i
    · rw [if_pos h1] at h
      have e : (i + n).toNat = j := Option.some.inj h
      exact ⟨by rw [seqIndex_neg (by first | lia | omega) h1, e], by first | lia | omega, h1, by first | lia | omega⟩
    · rw [if_neg h1] at h; cases h
theorem atI_get {α : Type} {xs : List α} {i : Int} {v : α} (h : atI xs i = some v) : ∃ j, seqIndex? i xs.length = some j ∧ xs[j]? = some v ∧ j < xs.length ∧ -(xs.length : Int) ≤ i ∧ i < xs.length := by
  unfold atI at h
  cases e : ixN xs.length i with
  | none => rw [e] at h; cases h
  | some j =>
    rw [e] at h
    obtain ⟨h1, h2, h3, h4⟩ := ixN_seq e
    exact ⟨j, h1, h, h2, h3, h4⟩
theorem atI_nat {α : Type} {xs : List α} {j : Nat} {v : α} (h : xs[j]? = some v) : atI xs (j : Int) = some v := by
  have hj : j < xs.length := (List.getElem?_eq_some_iff.mp h).1
  have e : ixN xs.length (j : Int) = some j := by
    unfold ixN
    rw [if_pos (by first | lia | omega), if_pos (by first | lia | omega)]; simp
  unfold atI; rw [e]; exact h
/-- what stands as an index of a plain subscript -/
def PlainIx (b : Expr) : Prop := ∀ o i, subscripted b false o i = operate [o, i] (getItem o i)
/-- a subscript by values -/
def IxR (X : Cx) (r : R2) : Prop :=
  ∀ (value slice : Expr) (pins : List (Addr × Obj)) (s : Shared) (σ : St) (H : Hp) (x y : V) (v u : Value) (Q : VK), Inv X pins σ H s → RelV x v → RelV y u → r x y H Q →
    subscripted slice false v u = operate [v, u] (getItem v u) → wpAny (model X.prog X.w) X.A (subscriptTail value slice v u) (EP X pins σ Q) X.xe s
/-- a call of a builtin's method by values: the receiver, the arguments -/
def MtR (X : Cx) (id : String) (r : V → List V → Hp → VK → Prop) : Prop :=
  ∀ (pins : List (Addr × Obj)) (s : Shared) (σ : St) (H : Hp) (x : V) (xs : List V) (v : Value) (us : List Value) (Q : VK), Inv X pins σ H s → RelV x v → Vals xs us → r x xs H Q →
    wpAny (model X.prog X.w) X.A (call (.builtin id) (v :: us)) (EP X pins σ Q) X.xe s
section
variable {X : Cx} {a b : Expr} {ta tb : TE} {pos : Pos}
/-- a[b] -/
theorem pe_ix {r : R2} (hr : IxR X r) (ha : PE X a ta) (hb : PE X b tb) (hs : PlainIx b) : PE X (.Subscript a b pos) (tOp r ta tb) := by
  intro pins s σ H Q I h
  exact Subscript_ (binT ha hb I h fun v u s2 x y H2 I2 rx ry q => hr a b pins s2 σ H2 x y v u Q I2 rx ry q (hs _ _))

def rIxL (K : PySem.W.Frag) : R2 := fun x y H Q => ∃ p xs i v, x = .ref p ∧ y = .int i ∧ SqL K H p xs ∧ atI xs i = some v ∧ Q v H
def rIxT (K : PySem.W.Frag) : R2 := fun x y H Q => ∃ p xs i v, x = .ref p ∧ y = .int i ∧ SqT K H p xs ∧ atI xs i = some v ∧ Q v H
theorem ix_list : IxR X (rIxL X.K) := by
  intro value slice pins s σ H x y v u Q I rx ry h hs
  obtain ⟨p, xs, i, z, rfl, rfl, hq, he, q⟩ := h
  cases rx
  obtain ⟨t, rfl⟩ := ry
  obtain ⟨its, r, pl, hz⟩ := I.list hq
  obtain ⟨j, h1, h2, h3, h4, h5⟩ := atI_get he
  obtain ⟨w, ew, rw'⟩ := r.get h2
  have hl := r.length
  have hn := line63
  have fin : EP X pins σ Q w s := ⟨z, H, I, rw', q⟩
  by_cases h0 : 0 ≤ i
  · have hj : i.toNat = j := by
      rw [seqIndex_of h0 h5] at h1
      exact Option.some.inj h1
    exact item_listR pl.isList h0 (by first | lia | omega) (by rw [hj]; simpa using ew) fin hs
  · have hj : (i + (its.toArray.size : Int)).toNat = j := by
      rw [seqIndex_neg (by first | lia | omega) h4] at h1
      rw [List.size_toArray, ← hl]
      exact Option.some.inj h1
    exact subscriptTail_builtinR (x := w) pl.isList.typeIs slot_list_getitem.lookup
      (wpAny_getItem_list_neg (Q := fun r s' => r = w ∧ EP X pins σ Q r s') pl.isList (by first | lia | omega) (by rw [List.size_toArray] <;> first | lia | omega) (by first | lia | omega) (by rw [hj]; simpa using ew) ⟨rfl, fin⟩) hs
theorem ix_tup : IxR X (rIxT X.K) := by
  intro value slice pins s σ H x y v u Q I rx ry h hs
  obtain ⟨p, xs, i, z, rfl, rfl, hq, he, q⟩ := h
  cases rx
  obtain ⟨t, rfl⟩ := ry
  obtain ⟨its, r, pl, hz⟩ := I.tuple hq
  obtain ⟨j, h1, h2, h3, h4, h5⟩ := atI_get he
  obtain ⟨w, ew, rw'⟩ := r.get h2
  have hl := r.length
  have hn := line63
  have fin : EP X pins σ Q w s := ⟨z, H, I, rw', q⟩
  exact subscriptTail_builtinR (x := w) pl.typeIs slot_tuple_getitem.lookup
    (getItem_tuple (j := j) (Q := fun r s' => r = w ∧ EP X pins σ Q r s') pl (by first | lia | omega) (by first | lia | omega) (by rw [List.size_toArray, ← hl]; exact h1) (by simpa using ew) ⟨rfl, fin⟩) hs
/-- the list's object behind a store -/
theorem mapSeq_set (its : List Value) (n j : Nat) (u : Value) : Obj.mapSeq (·.setIfInBounds j u) { cls := .type "list", data := .seq its.toArray n } = { cls := .type "list", data := .seq (its.set j u).toArray n } := by
  simp [Obj.mapSeq]
theorem Inv.lst {pins : List (Addr × Obj)} {σ : St} {H : Hp} {s : Shared} {p : Addr} {xs : List V} (I : Inv X pins σ H s) (h : H p = some (.lst xs)) :
    ∃ (its : List Value) (n : Nat), Vals xs its ∧ s.heap.get? p = some { cls := .type "list", data := .seq its.toArray n } ∧ xs.length ≤ sizeLine := by
  obtain ⟨z, its, n, r, e⟩ := I.hok p _ h
  exact ⟨its, n, r, e, z⟩
/-- the list at p is written by an update of its object -/
theorem Inv.lstUpd {pins : List (Addr × Obj)} {σ : St} {H : Hp} {s : Shared} {p : Addr} {xs ys : List V} {its its' : List Value} {n n' : Nat} {f : Obj → Obj} (I : Inv X pins σ H s) (h : H p = some (.lst xs))
    (ho : s.heap.get? p = some { cls := .type "list", data := .seq its.toArray n }) (hf : f { cls := .type "list", data := .seq its.toArray n } = { cls := .type "list", data := .seq its'.toArray n' }) (r : Vals ys its') (hz : ys.length ≤ sizeLine) (t : Nat) :
    Inv X pins σ (upd H p (.lst ys)) { s with heap := s.heap.update p f, toks := t } := by
  have e : (s.heap.update p f).get? p = some { cls := .type "list", data := .seq its'.toArray n' } := by
    rw [Heap.get?_update_self f ho (by rw [hf] <;> rfl), hf]
  refine I.write (x := p) (e := p) (by rw [h]; trivial) (.inl rfl) (fun b u hb q => (Heap.get?_update_other _ _ (Ne.symm hb)).trans q) ⟨_, e⟩ ?_
  exact ⟨hz, its', n', r, e⟩
def rSetL : V → V → V → Hp → (Hp → Prop) → Prop := fun o i v H Q => ∃ p xs k j, o = .ref p ∧ i = .int k ∧ H p = some (.lst xs) ∧ ixN xs.length k = some j ∧ Q (upd H p (.lst (xs.set j v)))
theorem set_list : PSet X rSetL := by
  intro pins s σ H o i v ov iv u Q I ro ri rv h
  obtain ⟨p, xs, k, j, rfl, rfl, hp, hj, q⟩ := h
  cases ro
  obtain ⟨t, rfl⟩ := ri
  obtain ⟨its, n, r, ho, hz⟩ := I.lst hp
  obtain ⟨h1, h2, h3, h4⟩ := ixN_seq hj
  have hl := r.length
  have hn := line63
  have I' : Inv X pins σ (upd H p (.lst (xs.set j v))) { s with heap := s.heap.update p (Obj.mapSeq (·.setIfInBounds j u)) } :=
    I.lstUpd hp ho (mapSeq_set its n j u) (r.set rv j) (by rw [List.length_set]; exact hz) s.toks
  by_cases h0 : 0 ≤ k
  · have hk : k.toNat = j := by
      rw [seqIndex_of h0 h4] at h1
      exact Option.some.inj h1
    exact PySem.W.ki_setAt ho h0 (by first | lia | omega) (by rw [List.size_toArray, ← hl]; exact h4) (by rw [hk]; exact ⟨_, I', q⟩)
  · have hk : (k + (its.toArray.size : Int)).toNat = j := by
      rw [seqIndex_neg (by first | lia | omega) h3] at h1
      rw [List.size_toArray, ← hl]
      exact Option.some.inj h1
    exact PySem.W.ki_setBack ho (by first | lia | omega) (by rw [List.size_toArray, ← hl]; exact h3) (by first | lia | omega) (by rw [hk]; exact ⟨_, I', q⟩)

def flatV : V → Bool
  | .non => true
  | .bl _ => true
  | .int _ => true
  | .str _ => true
  | _ => false
/-- == of flat values -/
def eqV : V → V → Bool
  | .non, .non => true
  | .bl a, .bl b => a == b
  | .bl a, .int b => (if a then 1 else 0) == b
  | .int a, .bl b => a == (if b then 1 else 0)
  | .int a, .int b => a == b
  | .str a, .str b => a == b
  | _, _ => false
theorem eqAt_V {A : Around} {s : Shared} {y x : V} {u v : Value} (ry : RelV y u) (rx : RelV x v) (fy : flatV y = true) (fx : flatV x = true) : SeqAt.EqAt A s u v (eqV y x) := by
  cases y with
  | non =>
    cases ry
    cases x with
    | non => cases rx; exact SeqAt.EqAt.same _
    | bl b => cases rx; exact SeqAt.EqAt.none_bool b
    | int b => obtain ⟨t, rfl⟩ := rx; exact SeqAt.EqAt.none_int b t
    | str b => obtain ⟨t, rfl⟩ := rx; exact SeqAt.EqAt.none_str b t
    | _ => exact absurd (show false = true from fx) Bool.false_ne_true
  | bl a =>
    cases ry
    cases x with
    | non => cases rx; exact SeqAt.EqAt.bool_none a
    | bl b => cases rx; exact SeqAt.EqAt.bool_bool a b
    | int b => obtain ⟨t, rfl⟩ := rx; exact SeqAt.EqAt.bool_int a b t
    | str b => obtain ⟨t, rfl⟩ := rx; exact SeqAt.EqAt.bool_str a b t
    | _ => exact absurd (show false = true from fx) Bool.false_ne_true
  | int a =>
    obtain ⟨t', rfl⟩ := ry
    cases x with
    | non => cases rx; exact SeqAt.EqAt.int_none a t'
    | bl b => cases rx; exact SeqAt.EqAt.int_bool a t' b
    | int b => obtain ⟨t, rfl⟩ := rx; exact SeqAt.EqAt.int_int a t' b t
    | str b => obtain ⟨t, rfl⟩ := rx; exact SeqAt.EqAt.int_str a t' b t
    | _ => exact absurd (show false = true from fx) Bool.false_ne_true
  | str a =>
    obtain ⟨t', rfl⟩ := ry
    cases x with
    | non => cases rx; exact SeqAt.EqAt.str_none a t'
    | bl b => cases rx; exact SeqAt.EqAt.str_bool a t' b
    | int b => obtain ⟨t, rfl⟩ := rx; exact SeqAt.EqAt.str_int a t' b t
    | str b => obtain ⟨t, rfl⟩ := rx; exact SeqAt.EqAt.str_str a t' b t
    | _ => exact absurd (show false = true from fx) Bool.false_ne_true
  | _ => exact absurd (show false = true from fy) Bool.false_ne_true
theorem call_len_seq : CallR X (.builtin "len") (fun xs H Q => ∃ p ys, xs = [.ref p] ∧ (SqL X.K H p ys ∨ SqT X.K H p ys) ∧ Q (.int ys.length) H) := by
  intro pins s σ H xs us Q I r h
  obtain ⟨p, ys, rfl, hq, q⟩ := h
  obtain ⟨u, rfl, rx⟩ := vals1 r
  cases rx
  have hn := line63
  rcases hq with hq | hq
  · obtain ⟨its, r', pl, hz⟩ := I.list hq
    have hlen := r'.length
    exact Calls.call_len_list pl.isList (by simp only [List.size_toArray] <;> first | lia | omega) ⟨.int ys.length, H, I.tok _, ⟨s.toks + 1, by rw [List.size_toArray, hlen]⟩, q⟩
  · obtain ⟨its, r', pl, hz⟩ := I.tuple hq
    have hlen := r'.length
    exact len_tuple pl (by simp only [List.size_toArray] <;> first | lia | omega) ⟨.int ys.length, H, I.tok _, ⟨s.toks + 1, by rw [List.size_toArray, hlen]⟩, q⟩
theorem call_len_str : CallR X (.builtin "len") (fun xs H Q => ∃ z, xs = [.str z] ∧ z.length ≤ sizeLine ∧ Q (.int z.length) H) := by
  intro pins s σ H xs us Q I r h
  obtain ⟨z, rfl, hz, q⟩ := h
  obtain ⟨u, rfl, t, rfl⟩ := vals1 r
  have hn := line63
  exact len_str (by first | lia | omega) ⟨.int z.length, H, I.tok _, ⟨_, rfl⟩, q⟩
theorem call_list_of : CallR X (.type "list") (fun xs H Q => ∃ p ys, xs = [.ref p] ∧ (SqL X.K H p ys ∨ SqT X.K H p ys) ∧ ∀ l, H l = none → Q (.ref l) (upd H l (.lst ys))) := by
  intro pins s σ H xs us Q I r h
  obtain ⟨p, ys, rfl, hq, q⟩ := h
  obtain ⟨u, rfl, rx⟩ := vals1 r
  cases rx
  have fin : ∀ (its : List Value), Vals ys its → ys.length ≤ sizeLine → ∀ (h' : Heap) (c' : Nat), (∀ b o', s.heap.get? b = some o' → h'.get? b = some o') →
      h'.get? s.heap.objs.size = some { cls := .type "list", dict := none, data := .seq its.toArray c', slots := #[] } → EP X pins σ Q (.ref s.heap.objs.size) { s with heap := h' } := fun its r' hz h' c' kp e =>
    ⟨.ref s.heap.objs.size, _, I.laid (t' := s.toks) kp (Nat.le_refl _) (show ObjOk X.prog X.w _ h' _ (.lst ys) from ⟨hz, its, c', r', e⟩), rfl, q _ (I.hok.fresh (Nat.le_refl _))⟩
  rcases hq with hq | hq
  · obtain ⟨its, r', pl, hz⟩ := I.list hq
    have hlen := r'.length
    obtain ⟨o, ho, hc, n, hd⟩ := pl.isList
    exact call_list_seq p (.inl rfl) ho hc hd (fun h' c' kp e => fin its r' hz h' c' kp e) (by simp only [List.size_toArray] <;> first | lia | omega)
  · obtain ⟨its, r', pl, hz⟩ := I.tuple hq
    have hlen := r'.length
    obtain ⟨o, ho, hc, n, hd⟩ := pl
    exact call_list_seq p (.inr rfl) ho hc hd (fun h' c' kp e => fin its r' hz h' c' kp e) (by simp only [List.size_toArray] <;> first | lia | omega)
theorem call_tuple_of : CallR X (.type "tuple") (fun xs H Q => ∃ p ys, xs = [.ref p] ∧ ((SqL X.K H p ys ∧ ∀ l, H l = none → Q (.ref l) (upd H l (.tup ys))) ∨ (SqT X.K H p ys ∧ Q (.ref p) H))) := by
  intro pins s σ H xs us Q I r h
  obtain ⟨p, ys, rfl, h⟩ := h
  obtain ⟨u, rfl, rx⟩ := vals1 r
  cases rx
  rcases h with ⟨hq, q⟩ | ⟨hq, q⟩
  · obtain ⟨its, r', pl, hz⟩ := I.list hq
    have hlen := r'.length
    refine call_tuple_list pl.isList (fun h' kp => ?_) (by simp only [List.size_toArray] <;> first | lia | omega)
    have I1 : Inv X pins σ H { s with heap := h' } := I.kept (t' := s.toks) kp
    have I2 : Inv X pins σ (upd H h'.objs.size (.tup ys)) { s with heap := h'.push { cls := .type "tuple", data := .seq its.toArray } } :=
      I1.laid (t' := s.toks) (fun b o e => Heap.get?_push_of_some _ e) (Nat.le_refl _) (show ObjOk X.prog X.w _ _ _ (.tup ys) from ⟨hz, its, r', IsTup.new _ _⟩)
    exact ⟨.ref h'.objs.size, _, I2, rfl, q _ (I1.hok.fresh (Nat.le_refl _))⟩
  · obtain ⟨its, r', pl, hz⟩ := I.tuple hq
    exact call_tuple_same pl ⟨.ref p, H, I, rfl, q⟩

/-- the value is of that builtin type -/
def tyV (K : PySem.W.Frag) (T : String) (x : V) (H : Hp) : Prop := match x with
  | .str _ => T = "str"
  | .int _ => T = "int"
  | .ref p => (T = "list" ∧ ∃ xs, SqL K H p xs) ∨ (T = "tuple" ∧ ∃ o, K.lookup p = some o ∧ o.cls = .type "tuple" ∧ o.dict = none) ∨
      (T = "dict" ∧ ((∃ kvs, H p = some (.dK kvs)) ∨ ∃ kvs, H p = some (.dT kvs))) ∨ (T = "set" ∧ ∃ S n, H p = some (.set S n))
  | _ => False
theorem tyV_is {pins : List (Addr × Obj)} {σ : St} {H : Hp} {s : Shared} {T : String} {x : V} {v : Value} (I : Inv X pins σ H s) (r : RelV x v) (ty : tyV X.K T x H) :
    s.TypeIs v T ∧ ∀ a, v = .ref a → ∃ ob, s.heap.get? a = some ob ∧ ob.dict = none := by
  cases x with
  | str z =>
    obtain ⟨t, rfl⟩ := r
    cases (show T = "str" from ty)
    exact ⟨typeIs_str s z t, fun _ e => nomatch e⟩
  | int i =>
    obtain ⟨t, rfl⟩ := r
    cases (show T = "int" from ty)
    exact ⟨typeIs_int s i t, fun _ e => nomatch e⟩
  | ref p =>
    cases r
    rcases ty with ⟨rfl, xs, hq⟩ | ⟨rfl, o, hk, hc, hd⟩ | ⟨rfl, hk⟩ | ⟨rfl, S, n, hk⟩
    · obtain ⟨its, _, pl, _⟩ := I.list hq
      refine ⟨pl.isList.typeIs, fun a e => ?_⟩
      cases e
      obtain ⟨o, n, e, c, hd, _⟩ := pl
      exact ⟨o, e, hd⟩
    · refine ⟨⟨o, I.kIn p o hk, hc⟩, fun a e => ?_⟩
      cases e
      exact ⟨o, I.kIn _ o hk, hd⟩
    · have z : ∃ o, s.heap.get? p = some o ∧ o.ExactDict := by
        rcases hk with ⟨kvs, hk⟩ | ⟨kvs, hk⟩
        · obtain ⟨_, _, _, _, o, _, _, e, ex, _⟩ := I.hok p _ hk
          exact ⟨o, e, ex⟩
        · obtain ⟨_, _, _, _, o, _, _, e, ex, _⟩ := I.hok p _ hk
          exact ⟨o, e, ex⟩
      obtain ⟨o, e, ex⟩ := z
      refine ⟨⟨o, e, ex.1⟩, fun a e2 => ?_⟩
      cases e2
      exact ⟨o, e, ex.2.1⟩
    · obtain ⟨o, _, _, _, e, ex, _⟩ := I.hok p _ hk
      refine ⟨⟨o, e, ex.1⟩, fun a e2 => ?_⟩
      cases e2
      exact ⟨o, e, ex.2.1⟩
  | _ => exact False.elim ty
def tBM (K : PySem.W.Frag) (T : String) (r : V → List V → Hp → VK → Prop) (to : TE) (t : TA) : TE := fun σ H Q => to σ H fun x H1 => tyV K T x H1 ∧ t σ H1 fun xs H2 => r x xs H2 Q
variable {o e : Expr} {es : List Expr} {to : TE} {t : TA} {name : Str} {apos cpos : Pos} {T id : String} {r : V → List V → Hp → VK → Prop}
theorem pe_bm (pa : PlainAttrs T) (slot : Slot T name id) (hty : typeOf (.builtin id) = pure (.type "method_descriptor")) (hm : MtR X id r) (ho : PE X o to) (ha : PA X (e :: es) t)
    (hbase : attributeBase o name X.env (eval o X.env) = eval o X.env := by rfl)
    (hfew : ((backTo cpos (starEach (e :: es) X.env)).all (fun x => !x.1) && (backToKw cpos (keywordEach [] X.env)).all (fun x => x.1.isSome)
      && decide ((e :: es).length + ([] : List Keyword).length + (if ([] : List Keyword).isEmpty then 0 else 1) < 30)) = true := by rfl)
    (hline : (apos.endLine == cpos.line) = true := by rfl) (hs : starEach (e :: es) X.env = (false, eval e X.env) :: starEach es X.env := by rfl) (hplain : (backTo cpos (starEach es X.env)).any (·.1) = false := by rfl) :
    PE X (.Call (.Attribute o name apos) (e :: es) [] cpos) (tBM X.K T r to t) := by
  intro pins s σ H Q I h
  refine wpAny_Call_method_late hbase hfew hline rfl (thn (ho pins s σ H _ I h) fun v s1 ⟨x, H1, I1, r1, ty, q1⟩ => ?_)
  obtain ⟨h1, h2⟩ := tyV_is I1 r1 ty
  refine ⟨T, id, pa, slot, hty, h1, h2, ?_⟩
  have hA := ha cpos pins s1 σ H1 _ I1 q1
  rw [hs] at hA ⊢
  refine Calls.callWith_builtin (by show (false || (backTo cpos (starEach es X.env)).any (·.1)) = false; rw [hplain] <;> rfl) (Calls.evalArgs_plain ?_)
  exact thn hA fun us s2 ⟨vs, H2, I2, r2, q2⟩ => hm pins s2 σ H2 x vs v us Q I2 r1 r2 q2
/- xs.append(e), list.index on a module's tuple .. are MtR facts of 06m -/
end
end L2

namespace L2
open PySem PySem.Spec PyProof.Rows

def MtM (X : Cx) (id : String) (r : V → List V → Hp → VK → Prop) : Prop :=
  ∀ (pins : List (Addr × Obj)) (s : Shared) (σ : St) (H : Hp) (x : V) (xs : List V) (v : Value) (us : List Value) (Q : VK), Inv X pins σ H s → RelV x v → Vals xs us → r x xs H Q →
    wpAny (model X.prog X.w) X.A (call (.builtin id) (v :: us)) (EP X pins σ Q) X.xe s

theorem Vals.one : ∀ {x : V} {us : List Value}, Vals [x] us → ∃ u, us = [u] ∧ RelV x u
  | _, _, .cons r .nil => ⟨_, rfl, r⟩
theorem Vals.rep {xs : List V} {us : List Value} (h : Vals xs us) : ∀ k : Nat, Vals (List.replicate k xs).flatten (List.replicate k us).flatten
  | 0 => .nil
  | k + 1 => by
    rw [List.replicate_succ, List.replicate_succ, List.flatten_cons, List.flatten_cons]
    exact Vals.append h (Vals.rep h k)
theorem foldl_rep (its : List Value) : ∀ (k : Nat) (acc : List Value),
    List.foldl (fun x1 x2 => x1 ++ x2) acc.toArray (List.replicate k its.toArray) = (acc ++ (List.replicate k its).flatten).toArray
  | 0, acc => by simp
  | k + 1, acc => by
    have e : acc.toArray ++ its.toArray = (acc ++ its).toArray := by simp
    have e2 : (acc ++ its) ++ (List.replicate k its).flatten = acc ++ (List.replicate (k + 1) its).flatten := by
      rw [List.replicate_succ, List.flatten_cons, List.append_assoc]
    rw [← e2, ← foldl_rep its k (acc ++ its), ← e, List.replicate_succ, List.foldl_cons]

section
variable {X : Cx} {pins : List (Addr × Obj)} {σ : St} {H : Hp} {s : Shared} {l b : Addr} {xs ys zs : List V}

theorem Inv.lset {its its' : List Value} {n : Nat} {f : Array Value → Array Value} {t' : Nat} (I : Inv X pins σ H s) (hH : H l = some (.lst xs))
    (e : s.heap.get? l = some { cls := .type "list", data := .seq its.toArray n }) (hf : f its.toArray = its'.toArray) (hv : Vals ys its') (hz : ys.length ≤ sizeLine) :
    Inv X pins σ (upd H l (.lst ys)) { s with heap := s.heap.update l (Obj.mapSeq f), toks := t' } := by
  have q := PySem.IsL.update e f
  rw [hf] at q
  refine I.write (x := l) (e := l) (by rw [hH]; exact trivial) (.inl rfl) (fun b' u hb hu => (Heap.get?_update_other s.heap (Obj.mapSeq f) (Ne.symm hb)).trans hu) ⟨_, q⟩ ?_
  exact ⟨hz, its', _, hv, q⟩
theorem Inv.lnew {its : List Value} {t' : Nat} (I : Inv X pins σ H s) (hv : Vals ys its) (hz : ys.length ≤ sizeLine) :
    Inv X pins σ (upd H s.heap.objs.size (.lst ys)) { s with heap := s.heap.push { cls := .type "list", data := .seq its.toArray }, toks := t' } :=
  I.laid (fun _ _ q => Heap.get?_push_of_some _ q) (Nat.le_refl _) ⟨hz, its, 0, hv, Heap.get?_push_size _ rfl⟩
theorem Inv.fresh (I : Inv X pins σ H s) : H s.heap.objs.size = none := I.hok.fresh (Nat.le_refl _)
theorem Inv.lstM (I : Inv X pins σ H s) (hH : H l = some (.lst xs)) : xs.length ≤ sizeLine ∧ ∃ (its : List Value) (n : Nat), Vals xs its ∧ xs.length = its.length ∧ s.heap.get? l = some { cls := .type "list", data := .seq its.toArray n } := by
  obtain ⟨z, its, n, r, e⟩ := I.hok l _ hH
  exact ⟨z, its, n, r, r.length, e⟩

theorem notLongL {n : Nat} (h : n ≤ sizeLine) : Builtin.List.listTooLong n = false := by
  unfold Builtin.List.listTooLong
  exact decide_eq_false (by first | lia | omega)
end

section
variable {X : Cx}

def rAppend : V → List V → Hp → VK → Prop := fun x vs H Q => ∃ l xs y, x = .ref l ∧ vs = [y] ∧ H l = some (.lst xs) ∧ xs.length < sizeLine ∧ Q .non (upd H l (.lst (xs ++ [y])))
theorem mt_append : MtM X "list.append" rAppend := by
  intro pins s σ H x vs v us Q I rx rv h
  obtain ⟨l, xs, y, rfl, rfl, hH, hz, q⟩ := h
  cases rx
  obtain ⟨u, rfl, ru⟩ := rv.one
  obtain ⟨z, its, n, r, hl, e⟩ := I.lstM hH
  refine call_meets F.slot_list_append ⟨_, e, rfl⟩ F.entry_list_append (F.args_list_append_2 _ _) (PySem.list_append l its.toArray n u (by rw [List.size_toArray]; first | lia | omega)) ⟨e, ?_⟩
  refine ⟨.non, _, I.lset (its' := its ++ [u]) hH e (by simp) (r.append (.cons ru .nil)) ?_, rfl, q⟩
  rw [List.length_append, List.length_singleton]
  first | lia | omega

def rCat : R2 := fun x y H Q => ∃ l b xs zs, x = .ref l ∧ y = .ref b ∧ H l = some (.lst xs) ∧ H b = some (.lst zs) ∧ xs.length + zs.length ≤ sizeLine ∧ ∀ p, H p = none → Q (.ref p) (upd H p (.lst (xs ++ zs)))
theorem op_cat : OpR X (binaryOp .Add) rCat := by
  intro pins s σ H x y v u Q I rx ry h
  obtain ⟨l, b, xs, zs, rfl, rfl, hH, hB, hz, q⟩ := h
  cases rx
  cases ry
  obtain ⟨z, its, n, r, hl, e⟩ := I.lstM hH
  obtain ⟨z2, its2, n2, r2, hl2, e2⟩ := I.lstM hB
  refine PySem.P.add_list e e2 ?_ (by rw [List.size_toArray, List.size_toArray]; first | lia | omega)
  have ea : its.toArray ++ its2.toArray = (its ++ its2).toArray := by simp
  rw [ea]
  exact ⟨.ref _, _, I.lnew (t' := s.toks) (r.append r2) (by rw [List.length_append]; first | lia | omega), rfl, q _ I.fresh⟩
/-- a list times an int (a negative one is nothing) -/
def rRep : R2 := fun x y H Q => ∃ l k xs, x = .ref l ∧ y = .int k ∧ H l = some (.lst xs) ∧ -(2 ^ 63) ≤ k ∧ k < 2 ^ 63 ∧ xs.length * k.toNat ≤ sizeLine ∧
  ∀ p, H p = none → Q (.ref p) (upd H p (.lst (List.replicate k.toNat xs).flatten))
theorem len_rep {α : Type} (xs : List α) (k : Nat) : (List.replicate k xs).flatten.length = k * xs.length := by
  induction k with
  | zero => simp
  | succ k ih => rw [List.replicate_succ, List.flatten_cons, List.length_append, ih, Nat.succ_mul, Nat.add_comm]
theorem op_rep : OpR X (binaryOp .Mult) rRep := by
  intro pins s σ H x y v u Q I rx ry h
  obtain ⟨l, k, xs, rfl, rfl, hH, h1, h2, hz, q⟩ := h
  cases rx
  obtain ⟨t, rfl⟩ := ry
  obtain ⟨z, its, n, r, hl, e⟩ := I.lstM hH
  have hlen : its.toArray.size * k.toNat ≤ sizeLine := by rw [List.size_toArray, ← hl]; exact hz
  have hcap : ¬ its.toArray.size * k.toNat > (2 ^ 63 - 1) / 8 := by
    have : (sizeLine : Nat) ≤ (2 ^ 63 - 1) / 8 := by decide
    first | lia | omega
  have hfit : ¬ (!Builtin.List.listFitsIndex k) = true := by
    rw [fitsIndex_both h1 h2]
    exact Bool.false_ne_true
  have hlong : ¬ Builtin.List.listTooLong (its.toArray.size * k.toNat) = true := by
    rw [notLongL hlen]
    exact Bool.false_ne_true
  have hnew : List.foldl (fun x1 x2 => x1 ++ x2) #[] (List.replicate (if its.toArray.isEmpty = true then 0 else k.toNat) its.toArray) = (List.replicate k.toNat its).flatten.toArray := by
    have f0 : ∀ m : Nat, List.foldl (fun x1 x2 => x1 ++ x2) #[] (List.replicate m its.toArray) = (List.replicate m its).flatten.toArray := fun m => by
      have := foldl_rep its m []
      rw [List.nil_append] at this
      exact this
    rw [f0]
    cases its with
    | nil => simp
    | cons a r' => rw [if_neg (by simp)]
  refine wpAny_binaryOp_repeat_ref (T := "list") (U := "int") (by decide) ⟨_, e, rfl⟩ (fun s' => typeIs_int s' k t) noFill_list_mul F.fills_int_mul F.slot_int_rmul repeat_list F.slot_int_index.lookup
    (call_meets F.slot_int_rmul (typeIs_int s k t) F.entry_int_rmul (F.args_int_rmul_2 _ _) (int___rmul___int_list k t l its.toArray n)
      ⟨e, rfl, ⟨_, e, rfl⟩, call_meets F.slot_list_mul ⟨_, e, rfl⟩ F.entry_list_mul (F.args_list_mul_2 _ _) (AutoListH.list___mul___list_int_3 l its.toArray n k t hfit hcap hlong) ⟨e, ?_⟩⟩)
  rw [hnew]
  exact ⟨.ref _, _, I.lnew (t' := s.toks) (r.rep k.toNat) (by rw [len_rep, Nat.mul_comm]; exact hz), rfl, q _ I.fresh⟩

end

section
variable {prog : Program} {w : World} {A : Around} {E : Value → Shared → Prop} {s : Shared}
end

section
variable {X : Cx}
end
end L2

namespace Att
open PySem PySem.W PySem.Calls PyProof.Rows

theorem ints_of_wellAll {P : Params} {h : Heap} : ∀ (ns : List Int) (vs : List Value), WellAll P h vs (ns.map WData.int) → IntsAre vs ns := by
  intro ns
  induction ns with
  | nil =>
    intro vs w
    rw [List.map_nil] at w
    cases w
    exact .nil
  | cons n ns ih =>
    intro vs w
    rw [List.map_cons] at w
    cases w with
    | cons a b =>
      cases a
      exact .cons _ _ (ih _ b)

theorem script_of {l : OpenLaw} {n : Nat} (hn : l.most = some n) {P : Params} {h : Heap} {args : List WData} {vals : List Value}
    (hpre : l.row.toRowW.claim.pre args = true) (hwl : WellAll P h vals args) :
    ∃ a vs ns, vals = [Value.ref a] ∧ args = [WData.list (ns.map WData.int)] ∧ h.get? a = some { cls := .type "list", data := .seq vs.toArray } ∧ IntsAre vs ns ∧ ns.length ≤ n := by
  have hsh : WShape.hasAll [] args [.list .int] = true := (pre_splitW hpre).1
  have hc : l.pre.holds [] { args := args } = true := (pre_splitW hpre).2
  obtain ⟨d, r, rfl, h1, h2⟩ := hasAllW_cons hsh
  obtain rfl := hasAllW_nil h2
  obtain ⟨xs, rfl, h3⟩ := hasW_list h1
  obtain ⟨ns, rfl⟩ := items_int h3
  have hlen : ns.length ≤ n := by
    unfold OpenLaw.pre at hc
    have h4 : (WTm.not (.lt (.lit (.int (n : Int))) (.len (.arg 0)))).holds [] { args := [.list (ns.map .int)] } = true := by
      have h4 := (holds_andW hc).1
      rw [hn] at h4
      exact h4
    have h5 := condW_of h4 (w_not (w_lt w_lit (w_len_list (w_arg rfl))))
    rw [List.length_map] at h5
    refine Nat.le_of_not_lt fun q => ?_
    have q' : (n : Int) < ((ns.length : Nat) : Int) := by first | lia | omega
    first
      | (rw [decide_eq_true q'] at h5; exact absurd h5 (by decide))
      | (simp at h5; first | lia | omega)
  cases hwl with
  | cons w1 w2 =>
    cases w2
    cases w1 with
    | list ho hall => exact ⟨_, _, ns, rfl, rfl, ho, ints_of_wellAll ns _ hall, hlen⟩

theorem post_true (l : OpenLaw) (args : List WData) : l.row.toRowW.claim.post args (.bool true) args = true :=
  postW_of (r := l.row.toRowW) (X := (true == true))
    (show WShape.has [] (.bool true) .bool = true by first | rfl | decide | simp [WShape.has, WShape.arms, WShape.armsAll])
    (show (WTm.eq .res (.lit (.bool true))).value [] { args := args, res := some (.bool true), after := args } = some (.bool (true == true)) from w_eq_bool (w_res rfl) w_lit) rfl

/-- the same from a codeAny of the CALL (for a layer whose function contracts speak of calls) -/
theorem attach_call {l : OpenLaw} {n : Nat} {q : Program} {loose : List Str} {XP : (Str → Option Value) → Heap → Prop} {YP : World → Heap → Prop} {d : DefRec}
    (hn : l.most = some n) (hdf : d.params.defaults = [])
    (call : ∀ (w : World) (s₀ s₁ : Shared) (mg mb : Str → Option Value) (fa : Addr) (o : Obj) (pm cd doc : Value) (a : Addr) (vs : List Value) (ns : List Int),
      Ground q loose [] XP w s₀ mg mb s₁.heap → YP w s₁.heap →
      s₁.heap.get? fa = some o → o.data = .func (docDef d.name d.params d.body d.scope pm cd doc) → s₁.heap.CodeRec cd d.name → mg d.name = some (.ref fa) →
      s₁.heap.get? a = some { cls := .type "list", data := .seq vs.toArray } → IntsAre vs ns → ns.length ≤ n → s₁.gens = #[] →
      codeAny (model l.prog w) callerA (.call (.ref fa) ⟨[.ref a], []⟩) (fun r s' => r = .ok (.ret (.bool true)) ∧ OldK s₁.heap s'.heap ∧ s'.os = s₁.os ∧ AllBare s'.gens) s₁) :
    WalkO q loose XP YP l.row.toRowW d [] (fun f vs => PySem.call f vs) := by
  intro w s₀ s₁ mg mb G Y fa o pm cd doc dV kV ho hd hcd hD hmg hg args vals as hpre hlay hrd hwl hlo
  obtain rfl : dV = .none := Dflts.none hD hdf
  obtain rfl : kV = .none := Dflts.noKw hD
  obtain ⟨a, vs, ns, rfl, rfl, hobj, hints, hlen⟩ := script_of hn hpre hwl
  refine enter_call (codeAny_mono (call w s₀ s₁ mg mb fa o pm cd doc a vs ns G Y ho (fd_plain hd) hcd hmg hobj hints hlen hg) fun r s' hq => ?_)
  obtain ⟨rfl, h2, h3, h4⟩ := hq
  exact ⟨.inl ⟨.bool true, .bool true, [], rfl, fun _ => rfl, .bool true, post_true l _, fun _ => ⟨List.Pairwise.nil, fun _ hm => (nomatch hm)⟩⟩, h2, h3, h4⟩

section
variable {prog : Program} {w : World} {A : Around} {E : Value → Shared → Prop} {s : Shared} {K : Frag}

end
end Att

namespace L2
open PySem PySem.Spec PyProof.Rows

theorem vals_ints : ∀ {vs : List Value} {ns : List Int}, IntsAre vs ns → Vals (ns.map V.int) vs
  | _, _, .nil => .nil
  | _, _, .cons n t h => .cons ⟨t, rfl⟩ (vals_ints h)

/-- nothing is tracked but the script, known to the object (or it is an object of the module) -/
def Only (H : Hp) : Prop := ∀ b, H b = none ∨ ∃ o xs, H b = some (.frz o (.lst xs))

/-- THE HEAD: the law's promise, at the heap behind the top. F, the promise of the law's def, may use that base is part of the heap (so K.In base, base.Ns mainGlobals mg stand in Mod) -/
theorem law_call {P : Program} {w : World} {K : PySem.W.Frag} {mg mb : Str → Option Value} {CX : CXT} {k : Nat} {fa a : Addr} {fd : FuncData} {x : Str} {sp : Sp} {s₁ : Shared} {vs : List Value} {ns : List Int}
    (KX : K.In s₁.heap) (hns : s₁.heap.Ns mainGlobals mg) (hb : s₁.heap.Ns builtinsNs mb) (hbb : ∀ x : Str, x ≠ "__name__" → mb x = bootBuiltins x) (hlim : s₁.heap.NoLimit) (hg : s₁.gens = #[])
    (ha : s₁.heap.get? a = some { cls := .type "list", data := .seq vs.toArray }) (hi : IntsAre vs ns) (hl : ns.length ≤ sizeLine) (hr : Room k callerA)
    (F : ∀ base : Heap, K.In base → base.Ns mainGlobals mg → FnOk P w K mg base CX k fa fd [x] sp) (hbind : ∀ (s : Shared) (u : Value), BindsTo s fd ⟨[u], []⟩ [(x, u)])
    (hsp : ∀ H : Hp, Only H → SqL K H a (ns.map V.int) → sp [.ref a] H (fun v _ => v = .bl true) fun _ _ _ => False)
    (hCX : ∀ H e s', CX [] H s₁ (fun _ _ _ => False) e s' → False) :
    codeAny (model P w) callerA (.call (.ref fa) ⟨[.ref a], []⟩) (fun r s' => r = .ok (.ret (.bool true)) ∧ OldK s₁.heap s'.heap ∧ s'.os = s₁.os ∧ AllBare s'.gens) s₁ := by
  have rv := vals_ints hi
  have lenV := hi.length
  -- from an abstract heap in which nothing but the script may be tracked
  have core : ∀ H : Hp, Only H → SqL K H a (ns.map V.int) → HOk P w H s₁.heap → (∀ b, H b ≠ none → b = a) → (H a ≠ none → K.lookup a = none) →
      codeAny (model P w) callerA (.call (.ref fa) ⟨[.ref a], []⟩) (fun r s' => r = .ok (.ret (.bool true)) ∧ OldK s₁.heap s'.heap ∧ s'.os = s₁.os ∧ AllBare s'.gens) s₁ := by
    intro H hO hS hok hA hK
    have base_of : ∀ {b : Addr} {o : Obj}, s₁.heap.get? b = some o → H b = none → (hidT s₁.heap H).get? b = some o := fun e n => hidT_get e n
    have noA : ∀ {b : Addr} {o : Obj} {es : Array DictEntry} {ep : Nat}, s₁.heap.get? b = some o → o.data = .dict es ep → H b = none := fun {b o es ep} e d => by
      cases q : H b with
      | none => rfl
      | some u =>
        have e' : b = a := hA b (by rw [q]; simp)
        subst e'
        rw [ha] at e; cases e
        have d' : Data.seq vs.toArray _ = Data.dict es ep := d
        cases d'
    have nsK : ∀ {b : Addr} {m : Str → Option Value}, s₁.heap.Ns b m → (hidT s₁.heap H).Ns b m := fun {b m} ⟨o, es, ep, e, d, r⟩ => ⟨o, es, ep, base_of e (noA e d), d, r⟩
    have hKb : K.In (hidT s₁.heap H) := fun b o e => base_of (KX b o e) (by
      cases q : H b with
      | none => rfl
      | some u =>
        have e' : b = a := hA b (by rw [q]; simp)
        subst e'
        rw [hK (by rw [q]; simp)] at e; cases e)
    have hM : Mod K mg (hidT s₁.heap H) := ⟨hKb, nsK hns, ⟨mb, nsK hb, hbb⟩, let ⟨mc, h1, h2⟩ := hlim; ⟨mc, nsK h1, h2⟩⟩
    have e0 : Env0 P w K mg (hidT s₁.heap H) callerA [] s₁ H := ⟨rfl, hM, fun b o e => of_hidT e, Nat.le_of_eq (hidT_size _ _), trivial, fun b hb => absurd (show b ∈ ([] : List Addr) from hb) (by simp), hok, .of_eq hg⟩
    refine codeAny_mono ((F _ hKb (nsK hns)).run callerA [] s₁ H ⟨[.ref a], []⟩ [.ref a] [.ref a] _ _ hr e0 (hbind s₁ (.ref a)) (.cons rfl .nil) (hsp H hO hS)) fun r s' h => ?_
    cases r with
    | error e => exact (hCX H e s' h).elim
    | ok fl =>
      cases fl with
      | next => exact False.elim h
      | brk => exact False.elim h
      | cont => exact False.elim h
      | ret u =>
        obtain ⟨v, H', os, bare, un, hok', r', q⟩ := h
        have q' : v = .bl true := q
        subst q'
        obtain rfl : u = Value.bool true := r'
        refine ⟨rfl, OldK.of_keep fun b o e => ?_, os, bare⟩
        cases q : H b with
        | none => exact un.keep b o e q (by intro z; exact absurd (show b ∈ ([] : List Addr) from z) (by simp)) (by simp)
        | some u =>
          rcases hO b with z | ⟨ob, xs, z⟩
          · rw [q] at z; cases z
          · have z2 := un.frzs b ob _ z
            obtain ⟨e1, _⟩ := hok b _ z
            obtain ⟨e2, _⟩ := hok' b _ z2
            rw [e] at e1; cases e1
            exact e2
  cases hk : K.lookup a with
  | some o =>
    -- the script is one of the module's own objects
    have e := KX a o hk
    rw [ha] at e
    cases e
    refine core (fun _ => none) (fun _ => .inl rfl) (.inr ⟨_, vs.toArray, _, hk, rfl, rfl, rfl, by rw [List.size_toArray, lenV]; exact hl, by simpa using rv⟩) (fun b u z => by have z' : (none : Option HO) = some u := z; cases z') (fun b z => absurd rfl z) fun z => absurd rfl z
  | none =>
    refine core (fun b => if b = a then some (.frz { cls := .type "list", data := .seq vs.toArray } (.lst (ns.map V.int))) else none) (fun b => ?_) (.inl (.inr ⟨{ cls := .type "list", data := .seq vs.toArray }, if_pos rfl⟩)) (fun b u z => ?_) (fun b z => ?_) fun _ => hk
    · by_cases hb : b = a
      · exact .inr ⟨_, _, if_pos hb⟩
      · exact .inl (if_neg hb)
    · by_cases hb : b = a
      · have z' := (if_pos hb).symm.trans z
        cases z'
        subst hb
        exact ⟨ha, by rw [List.length_map]; exact hl, vs, _, rv, ha⟩
      · have z' := (if_neg hb).symm.trans z
        cases z'
    · by_cases hb : b = a
      · exact hb
      · exact absurd (if_neg hb) z
end L2

namespace L2
open PySem PySem.Spec PyProof.Rows

abbrev KOf {K : PySem.W.Frag} {h : Heap} (_ : K.In h) : PySem.W.Frag := K

/-- the goal that k_head leaves (case hc), from the law's promise. F gives the function object fd (K's own) once, then the promise over every base -/
theorem walk_of {l : PySem.W.OpenLaw} {n k : Nat} {q : Program} {loose : List Str} {XP : (Str → Option Value) → Heap → Prop} {YP : World → Heap → Prop} {d : DefRec} {K : Params → PySem.W.Frag} {CX : World → CXT} {sp : World → Sp} {x : Str}
    (hn : l.most = some n) (hn2 : n ≤ sizeLine) (hdf : d.params.defaults = []) (hr : Room k callerA)
    (hY : ∀ (w : World) (h : Heap), YP w h → (K w.params).In h)
    (F : ∀ (w : World) (mg : Str → Option Value) (fa : Addr) (h : Heap), (K w.params).In h → h.Ns mainGlobals mg → mg d.name = some (.ref fa) →
      ∃ fd : FuncData, (∀ (s : Shared) (u : Value), BindsTo s fd ⟨[u], []⟩ [(x, u)]) ∧
        ∀ base : Heap, (K w.params).In base → base.Ns mainGlobals mg → FnOk l.prog w (K w.params) mg base (CX w) k fa fd [x] (sp w))
    (hsp : ∀ (w : World) (H : Hp) (a : Addr) (ns : List Int), ns.length ≤ n → Only H → SqL (K w.params) H a (ns.map V.int) → sp w [.ref a] H (fun v _ => v = .bl true) fun _ _ _ => False)
    (hCX : ∀ (w : World) (H : Hp) (s : Shared) (e : Value) (s' : Shared), CX w [] H s (fun _ _ _ => False) e s' → False) :
    PySem.W.WalkO q loose XP YP l.row.toRowW d [] (fun f vs => PySem.call f vs) := by
  refine Att.attach_call hn hdf fun w s₀ s₁ mg mb fa o pm cd doc a vs ns G Y ho hd hcd hmg hobj hints hlen hg => ?_
  have KX := hY w _ Y
  obtain ⟨fd, hb, hF⟩ := F w mg fa _ KX G.T.g hmg
  exact law_call KX G.T.g G.T.b G.T.builtins G.T.nolimit hg hobj hints (Nat.le_trans hlen hn2) hr hF hb (fun H hO hS => hsp w H a ns hlen hO hS) fun H e s' => hCX w H s₁ e s'
end L2

/- THE LAST THEOREM (shape; LID, My.* are yours):
   My.Adr: a structure of the addresses that your layer names (classes, functions); My.Txt K t: a structure (Prop) of the equations over K;
   My.txt_mk : {K} {implicit addresses ..} (e1 : nsIn K mainGlobals "law" = some (some (.ref f))) (e2 : K.lookup f = some ⟨oc, od, .func (fnOf "law" "law" params body scope dV kV doc pm an cdv ct), sl⟩) (e3 : codeIn K cdv "law" = true) .. : ∃ t, My.Txt K t

set_option maxRecDepth 100000 in
set_option maxHeartbeats 0 in
theorem PySem.Challenge.cw_LID_holds : PySem.Challenge.rw_LID.Holds := by
  w_on; o_law; k_head; (case hw => w_witness2)
  k_fill
  refine L2.walk_of (l := PySem.Challenge.rw_LID) (n := 63) (k := 40) (x := "script") (CX := fun w => ..) (sp := fun _ => My.sp_law) rfl (by decide) rfl ⟨rfl, by decide, by decide⟩ (fun w h Y => PySem.W.kIn_of Y) ?F ?S ?C
  case F =>
    intro w mg fa h KX G hmg
    have T : ∃ t, My.Txt (L2.KOf KX) t := by
      dsimp only [L2.KOf]                          -- K must stand as «<heap const> w.params» for k_is
      refine' My.txt_mk ?e1 ?e2 ?e3 ..
      (case e1 => PySem.W.k_is)                    -- in the order: a name -> its address -> its object -> its parts
      (case e2 => PySem.W.k_is)
      ..
    obtain ⟨t, T⟩ := T
    have e0 := hmg.symm.trans (PySem.W.mg_of KX G T.law)
    cases e0                                       -- fa is the law's own address
    exact ⟨_, fun s u => .of_eq rfl, fun base kb nb => My.law_fn T kb nb⟩     -- if «.of_eq rfl» comes too early: refine' ⟨_, ?b, fun base kb nb => My.law_fn T kb nb⟩; exact fun s u => .of_eq rfl
  case S => exact fun w H a ns hl hO hS => ..
  case C => exact ..
(the tactic k_is has no namespace: write k_is) -/

namespace L2
open PySem PySem.Spec PyProof.Rows

/-- the j-th statement of a class's body -/
def inClass (s : Stmt) (j : Nat) : Stmt := match s with
  | .ClassDef _ _ _ body _ _ _ _ _ _ _ => body.getD j (.Pass ⟨0, 0, 0, 0⟩)
  | _ => .Pass ⟨0, 0, 0, 0⟩
def defArgs (s : Stmt) : Arguments := match s with
  | .FunctionDef _ a _ _ _ _ _ _ _ _ => a
  | _ => { posonlyargs := [], args := [], vararg := none, kwonlyargs := [], kw_defaults := [], kwarg := none, defaults := [] }
def defBody (s : Stmt) : List Stmt := match s with
  | .FunctionDef _ _ b _ _ _ _ _ _ _ => b
  | _ => []
def defScope (s : Stmt) : Scope := match s with
  | .FunctionDef _ _ _ _ _ _ sc _ _ _ => sc
  | _ => { kind := .function, names := [], isGenerator := false, isCoroutine := false }

abbrev CX0 : CXT := fun _ _ _ _ _ _ => False
abbrev E0 : XK := fun _ _ _ => False
theorem pass0 {X : Cx} : Passes CX0 X E0 := fun _ _ _ _ _ _ _ h => h.elim

structure Fun (K : PySem.W.Frag) (x qual : Str) (st : Stmt) (f : Addr) (fd : FuncData) : Prop where
  ex : ∃ (oc : Value) (od : Option Addr) (kV doc pm : Value) (an : Option Addr) (cdv ct : Value) (osl : Array (Option Value)),
    fd = PySem.W.fnOf x qual (defArgs st) (defBody st) (defScope st) .none kV doc pm an cdv ct ∧ K.lookup f = some ⟨oc, od, .func fd, osl⟩ ∧ PySem.W.codeIn K cdv qual = true
  kp : PySem.W.keepIn K (.ref f) = true
section
variable {P : Program} {w : World} {K : PySem.W.Frag} {mg : Str → Option Value} {base : Heap}
/-- THE RULE for a def: its body as a term of rules, and the reading of that term -/
theorem Fun.ok {x qual : Str} {st : Stmt} {f : Addr} {fd : FuncData} {N ps : List Str} {k : Nat} {sp : Sp} (F : Fun K x qual st f fd) (S : FnScope N ps (defScope st)) (len : ∀ vs H Q E, sp vs H Q E → vs.length = ps.length)
    (hbody : ∀ (cdv : Value) (A : Around) (outer : List Env) (s : Shared) (H : Hp) (vs : List V) (Q : VK) (E : XK), Room k (A.deeper (envOfC qual (defScope st) s.heap.objs.size f cdv)) → sp vs H Q E →
      ∃ t, PSs (cxOf CX0 P w K mg base N qual (defScope st) f cdv A outer s H E).nox (defBody st) t ∧ t { nx := fun _ H' => Q .non H', rt := Q } (start N vs) H) : FnOk P w K mg base CX0 (k + 1) f fd ps sp := by
  obtain ⟨oc, od, kV, doc, pm, an, cdv, ct, osl, rfl, lk, hcd⟩ := F.ex
  refine fn_of lk hcd S len fun A outer s H vs Q E hr hsp => ?_
  obtain ⟨t, h, q⟩ := hbody cdv A outer s H vs Q E hr hsp
  exact ⟨t, h.nox, q⟩
/-- how its arguments bind (no defaults): h is «fun _ _ _ _ _ _ us hl => match us, hl with | [_, _], _ => rfl», one _ a parameter -/
theorem Fun.binds {x qual : Str} {st : Stmt} {f : Addr} {fd : FuncData} {ps : List Str} (F : Fun K x qual st f fd)
    (h : ∀ (kV doc pm : Value) (an : Option Addr) (cdv ct : Value) (us : List Value), us.length = ps.length → bindArgs (PySem.W.fnOf x qual (defArgs st) (defBody st) (defScope st) .none kV doc pm an cdv ct) ⟨us, []⟩ = pure (ps.zip us)) : Binds K fd ps [] := by
  obtain ⟨oc, od, kV, doc, pm, an, cdv, ct, osl, rfl, lk, hcd⟩ := F.ex
  exact .all (h kV doc pm an cdv ct)
theorem fun_mk {x qual : Str} {st : Stmt} {f : Addr} {oc : Value} {od an : Option Addr} {osl : Array (Option Value)} {kV doc pm cdv ct : Value} (l : K.lookup f = some ⟨oc, od, .func (PySem.W.fnOf x qual (defArgs st) (defBody st) (defScope st) .none kV doc pm an cdv ct), osl⟩)
    (c : PySem.W.codeIn K cdv qual = true) (k : PySem.W.keepIn K (.ref f) = true) : Fun K x qual st f (PySem.W.fnOf x qual (defArgs st) (defBody st) (defScope st) .none kV doc pm an cdv ct) := ⟨⟨oc, od, kV, doc, pm, an, cdv, ct, osl, rfl, l, c⟩, k⟩
end
theorem hu_of {A : Around} {k : Nat} (hr : Room k A) : A.units + 1 < cLine := Nat.lt_of_le_of_lt (Nat.add_le_add_left (by decide : 1 ≤ 64) _) hr.units
theorem small1000 {n : Nat} (h : n ≤ 1000) : n < sizeLine := Nat.lt_of_le_of_lt h (by decide)

section
variable {X : Cx}
theorem pv (i : Nat) {x : Str} {pos : Pos} (hN : X.N[i]? = some x := by rfl) (hv : Vis X.env.scope x := by first | exact Or.inl rfl | exact Or.inr (Or.inl rfl) | exact Or.inr (Or.inr rfl)) (hd : (x == ("__debug__" : Str)) = false := by decide)
    (hcd : (x == ("__classdict__" : Str)) = false := by decide) : PE X (.Name x pos) (tVar i) := pe_var hN hv hd hcd
end

theorem iteF {A B : Prop} (h : B) : if false = true then A else B := by
  rw [if_neg Bool.false_ne_true]
  exact h
theorem iteT {A B : Prop} (h : A) : if true = true then A else B := by
  rw [if_pos rfl]
  exact h
/-- all that was tracked is as it was -/
def Same (H H' : Hp) : Prop := ∀ b o, H b = some o → H' b = some o
theorem Same.refl (H : Hp) : Same H H := fun _ _ h => h
theorem Same.trans {H H1 H2 : Hp} (a : Same H H1) (b : Same H1 H2) : Same H H2 := fun c o h => b c o (a c o h)
theorem Same.free {H H' : Hp} (e : Same H H') {l : Addr} (h : H' l = Option.none) : H l = Option.none := by
  cases q : H l with
  | none => rfl
  | some o =>
    rw [e l o q] at h
    cases h
theorem Same.seq {K : PySem.W.Frag} {H H' : Hp} {a : Addr} {xs : List V} (e : Same H H') (h : SqL K H a xs) : SqL K H' a xs := by
  rcases h with (h | ⟨o, h⟩) | h
  · exact .inl (.inl (e _ _ h))
  · exact .inl (.inr ⟨o, e _ _ h⟩)
  · exact .inr h

end L2

set_option maxHeartbeats 4000000
namespace L2
open PySem PySem.Spec PyProof.Rows

def isCF : Option NameKind → Bool
  | some .cell => true
  | some .free => true
  | _ => false
theorem isCF_of {o : Option NameKind} (h : isCF o = true) : o = some .cell ∨ o = some .free := by
  match o, h with
  | some .cell, _ => exact .inl rfl
  | some .free, _ => exact .inr rfl

theorem closure_go (env : Env) : ∀ (l : List (Str × NameKind)) (acc : List (Str × Addr)), (∀ y ∈ l, y.2 = .free → ∃ c, env.cells.lookup y.1 = some c) →
    (∀ x c, acc.lookup x = some c → env.cells.lookup x = some c) →
    ∃ cl, (forIn l acc (fun (x : Str × NameKind) (r : List (Str × Addr)) => if (x.2 == .free) = true then (cellOf env x.1 >>= fun c => pure (ForInStep.yield ((x.1, c) :: r))) else pure (ForInStep.yield r)) : Sem (List (Str × Addr))) = pure cl ∧
      (∀ x c, cl.lookup x = some c → env.cells.lookup x = some c) ∧ (∀ x, ((∃ c, acc.lookup x = some c) ∨ (x, NameKind.free) ∈ l) → ∃ c, cl.lookup x = some c)
  | [], acc, _, ha => ⟨acc, by rfl, ha, fun x h => h.elim id fun z => nomatch z⟩
  | (n, k) :: l, acc, hl, ha => by
    have hl' : ∀ y ∈ l, y.2 = .free → ∃ c, env.cells.lookup y.1 = some c := fun y hy => hl y (List.mem_cons_of_mem _ hy)
    by_cases hk : k = .free
    · subst hk
      obtain ⟨c, hc⟩ := hl (n, .free) List.mem_cons_self rfl
      have hc' : env.cells.lookup n = some c := hc
      have look : ∀ x, ((n, c) :: acc).lookup x = if x = n then some c else acc.lookup x := fun x => by
        rw [List.lookup_cons]
        by_cases e : x = n
        · subst e; simp
        · rw [if_neg e, show (x == n) = false by simpa using e]
      have ha' : ∀ x d, ((n, c) :: acc).lookup x = some d → env.cells.lookup x = some d := fun x d e => by
        rw [look] at e
        split at e
        · rename_i q; subst q; rw [hc']; exact e
        · exact ha x d e
      obtain ⟨cl, e, h1, h2⟩ := closure_go env l ((n, c) :: acc) hl' ha'
      refine ⟨cl, ?_, h1, fun x h => h2 x ?_⟩
      · rw [← e, List.forIn_cons]
        have ec : cellOf env n = pure c := by unfold cellOf; rw [hc']
        show ((cellOf env n >>= fun c => pure (ForInStep.yield ((n, c) :: acc))) >>= _ : Sem (List (Str × Addr))) = _
        rw [ec]
        rfl
      · rcases h with ⟨d, q⟩ | h
        · left
          rw [look]
          by_cases z : x = n
          · exact ⟨c, by rw [if_pos z]⟩
          · exact ⟨d, by rw [if_neg z]; exact q⟩
        · rcases List.mem_cons.mp h with z | z
          · left
            rw [look]
            exact ⟨c, by rw [if_pos (congrArg Prod.fst z)]⟩
          · exact .inr z
    · obtain ⟨cl, e, h1, h2⟩ := closure_go env l acc hl' ha
      refine ⟨cl, ?_, h1, fun x h => h2 x ?_⟩
      · rw [← e, List.forIn_cons]
        have hb : (k == NameKind.free) = false := by simpa using hk
        show ((if (k == NameKind.free) = true then _ else pure (ForInStep.yield acc)) >>= _ : Sem (List (Str × Addr))) = _
        rw [hb]
        rfl
      · rcases h with h | h
        · exact .inl h
        · rcases List.mem_cons.mp h with z | z
          · exact absurd (congrArg Prod.snd z).symm hk
          · exact .inr z
theorem closure_of {scope : Scope} {env : Env} (h : ∀ y ∈ scope.names, y.2 = .free → ∃ c, env.cells.lookup y.1 = some c) :
    ∃ cl, closureFor scope env = pure cl ∧ (∀ x c, cl.lookup x = some c → env.cells.lookup x = some c) ∧ (∀ x, (x, NameKind.free) ∈ scope.names → ∃ c, cl.lookup x = some c) := by
  obtain ⟨cl, e, h1, h2⟩ := closure_go env scope.names [] h (fun x c e => by simp at e)
  refine ⟨cl, ?_, h1, fun x hx => h2 x (.inr hx)⟩
  have e2 : closureFor scope env = (forIn scope.names [] (fun (x : Str × NameKind) (r : List (Str × Addr)) => if (x.2 == .free) = true then (cellOf env x.1 >>= fun c => pure (ForInStep.yield ((x.1, c) :: r))) else pure (ForInStep.yield r)) >>= fun r => pure r : Sem (List (Str × Addr))) := by
    rfl
  rw [e2, e]
  rfl

/-- a comprehension's block: its context -/
abbrev compCx (X : Cx) (scope : Scope) (cl : List (Str × Addr)) (N : List Str) (C : Addr) (s : Shared) (H : Hp) (ex : List Addr) : Cx :=
  { X with N := N, s₀ := s, H₀ := H, env := compEnvC scope cl C X.env, outer := X.stack, ex := ex, fn := fun _ => false, pn := [], xe := fun _ _ => False }

/-- what is asked of the two scopes: fr tells for each name of the block the slot of the def (none: the block's own) -/
def compChk (osc : Scope) (oN : List Str) (sc : Scope) (N : List Str) (fr : List (Option Nat)) : Bool :=
  decide (sc.kind = .function) && sc.names.all (fun y => decide (y.2 ≠ .cell)) && sc.names.all (fun y => decide (y.2 ≠ .free) || isCF (osc.names.lookup y.1)) &&
  sc.names.all (fun y => decide (y.2 ≠ .local) || decide (sc.names.lookup y.1 = some .local)) &&
  (N.zip fr).all (fun y => match y.2 with
    | none => true
    | some i => decide (oN[i]? = some y.1) && isCF (osc.names.lookup y.1) && decide (sc.names.lookup y.1 = some .free)) && decide (N.length = fr.length)
structure CompChk (osc : Scope) (oN : List Str) (sc : Scope) (N : List Str) (fr : List (Option Nat)) : Prop where
  kind : sc.kind = .function
  nocell : ∀ y ∈ sc.names, y.2 ≠ .cell
  free : ∀ y ∈ sc.names, y.2 = .free → isCF (osc.names.lookup y.1) = true
  loc : ∀ y ∈ sc.names, y.2 = .local → sc.names.lookup y.1 = some .local
  slots : ∀ (j : Nat) (x : Str) (i : Nat), N[j]? = some x → fr[j]? = some (some i) → oN[i]? = some x ∧ isCF (osc.names.lookup x) = true ∧ sc.names.lookup x = some .free
  len : N.length = fr.length
theorem compChk_of {osc : Scope} {oN : List Str} {sc : Scope} {N : List Str} {fr : List (Option Nat)} (h : compChk osc oN sc N fr = true) : CompChk osc oN sc N fr := by
  unfold compChk at h
  simp only [Bool.and_eq_true, List.all_eq_true, decide_eq_true_eq, Bool.or_eq_true] at h
  obtain ⟨⟨⟨⟨⟨h1, h2⟩, h3⟩, h4⟩, h5⟩, h6⟩ := h
  refine ⟨h1, h2, fun y hy e => (h3 y hy).resolve_left fun z => z e, fun y hy e => (h4 y hy).resolve_left fun z => z e, fun j x i e1 e2 => ?_, h6⟩
  have hm : (x, some i) ∈ N.zip fr := by
    have : (N.zip fr)[j]? = some (x, some i) := by rw [List.getElem?_zip_eq_some]; exact ⟨e1, e2⟩
    exact List.mem_of_getElem? this
  have := h5 _ hm
  simp only [Bool.and_eq_true, decide_eq_true_eq] at this
  exact ⟨this.1.1, this.1.2, this.2⟩

/-- the block's slots at its entry -/
def stC (fr : List (Option Nat)) (σ : St) : St := fr.map fun o => o.bind fun i => (σ[i]?).join

/-- [elt for tg in ..] : the invariant W by the turn, a measure, the block's slots and the heap; the new list stands at acc -/
def tComp (wi : TI) (g : TG) (te : TE) (fr : List (Option Nat)) : TE := fun σ H Q => wi σ H fun J H1 => ∀ acc, H1 acc = none → ∃ W : Nat → Nat → St → Hp → Prop, (∃ m, W 0 m (stC fr σ) (upd H1 acc (.lst []))) ∧ ∀ i m σ1 H2, W i m σ1 H2 →
  (J.stop i H2 ∧ Q (.ref acc) H2) ∨ (J.go i H2 ∧ ∀ x H3, J.yld i H2 x H3 → g x σ1 H3 fun σ4 H4 => te σ4 H4 fun v H5 => ∃ xs, H5 acc = some (.lst xs) ∧ xs.length < sizeLine ∧ ∃ m', m' < m ∧ W (i + 1) m' σ4 (upd H5 acc (.lst (xs ++ [v]))))

section
variable {prog : Program} {w : World} {A : Around} {R : Result → Shared → Prop} {s : Shared}
theorem compLoop_any {elt target iter : Expr} {scope : Scope} {pos : Pos} {it acc : Value} {env : Env} (I : Nat → Shared → Prop)
    (turn : ∀ n s, I n s → wpAny (model prog w) A (pyNext it) (fun r s₁ => match r with
      | none => R (.ok .next) s₁
      | some v => wpAny (model prog w) A (letOwnedTupleGo target it v) (fun _ s₁ => wpAny (model prog w) A (assign target env v) (fun _ s₂ => wpAny (model prog w) A (eval elt env) (fun x s₃ =>
          wpAny (model prog w) A (call (.builtin "list.append") [acc, x]) (fun _ s₄ => ∃ m, m < n ∧ I m s₄) (notedBy (model prog w) A env fun e s' => R (.error e) s') s₃)
          (notedBy (model prog w) A env fun e s' => R (.error e) s') s₂) (notedBy (model prog w) A env fun e s' => R (.error e) s') s₁) (notedBy (model prog w) A env fun e s' => R (.error e) s') s₁) (notedBy (model prog w) A env fun e s' => R (.error e) s') s)
    (n : Nat) (h : I n s) :
    codeAny (model prog w) A (.compLoop (.ListComp elt [⟨target, iter, [], 0⟩] scope pos) 0 it acc env) R s := by
  refine codeAny_loop rfl I (fun n s hI => ?_) n h
  show wpAny _ _ ((compTurn (.ListComp elt [⟨target, iter, [], 0⟩] scope pos) 0 it acc env).onRaise (fun x => do noteFrame x env; theTreesLotGoes x)) _ _ s
  refine wpAny_noted ?_
  rw [compTurn_list1]
  refine wpAny_bind (wpAny_standAt (wpAny_bind (wpAny_mono (turn n s hI) (fun r s₁ h₁ => ?_) fun _ _ h' => h')))
  cases r with
  | none => exact wpAny_pure h₁
  | some v =>
    refine wpAny_bind (wpAny_mono h₁ (fun _ s₁ h₁ => ?_) fun _ _ h' => h')
    exact wpAny_bind (wpAny_mono h₁ (fun _ s₂ h₂ => wpAny_bind (wpAny_bind (wpAny_mono h₂ (fun x s₃ h₃ => wpAny_bind (wpAny_mono h₃
      (fun _ s₄ h₄ => wpAny_pure (wpAny_pure ⟨rfl, h₄⟩)) fun _ _ h' => h')) fun _ _ h' => h'))) fun _ _ h' => h')
end

theorem wpFalse {α : Type} {M : Model} {A : Around} {t : Sem α} {Q : α → Shared → Prop} {E : Value → Shared → Prop} {s : Shared} (h : wpAny M A t Q (fun _ _ => False) s) : wpAny M A t Q E s :=
  wpAny_mono h (fun _ _ q => q) fun _ _ z => z.elim

theorem relabel_CF {scope : Scope} {env : Env} (hc : ∀ y ∈ scope.names, y.2 ≠ .cell) {x : Str} (h : (relabel scope env).names.lookup x = some .cell ∨ (relabel scope env).names.lookup x = some .free) : (x, NameKind.free) ∈ scope.names := by
  have key : ∀ (l : List (Str × NameKind)), (∀ y ∈ l, y.2 ≠ .cell) → ((l.map fun (n, k) => if (k == NameKind.free && env.scope.kind == .function && env.kindOf n == some .cell) then (n, NameKind.cell) else (n, k)).lookup x = some .cell ∨
      (l.map fun (n, k) => if (k == NameKind.free && env.scope.kind == .function && env.kindOf n == some .cell) then (n, NameKind.cell) else (n, k)).lookup x = some .free) → (x, NameKind.free) ∈ l := by
    intro l
    induction l with
    | nil => intro _ h; simp at h
    | cons y r ih =>
      obtain ⟨n, k⟩ := y
      intro hc h
      have hr : ∀ y ∈ r, y.2 ≠ .cell := fun y hy => hc y (List.mem_cons_of_mem _ hy)
      have hk : k ≠ .cell := hc (n, k) List.mem_cons_self
      rw [List.map_cons] at h
      by_cases hxn : x = n
      · subst hxn
        have hkf : k = .free := by
          by_cases hb : (k == NameKind.free && env.scope.kind == .function && env.kindOf x == some .cell) = true
          · simp only [Bool.and_eq_true, beq_iff_eq] at hb
            exact hb.1.1
          · simp only [hb, if_neg, Bool.false_eq_true, if_false] at h
            simp only [List.lookup_cons, beq_self_eq_true] at h
            rcases h with h | h
            · exact absurd (Option.some.inj h) hk
            · exact Option.some.inj h
        rw [hkf]
        exact List.mem_cons_self
      · have hb : (x == n) = false := by simpa using hxn
        refine List.mem_cons_of_mem _ (ih hr ?_)
        by_cases hq : (k == NameKind.free && env.scope.kind == .function && env.kindOf n == some .cell) = true
        · simp only [hq, if_true, List.lookup_cons, hb] at h
          exact h
        · simp only [hq, Bool.false_eq_true, if_false, List.lookup_cons, hb] at h
          exact h
  exact key scope.names hc h
theorem relabel_free {env : Env} {x : Str} : ∀ {l : List (Str × NameKind)}, l.lookup x = some .free →
    ((l.map fun (n, k) => if (k == NameKind.free && env.scope.kind == .function && env.kindOf n == some .cell) then (n, NameKind.cell) else (n, k)).lookup x = some .cell ∨
     (l.map fun (n, k) => if (k == NameKind.free && env.scope.kind == .function && env.kindOf n == some .cell) then (n, NameKind.cell) else (n, k)).lookup x = some .free)
  | [], h => by simp at h
  | (n, k) :: r, h => by
    rw [List.map_cons]
    by_cases hxn : x = n
    · subst hxn
      simp only [List.lookup_cons, beq_self_eq_true] at h
      have hk := Option.some.inj h
      subst hk
      by_cases hq : (NameKind.free == NameKind.free && env.scope.kind == .function && env.kindOf x == some .cell) = true
      · left
        show List.lookup x ((if (NameKind.free == NameKind.free && env.scope.kind == .function && env.kindOf x == some .cell) = true then (x, NameKind.cell) else (x, NameKind.free)) :: _) = _
        rw [if_pos hq, List.lookup_cons, beq_self_eq_true]
      · right
        show List.lookup x ((if (NameKind.free == NameKind.free && env.scope.kind == .function && env.kindOf x == some .cell) = true then (x, NameKind.cell) else (x, NameKind.free)) :: _) = _
        rw [if_neg hq, List.lookup_cons, beq_self_eq_true]
    · have hb : (x == n) = false := by simpa using hxn
      simp only [List.lookup_cons, hb] at h
      have ih := relabel_free (env := env) h
      by_cases hq : (k == NameKind.free && env.scope.kind == .function && env.kindOf n == some .cell) = true
      · simp only [hq, if_true, List.lookup_cons, hb]; exact ih
      · simp only [hq, Bool.false_eq_true, if_false, List.lookup_cons, hb]; exact ih

theorem mem_look {x : Str} {k : NameKind} : ∀ {l : List (Str × NameKind)}, l.lookup x = some k → (x, k) ∈ l
  | [], h => by simp at h
  | (n, j) :: r, h => by
    by_cases e : x = n
    · subst e
      simp only [List.lookup_cons, beq_self_eq_true] at h
      rw [← Option.some.inj h]
      exact List.mem_cons_self
    · have hb : (x == n) = false := by simpa using e
      simp only [List.lookup_cons, hb] at h
      exact List.mem_cons_of_mem _ (mem_look h)
section
variable {X : Cx} {elt tg iter : Expr} {scope : Scope} {pos : Pos} {wi : TI} {g : TG} {te : TE} {N : List Str} {fr : List (Option Nat)}
/-- the block: its state at the entry -/
theorem comp_entry {pins : List (Addr × Obj)} {σ : St} {H : Hp} {s s1 : Shared} {cl : List (Str × Addr)} {ex : List Addr} {C : Addr} {m : Str → Option Value} (I : Inv X pins σ H s) (ck : CompChk X.env.scope X.N scope N fr)
    (c1 : ∀ x c, cl.lookup x = some c → X.env.cells.lookup x = some c) (c2 : ∀ x, (x, NameKind.free) ∈ scope.names → ∃ c, cl.lookup x = some c) (hex : ∀ b ∈ ex, FpOk X pins H b ∧ b < s.heap.objs.size) (hC : s.heap.objs.size ≤ C)
    (hn : s1.heap.Ns C m) (k : ∀ b o, s.heap.get? b = some o → s1.heap.get? b = some o) (ho : s1.os = s.os) (hg : s1.gens = s.gens) :
    Inv (compCx X scope cl N C s H ex) [] (stC fr σ) H s1 := by
  have lt_ne : ∀ {b : Addr} {o : Obj}, s.heap.get? b = some o → b ≠ C := fun e => Nat.ne_of_lt (Nat.lt_of_lt_of_le (Heap.lt_size e) hC)
  have ok : (compCx X scope cl N C s H ex).Ok :=
    { mod := I.ok.mod
      kind := ck.kind
      glob := I.ok.glob
      blt := I.ok.blt
      above := hC
      inj := fun x y c e1 e2 => I.ok.inj x y c (c1 x c e1) (c1 y c e2)
      has := fun x h => c2 x (relabel_CF ck.nocell h)
      cab := fun x c z => by cases z
      hd := I.ok.hd
      frames := I.ok.frames
      stk := .inl rfl
      exf := fun b hb => ⟨Nat.ne_of_lt (Nat.lt_of_lt_of_le (hex b hb).2 hC), fun x c e => (hex b hb).1.2.2.2.2.1 x c (c1 x c e)⟩
      bs := I.bs
      bsz := Nat.le_trans I.ok.bsz I.sz
      noex := fun b o e hb => by
        rcases (hex b hb).1.2.2.2.1 with z | z
        · exact I.ok.noex b o e z
        · exact absurd (Nat.lt_of_lt_of_le (Heap.lt_size e) (Nat.le_trans I.ok.bsz z)) (Nat.lt_irrefl _)
      exfs := fun b hb hz => by
        rcases List.mem_cons.mp (I.stkSub b hz) with z | z
        · exact (hex b hb).1.2.1 z
        · exact (hex b hb).1.2.2.1 z
      funs := I.stack
      frf := I.stkFree }
  refine ⟨ok, ho, by rw [hg]; exact I.bare, Un.kept k, ⟨m, hn, fun j x v e1 e2 e3 => ?_⟩, fun x c e => ?_, I.hok.fresh hC, fun x c e => I.freeC x c (c1 x c e), fun p hp => by simp at hp, I.hok.kept k, ?_⟩
  · have e1' : N[j]? = some x := e1
    unfold stC at e2
    rw [List.getElem?_map] at e2
    cases q : fr[j]? with
    | none => rw [q] at e2; cases e2
    | some o =>
      rw [q] at e2
      cases o with
      | none =>
        have : (none : Option V) = some v := Option.some.inj e2
        cases this
      | some i =>
        have e2' : (σ[i]?).join = some v := Option.some.inj e2
        obtain ⟨s1', s2', s3'⟩ := ck.slots j x i e1' q
        have hσ : σ[i]? = some (some v) := by
          cases z : σ[i]? with
          | none => rw [z] at e2'; cases e2'
          | some y => rw [z] at e2'; exact congrArg some e2'
        have hcf := isCF_of s2'
        obtain ⟨m0, hn0, hl⟩ := I.loc
        obtain ⟨u, r, lk⟩ := hl i x v s1' hσ (Or.inr hcf)
        refine ⟨u, r, Or.inr ⟨relabel_free s3', ?_⟩⟩
        obtain ⟨c, hc⟩ := c2 x (mem_look s3')
        refine ⟨c, hc, ?_⟩
        rcases lk with ⟨z, _⟩ | ⟨_, c', hc', hv⟩
        · rcases hcf with y | y
          · have z' : X.env.scope.names.lookup x = some .local := z
            rw [y] at z'; cases z'
          · have z' : X.env.scope.names.lookup x = some .local := z
            rw [y] at z'; cases z'
        · have := c1 x c hc
          rw [hc'] at this
          cases this
          exact hv.keeps k
  · obtain ⟨v, z⟩ := I.cell x c (c1 x c e)
    exact ⟨v, z.keeps k⟩
  · unfold stC
    rw [List.length_map]
    exact ck.len.symm

theorem comp_core {pins : List (Addr × Obj)} {σ : St} {H : Hp} {s : Shared} {Q : VK} {cl : List (Str × Addr)} {R : Value → Addr → Result → Shared → Prop} (hc : X.calm = true) (I : Inv X pins σ H s) (hi : PI X tg iter wi)
    (hg : ∀ cl C s H ex, PG (compCx X scope cl N C s H ex) tg g) (he : ∀ cl C s H ex, PE (compCx X scope cl N C s H ex) elt te) (ck : CompChk X.env.scope X.N scope N fr)
    (c1 : ∀ x c, cl.lookup x = some c → X.env.cells.lookup x = some c) (c2 : ∀ x, (x, NameKind.free) ∈ scope.names → ∃ c, cl.lookup x = some c)
    (h : tComp wi g te fr σ H Q)
    (hR : ∀ acc C s' H' m, s'.heap.Ns C m → FpOk X pins H' C → Inv X pins σ H' s' → Q (.ref acc) H' → R (.ref acc) C (.ok .next) s') :
    wpAny (model X.prog X.w) X.A (eval iter X.env) (fun x s₁ => wpAny (model X.prog X.w) X.A (pyIter x) (fun it s₂ => wpAny (model X.prog X.w) X.A (newList []) (fun acc s₃ =>
      wpAny (model X.prog X.w) X.A (newFunctionEnv scope X.env.globals cl [] X.env.qual none .none (some X.env)) (fun cenv s₄ =>
        codeAny (model X.prog X.w) X.A (.compStart (.ListComp elt [⟨tg, iter, [], 0⟩] scope pos) 0 it acc { cenv with scope := relabel scope X.env }) (R acc cenv.locals) s₄) X.xe s₃) X.xe s₂) X.xe s₁) X.xe s := by
  refine thn (hi pins s σ H _ I h) fun v s1 h1 => thn h1 fun itv s2 h2 => ?_
  obtain ⟨it, fp, tn, J, H2, e, I2, T, st2, f2, q2⟩ := h2
  subst e
  refine wpAny_newObj_type (wpAny_newFunctionEnv ck.nocell (by intro y hy; simp at hy) (fun h₁ hns₁ hsb₁ => ?_) ck.kind)
  dsimp only at hns₁ hsb₁ ⊢
  have I3 : Inv X pins σ (upd H2 s2.heap.objs.size (.lst [])) { s2 with heap := s2.heap.push { cls := .type "list", dict := none, data := .seq ([] : List Value).toArray } } := I2.lnew (t' := s2.toks) (its := []) .nil (Nat.zero_le _)
  have acc0 : H2 s2.heap.objs.size = none := I2.fresh
  obtain ⟨W, ⟨m0, w0⟩, turn⟩ := q2 s2.heap.objs.size acc0
  generalize hH3 : s2.heap.push { cls := .type "list", dict := none, data := .seq ([] : List Value).toArray } = h3 at hns₁ hsb₁ I3 ⊢
  have hz3 : h3.objs.size = s2.heap.objs.size + 1 := by rw [← hH3, Heap.size_push]
  have k23 : ∀ b o, s2.heap.get? b = some o → h3.get? b = some o := fun b o e => by rw [← hH3]; exact Heap.get?_push_of_some _ e
  have k34 : ∀ b o, h3.get? b = some o → h₁.get? b = some o := fun b o e => hsb₁.extBut b o (Nat.ne_of_lt (Heap.lt_size e)) (Heap.get?_push_of_some _ e)
  have fpo : ∀ b ∈ fp, ∃ o, s2.heap.get? b = some o ∧ ∀ v, o.data ≠ .cell v := T.obj 0 _ st2
  have hex : ∀ b ∈ fp, FpOk X pins (upd H2 s2.heap.objs.size (.lst [])) b ∧ b < h3.objs.size := fun b hb => by
    obtain ⟨o, eo, _⟩ := fpo b hb
    have lt := Heap.lt_size eo
    obtain ⟨f0, fr'⟩ := f2 b hb
    exact ⟨⟨by rw [upd_ne (Nat.ne_of_lt lt)]; exact f0, fr'⟩, by rw [hz3]; exact Nat.lt_succ_of_lt lt⟩
  have I4 : Inv (compCx X scope cl N h3.objs.size { s2 with heap := h3 } (upd H2 s2.heap.objs.size (.lst [])) fp) [] (stC fr σ) (upd H2 s2.heap.objs.size (.lst [])) { s2 with heap := h₁, toks := s2.toks + ([] : List (Str × Value)).length } :=
    comp_entry I3 ck c1 c2 hex (Nat.le_refl _) hns₁ k34 rfl rfl
  have stat : ∀ {H' : Hp}, (∀ b ∈ fp, H' b = none) → ∀ b ∈ fp, FpOk (compCx X scope cl N h3.objs.size { s2 with heap := h3 } (upd H2 s2.heap.objs.size (.lst [])) fp) [] H' b := fun hn b hb =>
    ⟨hn b hb, (I4.ok.exf b hb).1, I4.ok.exfs b hb, .inl hb, (I4.ok.exf b hb).2, fun p hp => by simp at hp⟩
  have stn : ∀ i h h', tn i h → (∀ b o, h.get? b = some o → h'.get? b = some o) → tn i h' := fun i h h' st kk => T.keep i h h' st fun b _ o e => kk b o e
  have loop : codeAny (model X.prog X.w) X.A (.compLoop (.ListComp elt [⟨tg, iter, [], 0⟩] scope pos) 0 (.ref it) (.ref s2.heap.objs.size) (compEnvC scope cl h3.objs.size X.env)) (R (.ref s2.heap.objs.size) h3.objs.size)
      { s2 with heap := h₁, toks := s2.toks + ([] : List (Str × Value)).length } := by
    refine compLoop_any (fun n s' => ∃ i σ' H', Inv (compCx X scope cl N h3.objs.size { s2 with heap := h3 } (upd H2 s2.heap.objs.size (.lst [])) fp) [] σ' H' s' ∧ tn i s'.heap ∧ (∀ b ∈ fp, H' b = none) ∧ W i n σ' H') ?_ m0
      ⟨0, _, _, I4, stn _ _ _ st2 fun b o e => k34 b o (k23 b o e), fun b hb => (hex b hb).1.1, w0⟩
    rintro n s3 ⟨i, σ3, H3, J3, st3, fr3, w3⟩
    rcases turn i n σ3 H3 w3 with ⟨stop, qn⟩ | ⟨go, step⟩
    · refine wpFalse (thn (T.done (compCx X scope cl N h3.objs.size { s2 with heap := h3 } (upd H2 s2.heap.objs.size (.lst [])) fp) rfl rfl rfl hc i [] s3 σ3 H3 (fun _ _ => False) J3 (stat fr3) st3 stop) fun r s4 ⟨hr, J4⟩ => ?_)
      subst hr
      obtain ⟨mc, hmc, _⟩ := J4.loc
      have I5 : Inv X pins σ H3 s4 := I3.call' (ch := fp) J4.os J4.base J4.hok J4.bare fun b hb => ⟨(hex b hb).1.2.2.2.1, (hex b hb).1.2.1, (hex b hb).1.2.2.2.2.1, (hex b hb).1.2.2.2.2.2⟩
      exact hR _ _ s4 H3 mc hmc (I3.fpOk (Nat.le_refl _) J4.free) I5 qn
    · refine wpFalse (thn (T.item (compCx X scope cl N h3.objs.size { s2 with heap := h3 } (upd H2 s2.heap.objs.size (.lst [])) fp) rfl rfl rfl hc i [] s3 σ3 H3 (fun _ _ => False) J3 (stat fr3) st3 go) fun r s4 ⟨u, hr, h4⟩ => ?_)
      subst hr
      refine wpFalse (thn h4 fun _ s5 ⟨x, H5, J5, r5, y5, st5, fr5⟩ => ?_)
      have J5' := J5.pinned (stat fr5) (T.obj _ _ st5)
      refine wpFalse (thn (hg _ _ _ _ _ _ s5 σ3 H5 x u _ J5' r5 (step x H5 y5)) fun _ s6 ⟨σ6, H6, J6, q6⟩ => ?_)
      refine wpFalse (thn (he _ _ _ _ _ _ s6 σ6 H6 _ J6 q6) fun y s7 ⟨v7, H7, J7, r7, xs, hx, hz, m', hm', w7⟩ => ?_)
      refine wpFalse (thn (mt_append _ s7 σ6 H7 (.ref s2.heap.objs.size) [v7] (.ref s2.heap.objs.size) [y] (fun v H8 => H8 = upd H7 s2.heap.objs.size (.lst (xs ++ [v7]))) J7 rfl (.cons r7 .nil) ⟨_, xs, v7, rfl, rfl, hx, hz, rfl⟩) fun _ s8 ⟨_, H8, J8, _, e8⟩ => ?_)
      subst e8
      refine ⟨m', hm', i + 1, σ6, _, J8.unpinned, T.keep _ _ _ st5 fun b hb o e => (J8.pin (b, o) (List.mem_append_right _ (List.mem_append_right _ (mem_pinsAt hb e)))).1, fun b hb => ?_, w7⟩
      obtain ⟨o, e, d⟩ := T.obj _ _ st5 b hb
      exact (J8.pin (b, o) (List.mem_append_right _ (List.mem_append_right _ (mem_pinsAt hb e)))).2.1
  exact codeAny_compStart_list loop (T.self _ 0 _ _ _ (stn _ _ _ st2 fun b o e => k34 b o (k23 b o e)) loop)

theorem comp_cl (I : X.Ok) (ck : CompChk X.env.scope X.N scope N fr) : ∃ cl, closureFor scope X.env = pure cl ∧ (∀ x c, cl.lookup x = some c → X.env.cells.lookup x = some c) ∧ (∀ x, (x, NameKind.free) ∈ scope.names → ∃ c, cl.lookup x = some c) :=
  closure_of fun y hy e => I.has y.1 (isCF_of (ck.free y hy e))

theorem pe_comp (hc : X.calm = true) (hi : PI X tg iter wi) (hg : ∀ cl C s H ex, PG (compCx X scope cl N C s H ex) tg g) (he : ∀ cl C s H ex, PE (compCx X scope cl N C s H ex) elt te)
    (hk : compChk X.env.scope X.N scope N fr = true := by rfl) (hs : ∀ x, foldedSetIterable iter X.env x = pure x := by intro _; rfl) : PE X (.ListComp elt [⟨tg, iter, [], 0⟩] scope pos) (tComp wi g te fr) := by
  intro pins s σ H Q I h
  have ck := compChk_of hk
  obtain ⟨cl, e1, c1, c2⟩ := comp_cl I.ok ck
  rw [eval_ListComp]
  refine wpAny_comprehension_free (use := none) (Q := EP X pins σ Q) rfl hs e1 ck.kind ck.loc (comp_core (R := fun acc C => compPost (model X.prog X.w) X.A X.xe none (EP X pins σ Q) acc C) hc I hi hg he ck c1 c2 h fun acc C s' H' m hn f I' q => ?_)
  obtain ⟨f0, f1, f2, f3, f4, f5⟩ := f
  exact ⟨m, hn, fun h' hs' => ⟨.ref acc, H', I'.turned (t' := s'.toks) (fun b o hb e => hs'.extBut b o hb e) f0 f1 f3 f4 f5, rfl, q⟩⟩

/-- name = [..]: the name is stored ahead of the block's end -/
theorem ps_setComp {y : Str} {py spos : Pos} {gy : TG} (hc : X.calm = true) (hy : PG X (.Name y py) gy) (hi : PI X tg iter wi) (hg : ∀ cl C s H ex, PG (compCx X scope cl N C s H ex) tg g) (he : ∀ cl C s H ex, PE (compCx X scope cl N C s H ex) elt te)
    (hk : compChk X.env.scope X.N scope N fr = true := by rfl) (hsw : swapsWith (.ListComp elt [⟨tg, iter, [], 0⟩] scope pos) (some (.Name y py)) spos.line X.env = pure true := by rfl) (hs : ∀ x, foldedSetIterable iter X.env x = pure x := by intro _; rfl) :
    PS X (.Assign [.Name y py] (.ListComp elt [⟨tg, iter, [], 0⟩] scope pos) spos) (tAsg (tComp wi g te fr) gy) := by
  intro pins s σ H D I h
  have ck := compChk_of hk
  obtain ⟨cl, e1, c1, c2⟩ := comp_cl I.ok ck
  rw [exec_Assign_Name_used _ _ _ _ hsw]
  refine wpAny_bind (wpAny_standAt (wpAny_bind ?_))
  show wpAny _ X.A (do let _ ← comprehension (.ListComp elt [⟨tg, iter, [], 0⟩] scope pos) scope X.env _ (newList []) false (eval iter X.env) (some (assign (.Name y py) X.env))) _ _ s
  refine wpAny_bind (wpAny_mono (wpAny_comprehension_free (use := some (assign (.Name y py) X.env)) (Q := fun _ s' => SP X pins D .next s') rfl hs e1 ck.kind ck.loc
    (comp_core (R := fun acc C => compPost (model X.prog X.w) X.A X.xe (some (assign (.Name y py) X.env)) (fun _ s' => SP X pins D .next s') acc C) hc I hi hg he ck c1 c2 h fun acc C s' H' m hn f I' q => ?_)) (fun _ s' hq => wpAny_pure (wpAny_pure hq)) fun _ _ e => e)
  show wpAny _ X.A (assign (.Name y py) X.env (.ref acc)) _ _ _
  obtain ⟨oC, es, ep, hoC, hdC, hrC⟩ := id hn
  have IP := I'.pinned (fp := [C]) (fun b hb => by rw [List.mem_singleton.mp hb]; exact f) (fun b hb => by rw [List.mem_singleton.mp hb]; exact ⟨oC, hoC, fun v z => by rw [hdC] at z; cases z⟩)
  refine thn (hy _ s' σ H' (.ref acc) (.ref acc) _ IP rfl q) fun _ s'' ⟨σ6, H6, I6, q6⟩ => ?_
  have pC := I6.pin (C, oC) (List.mem_append_right _ (List.mem_append_right _ (mem_pinsAt (List.mem_singleton.mpr rfl) hoC)))
  obtain ⟨f0, f1, f2, f3, f4, f5⟩ := f
  exact ⟨m, ⟨oC, es, ep, pC.1, hdC, hrC⟩, fun h' hs' => ⟨σ6, H6, I6.unpinned.turned (t' := s''.toks) (fun b o hb e => hs'.extBut b o hb e) pC.2.1 f1 f3 f4 f5, q6⟩⟩
end
end L2
namespace L2
open PySem PySem.Spec PyProof.Rows
section
variable {X : Cx}
def CDivL (_ j : Int) : Prop := 0 < j ∧ j.natAbs.log2 < 9000
theorem op_fdivL : OpR X (binaryOp .FloorDiv) (rI CDivL fun i j => .int (i / j)) := opI fun i j _ _ _ _ _ hc q => by
  have h1 : (0 : Int) < j := hc.1
  exact floordiv_int (by first | lia | omega) (by rw [Int.fdiv_eq_ediv_of_nonneg i (by first | lia | omega)]; exact q) (.inl (PyProof.noPylong_of_log2 hc.2))
theorem op_mulL : OpR X (binaryOp .Mult) (rI IntMulOk fun i j => .int (i * j)) := opI fun _ _ _ _ _ _ _ hc q => mul_int q hc
theorem log2_lt_of {n k : Nat} (hk : 0 < k) (h : n < 2 ^ k) : n.log2 < k := by
  rcases Nat.eq_zero_or_pos n with h0 | hp
  · rw [h0]; simpa using hk
  · exact (Nat.log2_lt (Nat.ne_of_gt hp)).mpr h
theorem intBits_le {z : Int} {k : Nat} (hk : 0 < k) (h : z.natAbs < 2 ^ k) : Builtin.Int.intBits z ≤ k := by
  unfold Builtin.Int.intBits
  split
  · exact Nat.zero_le _
  · exact log2_lt_of hk h
theorem mulOk_of {a b : Int} (h1 : a.natAbs < 2 ^ 128) (h2 : b.natAbs < 2 ^ 128) : IntMulOk a b := by
  have e1 := intBits_le (by decide) h1
  have e2 := intBits_le (by decide) h2
  unfold IntMulOk Builtin.Int.intTooBig
  intro h
  simp only [Bool.and_eq_true, decide_eq_true_eq] at h
  have h3 := h.2
  have hb : (256 : Int) ≤ (bitsLine : Int) := by decide +kernel
  first | lia | omega

def tyO : Option HO → Option String
  | some (.lst _) => some "list"
  | some (.frz _ (.lst _)) => some "list"
  | some (.tup _) => some "tuple"
  | some (.dK _) => some "dict"
  | some (.dT _) => some "dict"
  | _ => none
def tyS (H : Hp) : V → Option String
  | .non => some "NoneType"
  | .bl _ => some "bool"
  | .int _ => some "int"
  | .str _ => some "str"
  | .ref a => tyO (H a)
  | _ => none
theorem tyS_of {K : PySem.W.Frag} {H : Hp} {x : V} {T : String} (h : tyS H x = some T) : TyOf K H x (.type T) ∧ (T = "NoneType" ∨ T = "bool" ∨ T = "int" ∨ T = "str" ∨ T = "list" ∨ T = "tuple" ∨ T = "dict") := by
  unfold tyS at h
  split at h
  · cases h; exact ⟨.non, by simp⟩
  · cases h; exact ⟨.bl _, by simp⟩
  · cases h; exact ⟨.int _, by simp⟩
  · cases h; exact ⟨.str _, by simp⟩
  · unfold tyO at h
    split at h
    · rename_i e; cases h; exact ⟨.lst e, by simp⟩
    · rename_i e; cases h; exact ⟨.frz e, by simp⟩
    · rename_i e; cases h; exact ⟨.tup e, by simp⟩
    · rename_i e; cases h; exact ⟨.dK e, by simp⟩
    · rename_i e; cases h; exact ⟨.dT e, by simp⟩
    · cases h
  · cases h
def isB (T c : String) : Bool := decide (T = c) || (decide (T = "bool") && decide (c = "int"))
theorem isB_tt : isB "tuple" "tuple" = true := by decide
theorem kit_isB {K : PySem.W.Frag} {T c : String} (h : T = "NoneType" ∨ T = "bool" ∨ T = "int" ∨ T = "str" ∨ T = "list" ∨ T = "tuple" ∨ T = "dict") (hc : c = "int" ∨ c = "bool" ∨ c = "tuple" ∨ c = "list" ∨ c = "str") :
    PySem.W.kitOne K (.type T) (.type c) = some (isB T c) := by
  rcases h with rfl | rfl | rfl | rfl | rfl | rfl | rfl <;> rcases hc with rfl | rfl | rfl | rfl | rfl <;> rfl
theorem call_isin : CallR X (.builtin "isinstance") (fun xs H Q => ∃ x T c, xs = [x, .ty c] ∧ tyS H x = some T ∧ (c = "int" ∨ c = "bool" ∨ c = "tuple" ∨ c = "list" ∨ c = "str") ∧ Q (.bl (isB T c)) H) := by
  intro pins s σ H xs us Q I r h
  obtain ⟨x, T, c, rfl, hT, hc, q⟩ := h
  obtain ⟨u, w', rfl, rx, ry⟩ := vals2 r
  cases (show w' = Value.type c from ry)
  obtain ⟨ty, hl⟩ := tyS_of (K := X.K) hT
  exact isinst_ok I rx ty (kit_isB hl hc) fun tk => ⟨.bl (isB T c), H, I.tok tk, rfl, q⟩

theorem bools_get {bs : List Bool} {its : List Value} (r : Vals (bs.map V.bl) its) {i : Nat} {v : Value} (h : its.toArray[i]? = some v) : v = .bool (bs.getD i false) := by
  have hl := r.length
  have hi : i < its.length := by
    have := (Array.getElem?_eq_some_iff.mp h).1
    simpa using this
  have hb : bs[i]? = some (bs.getD i false) := by
    have : i < bs.length := by rw [List.length_map] at hl; first | lia | omega
    rw [List.getD_eq_getElem?_getD, List.getElem?_eq_getElem this]; rfl
  obtain ⟨u, hu, ru⟩ := r.get (i := i) (x := .bl (bs.getD i false)) (by rw [List.getElem?_map, hb]; rfl)
  have h' : its[i]? = some v := by simpa using h
  rw [h'] at hu
  cases hu
  exact ru
theorem range_all {α : Type} (bs : List Bool) : (List.range bs.length).all (fun i => bs.getD i false) = bs.all id := by
  have e : (List.range bs.length).map (fun i => bs.getD i false) = bs := by
    apply List.ext_getElem?
    intro i
    rw [List.getElem?_map]
    by_cases h : i < bs.length
    · rw [List.getElem?_range h, List.getElem?_eq_getElem h, Option.map_some, List.getD_eq_getElem?_getD, List.getElem?_eq_getElem h]; rfl
    · rw [List.getElem?_eq_none (by simpa using h), List.getElem?_eq_none (by first | lia | omega)]; rfl
  conv => rhs; rw [← e]
  rw [List.all_map]; rfl
theorem truth_bools {prog : Program} {w : World} {A : Around} {bs : List Bool} {its : List Value} (r : Vals (bs.map V.bl) its) : TruthOf prog w A (fun i v => its.toArray[i]? = some v) (fun i => bs.getD i false) := by
  intro i v s Q E hv hq
  have e := bools_get r hv
  subst e
  exact wpAny_truthy_bool hq
theorem call_all : CallR X (.builtin "all") (fun xs H Q => ∃ (p : Addr) (bs : List Bool), xs = [.ref p] ∧ SqL X.K H p (bs.map V.bl) ∧ X.calm = true ∧ Q (.bl (bs.all id)) H) := by
  intro pins s σ H xs us Q I r h
  obtain ⟨p, bs, rfl, hp, hc, q⟩ := h
  obtain ⟨u, rfl, ru⟩ := vals1 r
  cases ru
  obtain ⟨its, rv, pl, hz⟩ := I.list hp
  have hl := rv.length
  rw [List.length_map] at hl
  refine call_all_walk (wpAny_pyIter_list pl.isList ?_)
  have hlt : p < s.heap.objs.size := by obtain ⟨o, ho, _⟩ := pl.isList; exact Heap.lt_size ho
  refine ⟨s.heap.objs.size, _, _, _, _, _, _, rfl, Walks.list (show X.A.in1.handled = none from I.ok.hd hc) s.heap.objs.size p (Nat.ne_of_lt hlt) its.toArray, ⟨⟨_, Heap.get?_push_size _ rfl, rfl, rfl⟩, let ⟨o, ho, r⟩ := pl.isList; ⟨o, Heap.get?_push_of_some _ ho, r⟩⟩, truth_bools rv, fun h' tk k => ?_⟩
  refine ⟨.bl (bs.all id), H, I.kept (t' := tk) fun b o e => k b o (fun z => ?_) (Heap.get?_push_of_some _ e), ?_, q⟩
  · have : b = s.heap.objs.size := by simpa using z
    exact absurd (this ▸ Heap.lt_size e) (Nat.lt_irrefl _)
  · show Value.bool _ = Value.bool _
    rw [List.size_toArray, ← hl, range_all (α := Nat)]
end

section
variable {X : Cx}
end
end L2
namespace L2
open PySem PySem.Spec PyProof.Rows
structure DefOk (P : Program) (w : World) (K : PySem.W.Frag) (mg : Str → Option Value) (base : Heap) (k : Nat) (x : Str) (ps : List Str) (sp : Sp) : Prop where
  ex : ∃ (f : Addr) (fd : FuncData), FnOk P w K mg base CX0 k f fd ps sp ∧ mg x = some (.ref f) ∧ PySem.W.keepIn K (.ref f) = true ∧ Binds K fd ps []
section
variable {X : Cx} {k j : Nat} {x : Str} {ps : List Str} {sp : Sp} {p pos : Pos} {e : Expr} {es : List Expr} {t : TA}
theorem pe_fn (D : DefOk X.prog X.w X.K X.mg X.base k x ps sp) (hr : Room j X.A) (ha : PA X (e :: es) t) (hj : k ≤ j := by decide) (hg : Gl X x := by rfl) (hdb : (x == ("__debug__" : Str)) = false := by decide)
    (he : starEach (e :: es) X.env = (false, eval e X.env) :: starEach es X.env := by rfl) (hpl : (backTo pos (starEach es X.env)).any (·.1) = false := by rfl) : PE X (.Call (.Name x p) (e :: es) [] pos) (tCall sp [] E0 t) := by
  obtain ⟨f, fd, F, hm, hk, hb⟩ := D.ex
  exact pe_call F (hr.mono hj) hg hm hk hb .nil pass0 ha hdb he hpl
end
theorem lenOk {xs : List V} (n : Nat) (h : xs.length = n := by rfl) (h2 : n ≤ 1000 := by decide) : xs.length ≤ sizeLine := by rw [h]; exact Nat.le_of_lt (small1000 h2)
theorem iteP {c : Bool} {A B : Prop} (h : c = true) (a : A) : if c = true then A else B := by rw [if_pos h]; exact a
theorem iteN {c : Bool} {A B : Prop} (h : c = false) (b : B) : if c = true then A else B := by rw [if_neg (by rw [h]; exact Bool.false_ne_true)]; exact b
theorem ite3 {c : Bool} {A B : Prop} (h1 : c = true → A) (h2 : c = false → B) : if c = true then A else B := by
  cases c with
  | true => exact iteT (h1 rfl)
  | false => exact iteF (h2 rfl)
theorem decI {i j : Int} : decide (V.int i = V.int j) = true ↔ i = j := by
  rw [decide_eq_true_eq]
  exact ⟨fun h => by injection h, fun h => by rw [h]⟩
/-- all but p is as it was -/
def SameX (p : Addr) (H H' : Hp) : Prop := ∀ b o, b ≠ p → H b = some o → H' b = some o
theorem SameX.refl {p : Addr} {H : Hp} : SameX p H H := fun _ _ _ h => h
theorem SameX.trans {p : Addr} {H H1 H2 : Hp} (a : SameX p H H1) (b : SameX p H1 H2) : SameX p H H2 := fun c o n h => b c o n (a c o n h)
theorem SameX.upd {p : Addr} {H : Hp} {o : HO} : SameX p H (upd H p o) := fun b u n h => by rw [upd_ne n]; exact h
theorem SameX.new {p l : Addr} {H : Hp} {o : HO} (h : H l = none) : SameX p H (L2.upd H l o) := fun b u _ e => by rw [upd_ne (ne_of_none e h)]; exact e
theorem Same.new {l : Addr} {H : Hp} {o : HO} (h : H l = none) : Same H (L2.upd H l o) := fun b u e => by rw [upd_ne (ne_of_none e h)]; exact e
theorem SameX.same {p : Addr} {H H0 H' : Hp} (a : SameX p H H') (s : Same H0 H) (h : H0 p = none) : Same H0 H' := fun b o e => a b o (ne_of_none e h) (s b o e)
theorem Same.x {p : Addr} {H H' : Hp} (a : Same H H') : SameX p H H' := fun b o _ e => a b o e

/-- the invariant of a comprehension of n turns: at turn i the new list holds xs, i of them -/
def cW (acc : Addr) (n : Nat) (Pv : Nat → List V → St → Hp → Prop) (i m : Nat) (σ : St) (H : Hp) : Prop := i ≤ n ∧ m = n - i ∧ ∃ xs, xs.length = i ∧ H acc = some (.lst xs) ∧ Pv i xs σ H
/-- what is wanted behind the element of turn i -/
def cNx (acc : Addr) (n : Nat) (Pv : Nat → List V → St → Hp → Prop) (i : Nat) (σ : St) (v : V) (H : Hp) : Prop := ∃ xs, H acc = some (.lst xs) ∧ xs.length < sizeLine ∧ ∃ m', m' < n - i ∧ cW acc n Pv (i + 1) m' σ (upd H acc (.lst (xs ++ [v])))
theorem cNx.mk {acc : Addr} {n : Nat} {Pv : Nat → List V → St → Hp → Prop} {i : Nat} {σ : St} {v : V} {H : Hp} {xs : List V} (hn : n ≤ sizeLine) (hi : i < n) (hl : xs.length = i) (ha : H acc = some (.lst xs)) (hp : Pv (i + 1) (xs ++ [v]) σ (upd H acc (.lst (xs ++ [v])))) :
    cNx acc n Pv i σ v H := ⟨xs, ha, by first | lia | omega, n - (i + 1), by first | lia | omega, hi, rfl, xs ++ [v], by rw [List.length_append, hl]; rfl, upd_same, hp⟩
theorem comp_range {lo : Int} {n : Nat} {g : TG} {te : TE} {σ : St} {H1 : Hp} {acc : Addr} {Qr : Hp → Prop} (Pv : Nat → List V → St → Hp → Prop) (h0 : Pv 0 [] σ (upd H1 acc (.lst [])))
    (hs : ∀ i xs σ H, i < n → xs.length = i → H acc = some (.lst xs) → Pv i xs σ H → g (.int (lo + i)) σ H fun σ2 H2 => te σ2 H2 fun v H3 => cNx acc n Pv i σ2 v H3)
    (hd : ∀ xs σ H, xs.length = n → H acc = some (.lst xs) → Pv n xs σ H → Qr H) :
    ∃ W : Nat → Nat → St → Hp → Prop, (∃ m, W 0 m σ (upd H1 acc (.lst []))) ∧ ∀ i m σ1 H2, W i m σ1 H2 →
      ((Itr lo n).stop i H2 ∧ Qr H2) ∨ ((Itr lo n).go i H2 ∧ ∀ x H3, (Itr lo n).yld i H2 x H3 → g x σ1 H3 fun σ4 H4 => te σ4 H4 fun v H5 => ∃ xs, H5 acc = some (.lst xs) ∧ xs.length < sizeLine ∧ ∃ m', m' < m ∧ W (i + 1) m' σ4 (upd H5 acc (.lst (xs ++ [v])))) := by
  refine ⟨cW acc n Pv, ⟨n, Nat.zero_le _, rfl, [], rfl, upd_same, h0⟩, ?_⟩
  rintro i m σ1 H2 ⟨hi, rfl, xs, hl, ha, hp⟩
  rcases Nat.lt_or_ge i n with h | h
  · refine .inr ⟨h, ?_⟩
    rintro x H3 ⟨rfl, rfl⟩
    exact hs i xs σ1 H3 h hl ha hp
  · have e : i = n := Nat.le_antisymm hi h
    subst e
    exact .inl ⟨Nat.le_refl _, hd xs σ1 H2 hl ha hp⟩
theorem comp_list {K : PySem.W.Frag} {a : Addr} {ys : List V} {g : TG} {te : TE} {σ : St} {H1 : Hp} {acc : Addr} {Qr : Hp → Prop} (Pv : Nat → List V → St → Hp → Prop) (h0 : Pv 0 [] σ (upd H1 acc (.lst [])))
    (hq : ∀ i xs σ H, i ≤ ys.length → H acc = some (.lst xs) → Pv i xs σ H → SqL K H a ys)
    (hs : ∀ i x xs σ H, ys[i]? = some x → i < ys.length → xs.length = i → H acc = some (.lst xs) → Pv i xs σ H → g x σ H fun σ2 H2 => te σ2 H2 fun v H3 => cNx acc ys.length Pv i σ2 v H3)
    (hd : ∀ xs σ H, xs.length = ys.length → H acc = some (.lst xs) → Pv ys.length xs σ H → Qr H) :
    ∃ W : Nat → Nat → St → Hp → Prop, (∃ m, W 0 m σ (upd H1 acc (.lst []))) ∧ ∀ i m σ1 H2, W i m σ1 H2 →
      ((Itl K a).stop i H2 ∧ Qr H2) ∨ ((Itl K a).go i H2 ∧ ∀ x H3, (Itl K a).yld i H2 x H3 → g x σ1 H3 fun σ4 H4 => te σ4 H4 fun v H5 => ∃ xs, H5 acc = some (.lst xs) ∧ xs.length < sizeLine ∧ ∃ m', m' < m ∧ W (i + 1) m' σ4 (upd H5 acc (.lst (xs ++ [v])))) := by
  refine ⟨cW acc ys.length Pv, ⟨ys.length, Nat.zero_le _, rfl, [], rfl, upd_same, h0⟩, ?_⟩
  rintro i m σ1 H2 ⟨hi, rfl, xs, hl, ha, hp⟩
  have hsq := hq i xs σ1 H2 hi ha hp
  rcases Nat.lt_or_ge i ys.length with h | h
  · refine .inr ⟨⟨ys, ys[i], hsq, List.getElem?_eq_getElem h⟩, ?_⟩
    rintro x H3 ⟨rfl, hx⟩
    exact hs i x xs σ1 H3 (hx ys hsq) h hl ha hp
  · have e : i = ys.length := Nat.le_antisymm hi h
    subst e
    exact .inl ⟨⟨ys, hsq, Nat.le_refl _⟩, hd xs σ1 H2 hl ha hp⟩
theorem comp_tup {K : PySem.W.Frag} {a : Addr} {ys : List V} {g : TG} {te : TE} {σ : St} {H1 : Hp} {acc : Addr} {Qr : Hp → Prop} (Pv : Nat → List V → St → Hp → Prop) (h0 : Pv 0 [] σ (upd H1 acc (.lst [])))
    (hq : ∀ i xs σ H, i ≤ ys.length → H acc = some (.lst xs) → Pv i xs σ H → SqT K H a ys)
    (hs : ∀ i x xs σ H, ys[i]? = some x → i < ys.length → xs.length = i → H acc = some (.lst xs) → Pv i xs σ H → g x σ H fun σ2 H2 => te σ2 H2 fun v H3 => cNx acc ys.length Pv i σ2 v H3)
    (hd : ∀ xs σ H, xs.length = ys.length → H acc = some (.lst xs) → Pv ys.length xs σ H → Qr H) :
    ∃ W : Nat → Nat → St → Hp → Prop, (∃ m, W 0 m σ (upd H1 acc (.lst []))) ∧ ∀ i m σ1 H2, W i m σ1 H2 →
      ((Itt K a).stop i H2 ∧ Qr H2) ∨ ((Itt K a).go i H2 ∧ ∀ x H3, (Itt K a).yld i H2 x H3 → g x σ1 H3 fun σ4 H4 => te σ4 H4 fun v H5 => ∃ xs, H5 acc = some (.lst xs) ∧ xs.length < sizeLine ∧ ∃ m', m' < m ∧ W (i + 1) m' σ4 (upd H5 acc (.lst (xs ++ [v])))) := by
  refine ⟨cW acc ys.length Pv, ⟨ys.length, Nat.zero_le _, rfl, [], rfl, upd_same, h0⟩, ?_⟩
  rintro i m σ1 H2 ⟨hi, rfl, xs, hl, ha, hp⟩
  have hsq := hq i xs σ1 H2 hi ha hp
  rcases Nat.lt_or_ge i ys.length with h | h
  · refine .inr ⟨⟨ys, ys[i], hsq, List.getElem?_eq_getElem h⟩, ?_⟩
    rintro x H3 ⟨rfl, hx⟩
    exact hs i x xs σ1 H3 (hx ys hsq) h hl ha hp
  · have e : i = ys.length := Nat.le_antisymm hi h
    subst e
    exact .inl ⟨⟨ys, hsq, Nat.le_refl _⟩, hd xs σ1 H2 hl ha hp⟩
end L2
namespace L2
open PySem PySem.Spec PyProof.Rows PySem.W
section
variable {cmp : Nat → Nat → (Bool → Shared → Prop) → Shared → Prop} {key : Nat → Int} {N : Nat} {s : Shared}
def KP (key : Nat → Int) (p : Array Nat) (i : Nat) : Int := key (p.getD i 0)
def PermN (N : Nat) (p : Array Nat) : Prop := p.toList.Perm (List.range N)
theorem PermN.size {p : Array Nat} (h : PermN N p) : p.size = N := by
  have := List.Perm.length_eq h
  rw [List.length_range] at this
  simpa using this
theorem PermN.lt {p : Array Nat} (h : PermN N p) {i : Nat} (hi : i < N) : p.getD i 0 < N := by
  have hs := h.size
  have hi' : i < p.size := by first | lia | omega
  have e : p.getD i 0 = p[i] := by simp [Array.getD, hi']
  rw [e]
  have hm : p[i] ∈ p.toList := by simp
  exact List.mem_range.mp ((List.Perm.mem_iff h).mp hm)
theorem PermN.of {p q : Array Nat} (h : PermN N p) (hq : q.Perm p) : PermN N q := (Array.perm_iff_toList_perm.mp hq).trans h
def SrtK (key : Nat → Int) (p : Array Nat) (k : Nat) : Prop := ∀ i j, i ≤ j → j < k → KP key p i ≤ KP key p j
def NinK (key : Nat → Int) (p : Array Nat) (k : Nat) : Prop := ∀ i j, i ≤ j → j < k → KP key p j ≤ KP key p i
theorem KP_congr {p q : Array Nat} {i j : Nat} (h : p[i]? = q[j]?) : KP key p i = KP key q j := by
  unfold KP
  rw [Array.getD_eq_getD_getElem?, Array.getD_eq_getD_getElem?, h]
theorem KP_rev {p : Array Nat} {i j : Nat} (hj : j ≤ p.size) (k : Nat) : KP key (kas_rev p i j) k = if i ≤ k ∧ k < j then KP key p (i + j - 1 - k) else KP key p k := by
  have e := getElem?_mirror_all (i := i) hj k
  by_cases h : i ≤ k ∧ k < j
  · rw [if_pos h] at e ⊢; exact KP_congr e
  · rw [if_neg h] at e ⊢; exact KP_congr e
theorem KP_bubble {p : Array Nat} {src d : Nat} (hs : src < p.size) (hd : d ≤ src) (k : Nat) :
    KP key (bubble p src d) k = if k = src - d then KP key p src else if src - d < k ∧ k ≤ src then KP key p (k - 1) else KP key p k := by
  have e := getElem?_bubble hs d hd k
  by_cases h1 : k = src - d
  · rw [if_pos h1] at e ⊢; exact KP_congr e
  · rw [if_neg h1] at e ⊢
    by_cases h2 : src - d < k ∧ k ≤ src
    · rw [if_pos h2] at e ⊢; exact KP_congr e
    · rw [if_neg h2] at e ⊢; exact KP_congr e
theorem PermN.rev {p : Array Nat} (h : PermN N p) (i j : Nat) : PermN N (kas_rev p i j) := h.of (mirror_perm _ _ _ _)
theorem PermN.bub {p : Array Nat} (h : PermN N p) (i j : Nat) : PermN N (bubble p i j) := h.of (bubble_perm _ _ _)

theorem srt_ext {p : Array Nat} {n : Nat} (h : SrtK key p n) (hn : 1 ≤ n) (hc : KP key p (n - 1) ≤ KP key p n) : SrtK key p (n + 1) := fun i j hij hj => by
  by_cases e : j = n
  · subst e
    by_cases e2 : i = j
    · subst e2; exact Int.le_refl _
    · exact Int.le_trans (h i (j - 1) (by first | lia | omega) (by first | lia | omega)) hc
  · exact h i j hij (by first | lia | omega)
theorem nin_ext {p : Array Nat} {n : Nat} (h : NinK key p n) (hn : 1 ≤ n) (hc : KP key p n ≤ KP key p (n - 1)) : NinK key p (n + 1) := fun i j hij hj => by
  by_cases e : j = n
  · subst e
    by_cases e2 : i = j
    · subst e2; exact Int.le_refl _
    · exact Int.le_trans hc (h i (j - 1) (by first | lia | omega) (by first | lia | omega))
  · exact h i j hij (by first | lia | omega)
variable (hcmp : ∀ i j (C : Bool → Shared → Prop), i < N → j < N → C (decide (key i < key j)) s → cmp i j C s)
include hcmp
theorem asc_ok {p : Array Nat} (hp : PermN N p) {G : Nat → Shared → Prop} : ∀ (f n : Nat), 1 ≤ n → n + f ≤ N → SrtK key p n → (∀ m, n ≤ m → m ≤ n + f → SrtK key p m → (m < n + f → KP key p m < KP key p (m - 1)) → G m s) → (kas_asc p f n).kasWp cmp G s
  | 0, n, h1, hn, hs, hG => hG n (Nat.le_refl _) (by first | lia | omega) hs (fun h => absurd h (by first | lia | omega))
  | f + 1, n, h1, hn, hs, hG => by
    show cmp _ _ _ s
    refine hcmp _ _ _ (hp.lt (by first | lia | omega)) (hp.lt (by first | lia | omega)) ?_
    by_cases h : key (p.getD n 0) < key (p.getD (n - 1) 0)
    · rw [decide_eq_true h]
      simp only [if_true]
      exact hG n (Nat.le_refl _) (by first | lia | omega) hs fun _ => h
    · rw [decide_eq_false h]
      simp only [Bool.false_eq_true, if_false]
      exact asc_ok hp f (n + 1) (by first | lia | omega) (by first | lia | omega) (srt_ext hs h1 (by unfold KP; first | lia | omega)) fun m a b c d => hG m (by first | lia | omega) (by first | lia | omega) c fun z => d (by first | lia | omega)
theorem tail3_ok {p : Array Nat} (hp : PermN N p) {n : Nat} (h1 : 1 ≤ n) (hn : n ≤ N) (hs : NinK key p n) {G : Nat × Array Nat → Shared → Prop} (hG : ∀ m q, 1 ≤ m → m ≤ N → PermN N q → SrtK key q m → G (m, q) s) : (kas_tail3 n N p).kasWp cmp G s := by
  unfold kas_tail3
  rw [KasT.kasWp_bind]
  have hz := hp.size
  refine asc_ok hcmp (hp.rev 0 n) (N - n) n h1 (by first | lia | omega) (fun i j hij hj => ?_) fun m a b c _ => hG m _ (by first | lia | omega) (by first | lia | omega) (hp.rev 0 n) c
  rw [KP_rev (by first | lia | omega), KP_rev (by first | lia | omega), if_pos (by first | lia | omega), if_pos (by first | lia | omega)]
  exact hs _ _ (by first | lia | omega) (by first | lia | omega)
theorem desc_ok {G : Array Nat × Nat × Nat → Shared → Prop} : ∀ (f : Nat) (p : Array Nat) (n q : Nat), PermN N p → 1 ≤ n → n + f ≤ N → q < n → NinK key p n → (∀ i, n - 1 - q ≤ i → i < n → KP key p i = KP key p (n - 1)) →
    (∀ p' m r, PermN N p' → 1 ≤ m → m ≤ N → r < m → NinK key p' m → (∀ i, m - 1 - r ≤ i → i < m → KP key p' i = KP key p' (m - 1)) → G (p', m, r) s) → (kas_desc f p n q).kasWp cmp G s
  | 0, p, n, q, hp, h1, hn, hq, hs, he, hG => hG p n q hp h1 (by first | lia | omega) hq hs he
  | f + 1, p, n, q, hp, h1, hn, hq, hs, he, hG => by
    have hz := hp.size
    show cmp _ _ _ s
    refine hcmp _ _ _ (hp.lt (by first | lia | omega)) (hp.lt (by first | lia | omega)) ?_
    by_cases h : key (p.getD n 0) < key (p.getD (n - 1) 0)
    · rw [decide_eq_true h]
      simp only [if_true]
      have h' : KP key p n < KP key p (n - 1) := h
      have key1 : NinK key p (n + 1) := nin_ext hs h1 (by first | lia | omega)
      by_cases hq0 : q > 0
      · rw [if_pos hq0]
        have same : ∀ k, KP key (kas_rev p (n - (q + 1)) n) k = KP key p k := fun k => by
          rw [KP_rev (by first | lia | omega)]
          split
          · rw [he _ (by first | lia | omega) (by first | lia | omega), he k (by first | lia | omega) (by first | lia | omega)]
          · rfl
        refine desc_ok f _ (n + 1) 0 (hp.rev _ _) (by first | lia | omega) (by first | lia | omega) (by first | lia | omega) (fun i j hij hj => ?_) (fun i a b => ?_) hG
        · rw [same, same]; exact key1 i j hij hj
        · rw [show i = n + 1 - 1 by first | lia | omega]
      · rw [if_neg hq0]
        exact desc_ok f _ (n + 1) 0 hp (by first | lia | omega) (by first | lia | omega) (by first | lia | omega) key1 (fun i a b => by rw [show i = n + 1 - 1 by first | lia | omega]) hG
    · rw [decide_eq_false h]
      simp only [Bool.false_eq_true, if_false]
      show cmp _ _ _ s
      refine hcmp _ _ _ (hp.lt (by first | lia | omega)) (hp.lt (by first | lia | omega)) ?_
      by_cases h2 : key (p.getD (n - 1) 0) < key (p.getD n 0)
      · rw [decide_eq_true h2]
        simp only [if_true]
        exact hG p n q hp h1 (by first | lia | omega) hq hs he
      · rw [decide_eq_false h2]
        simp only [Bool.false_eq_true, if_false]
        have e : KP key p n = KP key p (n - 1) := by unfold KP; first | lia | omega
        refine desc_ok f p (n + 1) (q + 1) hp (by first | lia | omega) (by first | lia | omega) (by first | lia | omega) (nin_ext hs h1 (by first | lia | omega)) (fun i a b => ?_) hG
        by_cases hi : i = n
        · subst hi; rfl
        · rw [he i (by first | lia | omega) (by first | lia | omega), ← e]; rfl
theorem descPart_ok {p : Array Nat} (hp : PermN N p) {n : Nat} (hn : n + 1 ≤ N) (hs : NinK key p (n + 1)) {G : Nat × Array Nat → Shared → Prop} (hG : ∀ m q, 1 ≤ m → m ≤ N → PermN N q → SrtK key q m → G (m, q) s) : (kas_descPart n N p).kasWp cmp G s := by
  unfold kas_descPart
  rw [KasT.kasWp_bind]
  refine desc_ok hcmp (N - (n + 1)) p (n + 1) 0 hp (by first | lia | omega) (by first | lia | omega) (by first | lia | omega) hs (fun i a b => by rw [show i = n + 1 - 1 by first | lia | omega]) fun p' m r hp' h1 hm hr hs' he => ?_
  dsimp only
  have hz := hp'.size
  split
  · have same : ∀ k, KP key (kas_rev p' (m - (r + 1)) m) k = KP key p' k := fun k => by
      rw [KP_rev (by first | lia | omega)]
      split
      · rw [he _ (by first | lia | omega) (by first | lia | omega), he k (by first | lia | omega) (by first | lia | omega)]
      · rfl
    exact tail3_ok hcmp (hp'.rev _ _) h1 hm (fun i j hij hj => by rw [same, same]; exact hs' i j hij hj) hG
  · exact tail3_ok hcmp hp' h1 hm hs' hG
theorem count_ok {p : Array Nat} (hp : PermN N p) (h1 : 1 ≤ N) {G : Nat × Array Nat → Shared → Prop} (hG : ∀ m q, 1 ≤ m → m ≤ N → PermN N q → SrtK key q m → G (m, q) s) : (kas_count N p).kasWp cmp G s := by
  unfold kas_count
  rw [KasT.kasWp_bind]
  have hz := hp.size
  refine asc_ok hcmp hp (N - 1) 1 (Nat.le_refl _) (by first | lia | omega) (fun i j hij hj => by rw [show i = j by first | lia | omega]; exact Int.le_refl _) fun m a b c d => ?_
  split
  · exact hG m p a (by first | lia | omega) hp c
  · rename_i hne
    have hm : m < N := by
      have : m ≠ N := fun e => hne (by rw [e]; exact beq_self_eq_true _)
      first | lia | omega
    have hd := d (by first | lia | omega)
    split
    · show cmp _ _ _ s
      refine hcmp _ _ _ (hp.lt (by first | lia | omega)) (hp.lt (by first | lia | omega)) ?_
      by_cases h : key (p.getD 0 0) < key (p.getD (m - 1) 0)
      · rw [decide_eq_true h]
        simp only [if_true]
        exact hG m p a (by first | lia | omega) hp c
      · rw [decide_eq_false h]
        simp only [Bool.false_eq_true, if_false]
        have h' : KP key p (m - 1) ≤ KP key p 0 := by unfold KP; first | lia | omega
        have eqs : ∀ i, i < m → KP key p i = KP key p 0 := fun i hi => Int.le_antisymm (Int.le_trans (c i (m - 1) (by first | lia | omega) (by first | lia | omega)) h') (c 0 i (by first | lia | omega) hi)
        have same : ∀ k, KP key (kas_rev p 0 m) k = KP key p k := fun k => by
          rw [KP_rev (by first | lia | omega)]
          split
          · rw [eqs _ (by first | lia | omega), eqs k (by first | lia | omega)]
          · rfl
        refine descPart_ok hcmp (hp.rev 0 m) (by first | lia | omega) (nin_ext (fun i j hij hj => ?_) a ?_) hG
        · rw [same, same, eqs i (by first | lia | omega), eqs j (by first | lia | omega)]; exact Int.le_refl _
        · rw [same, same]; first | lia | omega
    · have em : m = 1 := by first | lia | omega
      subst em
      exact descPart_ok hcmp hp (by first | lia | omega) (nin_ext (fun i j hij hj => by rw [show i = j by first | lia | omega]; exact Int.le_refl _) (Nat.le_refl _) (by first | lia | omega)) hG
theorem place_ok {p : Array Nat} (hp : PermN N p) {k : Nat} (hk : k < N) (hs : SrtK key p k) {G : Nat → Shared → Prop} (hG : ∀ l, l ≤ k → (∀ i, i < l → KP key p i ≤ KP key p k) → (∀ i, l ≤ i → i < k → KP key p k < KP key p i) → G l s) :
    ∀ (f l r : Nat), r - l ≤ f → l ≤ r → r ≤ k → (∀ i, i < l → KP key p i ≤ KP key p k) → (∀ i, r ≤ i → i < k → KP key p k < KP key p i) → (kas_place p k f l r).kasWp cmp G s
  | 0, l, r, hf, hlr, hr, ha, hb => hG l (by first | lia | omega) ha fun i h1 h2 => hb i (by first | lia | omega) h2
  | f + 1, l, r, hf, hlr, hr, ha, hb => by
    unfold kas_place
    split
    · exact hG l (by first | lia | omega) ha fun i h1 h2 => hb i (by first | lia | omega) h2
    · show cmp _ _ _ s
      refine hcmp _ _ _ (hp.lt hk) (hp.lt (by first | lia | omega)) ?_
      by_cases h : key (p.getD k 0) < key (p.getD ((l + r) / 2) 0)
      · rw [decide_eq_true h]
        simp only [if_true]
        refine place_ok hp hk hs hG f l ((l + r) / 2) (by first | lia | omega) (by first | lia | omega) (by first | lia | omega) ha fun i h1 h2 => ?_
        exact Int.lt_of_lt_of_le h (hs _ i h1 h2)
      · rw [decide_eq_false h]
        simp only [Bool.false_eq_true, if_false]
        refine place_ok hp hk hs hG f ((l + r) / 2 + 1) r (by first | lia | omega) (by first | lia | omega) hr (fun i h1 => ?_) hb
        have h2 := hs i ((l + r) / 2) (by first | lia | omega) (by first | lia | omega)
        have h3 : KP key p ((l + r) / 2) ≤ KP key p k := by unfold KP; first | lia | omega
        first | lia | omega
theorem bin_ok {G : Array Nat → Shared → Prop} (hG : ∀ q, PermN N q → SrtK key q N → G q s) : ∀ (f : Nat) (p : Array Nat) (k : Nat), PermN N p → k + f = N → SrtK key p k → (kas_bin f p k).kasWp cmp G s
  | 0, p, k, hp, hk, hs => hG p hp (by rw [← hk]; exact hs)
  | f + 1, p, k, hp, hk, hs => by
    unfold kas_bin
    rw [KasT.kasWp_bind]
    have hz := hp.size
    refine place_ok hcmp hp (by first | lia | omega) hs (fun l hl ha hb => ?_) k 0 k (by first | lia | omega) (by first | lia | omega) (Nat.le_refl _) (fun i h => absurd h (by first | lia | omega)) fun i h1 h2 => absurd h1 (by first | lia | omega)
    refine bin_ok hG f _ (k + 1) (hp.bub _ _) (by first | lia | omega) fun i j hij hj => ?_
    rw [KP_bubble (by first | lia | omega) (by first | lia | omega), KP_bubble (by first | lia | omega) (by first | lia | omega), show k - (k - l) = l by first | lia | omega]
    by_cases i1 : i = l
    · rw [if_pos i1]
      by_cases j1 : j = l
      · rw [if_pos j1]; exact Int.le_refl _
      · rw [if_neg j1, if_pos (by first | lia | omega)]
        exact Int.le_of_lt (hb _ (by first | lia | omega) (by first | lia | omega))
    · rw [if_neg i1]
      by_cases i2 : l < i ∧ i ≤ k
      · rw [if_pos i2, if_neg (by first | lia | omega), if_pos (by first | lia | omega)]
        exact hs _ _ (by first | lia | omega) (by first | lia | omega)
      · rw [if_neg i2]
        by_cases j1 : j = l
        · rw [if_pos j1]; exact ha i (by first | lia | omega)
        · rw [if_neg j1]
          by_cases j2 : l < j ∧ j ≤ k
          · rw [if_pos j2]; exact hs _ _ (by first | lia | omega) (by first | lia | omega)
          · rw [if_neg j2]; exact hs _ _ hij (by first | lia | omega)
theorem kas_sort_ok (h1 : 1 ≤ N) {G : Array Nat → Shared → Prop} (hG : ∀ q : Array Nat, PermN N q → (q.toList.map key).Pairwise (· ≤ ·) → G q s) : (kas_sort N).kasWp cmp G s := by
  have p0 : PermN N (List.toArray (List.range N)) := by show List.Perm _ _; simp
  have hG' : ∀ q, PermN N q → SrtK key q N → G q s := fun q hq hs => hG q hq (by
    have hz := hq.size
    rw [List.pairwise_iff_getElem]
    intro i j hi hj hij
    have hi' : i < q.size := by simpa using hi
    have hj' : j < q.size := by simpa using hj
    have := hs i j (by first | lia | omega) (by first | lia | omega)
    unfold KP at this
    rw [show q.getD i 0 = q[i] by simp [Array.getD, hi'], show q.getD j 0 = q[j] by simp [Array.getD, hj']] at this
    simpa using this)
  unfold kas_sort
  rw [KasT.kasWp_bind]
  refine count_ok hcmp p0 h1 fun m q hm1 hm2 hq hs => ?_
  dsimp only
  split
  · exact bin_ok hcmp hG' _ q _ hq (by first | lia | omega) (by rw [show max m 1 = m by first | lia | omega]; exact hs)
  · exact hG' q hq (by rw [show N = m by first | lia | omega]; exact hs)
end
end L2
namespace L2
open PySem PySem.Spec PyProof.Rows PySem.W
section
variable {prog : Program} {w : World} {A : Around} {E : Value → Shared → Prop} {s : Shared}
/-- the heap while the list at a is sorted -/
def midHeap (h : Heap) (a : Addr) (vs : List Value) : Heap := ((h.update a (Obj.mapSeq fun _ => #[])).push (seqObj "tuple" vs.toArray 0)).push (seqObj "list" #[] 0)
theorem midHeap_keep {h : Heap} {a b : Addr} {vs : List Value} {o : Obj} (hb : b ≠ a) (e : h.get? b = some o) : (midHeap h a vs).get? b = some o := by
  unfold midHeap
  exact Heap.get?_push_of_some _ (Heap.get?_push_of_some _ (by rw [Heap.get?_update_ne _ _ _ _ hb]; exact e))
theorem pick_all (vs : List Value) : (List.range vs.length).map (fun i => vs.getD i Value.none) = vs := by
  apply List.ext_getElem?
  intro i
  rw [List.getElem?_map]
  by_cases h : i < vs.length
  · rw [List.getElem?_range h, Option.map_some, List.getD_eq_getElem?_getD, List.getElem?_eq_getElem h]; rfl
  · rw [List.getElem?_eq_none (by simpa using h), List.getElem?_eq_none (by first | lia | omega)]; rfl
theorem list_sort_treeT {a : Addr} {vs : List Value} {n : Nat} {P : PySem.Fin → Shared → Prop} {κ : SortKind} {key : Nat → Int} (ho : s.heap.get? a = some (seqObj "list" vs.toArray n)) (h64 : vs.length < 64)
    (hK : ∀ (Q : SortKind → Shared → Prop) (E : Value → Shared → Prop), 2 ≤ vs.length → Q κ { s with heap := midHeap s.heap a vs } → wpAny (model prog w) A (keyKind' vs.toArray) Q E { s with heap := midHeap s.heap a vs })
    (hL : ∀ i j (C : Bool → Shared → Prop), i < vs.length → j < vs.length → C (decide (key i < key j)) { s with heap := midHeap s.heap a vs } →
      wpAny (model prog w) A (keyLt' κ (vs.getD i Value.none) (vs.getD j Value.none)) C (fun _ _ => False) { s with heap := midHeap s.heap a vs })
    (h : ∀ q : Array Nat, PermN vs.length q → (q.toList.map key).Pairwise (· ≤ ·) → P (.done (.ret .none)) { s with heap := sortedHeap s.heap a vs (List.toArray (q.toList.map fun i => vs.getD i Value.none)) }) :
    wpAny (model prog w) A (Builtin.«list.sort» ⟨[.ref a], []⟩) P E s := by
  rw [list_sort_plain]
  have ha : a < s.heap.objs.size := Heap.lt_size ho
  refine wpAny_bind (listItems_at ho rfl ?_)
  refine wpAny_bind (listUpdate_at ho rfl ?_ (by rw [List.size_toArray, sizeLine_eq]; first | lia | omega) (Nat.zero_le _))
  obtain ⟨e1, ho1⟩ : ∃ e1, (s.heap.update a (Obj.mapSeq fun _ => #[])).get? a = some (seqObj "list" #[] e1) := ⟨_, get?_update_seq ho (fun _ => #[])⟩
  refine wpAny_bind (seqEpoch_at ho1 rfl ?_)
  refine wpAny_bind (wpAny_newTuple ?_ (by show vs.length ≤ _; rw [sizeLine_eq]; first | lia | omega))
  refine wpAny_bind (wpAny_newList ?_ (Nat.zero_le _))
  refine wpAny_holding ?_
  have ho6 : (midHeap s.heap a vs).get? a = some (seqObj "list" #[] e1) := by
    unfold midHeap
    rw [Heap.get?_push_ne _ _ _ (by rw [size_push', Heap.size_update]; exact Nat.ne_of_lt (Nat.lt_succ_of_lt ha)), Heap.get?_push_ne _ _ _ (by rw [Heap.size_update]; exact Nat.ne_of_lt ha)]
    exact ho1
  show wpAny (model prog w) A _ P E { s with heap := midHeap s.heap a vs }
  dsimp only
  have hsz : vs.toArray.size = vs.length := by simp
  by_cases h2 : vs.toArray.size < 2
  · rw [if_pos h2, if_pos h2]
    refine wpAny_bind (wpAny_pure ?_)
    rw [StateT.run_pure]
    refine wpAny_bind (wpAny_pure ?_)
    dsimp only
    refine wpAny_bind (seqEpoch_at ho6 rfl ?_)
    refine wpAny_bind (listUpdate_at ho6 rfl ?_ (Nat.zero_le _) (by rw [Array.size_map]; show (pairsOf vs).size ≤ _; rw [pairsOf_size, sizeLine_eq]; first | lia | omega))
    simp only [bne_self_eq_false, Bool.false_eq_true, if_false]
    have hh := h (List.toArray (List.range vs.length)) (by show List.Perm _ _; simp) (by
      rw [hsz] at h2
      rcases (by first | lia | omega : vs.length = 0 ∨ vs.length = 1) with e | e <;> rw [e] <;> simp [List.range_succ])
    have e3 : List.map (fun i => vs.getD i Value.none) (List.range vs.length).toArray.toList = vs := pick_all vs
    rw [e3] at hh
    have e2 : (arrOf (SortSt.mk' general' (vs.toArray.zip vs.toArray) #[] 7 none)).map (·.2) = vs.toArray := by
      show (vs.toArray.zip vs.toArray).map (·.2) = vs.toArray
      apply Array.ext'
      simp [List.map_snd_zip]
    refine wpAny_pure ?_
    rw [e2]
    exact hh
  · rw [if_neg h2, if_neg h2]
    have h2' : 2 ≤ vs.length := by first | lia | omega
    refine wpAny_bind (hK _ _ h2' ?_)
    refine wpAny_bind (wpAny_mono (kat_run (ks := vs) (vs := vs) (Q := fun st' s' => s' = { s with heap := midHeap s.heap a vs } ∧ ∃ p : Array Nat, p.size = vs.length ∧ arrOf st' = p.map (kas_item (vs.toArray.zip vs.toArray)) ∧ failedOf st' = none ∧ PermN vs.length p ∧ (p.toList.map key).Pairwise (· ≤ ·))
      (G := fun p s' => s' = { s with heap := midHeap s.heap a vs } ∧ PermN vs.length p ∧ (p.toList.map key).Pairwise (· ≤ ·)) rfl h2' h64 (fun p st' s' a1 a2 a3 a4 => ⟨a4.1, p, a1, a2, a3, a4.2⟩)
      (kas_sort_ok (fun i j C hi hj hC => hL i j C hi hj hC) (by first | lia | omega) fun q hq hp => ⟨rfl, hq, hp⟩)) ?_ fun _ _ e => e)
    rintro ⟨⟨⟩, st'⟩ s' ⟨rfl, p, hp, har, hf, pp, ps⟩
    dsimp only
    have hout := kat_snds rfl har
    have hsz2 : (List.toArray (p.toList.map fun i => vs.getD i Value.none)).size = vs.length := by rw [List.size_toArray, List.length_map, Array.length_toList, hp]
    rw [hout]
    refine wpAny_bind (seqEpoch_at ho6 rfl ?_)
    refine wpAny_bind (listUpdate_at ho6 rfl ?_ (Nat.zero_le _) (Nat.le_trans (Nat.le_of_eq hsz2) (by rw [sizeLine_eq]; first | lia | omega)))
    rw [hf]
    simp only [bne_self_eq_false, Bool.false_eq_true, if_false]
    exact wpAny_pure (h p pp ps)

theorem sortedT {l : Addr} {vs : List Value} {κ : SortKind} {key : Nat → Int} {Q : Value → Shared → Prop} (hl : s.heap.IsList l vs.toArray) (h64 : vs.length < 64)
    (hK : ∀ (h' : Heap), (∀ b o, s.heap.get? b = some o → h'.get? b = some o) → ∀ (A : Around) (Q : SortKind → Shared → Prop) (E : Value → Shared → Prop), 2 ≤ vs.length → Q κ { s with heap := h' } → wpAny (model prog w) A (keyKind' vs.toArray) Q E { s with heap := h' })
    (hL : ∀ (h' : Heap), (∀ b o, s.heap.get? b = some o → h'.get? b = some o) → ∀ (A : Around) i j (C : Bool → Shared → Prop), i < vs.length → j < vs.length → C (decide (key i < key j)) { s with heap := h' } →
      wpAny (model prog w) A (keyLt' κ (vs.getD i Value.none) (vs.getD j Value.none)) C (fun _ _ => False) { s with heap := h' })
    (h : ∀ q : Array Nat, PermN vs.length q → (q.toList.map key).Pairwise (· ≤ ·) → Q (.ref (s.heap.objs.size + 1)) { s with heap := sortedAll s.heap vs (List.toArray (q.toList.map fun i => vs.getD i Value.none)) }) :
    wpAny (model prog w) A (call (.builtin "sorted") [.ref l]) Q E s := by
  refine Calls.call_function_entry kind_sorted plain_sorted entry_sorted (args_sorted1 _) ?_
  unfold Builtin.«sorted»
  refine wpAny_bind (m := checkCount "sorted" 1 1 _) (wpAny_pure ?_)
  refine wpAny_bind (collect_list hl ?_ (by rw [sizeLine_eq]; first | lia | omega))
  refine wpAny_bind (wpAny_newList ?_ (by rw [sizeLine_eq]; first | lia | omega))
  have hsz : ((s.heap.push (seqObj "list" #[] 0)).update s.heap.objs.size (Obj.mapSeq (· ++ vs.toArray))).objs.size = s.heap.objs.size + 1 := by
    rw [Heap.size_update, size_push']
  have hoL : (((s.heap.push (seqObj "list" #[] 0)).update s.heap.objs.size (Obj.mapSeq (· ++ vs.toArray))).push (seqObj "list" vs.toArray 0)).get? (s.heap.objs.size + 1) = some (seqObj "list" vs.toArray 0) := by
    rw [← hsz]; exact Heap.get?_push_size _ rfl
  have keep : ∀ b o, s.heap.get? b = some o → (((s.heap.push (seqObj "list" #[] 0)).update s.heap.objs.size (Obj.mapSeq (· ++ vs.toArray))).push (seqObj "list" vs.toArray 0)).get? b = some o := fun b o q => by
    have hlt : b < s.heap.objs.size := Heap.lt_size q
    rw [Heap.get?_push_ne _ _ _ (by rw [hsz]; exact Nat.ne_of_lt (Nat.lt_succ_of_lt hlt)), Heap.get?_update_ne _ _ _ _ (Nat.ne_of_lt hlt), Heap.get?_push_ne _ _ _ (Nat.ne_of_lt hlt)]
    exact q
  show wpAny _ _ _ _ _ { s with heap := ((s.heap.push (seqObj "list" #[] 0)).update s.heap.objs.size (Obj.mapSeq (· ++ vs.toArray))).push (seqObj "list" vs.toArray 0) }
  rw [hsz]
  have mid : ∀ b o, s.heap.get? b = some o → (midHeap (((s.heap.push (seqObj "list" #[] 0)).update s.heap.objs.size (Obj.mapSeq (· ++ vs.toArray))).push (seqObj "list" vs.toArray 0)) (s.heap.objs.size + 1) vs).get? b = some o := fun b o q =>
    midHeap_keep (Nat.ne_of_lt (Nat.lt_succ_of_lt (Heap.lt_size q))) (keep b o q)
  refine wpAny_bind (wpAny_holding (wpAny_call_entry slot_list_sort ⟨_, hoL, rfl⟩ entry_list_sort (list_sort_treeT (κ := κ) (key := key) (s := { s with heap := ((s.heap.push (seqObj "list" #[] 0)).update s.heap.objs.size (Obj.mapSeq (· ++ vs.toArray))).push (seqObj "list" vs.toArray 0) }) hoL h64 (fun Q E h2 hq => hK _ mid _ Q E h2 hq) (fun i j C hi hj hc => hL _ mid _ i j C hi hj hc) fun q a1 a2 => ⟨_, rfl, ?_⟩) (args_list_sort _)))
  exact wpAny_pure ⟨_, rfl, h q a1 a2⟩
/-- a lexicographic question about tuples of ints of one length -/
theorem katLex_ints {fin : Bool} {Q : Bool → Shared → Prop} (hf : fin = false) : ∀ {vs ws : List Value} {ns ms : List Int} (i : Nat), IntsAre vs ns → IntsAre ws ms → ns.length = ms.length → Q (HT.lexLt ns ms) s → KatLex prog w A true fin Q (vs.zip ws) i s
  | _, _, _, _, i, .nil, .nil, _, hq => by rw [HT.lexLt_nil_nil] at hq; rw [hf]; exact hq
  | _, _, _, _, i, .cons n t hn, .cons m u hm, hl, hq => by
    rw [List.zip_cons_cons]
    rw [HT.lexLt_cons] at hq
    refine kat_cons (wpAny_eqBool_int (kat_go (fun e => kat_yes ?_) fun e => kat_no ?_))
    · have e' : n = m := by simpa using e
      rw [if_pos e'] at hq
      exact katLex_ints hf (i + 1) hn hm (by simpa using hl) hq
    · have e' : ¬ n = m := by simpa using e
      rw [if_neg e'] at hq
      by_cases hi : i = 0
      · subst hi
        exact oneLt_int hq
      · have hb : (true && i == 0) = false := by simp [hi]
        rw [hb]
        exact kat_one _ _ (lt_int hq)
end
section
variable {X : Cx}
theorem refs_vals : ∀ {ts : List Addr} {its : List Value}, Vals (ts.map V.ref) its → its = ts.map Value.ref
  | [], _, .nil => rfl
  | a :: r, _, .cons h t => by
    cases (show _ = Value.ref a from h)
    rw [List.map_cons, refs_vals t]
theorem refs_vals' : ∀ (ts : List Addr), Vals (ts.map V.ref) (ts.map Value.ref)
  | [] => .nil
  | a :: r => .cons rfl (refs_vals' r)
theorem katTups_of {h : Heap} {m : Nat} : ∀ {ts : List (Addr × List Int)}, (∀ t ∈ ts, t.2.length = m + 1 ∧ ∃ items, IsTup h t.1 items ∧ IntsAre items.toList t.2) → ∃ fs, KatTups h (ts.map fun t => Value.ref t.1) fs ∧ fs.length = ts.length ∧ ∀ v ∈ fs, ∃ n tk, v = Value.int n tk
  | [], _ => ⟨[], KatTups.nil, rfl, fun v hv => nomatch hv⟩
  | t :: r, hh => by
    obtain ⟨fs, h1, h2, h3⟩ := katTups_of (ts := r) fun u hu => hh u (List.mem_cons_of_mem _ hu)
    obtain ⟨hl, items, ⟨o, ho, hc, n, hd⟩, hi⟩ := hh t List.mem_cons_self
    obtain ⟨x, tk, z, e⟩ : ∃ (n : Int) (tk : Tok) (zs : List Value), items.toList = Value.int n tk :: zs := by
      generalize items.toList = vs at hi
      generalize t.2 = ns at hi hl
      cases hi with
      | nil => simp at hl
      | cons n tk hz => exact ⟨n, tk, _, rfl⟩
    have hf : items[0]? = some (Value.int x tk) := by
      rw [← Array.getElem?_toList, e]; rfl
    exact ⟨_, KatTups.cons ho hc hd hf h1, by simp [h2], fun v hv => by
      rcases List.mem_cons.mp hv with rfl | hv
      · exact ⟨x, tk, rfl⟩
      · exact h3 v hv⟩
/-- sorted(xs), xs fewer than 64 tuples of ints of one length; key tells their order -/
theorem call_sortedT : CallR X (.builtin "sorted") (fun xs H Q => ∃ (p : Addr) (ts : List (Addr × List Int)) (m : Nat) (key : List Int → Int), xs = [.ref p] ∧ SqL X.K H p (ts.map fun t => V.ref t.1) ∧ ts.length < 64 ∧
    (∀ t ∈ ts, t.2.length = m + 1 ∧ H t.1 = some (.tup (t.2.map V.int))) ∧ (∀ t ∈ ts, ∀ u ∈ ts, HT.lexLt t.2 u.2 = decide (key t.2 < key u.2)) ∧
    ∀ l (ts' : List (Addr × List Int)), H l = none → ts'.Perm ts → (ts'.map fun t => key t.2).Pairwise (· ≤ ·) → Q (.ref l) (upd H l (.lst (ts'.map fun t => V.ref t.1)))) := by
  intro pins s σ H xs us Q I r h
  obtain ⟨p, ts, m, key, rfl, hp, h64, ht, hkey, q⟩ := h
  obtain ⟨u, rfl, ru⟩ := vals1 r
  cases ru
  obtain ⟨its, rv, pl, hz⟩ := I.list hp
  have hits : its = ts.map fun t => Value.ref t.1 := by
    have := refs_vals (ts := ts.map (·.1)) (its := its) (by rw [List.map_map]; exact rv)
    rw [this, List.map_map]; rfl
  have hlen : its.length = ts.length := by rw [hits, List.length_map]
  have tup : ∀ t ∈ ts, t.2.length = m + 1 ∧ ∃ items, IsTup s.heap t.1 items ∧ IntsAre items.toList t.2 := fun t htm => by
    obtain ⟨h1, h2⟩ := ht t htm
    obtain ⟨_, zs, rz, tz⟩ := (show ObjOk X.prog X.w H s.heap t.1 (.tup (t.2.map V.int)) from I.hok _ _ h2)
    exact ⟨h1, _, tz, by simpa using intsAre_of rz⟩
  have tupK : ∀ (h' : Heap), (∀ b o, s.heap.get? b = some o → h'.get? b = some o) → ∀ t ∈ ts, t.2.length = m + 1 ∧ ∃ items, IsTup h' t.1 items ∧ IntsAre items.toList t.2 := fun h' k t htm => by
    obtain ⟨h1, items, ⟨o, e, c⟩, h3⟩ := tup t htm
    exact ⟨h1, items, ⟨o, k _ _ e, c⟩, h3⟩
  refine sortedT (κ := tuples' true) (key := fun i => key ((ts.map (·.2)).getD i [])) pl.isList (by first | lia | omega) (fun h' k A' Q' E' h2 hq => ?_) (fun h' k A' i j C hi hj hc => ?_) fun qq pq sq => ?_
  · obtain ⟨fs, f1, f2, f3⟩ := katTups_of (tupK h' k)
    rw [hits]
    refine kat_kind (s := { s with heap := h' }) (T := Value.type "int") f1 (by first | lia | omega) (fun v hv => ?_) (by decide) hq
    obtain ⟨n, tk, rfl⟩ := f3 v hv
    exact .now
  · have hi' : i < ts.length := by first | lia | omega
    have hj' : j < ts.length := by first | lia | omega
    obtain ⟨l1, x1, ⟨o1, e1, c1, n1, d1⟩, z1⟩ := tupK h' k _ (List.getElem_mem hi')
    obtain ⟨l2, x2, ⟨o2, e2, c2, n2, d2⟩, z2⟩ := tupK h' k _ (List.getElem_mem hj')
    have g1 : its.getD i Value.none = Value.ref ts[i].1 := by rw [hits]; simp [List.getD, hi']
    have g2 : its.getD j Value.none = Value.ref ts[j].1 := by rw [hits]; simp [List.getD, hj']
    have k1 : (ts.map (·.2)).getD i [] = ts[i].2 := by simp [List.getD, hi']
    have k2 : (ts.map (·.2)).getD j [] = ts[j].2 := by simp [List.getD, hj']
    simp only [k1, k2] at hc
    rw [← hkey _ (List.getElem_mem hi') _ (List.getElem_mem hj')] at hc
    rw [g1, g2]
    have s1 := z1.length
    have s2 := z2.length
    exact kat_lt (s := { s with heap := h' }) e1 d1 e2 d2 (katLex_ints (by rw [decide_eq_false]; simp at s1 s2; first | lia | omega) 0 z1 z2 (by first | lia | omega) hc)
  · obtain ⟨e, he⟩ := sortedAll_at s.heap its (List.toArray (qq.toList.map fun i => its.getD i Value.none))
    have hn : H (s.heap.objs.size + 1) = none := I.hok.fresh (Nat.le_succ _)
    have pq' : qq.toList.Perm (List.range ts.length) := by rw [← hlen]; exact pq
    have pick : ts.Perm (qq.toList.map fun i => ts.getD i (0, [])) := by
      have := (pq'.map fun i => ts.getD i ((0 : Addr), ([] : List Int))).symm
      have e2 : (List.range ts.length).map (fun i => ts.getD i ((0 : Addr), ([] : List Int))) = ts := by
        apply List.ext_getElem?
        intro i
        rw [List.getElem?_map]
        by_cases h : i < ts.length
        · rw [List.getElem?_range h, Option.map_some, List.getD_eq_getElem?_getD, List.getElem?_eq_getElem h]; rfl
        · rw [List.getElem?_eq_none (by simpa using h), List.getElem?_eq_none (by first | lia | omega)]; rfl
      rw [e2] at this
      exact this
    have inR : ∀ i ∈ qq.toList, i < ts.length := fun i hi => List.mem_range.mp (pq'.mem_iff.mp hi)
    have eV : qq.toList.map (fun i => its.getD i Value.none) = (qq.toList.map fun i => ts.getD i (0, [])).map fun t => Value.ref t.1 := by
      rw [List.map_map]
      refine List.map_congr_left fun i hi => ?_
      have := inR i hi
      rw [hits]; simp [List.getD, this]
    refine ⟨.ref (s.heap.objs.size + 1), _, I.laid (o := .lst ((qq.toList.map fun i => ts.getD i (0, [])).map fun t => V.ref t.1)) (t' := s.toks) (fun b o z => sortedAll_old z) (Nat.le_succ _) ⟨?_, _, e, ?_, he⟩, rfl, q _ _ hn pick.symm ?_⟩
    · rw [List.length_map, List.length_map, Array.length_toList, pq.size, sizeLine_eq]; first | lia | omega
    · rw [eV]
      generalize (qq.toList.map fun i => ts.getD i ((0 : Addr), ([] : List Int))) = zs
      have := refs_vals' (zs.map (·.1))
      rw [List.map_map, List.map_map] at this
      exact this
    · rw [List.map_map]
      have e4 : qq.toList.map ((fun t : Addr × List Int => key t.2) ∘ fun i => ts.getD i (0, [])) = qq.toList.map fun i => key ((ts.map (·.2)).getD i []) := by
        refine List.map_congr_left fun i hi => ?_
        have := inR i hi
        simp [List.getD, this]
      rw [e4]
      exact sq
end
end L2
namespace L2
open PySem PySem.Spec PyProof.Rows

section
variable {κ : Type} [DecidableEq κ]
def valV (kvs : List (κ × V)) (k : κ) : Option V := (kvs.find? fun kv => decide (kv.1 = k)).map (·.2)
/-- in its place, or at the end -/
def putK (kvs : List (κ × V)) (k : κ) (v : V) : List (κ × V) :=
  if (kvs.any fun kv => decide (kv.1 = k)) = true then kvs.map (fun kv => if kv.1 = k then (kv.1, v) else kv) else kvs ++ [(k, v)]
theorem valV_pos {p : κ × V} {r : List (κ × V)} {k : κ} (e : p.1 = k) : valV (p :: r) k = some p.2 := by simp [valV, List.find?_cons, e]
theorem valV_neg {p : κ × V} {r : List (κ × V)} {k : κ} (e : ¬ p.1 = k) : valV (p :: r) k = valV r k := by simp [valV, List.find?_cons, e]
theorem valV_any (k : κ) : ∀ kvs : List (κ × V), (kvs.any fun kv => decide (kv.1 = k)) = (valV kvs k).isSome
  | [] => rfl
  | p :: r => by
    rw [List.any_cons]
    by_cases e : p.1 = k
    · simp only [valV_pos e, decide_eq_true e, Bool.true_or, Option.isSome_some]
    · rw [valV_neg e, decide_eq_false e, Bool.false_or]; exact valV_any k r
theorem valV_map (k j : κ) (y : V) : ∀ kvs : List (κ × V), valV (kvs.map fun kv => if kv.1 = k then (kv.1, y) else kv) j = (valV kvs j).map fun x => if j = k then y else x
  | [] => rfl
  | p :: r => by
    have ih := valV_map k j y r
    rw [List.map_cons]
    by_cases h : p.1 = k
    · rw [if_pos h]
      by_cases e : p.1 = j
      · rw [valV_pos (p := (p.1, y)) e, valV_pos e, Option.map_some, if_pos (e.symm.trans h)]
      · rw [valV_neg (p := (p.1, y)) e, valV_neg e, ih]
    · rw [if_neg h]
      by_cases e : p.1 = j
      · rw [valV_pos (p := p) e, valV_pos e, Option.map_some, if_neg (fun z => h (e.trans z))]
      · rw [valV_neg (p := p) e, valV_neg e, ih]
theorem valV_snoc (k j : κ) (y : V) : ∀ kvs : List (κ × V), valV kvs k = none → valV (kvs ++ [(k, y)]) j = if j = k then some y else valV kvs j
  | [], _ => by
    by_cases e : k = j
    · rw [if_pos e.symm]; exact valV_pos (p := (k, y)) e
    · rw [if_neg (fun z => e z.symm)]; exact valV_neg (p := (k, y)) e
  | p :: r, hn => by
    rw [List.cons_append]
    have hk : ¬ p.1 = k := fun z => by rw [valV_pos z] at hn; cases hn
    rw [valV_neg hk] at hn
    have ih := valV_snoc k j y r hn
    by_cases e : p.1 = j
    · rw [valV_pos e, valV_pos e, if_neg (fun z => hk (e.trans z))]
    · rw [valV_neg e, valV_neg e, ih]
theorem valV_put (kvs : List (κ × V)) (k j : κ) (y : V) : valV (putK kvs k y) j = if j = k then some y else valV kvs j := by
  unfold putK
  by_cases a : (kvs.any fun kv => decide (kv.1 = k)) = true
  · rw [if_pos a, valV_map]
    rw [valV_any] at a
    by_cases e : j = k
    · obtain ⟨x, hx⟩ := Option.isSome_iff_exists.mp a
      rw [if_pos e, e, hx, Option.map_some, if_pos rfl]
    · rw [if_neg e]
      cases valV kvs j with
      | none => rfl
      | some x => rw [Option.map_some, if_neg e]
  · rw [if_neg a]
    refine valV_snoc k j y kvs ?_
    rw [valV_any] at a
    cases q : valV kvs k with
    | none => rfl
    | some x => rw [q] at a; exact (a rfl).elim
theorem length_putK (kvs : List (κ × V)) (k : κ) (v : V) : (putK kvs k v).length ≤ kvs.length + 1 := by
  unfold putK
  split
  · rw [List.length_map]; first | lia | omega
  · rw [List.length_append, List.length_cons, List.length_nil]; first | lia | omega
theorem putK_new {kvs : List (κ × V)} {k : κ} (v : V) (h : valV kvs k = none) : putK kvs k v = kvs ++ [(k, v)] := by
  unfold putK
  rw [valV_any, h]
  exact if_neg (by decide)

theorem RelO.isSome_eq {o : Option V} {u : Option Value} (r : RelO o u) : o.isSome = u.isSome := by
  cases o with
  | none => cases u with
    | none => rfl
    | some _ => exact (show False from r).elim
  | some _ => cases u with
    | none => exact (show False from r).elim
    | some _ => rfl
/-- raw tables of the same keys -/
theorem KV.val {kvs : List (κ × V)} {vs : List (κ × Value)} (r : KV kvs vs) (k : κ) : RelO (valV kvs k) (valueAt vs k) := by
  unfold KV at r
  induction r with
  | nil => exact True.intro
  | @cons p q ps qs h t ih =>
    obtain ⟨h1, h2⟩ := h
    by_cases e : p.1 = k
    · have e' : q.1 = k := h1.symm.trans e
      have b : valueAt (q :: qs) k = some q.2 := by simp [valueAt, List.find?_cons, e']
      rw [valV_pos e, b]; exact h2
    · have e' : ¬ q.1 = k := fun z => e (h1.trans z)
      have b : valueAt (q :: qs) k = valueAt qs k := by simp [valueAt, List.find?_cons, e']
      rw [valV_neg e, b]; exact ih
theorem KV.any {kvs : List (κ × V)} {vs : List (κ × Value)} (r : KV kvs vs) (k : κ) : (kvs.any fun kv => decide (kv.1 = k)) = vs.any fun kv => decide (kv.1 = k) := by
  unfold KV at r
  induction r with
  | nil => rfl
  | cons h t ih => rw [List.any_cons, List.any_cons, ih, h.1]
theorem KV.repl {kvs : List (κ × V)} {vs : List (κ × Value)} (r : KV kvs vs) (k : κ) {y : V} {u : Value} (ry : RelV y u) :
    KV (kvs.map fun kv => if kv.1 = k then (kv.1, y) else kv) (vs.map fun kv => if kv.1 = k then (kv.1, u) else kv) := by
  unfold KV at r ⊢
  induction r with
  | nil => exact .nil
  | @cons p q ps qs h t ih =>
    rw [List.map_cons, List.map_cons]
    refine .cons ?_ ih
    obtain ⟨h1, h2⟩ := h
    by_cases e : p.1 = k
    · rw [if_pos e, if_pos (h1.symm.trans e)]; exact ⟨h1, ry⟩
    · rw [if_neg e, if_neg (fun z => e (h1.trans z))]; exact ⟨h1, h2⟩
theorem KV.put {kvs : List (κ × V)} {vs : List (κ × Value)} (r : KV kvs vs) (k : κ) {y : V} {u : Value} (ry : RelV y u) : KV (putK kvs k y) (stored vs k u) := by
  unfold putK stored
  rw [r.any k]
  by_cases e : (vs.any fun kv => decide (kv.1 = k)) = true
  · rw [if_pos e, if_pos e]; exact r.repl k ry
  · rw [if_neg e, if_neg e]; exact Paired.snoc r ⟨rfl, ry⟩
theorem KV.length {kvs : List (κ × V)} {vs : List (κ × Value)} (r : KV kvs vs) : kvs.length = vs.length := Paired.length r
end


theorem kV_is {P : Program} {w : World} {k : Key} {u : Value} (r : RelV (kV k) u) : (mixKind P w).is k u = true := by
  cases k with
  | inl i => obtain ⟨t, e⟩ := (show ∃ t, u = Value.int i t from r); subst e; exact mixKind_int P w i t
  | inr x => obtain ⟨t, e⟩ := (show ∃ t, u = Value.str x t from r); subst e; exact mixKind_str P w x t
theorem items_are {P : Program} {w : World} : ∀ {ks : List Key} {us : List Value}, Vals (ks.map kV) us → ItemsAre (mixKind P w) ks us
  | [], _, r => by rw [List.map_nil] at r; cases r; exact .nil
  | k :: ks, _, r => by
    rw [List.map_cons] at r
    cases r with
    | cons h t => exact .cons (kV_is h) (items_are t)

/-- raw entries of a dict with tuple keys -/
abbrev KT (H : Hp) : List (List Key × V) → List (List Key × Addr × Value) → Prop := Paired fun p q => p.1 = q.1 ∧ H q.2.1 = some (.tup (p.1.map kV)) ∧ RelV p.2 q.2.2
theorem KT.val {H : Hp} {kvs : List (List Key × V)} {xs : List (List Key × Addr × Value)} (r : KT H kvs xs) (k : List Key) : RelO (valV kvs k) ((atKey xs k).map (·.2)) := by
  induction r with
  | nil => exact True.intro
  | @cons p q ps qs h t ih =>
    obtain ⟨h1, _, h2⟩ := h
    by_cases e : p.1 = k
    · have e' : q.1 = k := h1.symm.trans e
      have b : atKey (q :: qs) k = some q.2 := by simp [atKey, List.find?_cons, e']
      rw [valV_pos e, b]; exact h2
    · have e' : ¬ q.1 = k := fun z => e (h1.trans z)
      have b : atKey (q :: qs) k = atKey qs k := by simp [atKey, List.find?_cons, e']
      rw [valV_neg e, b]; exact ih
theorem KT.repl {H : Hp} {kvs : List (List Key × V)} {xs : List (List Key × Addr × Value)} (r : KT H kvs xs) (k : List Key) {y : V} {u : Value} (ry : RelV y u) :
    KT H (kvs.map fun kv => if kv.1 = k then (kv.1, y) else kv) (xs.map (putAt k u)) := by
  induction r with
  | nil => exact .nil
  | @cons p q ps qs h t ih =>
    rw [List.map_cons, List.map_cons]
    refine .cons ?_ ih
    obtain ⟨h1, h2, h3⟩ := h
    unfold putAt
    by_cases e : p.1 = k
    · rw [if_pos e, if_pos (h1.symm.trans e)]; exact ⟨h1, h2, ry⟩
    · rw [if_neg e, if_neg (fun z => e (h1.trans z))]; exact ⟨h1, h2, h3⟩
theorem KT.put {H : Hp} {kvs : List (List Key × V)} {xs : List (List Key × Addr × Value)} (r : KT H kvs xs) (k : List Key) {b : Addr} {y : V} {u : Value} (hb : H b = some (.tup (k.map kV))) (ry : RelV y u) :
    KT H (putK kvs k y) (storedH xs k b u) := by
  have e : (kvs.any fun kv => decide (kv.1 = k)) = (atKey xs k).isSome := by
    rw [valV_any, (r.val k).isSome_eq, Option.isSome_map]
  unfold putK storedH
  rw [e]
  by_cases q : (atKey xs k).isSome = true
  · rw [if_pos q, if_pos q]; exact r.repl k ry
  · rw [if_neg q, if_neg q]; exact Paired.snoc r ⟨rfl, hb, ry⟩
theorem KT.keeps {H H' : Hp} {kvs : List (List Key × V)} {xs : List (List Key × Addr × Value)} (r : KT H kvs xs) (ht : ∀ b ys, H b = some (.tup ys) → H' b = some (.tup ys)) : KT H' kvs xs :=
  Paired.mapP r fun _ _ z => ⟨z.1, ht _ _ z.2.1, z.2.2⟩

section
variable {P : Program} {w : World} {H : Hp} {h : Heap} {a : Addr}
theorem rd_of {u : HO} (ok : HOk P w H h) (e : Rd H a u) : ObjOk P w H h a u := e.ok ok
theorem dk_rd {kvs : List (Key × V)} (ok : HOk P w H h) (e : Rd H a (.dK kvs)) : kvs.length ≤ sizeLine ∧ (a == sysModules) = false ∧ ∃ vs, KV kvs vs ∧ h.DictOf (mixKind P w) a vs :=
  show ObjOk P w H h a (.dK kvs) from rd_of ok e
theorem dk_of {kvs : List (Key × V)} (ok : HOk P w H h) (e : H a = some (.dK kvs)) : kvs.length ≤ sizeLine ∧ (a == sysModules) = false ∧ ∃ vs, KV kvs vs ∧ h.DictOf (mixKind P w) a vs := dk_rd ok (.inl e)
/-- a tracked tuple of ints and texts is a key -/
theorem key_of {ks : List Key} (ok : HOk P w H h) (e : H a = some (.tup (ks.map kV))) : (tupleKind (mixKind P w)).is h ks a := by
  obtain ⟨_, its, r, o, h1, h2, n, h3⟩ := (show ObjOk P w H h a (.tup (ks.map kV)) from ok a _ e)
  exact ⟨o, its.toArray, n, h1, h2, h3, by simpa using items_are r⟩
theorem dt_rd {kvs : List (List Key × V)} (ok : HOk P w H h) (e : Rd H a (.dT kvs)) : kvs.length ≤ sizeLine ∧ (a == sysModules) = false ∧
    ∃ xs, KT H kvs xs ∧ h.DictOfH (tupleKind (mixKind P w)) a xs := by
  obtain ⟨z, y, xs, r, o, es, ep, h1, h2, h3, h4, h5⟩ := (show ObjOk P w H h a (.dT kvs) from rd_of ok e)
  refine ⟨z, y, xs, r, o, es, ep, h1, h2, h3, h4, fun x hx => ?_, h5⟩
  have all : ∀ {l : List (List Key × V)} {m : List (List Key × Addr × Value)}, KT H l m → ∀ x ∈ m, (tupleKind (mixKind P w)).is h x.1 x.2.1 := by
    intro l m q
    induction q with
    | nil => intro x hx; exact nomatch hx
    | @cons p q ps qs hq t ih =>
      intro x hx
      rcases List.mem_cons.mp hx with e | hx
      · subst e
        exact key_of ok (by rw [← hq.1]; exact hq.2.1)
      · exact ih x hx
  exact all r x hx
theorem dt_of {kvs : List (List Key × V)} (ok : HOk P w H h) (e : H a = some (.dT kvs)) : kvs.length ≤ sizeLine ∧ (a == sysModules) = false ∧
    ∃ xs, KT H kvs xs ∧ h.DictOfH (tupleKind (mixKind P w)) a xs := dt_rd ok (.inl e)
end

/-- what the dict at a holds at the key y -/
def DGet (H : Hp) (a : Addr) (y : V) (r : Option V) : Prop :=
  (∃ kvs k, Rd H a (.dK kvs) ∧ y = kV k ∧ r = valV kvs k) ∨ ∃ kvs k b, Rd H a (.dT kvs) ∧ y = .ref b ∧ H b = some (.tup (k.map kV)) ∧ r = valV kvs k
/-- the heap behind a[y] = v -/
def DPut (H : Hp) (a : Addr) (y v : V) (H' : Hp) : Prop :=
  (∃ kvs k, H a = some (.dK kvs) ∧ y = kV k ∧ kvs.length < sizeLine ∧ H' = upd H a (.dK (putK kvs k v))) ∨
  ∃ kvs k b, H a = some (.dT kvs) ∧ y = .ref b ∧ H b = some (.tup (k.map kV)) ∧ kvs.length < sizeLine ∧ H' = upd H a (.dT (putK kvs k v))
theorem DGet.t {H : Hp} {a b : Addr} {kvs : List (List Key × V)} {k : List Key} (e : H a = some (.dT kvs)) (eb : H b = some (.tup (k.map kV))) : DGet H a (.ref b) (valV kvs k) := .inr ⟨kvs, k, b, .inl e, rfl, eb, rfl⟩
theorem DPut.t {H : Hp} {a b : Addr} {kvs : List (List Key × V)} {k : List Key} {v : V} (e : H a = some (.dT kvs)) (eb : H b = some (.tup (k.map kV))) (hl : kvs.length < sizeLine) :
    DPut H a (.ref b) v (upd H a (.dT (putK kvs k v))) := .inr ⟨kvs, k, b, e, rfl, eb, hl, rfl⟩


section
variable {X : Cx} {pins : List (Addr × Obj)} {σ : St} {H : Hp} {s : Shared} {a : Addr} {y v : V} {u r : Value} {o : Option V} {A : Around} {E : Value → Shared → Prop}

theorem Inv.big (I : Inv X pins σ H s) : sysModules < s.heap.objs.size := by
  have h : mainGlobals < s.heap.objs.size := (I.mod.glob.keeps I.bk).lt
  exact Nat.lt_trans (by decide) h

/-- d[y], there -/
theorem d_getItem {Q : Value → Shared → Prop} (hu : A.units + 1 < cLine) (I : Inv X pins σ H s) (g : DGet H a y (some v)) (ry : RelV y u) (h : ∀ w' s', Inv X pins σ H s' → RelV v w' → Q w' s') :
    wpAny (model X.prog X.w) A (getItem (.ref a) u) Q E s := by
  rcases g with ⟨kvs, k, e, ey, l⟩ | ⟨kvs, k, b, e, ey, eb, l⟩
  · subst ey
    obtain ⟨z, hd, vs, rel, dd⟩ := dk_rd I.hok e
    obtain ⟨w', hw, rw'⟩ := RelO.some_of (v := v) (o := valueAt vs k) (by rw [l]; exact rel.val k)
    exact wpAny_getItem_of (kV_is ry) dd.mapOf hw (h w' _ (I.tok _) rw')
  · subst ey
    cases (show u = Value.ref b from ry)
    obtain ⟨z, hd, xs, rel, dd⟩ := dt_rd I.hok e
    obtain ⟨w', hw, rw'⟩ := RelO.some_of (v := v) (o := (atKey xs k).map (·.2)) (by rw [l]; exact rel.val k)
    obtain ⟨p, hp, hp2⟩ := Option.map_eq_some_iff.mp hw
    refine wpAny_getItem_heap (tupleKind_room_in1 hu) (key_of I.hok eb) dd hp ?_
    rw [hp2]
    exact h w' _ (I.tok _) rw'
/-- y in d -/
theorem d_in {Q : Value → Shared → Prop} (hu : A.units + 1 < cLine) (I : Inv X pins σ H s) (g : DGet H a y o) (ry : RelV y u) (h : ∀ s', Inv X pins σ H s' → Q (.bool o.isSome) s') :
    wpAny (model X.prog X.w) A (compareOp .In u (.ref a)) Q E s := by
  rcases g with ⟨kvs, k, e, ey, l⟩ | ⟨kvs, k, b, e, ey, eb, l⟩
  · subst ey
    obtain ⟨z, hd, vs, rel, dd⟩ := dk_rd I.hok e
    refine wpAny_in_of (kV_is ry) hd dd.mapOf ?_
    rw [← (rel.val k).isSome_eq, ← l]
    exact h _ (I.tok _)
  · subst ey
    cases (show u = Value.ref b from ry)
    obtain ⟨z, hd, xs, rel, dd⟩ := dt_rd I.hok e
    refine wpAny_in_heap (tupleKind_room_in1 hu) (key_of I.hok eb) hd dd ?_
    have q := (rel.val k).isSome_eq
    rw [Option.isSome_map] at q
    rw [← q, ← l]
    exact h _ (I.tok _)
theorem d_notIn {Q : Value → Shared → Prop} (hu : A.units + 1 < cLine) (I : Inv X pins σ H s) (g : DGet H a y o) (ry : RelV y u) (h : ∀ s', Inv X pins σ H s' → Q (.bool (!o.isSome)) s') :
    wpAny (model X.prog X.w) A (compareOp .NotIn u (.ref a)) Q E s := by
  rcases g with ⟨kvs, k, e, ey, l⟩ | ⟨kvs, k, b, e, ey, eb, l⟩
  · subst ey
    obtain ⟨z, hd, vs, rel, dd⟩ := dk_rd I.hok e
    refine wpAny_notIn_of (kV_is ry) hd dd.mapOf ?_
    rw [← (rel.val k).isSome_eq, ← l]
    exact h _ (I.tok _)
  · subst ey
    cases (show u = Value.ref b from ry)
    obtain ⟨z, hd, xs, rel, dd⟩ := dt_rd I.hok e
    refine wpAny_notIn_heap (tupleKind_room_in1 hu) (key_of I.hok eb) hd dd ?_
    have q := (rel.val k).isSome_eq
    rw [Option.isSome_map] at q
    rw [← q, ← l]
    exact h _ (I.tok _)
/-- a dict's object is replaced -/
theorem d_write {h' : Heap} {t' : Nat} {ob : HO} (I : Inv X pins σ H s) (mu : Mut (H a)) (hs : Heap.SameBut a s.heap h') (he : ∃ q, h'.get? a = some q) (new : ObjOk X.prog X.w (upd H a ob) h' a ob) :
    Inv X pins σ (upd H a ob) { s with heap := h', toks := t' } :=
  I.write (x := a) (e := a) mu (.inl rfl) (fun b q hb z => (hs.2 b hb).trans z) he new
theorem dk_new {P : Program} {w : World} {H' : Hp} {h' : Heap} {kvs : List (Key × V)} {vs : List (Key × Value)} (z : kvs.length ≤ sizeLine) (hd : (a == sysModules) = false) (rel : KV kvs vs) (dd : h'.DictOf (mixKind P w) a vs) :
    ObjOk P w H' h' a (.dK kvs) := ⟨z, hd, vs, rel, dd⟩
/-- d[y] = v -/
theorem d_setItem {H' : Hp} {Q : Unit → Shared → Prop} (hu : A.units + 1 < cLine) (I : Inv X pins σ H s) (g : DPut H a y v H') (ry : RelV y u) (rv : RelV v r) (h : ∀ s', Inv X pins σ H' s' → Q () s') :
    wpAny (model X.prog X.w) A (setItem (.ref a) u r) Q E s := by
  rcases g with ⟨kvs, k, e, ey, l, eH⟩ | ⟨kvs, k, b, e, ey, eb, l, eH⟩
  · subst ey eH
    obtain ⟨z, hd, vs, rel, dd⟩ := dk_of I.hok e
    have hz : vs.length ≤ sizeLine := by rw [← rel.length]; exact z
    have hl : (putK kvs k v).length ≤ sizeLine := by have := length_putK kvs k v; first | lia | omega
    refine wpAny_setItem_pairs (hsz := hz) (kV_is ry) dd fun h' dd' hs => h _ ?_
    have he : ∃ q, h'.get? a = some q := let ⟨q, _, _, hq, _⟩ := dd'; ⟨q, hq⟩
    exact d_write I (by rw [e]; exact True.intro) hs he (dk_new hl hd (rel.put k rv) dd')
  · subst ey eH
    cases (show u = Value.ref b from ry)
    obtain ⟨z, hd, xs, rel, dd⟩ := dt_of I.hok e
    have hz : xs.length ≤ sizeLine := by rw [← Paired.length rel]; exact z
    have hl : (putK kvs k v).length ≤ sizeLine := by have := length_putK kvs k v; first | lia | omega
    refine wpAny_setItem_heap (hsz := hz) (tupleKind_room_in1 hu) (key_of I.hok eb) dd fun h' dd' hs => h _ ?_
    obtain ⟨q, es, ep, hq, h2, h3, h4, _, h5⟩ := dd'
    refine d_write I (by rw [e]; exact True.intro) hs ⟨q, hq⟩ ⟨hl, hd, _, (rel.put k eb rv).keeps fun c ys ec => ?_, q, es, ep, hq, h2, h3, h4, h5⟩
    rw [upd_ne (ne_of ec e (fun z => nomatch z))]
    exact ec
end

section
variable {X : Cx} {pins : List (Addr × Obj)} {σ : St} {H : Hp} {s : Shared} {a : Addr} {kvs : List (Key × V)} {k : Key} {u : Value} {A : Around} {E : Value → Shared → Prop}
end


/-- the element of a subscription, not a slice -/
def NoSl (i : Expr) : Prop := ∀ ov iv, subscripted i false ov iv = operate [ov, iv] (getItem ov iv)
theorem subD_of {prog : Program} {w : World} {A : Around} {E : Value → Shared → Prop} {s : Shared} {env : Env} {value slice : Expr} {pos : Pos} {T id : String} {Q : Value → Shared → Prop}
    (hl : typeLookup (.type T) "__getitem__" = pure (some (.builtin id))) (hs : NoSl slice)
    (h : wpAny (model prog w) A (eval value env) (fun o s₁ => wpAny (model prog w) A (eval slice env) (fun i s₂ => s₂.TypeIs o T ∧ wpAny (model prog w) A (getItem o i) Q E s₂) E s₁) E s) :
    wpAny (model prog w) A (eval (.Subscript value slice pos) env) Q E s := by
  refine Subscript_ (wpAny_mono h (fun o s₁ h₁ => wpAny_mono h₁ (fun i s₂ h₂ => ?_) fun _ _ x => x) fun _ _ x => x)
  obtain ⟨hT, h₂⟩ := h₂
  unfold subscriptTail
  refine wpAny_bind ?_
  rw [getitemInPython_of_ne hT.not_modules]
  refine wpAny_bind (wpAny_specialOf hT hl ?_)
  have fin : wpAny (model prog w) A (subscripted slice false o i) (fun r s₃ => wpAny (model prog w) A (letTemporaryGo value o r >>= fun _ => pure r) Q E s₃) E s₂ := by
    rw [hs o i]
    exact wpAny_operating (wpAny_mono h₂ (fun r s₃ h₃ => wpAny_bind (wpAny_letTemporaryGo (wpAny_pure h₃))) fun _ _ x => x)
  first
    | exact wpAny_pure (wpAny_bind fin)
    | exact wpAny_bind (wpAny_pure (wpAny_bind fin))
    | exact wpAny_bind fin

theorem dict_typeIs {X : Cx} {pins : List (Addr × Obj)} {σ : St} {H : Hp} {s : Shared} {a : Addr} {y : V} {o : Option V} (I : Inv X pins σ H s) (g : DGet H a y o) : s.TypeIs (.ref a) "dict" := by
  rcases g with ⟨kvs, k, e, _, _⟩ | ⟨kvs, k, b, e, _, _, _⟩
  · obtain ⟨_, _, vs, _, dd⟩ := dk_rd I.hok e
    exact dd.typeIs
  · obtain ⟨_, _, xs, _, dd⟩ := dt_rd I.hok e
    exact dd.typeIs
/-- d[y] -/
def tDGet (td ty : TE) : TE := fun σ H Q => td σ H fun x H1 => ty σ H1 fun y H2 => ∃ a v, x = .ref a ∧ DGet H2 a y (some v) ∧ Q v H2
/-- y in d, y not in d -/
def tDIn (ty td : TE) : TE := fun σ H Q => ty σ H fun y H1 => td σ H1 fun x H2 => ∃ a o, x = .ref a ∧ DGet H2 a y o ∧ Q (.bl o.isSome) H2
def tDNotIn (ty td : TE) : TE := fun σ H Q => ty σ H fun y H1 => td σ H1 fun x H2 => ∃ a o, x = .ref a ∧ DGet H2 a y o ∧ Q (.bl (!o.isSome)) H2
/-- d[y] = v -/
def sDPut (td ty tv : TE) : TS := fun D σ H => tv σ H fun v H1 => td σ H1 fun x H2 => ty σ H2 fun y H3 => ∃ a H4, x = .ref a ∧ DPut H3 a y v H4 ∧ D.nx σ H4
section
variable {X : Cx} {o i e value : Expr} {pos pos' tpos : Pos} {td ty tv : TE}
theorem pe_dget (hu : X.A.units + 1 < cLine) (ho : PE X o td) (hi : PE X i ty) (hs : NoSl i) : PE X (.Subscript o i pos) (tDGet td ty) := by
  intro pins s σ H Q I h
  refine subD_of PySem.F.slot_dict_getitem.lookup hs (thn (ho pins s σ H _ I h) fun u s1 ⟨x, H1, I1, rx, q1⟩ => thn (hi pins s1 σ H1 _ I1 q1) fun iv s2 ⟨y, H2, I2, ry, a, v, ex, g, q2⟩ => ?_)
  subst ex
  obtain rfl : u = Value.ref a := rx
  exact ⟨dict_typeIs I2 g, d_getItem hu I2 g ry fun w' s3 I3 rw' => ⟨v, H2, I3, rw', q2⟩⟩
theorem pc_din (hu : X.A.units + 1 < cLine) (hi : PE X i ty) (ho : PE X o td) : PC X .In i o (tDIn ty td) := by
  intro pins s σ H Q I h
  refine thn (hi pins s σ H _ I h) fun iv s1 ⟨y, H1, I1, ry, q1⟩ => thn (ho pins s1 σ H1 _ I1 q1) fun u s2 ⟨x, H2, I2, rx, a, ov, ex, g, q2⟩ => ?_
  subst ex
  obtain rfl : u = Value.ref a := rx
  exact d_in hu I2 g ry fun s3 I3 => ⟨.bl ov.isSome, H2, I3, rfl, q2⟩
theorem pc_dnotin (hu : X.A.units + 1 < cLine) (hi : PE X i ty) (ho : PE X o td) : PC X .NotIn i o (tDNotIn ty td) := by
  intro pins s σ H Q I h
  refine thn (hi pins s σ H _ I h) fun iv s1 ⟨y, H1, I1, ry, q1⟩ => thn (ho pins s1 σ H1 _ I1 q1) fun u s2 ⟨x, H2, I2, rx, a, ov, ex, g, q2⟩ => ?_
  subst ex
  obtain rfl : u = Value.ref a := rx
  exact d_notIn hu I2 g ry fun s3 I3 => ⟨.bl (!ov.isSome), H2, I3, rfl, q2⟩
theorem ps_dput (hu : X.A.units + 1 < cLine) (ho : PE X o td) (hi : PE X i ty) (hv : PE X value tv) (hs : swapsWith value (some (.Subscript o i pos')) pos.line X.env = pure false) :
    PS X (.Assign [.Subscript o i pos'] value pos) (sDPut td ty tv) := by
  intro pins s σ H D I h
  refine wpAny_Assign_Subscript (thn (hv pins s σ H _ I h) fun r s1 ⟨v, H1, I1, rv, q1⟩ => thn (ho pins s1 σ H1 _ I1 q1) fun u s2 ⟨x, H2, I2, rx, q2⟩ => thn (hi pins s2 σ H2 _ I2 q2) fun iv s3 ⟨y, H3, I3, ry, a, H4, ex, g, q3⟩ => ?_) hs
  subst ex
  obtain rfl : u = Value.ref a := rx
  exact d_setItem hu I3 g ry rv fun s4 I4 => ⟨σ, H4, I4, q3⟩
end


theorem dk_empty {P : Program} {w : World} {H : Hp} (h : Heap) (hb : sysModules < h.objs.size) : ObjOk P w H (h.push { cls := .type "dict", data := .dict #[] }) h.objs.size (.dK []) :=
  ⟨Nat.zero_le _, beq_eq_false_iff_ne.mpr (Ne.symm (Nat.ne_of_lt hb)), [], .nil, Heap.DictOf.new h⟩
theorem dt_empty {P : Program} {w : World} {H : Hp} (h : Heap) (hb : sysModules < h.objs.size) : ObjOk P w H (h.push { cls := .type "dict", data := .dict #[] }) h.objs.size (.dT []) :=
  ⟨Nat.zero_le _, beq_eq_false_iff_ne.mpr (Ne.symm (Nat.ne_of_lt hb)), [], .nil, _, #[], 0, Heap.get?_push_size _ rfl, ⟨rfl, rfl, rfl⟩, rfl, rfl, List.nodup_nil⟩
/-- {}, to be a dict of the kind that is wanted -/
def tDNewK : TE := fun _ H Q => ∀ p, H p = none → Q (.ref p) (upd H p (.dK []))
def tDNewT : TE := fun _ H Q => ∀ p, H p = none → Q (.ref p) (upd H p (.dT []))
section
variable {X : Cx} {pos : Pos}
theorem pe_dnewK : PE X (.Dict [] [] pos) tDNewK := fun pins s σ H Q I h =>
  wpAny_Dict_empty ⟨.ref s.heap.objs.size, _, I.laid (a := s.heap.objs.size) (o := .dK []) (t' := s.toks) (fun _ _ q => Heap.get?_push_of_some _ q) (Nat.le_refl _) (dk_empty s.heap I.big), rfl, h _ (I.hok.fresh (Nat.le_refl _))⟩
theorem pe_dnewT : PE X (.Dict [] [] pos) tDNewT := fun pins s σ H Q I h =>
  wpAny_Dict_empty ⟨.ref s.heap.objs.size, _, I.laid (a := s.heap.objs.size) (o := .dT []) (t' := s.toks) (fun _ _ q => Heap.get?_push_of_some _ q) (Nat.le_refl _) (dt_empty s.heap I.big), rfl, h _ (I.hok.fresh (Nat.le_refl _))⟩
end

structure M2 (X : Cx) (o : Expr) (m : Str) (apos : Pos) (e f : Expr) (cpos : Pos) : Prop where
  base : attributeBase o m X.env (eval o X.env) = eval o X.env
  few : ((backTo cpos (starEach [e, f] X.env)).all (fun x => !x.1) && (backToKw cpos (keywordEach [] X.env)).all (fun x => x.1.isSome)
    && decide (([e, f] : List Expr).length + ([] : List Keyword).length + (if ([] : List Keyword).isEmpty then 0 else 1) < 30)) = true
  line : (apos.endLine == cpos.line) = true
  trees : backTo cpos (starEach [e, f] X.env) = [(false, eval e X.env), (false, eval f X.env)]

/-- a is a dict, whatever its keys -/
def IsD (H : Hp) (a : Addr) : Prop := (∃ kvs, Rd H a (.dK kvs)) ∨ ∃ kvs, Rd H a (.dT kvs)
theorem isD_at {X : Cx} {pins : List (Addr × Obj)} {σ : St} {H : Hp} {s : Shared} {a : Addr} (I : Inv X pins σ H s) (d : IsD H a) :
    s.TypeIs (.ref a) "dict" ∧ (∀ b, Value.ref a = .ref b → ∃ ob, s.heap.get? b = some ob ∧ ob.dict = none) ∧ (a == sysModules) = false := by
  rcases d with ⟨kvs, e⟩ | ⟨kvs, e⟩
  · obtain ⟨_, hd, vs, _, dd⟩ := dk_rd I.hok e
    refine ⟨dd.typeIs, fun b q => ?_, hd⟩
    cases q
    obtain ⟨ob, _, _, h1, h2, _⟩ := dd
    exact ⟨ob, h1, h2.2.1⟩
  · obtain ⟨_, hd, xs, _, dd⟩ := dt_rd I.hok e
    refine ⟨dd.typeIs, fun b q => ?_, hd⟩
    cases q
    obtain ⟨ob, _, _, h1, h2, _⟩ := dd
    exact ⟨ob, h1, h2.2.1⟩

section
variable {X : Cx} {pins : List (Addr × Obj)} {σ : St} {H : Hp} {s : Shared} {a : Addr} {y d : V} {u r : Value} {o : Option V} {A : Around} {E : Value → Shared → Prop}
end

section
variable {X : Cx} {o e f : Expr} {apos cpos : Pos} {td ty tx : TE}
end

section
variable {X : Cx} {pins : List (Addr × Obj)} {σ : St} {H : Hp} {s : Shared} {a : Addr} {kvs : List (Key × V)} {A : Around} {E : Value → Shared → Prop}
end


section
variable {X : Cx} {pins : List (Addr × Obj)} {σ : St} {H : Hp} {s : Shared} {a : Addr} {y : V} {u : Value} {A : Around} {E : Value → Shared → Prop}
end
section
variable {κ : Type} [DecidableEq κ]
theorem valV_not {kvs : List (κ × V)} {k : κ} (h : valV kvs k = none) : ¬ k ∈ kvs.map (·.1) := by
  intro m
  obtain ⟨p, hp, e⟩ := List.mem_map.mp m
  have q : (kvs.any fun kv => decide (kv.1 = k)) = true := List.any_eq_true.mpr ⟨p, hp, decide_eq_true e⟩
  rw [valV_any, h] at q
  exact absurd q (by simp)
end
section
variable {X : Cx}
end
end L2
namespace L2
open PySem PySem.Spec PyProof.Rows
/-- at each turn a new tuple (i, x) -/
def Ite (K : PySem.W.Frag) (a : Addr) : It :=
  ⟨fun i H => ∃ xs x, SqL K H a xs ∧ xs[i]? = some x, fun i H y H' => ∃ t x, (∀ xs, SqL K H a xs → xs[i]? = some x) ∧ y = .ref t ∧ H t = none ∧ H' = upd H t (.tup [.int i, x]), fun i H => ∃ xs, SqL K H a xs ∧ xs.length ≤ i⟩
theorem enum_step {X : Cx} {pins : List (Addr × Obj)} {σ : St} {H : Hp} {s : Shared} {h' : Heap} {e it : Addr} {t' : Nat} {ys : List V} (I : Inv X pins σ H s) (fe : FpOk X pins H e) (fi : FpOk X pins H it)
    (k : ∀ b o, b ≠ e → b ≠ it → s.heap.get? b = some o → h'.get? b = some o) (he : ∃ o, h'.get? e = some o) (hi : ∃ o, h'.get? it = some o)
    (new : ObjOk X.prog X.w (upd H s.heap.objs.size (.tup ys)) h' s.heap.objs.size (.tup ys)) :
    Inv X pins σ (upd H s.heap.objs.size (.tup ys)) { s with heap := h', toks := t' } := by
  have hn : H s.heap.objs.size = none := I.hok.fresh (Nat.le_refl _)
  obtain ⟨e0, e1, e2, e3, e4, e5⟩ := fe
  obtain ⟨i0, i1, i2, i3, i4, i5⟩ := fi
  have nt : ∀ b u, H b = some u → b ≠ e ∧ b ≠ it := fun b u q => ⟨fun z => (by rw [z, e0] at q; cases q), fun z => (by rw [z, i0] at q; cases q)⟩
  have nc : ∀ b, b ∉ [e, it] → b ≠ e ∧ b ≠ it := fun b hb => ⟨fun z => hb (by simp [z]), fun z => hb (by simp [z])⟩
  have ne : ∀ b u, H b = some u → b ≠ s.heap.objs.size := fun b u q => ne_of_none q hn
  refine I.step (g' := s.gens) (d' := s.drawn) (ch := [e, it]) (fun b hb => ?_) (fun b o _ _ hc q _ => k b o (nc b hc).1 (nc b hc).2 q) (fun b o _ _ hc q _ => ⟨o.slots, k b o (nc b hc).1 (nc b hc).2 q⟩)
    (fun b o _ q n => by rw [upd_ne (Nat.ne_of_lt (Heap.lt_size q))]; exact n) (fun b o hc q => ⟨o, k b o (nc b hc).1 (nc b hc).2 q⟩) (fun b xs q => by rw [upd_ne (ne b _ q)]; exact q) (fun b o u q => by rw [upd_ne (ne b _ q)]; exact q)
    (fun b ps q => ⟨#[], by rw [upd_ne (ne b _ q), q]; simp⟩) (fun m hm => ?_) (fun b u q => ?_) I.bare
  · rcases List.mem_cons.mp hb with rfl | hb
    · exact ⟨e3, e1, e4, e5⟩
    · rw [List.mem_singleton.mp hb]; exact ⟨i3, i1, i4, i5⟩
  · obtain ⟨o, es, ep, ho, r⟩ := hm
    exact ⟨o, es, ep, k _ o (Ne.symm e1) (Ne.symm i1) ho, r⟩
  · by_cases hb : b = s.heap.objs.size
    · subst hb; rw [upd_same] at q; cases q; exact new
    · rw [upd_ne hb] at q
      refine (I.hok b u q).stay (fun c v hc z => k c v ?_ ?_ z) (fun c z => by rw [upd_ne (ne c _ z)]; exact z) fun c xs z => by rw [upd_ne (ne c _ z)]; exact z
      · rcases hc with rfl | hc
        · exact (nt c u q).1
        · exact (nt c _ hc).1
      · rcases hc with rfl | hc
        · exact (nt c u q).2
        · exact (nt c _ hc).2
theorem turn_enum {P : Program} {w : World} {K : PySem.W.Frag} {es : List Expr} {k : Nat} {pos : Pos} (a e it : Addr) (hei : e ≠ it) :
    Turn P w K (.Tuple es k pos) (Ite K a) [e, it] e (fun i h => (∃ old, IsEnum h e it i old) ∧ h.IsListIter it a i) where
  mem := by simp
  obj := fun i h st b hb => by
    obtain ⟨⟨old, he⟩, ⟨o, eo, c, d⟩⟩ := st
    rcases List.mem_cons.mp hb with rfl | hb
    · exact ⟨_, he, fun v z => by
        have z' : Data.fields _ = Data.cell v := z
        cases z'⟩
    · rw [List.mem_singleton.mp hb]; exact ⟨o, eo, fun v z => by rw [d] at z; cases z⟩
  keep := fun i h h' st kk => by
    obtain ⟨⟨old, he⟩, st⟩ := st
    exact ⟨⟨old, kk e (by simp) _ he⟩, st.at fun o z => kk it (by simp) o z⟩
  item := by
    intro X hP hw hK hc i pins s σ H E I hf st hg
    subst hP hw hK
    obtain ⟨⟨old, he⟩, st⟩ := st
    obtain ⟨xs, x, hq, hx⟩ := hg
    obtain ⟨its, rv, p, hz⟩ := I.list hq
    obtain ⟨u, hu, ru⟩ := rv.get hx
    have fe := hf e (by simp)
    have fi := hf it (by simp)
    refine wpAny_pyNext_enum_item he st p.isList (x := u) (by simpa using hu) hei fun h' he' st' ht hz' kk => ?_
    refine ⟨_, rfl, ?_⟩
    have ltE : e < s.heap.objs.size := Heap.lt_size he
    have hn : H s.heap.objs.size = none := I.hok.fresh (Nat.le_refl _)
    have I1 : Inv X pins σ (upd H s.heap.objs.size (.tup [.int i, x])) { s with heap := h', toks := s.toks + 1 } := by
      refine enum_step I fe fi kk ⟨_, he'⟩ (let ⟨o, eo, _⟩ := st'; ⟨o, eo⟩) ⟨?_, [.int i s.toks, u], .cons ⟨_, rfl⟩ (.cons ru .nil), ⟨_, ht, rfl, _, rfl⟩⟩
      show 2 ≤ sizeLine
      decide
    refine wpAny_letOwnedTupleGo_enum (s := { s with heap := h', toks := s.toks + 1 }) he' fun h2 he2 sb => ?_
    have neE : e ≠ s.heap.objs.size := Nat.ne_of_lt ltE
    have fe2 : (upd H s.heap.objs.size (.tup [.int i, x])) e = none := by rw [upd_ne neE]; exact fe.1
    have I2 : Inv X pins σ (upd H s.heap.objs.size (.tup [.int i, x])) { ({ s with heap := h', toks := s.toks + 1 } : Shared) with heap := h2, toks := s.toks + 1 } :=
      I1.turned (t' := s.toks + 1) (it := e) (fun b o hb z => (sb.2 b hb).trans z) fe2 fe.2.1 fe.2.2.2.1 fe.2.2.2.2.1 fe.2.2.2.2.2
    obtain ⟨oi, hoi, _⟩ := id st
    have ltI : it < s.heap.objs.size := Heap.lt_size hoi
    refine ⟨.ref s.heap.objs.size, _, I2, rfl, ⟨_, x, fun ys hy => by rw [I.list_inj hy hq]; exact hx, rfl, hn, rfl⟩, ⟨⟨u, ?_⟩, ?_⟩, fun b hb => ?_⟩
    · have e1 : ((i + 1 : Nat) : Int) = (i : Int) + 1 := by push_cast; rfl
      rw [e1]; exact he2
    · exact st'.at fun o z => (sb.2 it (Ne.symm hei)).trans z
    · rcases List.mem_cons.mp hb with rfl | hb
      · exact fe2
      · rw [List.mem_singleton.mp hb, upd_ne (Nat.ne_of_lt ltI)]; exact fi.1
  done := by
    intro X hP hw hK hc i pins s σ H E I hf st hg
    subst hP hw hK
    obtain ⟨⟨old, he⟩, st⟩ := st
    obtain ⟨xs, hq, hx⟩ := hg
    obtain ⟨its, rv, p, hz⟩ := I.list hq
    obtain ⟨f0, f1, f2, f3, f4, f5⟩ := hf it (by simp)
    have hl := rv.length
    exact wpAny_pyNext_enum_end (I.ok.hd hc) he st p.isList (by simp; first | lia | omega) fun h' eb => ⟨rfl, I.turned (t' := s.toks) (fun b o hb z => eb b o hb z) f0 f1 f3 f4 f5⟩
  self := fun _ _ _ _ _ st h => by
    obtain ⟨⟨old, he⟩, _⟩ := st
    exact wpAny_pyIter_enum he h
def iEnum (K : PySem.W.Frag) (ta : TA) : TI := fun σ H R => ta σ H fun vs H1 => ∃ a, vs = [.ref a] ∧ (∃ xs, SqL K H1 a xs) ∧ R (Ite K a) H1
section
variable {X : Cx}
theorem pi_enum {a : Expr} {es : List Expr} {k : Nat} {tpos : Pos} {ta : TA} {p pos : Pos} (hg : Gl X "enumerate") (hm : X.mg "enumerate" = none) (ha : PA X [a] ta) (hs : starEach [a] X.env = [(false, eval a X.env)] := by rfl) :
    PI X (.Tuple es k tpos) (.Call (.Name "enumerate" p) [a] [] pos) (iEnum X.K ta) := by
  intro pins s σ H R I h
  refine Call_ (ld_blt I hg hm boot_enumerate (PyProof.Rows.callWith_type1 (thn (ha pos pins s σ H _ I h) fun us s1 ⟨vs, H1, I1, r1, q1⟩ => ?_) hs rfl))
  obtain ⟨b, e, ⟨xs, hq⟩, q⟩ := q1
  subst e
  cases r1 with
  | cons r rr =>
    cases rr
    cases r
    obtain ⟨its, rv, pl, hz⟩ := I1.list hq
    refine call_enumerate_list pl.isList fun h' he hit hsz hk => ?_
    have I2 : Inv X pins σ H1 { s1 with heap := h' } := I1.kept (t' := s1.toks) hk
    refine wpAny_pyIter_enum (s := { s1 with heap := h' }) he ?_
    refine ⟨s1.heap.objs.size + 1, [s1.heap.objs.size + 1, s1.heap.objs.size], _, _, H1, rfl, I2, turn_enum b _ _ (Nat.succ_ne_self _), ⟨⟨_, he⟩, hit⟩, fun c hc => ?_, q⟩
    rcases List.mem_cons.mp hc with rfl | hc
    · exact I1.fpOk (Nat.le_succ _) (I1.hok.fresh (Nat.le_succ _))
    · rw [List.mem_singleton.mp hc]; exact I1.fpOk (Nat.le_refl _) (I1.hok.fresh (Nat.le_refl _))
end
/-- the loop by what holds ahead of the i-th item; the list stays -/
theorem for_enum {K : PySem.W.Frag} {a : Addr} {xs : List V} {g : TG} {tb : TS} {D : Ends} {σ : St} {H : Hp} (Pv : Nat → St → Hp → Prop) (h0 : Pv 0 σ H) (hl : ∀ i σ H, i ≤ xs.length → Pv i σ H → SqL K H a xs)
    (hs : ∀ i x σ H t, xs[i]? = some x → Pv i σ H → H t = none → g (.ref t) σ (upd H t (.tup [.int i, x])) fun σ2 H2 => tb { D with nx := Pv (i + 1), ct := Pv (i + 1), bk := D.nx } σ2 H2) (hd : ∀ σ H, Pv xs.length σ H → D.nx σ H) :
    ∃ W : Nat → Nat → St → Hp → Prop, (∃ m, W 0 m σ H) ∧ ∀ i m σ H, W i m σ H →
      ((Ite K a).stop i H ∧ D.nx σ H) ∨ ((Ite K a).go i H ∧ ∃ N : St → Hp → Prop, (∀ σ' H', N σ' H' → ∃ m', m' < m ∧ W (i + 1) m' σ' H') ∧ ∀ x H', (Ite K a).yld i H x H' → g x σ H' fun σ2 H2 => tb { D with nx := N, ct := N, bk := D.nx } σ2 H2) := by
  refine ⟨fun i m σ H => m = xs.length - i ∧ i ≤ xs.length ∧ Pv i σ H, ⟨xs.length, by simp, Nat.zero_le _, h0⟩, ?_⟩
  rintro i m σ H ⟨rfl, hi, p⟩
  have q := hl i σ H hi p
  by_cases hlt : i < xs.length
  · refine .inr ⟨⟨xs, xs[i], q, by simp [hlt]⟩, Pv (i + 1), fun σ' H' p' => ⟨xs.length - (i + 1), by first | lia | omega, rfl, hlt, p'⟩, fun x H' y => ?_⟩
    obtain ⟨t, z, hz, rfl, ht, rfl⟩ := y
    exact hs i z σ H t (hz xs q) p ht
  · have e : i = xs.length := by first | lia | omega
    subst e
    exact .inl ⟨⟨xs, q, Nat.le_refl _⟩, hd σ H p⟩
end L2
namespace L2
open PySem PySem.Spec PyProof.Rows PySem.SeqAt
mutual
inductive D where
  | at (v : V)
  | tup (xs : Ds)
  | lst (xs : Ds)
inductive Ds where
  | nil
  | cons (d : D) (r : Ds)
end
mutual
def DIs (K : PySem.W.Frag) (H : Hp) : D → V → Prop
  | .at u, v => v = u ∧ flatV u = true
  | .tup ds, v => ∃ a xs, v = .ref a ∧ SqT K H a xs ∧ DIss K H ds xs
  | .lst ds, v => ∃ a xs, v = .ref a ∧ SqL K H a xs ∧ DIss K H ds xs
def DIss (K : PySem.W.Frag) (H : Hp) : Ds → List V → Prop
  | .nil, xs => xs = []
  | .cons d r, xs => ∃ x ys, xs = x :: ys ∧ DIs K H d x ∧ DIss K H r ys
end
mutual
def dep : D → Nat
  | .at _ => 0
  | .tup ds => deps ds + 1
  | .lst ds => deps ds + 1
def deps : Ds → Nat
  | .nil => 0
  | .cons d r => max (dep d) (deps r)
end
mutual
def deq : D → D → Bool
  | .at u, .at v => eqV u v
  | .tup xs, .tup ys => deqs xs ys
  | .lst xs, .lst ys => deqs xs ys
  | _, _ => false
def deqs : Ds → Ds → Bool
  | .nil, .nil => true
  | .cons d r, .cons e q => deq d e && deqs r q
  | _, _ => false
end
def Ds.len : Ds → Nat
  | .nil => 0
  | .cons _ r => r.len + 1
def Ds.get : Ds → Nat → D
  | .nil, _ => .at .non
  | .cons d _, 0 => d
  | .cons _ r, i + 1 => r.get i
theorem deqs_all : ∀ (ds es : Ds), ((List.range (min ds.len es.len)).all (fun j => deq (ds.get j) (es.get j)) && ds.len == es.len) = deqs ds es
  | .nil, .nil => rfl
  | .nil, .cons e q => by simp [Ds.len, deqs]
  | .cons d r, .nil => by simp [Ds.len, deqs]
  | .cons d r, .cons e q => by
    have ih := deqs_all r q
    rw [show deqs (.cons d r) (.cons e q) = (deq d e && deqs r q) from by rw [deqs], ← ih]
    show ((List.range (min (r.len + 1) (q.len + 1))).all _ && (r.len + 1 == q.len + 1)) = _
    rw [show min (r.len + 1) (q.len + 1) = min r.len q.len + 1 by first | lia | omega, List.range_succ_eq_map, List.all_cons, List.all_map, Bool.and_assoc]
    congr 1
    rw [show (r.len + 1 == q.len + 1) = (r.len == q.len) by simp]
    rfl
mutual
theorem deq_refl : ∀ {K : PySem.W.Frag} {H : Hp} (d : D) {v : V}, DIs K H d v → deq d d = true
  | _, _, .at u, v, h => by
    obtain ⟨_, hf⟩ := (show v = u ∧ flatV u = true by simpa [DIs] using h)
    rw [deq]
    cases u <;> simp_all [flatV, eqV]
  | _, _, .tup ds, v, h => by
    rw [DIs] at h
    obtain ⟨a, xs, _, _, q⟩ := h
    rw [deq]; exact deqs_refl ds q
  | _, _, .lst ds, v, h => by
    rw [DIs] at h
    obtain ⟨a, xs, _, _, q⟩ := h
    rw [deq]; exact deqs_refl ds q
theorem deqs_refl : ∀ {K : PySem.W.Frag} {H : Hp} (ds : Ds) {xs : List V}, DIss K H ds xs → deqs ds ds = true
  | _, _, .nil, _, _ => by rw [deqs]
  | _, _, .cons d r, xs, h => by
    rw [DIss] at h
    obtain ⟨x, ys, _, h1, h2⟩ := h
    rw [deqs, deq_refl d h1, deqs_refl r h2]; rfl
end
theorem DIss.len {K : PySem.W.Frag} {H : Hp} : ∀ {ds : Ds} {xs : List V}, DIss K H ds xs → ds.len = xs.length
  | .nil, xs, h => by rw [DIss] at h; rw [h]; rfl
  | .cons d r, xs, h => by
    rw [DIss] at h
    obtain ⟨x, ys, rfl, _, h2⟩ := h
    show r.len + 1 = ys.length + 1
    rw [DIss.len h2]
theorem DIss.get {K : PySem.W.Frag} {H : Hp} : ∀ {ds : Ds} {xs : List V} {i : Nat} {x : V}, DIss K H ds xs → xs[i]? = some x → DIs K H (ds.get i) x
  | .nil, xs, i, x, h, e => by rw [DIss] at h; rw [h] at e; simp at e
  | .cons d r, xs, i, x, h, e => by
    rw [DIss] at h
    obtain ⟨y, ys, rfl, h1, h2⟩ := h
    cases i with
    | zero => simp at e; subst e; exact h1
    | succ i =>
      show DIs K H (r.get i) x
      exact DIss.get h2 (by simpa using e)
theorem dep_get : ∀ (ds : Ds) (i : Nat), i < ds.len → dep (ds.get i) ≤ deps ds
  | .nil, i, h => absurd h (by simp [Ds.len])
  | .cons d r, 0, _ => by show dep d ≤ _; rw [deps]; first | lia | omega
  | .cons d r, i + 1, h => by
    have := dep_get r i (by simpa [Ds.len] using h)
    show dep (r.get i) ≤ _
    rw [deps]; first | lia | omega
section
variable {X : Cx} {pins : List (Addr × Obj)} {σ : St} {H : Hp} {s : Shared}
mutual
theorem DIs.inj (I : Inv X pins σ H s) : ∀ {d e : D} {v : V}, DIs X.K H d v → DIs X.K H e v → d = e
  | .at u, .at w', v, h, h' => by
    rw [DIs] at h
    rw [DIs] at h'
    rw [← h.1, ← h'.1]
  | .at u, .tup ds, v, h, h' => by
    rw [DIs] at h
    rw [DIs] at h'
    obtain ⟨a, xs, e, _⟩ := h'
    have := h.2
    rw [← h.1, e] at this
    cases this
  | .at u, .lst ds, v, h, h' => by
    rw [DIs] at h
    rw [DIs] at h'
    obtain ⟨a, xs, e, _⟩ := h'
    have := h.2
    rw [← h.1, e] at this
    cases this
  | .tup ds, .at u, v, h', h => by
    rw [DIs] at h
    rw [DIs] at h'
    obtain ⟨a, xs, e, _⟩ := h'
    have := h.2
    rw [← h.1, e] at this
    cases this
  | .lst ds, .at u, v, h', h => by
    rw [DIs] at h
    rw [DIs] at h'
    obtain ⟨a, xs, e, _⟩ := h'
    have := h.2
    rw [← h.1, e] at this
    cases this
  | .tup ds, .tup es, v, h, h' => by
    rw [DIs] at h
    rw [DIs] at h'
    obtain ⟨a, xs, rfl, h1, h2⟩ := h
    obtain ⟨b, ys, e, k1, k2⟩ := h'
    cases e
    have e := I.tuple_inj h1 k1
    subst e
    rw [DIss.inj I h2 k2]
  | .lst ds, .lst es, v, h, h' => by
    rw [DIs] at h
    rw [DIs] at h'
    obtain ⟨a, xs, rfl, h1, h2⟩ := h
    obtain ⟨b, ys, e, k1, k2⟩ := h'
    cases e
    have e := I.list_inj h1 k1
    subst e
    rw [DIss.inj I h2 k2]
  | .tup ds, .lst es, v, h, h' => by
    rw [DIs] at h
    rw [DIs] at h'
    obtain ⟨a, xs, rfl, h1, h2⟩ := h
    obtain ⟨b, ys, e, k1, k2⟩ := h'
    cases e
    obtain ⟨_, _, t1, _⟩ := I.tuple h1
    obtain ⟨_, _, t2, _⟩ := I.list k1
    exact absurd rfl (ne_of_list_tuple t2.isList (show s.heap.IsTuple a _ from t1))
  | .lst ds, .tup es, v, h, h' => by
    rw [DIs] at h
    rw [DIs] at h'
    obtain ⟨a, xs, rfl, h1, h2⟩ := h
    obtain ⟨b, ys, e, k1, k2⟩ := h'
    cases e
    obtain ⟨_, _, t1, _⟩ := I.tuple k1
    obtain ⟨_, _, t2, _⟩ := I.list h1
    exact absurd rfl (ne_of_list_tuple t2.isList (show s.heap.IsTuple a _ from t1))
theorem DIss.inj (I : Inv X pins σ H s) : ∀ {ds es : Ds} {xs : List V}, DIss X.K H ds xs → DIss X.K H es xs → ds = es
  | .nil, .nil, xs, h, h' => rfl
  | .nil, .cons d r, xs, h, h' => by
    rw [DIss] at h
    rw [DIss] at h'
    obtain ⟨x, ys, e, _⟩ := h'
    rw [h] at e; cases e
  | .cons d r, .nil, xs, h', h => by
    rw [DIss] at h
    rw [DIss] at h'
    obtain ⟨x, ys, e, _⟩ := h'
    rw [h] at e; cases e
  | .cons d r, .cons e q, xs, h, h' => by
    rw [DIss] at h
    rw [DIss] at h'
    obtain ⟨x, ys, rfl, h1, h2⟩ := h
    obtain ⟨y, zs, e', k1, k2⟩ := h'
    cases e'
    rw [DIs.inj I h1 k1, DIss.inj I h2 k2]
end
theorem flat_tup {A : Around} {u : V} {x : Value} {l : Addr} {items : Array Value} (r : RelV u x) (f : flatV u = true) (hl : s.heap.IsTuple l items) (hu : A.units < cLine) : EqAt A s x (.ref l) false ∧ EqAt A s (.ref l) x false := by
  cases u with
  | non => cases r; exact ⟨.none_tuple hl hu, .tuple_none hl hu⟩
  | bl b => cases r; exact ⟨.bool_tuple b hl hu, .tuple_bool b hl hu⟩
  | int b => obtain ⟨t, rfl⟩ := r; exact ⟨.int_tuple b t hl hu, .tuple_int b t hl hu⟩
  | str b => obtain ⟨t, rfl⟩ := r; exact ⟨.str_tuple b t hl hu, .tuple_str b t hl hu⟩
  | _ => exact absurd (show false = true from f) Bool.false_ne_true
theorem flat_lst {A : Around} {u : V} {x : Value} {l : Addr} {items : Array Value} (r : RelV u x) (f : flatV u = true) (hl : s.heap.IsList l items) (hu : A.units < cLine) : EqAt A s x (.ref l) false ∧ EqAt A s (.ref l) x false := by
  cases u with
  | non => cases r; exact ⟨.none_list hl hu, .list_none hl hu⟩
  | bl b => cases r; exact ⟨.bool_list b hl hu, .list_bool b hl hu⟩
  | int b => obtain ⟨t, rfl⟩ := r; exact ⟨.int_list b t hl hu, .list_int b t hl hu⟩
  | str b => obtain ⟨t, rfl⟩ := r; exact ⟨.str_list b t hl hu, .list_str b t hl hu⟩
  | _ => exact absurd (show false = true from f) Bool.false_ne_true
theorem eqAt_D (I : Inv X pins σ H s) : ∀ (n : Nat) (A : Around) (d e : D) (x y : V) (u v : Value), dep d ≤ n → DIs X.K H d x → DIs X.K H e y → RelV x u → RelV y v → A.units + n < cLine → EqAt A s u v (deq d e) := by
  intro n
  induction n with
  | zero =>
    intro A d e x y u v hn hd he rx ry hu
    cases d with
    | tup ds => rw [dep] at hn; first | lia | omega
    | lst ds => rw [dep] at hn; first | lia | omega
    | «at» p =>
      rw [DIs] at hd
      obtain ⟨rfl, hf⟩ := hd
      cases e with
      | «at» q =>
        rw [DIs] at he
        obtain ⟨rfl, hg⟩ := he
        rw [deq]; exact eqAt_V rx ry hf hg
      | tup es =>
        rw [DIs] at he
        obtain ⟨b, ys, rfl, h1, _⟩ := he
        obtain ⟨_, _, t, _⟩ := I.tuple h1
        cases ry
        rw [deq]
        · exact (flat_tup rx hf (show s.heap.IsTuple b _ from t) hu).1
        all_goals (intros; simp_all)
      | lst es =>
        rw [DIs] at he
        obtain ⟨b, ys, rfl, h1, _⟩ := he
        obtain ⟨_, _, t, _⟩ := I.list h1
        cases ry
        rw [deq]
        · exact (flat_lst rx hf t.isList hu).1
        all_goals (intros; simp_all)
  | succ n ih =>
    intro A d e x y u v hn hd he rx ry hu
    have hu1 : A.in1.units + n < cLine := by show A.units + 1 + n < cLine; first | lia | omega
    cases d with
    | «at» p =>
      rw [DIs] at hd
      obtain ⟨rfl, hf⟩ := hd
      cases e with
      | «at» q =>
        rw [DIs] at he
        obtain ⟨rfl, hg⟩ := he
        rw [deq]; exact eqAt_V rx ry hf hg
      | tup es =>
        rw [DIs] at he
        obtain ⟨b, ys, rfl, h1, _⟩ := he
        obtain ⟨_, _, t, _⟩ := I.tuple h1
        cases ry
        rw [deq]
        · exact (flat_tup rx hf (show s.heap.IsTuple b _ from t) (by first | lia | omega)).1
        all_goals (intros; simp_all)
      | lst es =>
        rw [DIs] at he
        obtain ⟨b, ys, rfl, h1, _⟩ := he
        obtain ⟨_, _, t, _⟩ := I.list h1
        cases ry
        rw [deq]
        · exact (flat_lst rx hf t.isList (by first | lia | omega)).1
        all_goals (intros; simp_all)
    | tup ds =>
      have hd0 := hd
      rw [dep] at hn
      rw [DIs] at hd
      obtain ⟨a, xs, rfl, h1, h2⟩ := hd
      obtain ⟨i1, r1, t1, _⟩ := I.tuple h1
      cases rx
      cases e with
      | «at» q =>
        rw [DIs] at he
        obtain ⟨rfl, hg⟩ := he
        rw [deq]
        · exact (flat_tup ry hg (show s.heap.IsTuple a _ from t1) (by first | lia | omega)).2
        all_goals (intros; simp_all)
      | lst es =>
        rw [DIs] at he
        obtain ⟨b, ys, rfl, k1, _⟩ := he
        obtain ⟨_, _, t2, _⟩ := I.list k1
        cases ry
        rw [deq]
        · exact EqAt.tuple_list (show s.heap.IsTuple a _ from t1) t2.isList (by first | lia | omega)
        all_goals (intros; simp_all)
      | tup es =>
        have he0 := he
        rw [DIs] at he
        obtain ⟨b, ys, rfl, k1, k2⟩ := he
        obtain ⟨i2, r2, t2, _⟩ := I.tuple k1
        cases ry
        by_cases hab : a = b
        · subst hab
          rw [DIs.inj I he0 hd0, deq_refl _ hd0]
          exact EqAt.same _
        · refine EqAt.of_refs hab ?_
          have := RcAt.tuples (A := A) (e := fun j => deq (ds.get j) (es.get j)) (show s.heap.IsTuple a i1.toArray from t1) (show s.heap.IsTuple b i2.toArray from t2) (by first | lia | omega) fun j g1 g2 => ?_
          · have l1 := r1.length
            have l2 := r2.length
            have m1 := h2.len
            have m2 := k2.len
            rw [List.size_toArray, List.size_toArray, ← l1, ← l2, ← m1, ← m2, deqs_all] at this
            rw [deq]; exact this
          · have l1 := r1.length
            have l2 := r2.length
            have m1 := h2.len
            have g1' : j < xs.length := by simp at g1; first | lia | omega
            have g2' : j < ys.length := by simp at g2; first | lia | omega
            obtain ⟨u1, e1, q1⟩ := r1.get (List.getElem?_eq_getElem g1')
            obtain ⟨u2, e2, q2⟩ := r2.get (List.getElem?_eq_getElem g2')
            have d1 : i1.toArray[j] = u1 := by
              have : i1[j]? = some i1.toArray[j] := by simp
              rw [e1] at this; exact (Option.some.inj this).symm
            have d2 : i2.toArray[j] = u2 := by
              have : i2[j]? = some i2.toArray[j] := by simp
              rw [e2] at this; exact (Option.some.inj this).symm
            rw [d1, d2]
            exact ih _ _ _ _ _ _ _ (Nat.le_trans (dep_get ds j (by first | lia | omega)) (by first | lia | omega)) (h2.get (List.getElem?_eq_getElem g1')) (k2.get (List.getElem?_eq_getElem g2')) q1 q2 hu1
    | lst ds =>
      have hd0 := hd
      rw [dep] at hn
      rw [DIs] at hd
      obtain ⟨a, xs, rfl, h1, h2⟩ := hd
      obtain ⟨i1, r1, t1, _⟩ := I.list h1
      cases rx
      cases e with
      | «at» q =>
        rw [DIs] at he
        obtain ⟨rfl, hg⟩ := he
        rw [deq]
        · exact (flat_lst ry hg t1.isList (by first | lia | omega)).2
        all_goals (intros; simp_all)
      | tup es =>
        rw [DIs] at he
        obtain ⟨b, ys, rfl, k1, _⟩ := he
        obtain ⟨_, _, t2, _⟩ := I.tuple k1
        cases ry
        rw [deq]
        · exact EqAt.list_tuple t1.isList (show s.heap.IsTuple b _ from t2) (by first | lia | omega)
        all_goals (intros; simp_all)
      | lst es =>
        have he0 := he
        rw [DIs] at he
        obtain ⟨b, ys, rfl, k1, k2⟩ := he
        obtain ⟨i2, r2, t2, _⟩ := I.list k1
        cases ry
        by_cases hab : a = b
        · subst hab
          rw [DIs.inj I he0 hd0, deq_refl _ hd0]
          exact EqAt.same _
        · refine EqAt.of_refs hab ?_
          have l1 := r1.length
          have l2 := r2.length
          have m1 := h2.len
          have m2 := k2.len
          rw [deq]
          rw [← deqs_all]
          by_cases hz : ds.len = es.len
          · have := RcAt.lists (A := A) (e := fun j => deq (ds.get j) (es.get j)) t1.isList t2.isList (by simp; first | lia | omega) (by first | lia | omega) fun j g1 g2 => ?_
            · rw [List.size_toArray, ← l1, ← m1] at this
              rw [hz, Nat.min_self, beq_self_eq_true, Bool.and_true, ← hz]
              exact this
            · have g1' : j < xs.length := by simp at g1; first | lia | omega
              have g2' : j < ys.length := by simp at g2; first | lia | omega
              obtain ⟨u1, e1, q1⟩ := r1.get (List.getElem?_eq_getElem g1')
              obtain ⟨u2, e2, q2⟩ := r2.get (List.getElem?_eq_getElem g2')
              have d1 : i1.toArray[j] = u1 := by
                have : i1[j]? = some i1.toArray[j] := by simp
                rw [e1] at this; exact (Option.some.inj this).symm
              have d2 : i2.toArray[j] = u2 := by
                have : i2[j]? = some i2.toArray[j] := by simp
                rw [e2] at this; exact (Option.some.inj this).symm
              rw [d1, d2]
              exact ih _ _ _ _ _ _ _ (Nat.le_trans (dep_get ds j (by first | lia | omega)) (by first | lia | omega)) (h2.get (List.getElem?_eq_getElem g1')) (k2.get (List.getElem?_eq_getElem g2')) q1 q2 hu1
          · have e0 : (ds.len == es.len) = false := by simpa using hz
            rw [e0, Bool.and_false]
            exact RcAt.lists_lengths t1.isList t2.isList (by simp; first | lia | omega) (by first | lia | omega)
end
section
variable {X : Cx}
/-- the items, one by one -/
theorem eqItems {pins : List (Addr × Obj)} {σ : St} {H : Hp} {s : Shared} (I : Inv X pins σ H s) {A : Around} {ds es : Ds} {xs ys : List V} {i1 i2 : List Value} (h2 : DIss X.K H ds xs) (k2 : DIss X.K H es ys) (r1 : Vals xs i1) (r2 : Vals ys i2)
    (hu : A.units + 60 < cLine) (hd : deps ds ≤ 50) : ∀ j (g1 : j < i1.toArray.size) (g2 : j < i2.toArray.size), EqAt A.in1 s i1.toArray[j] i2.toArray[j] (deq (ds.get j) (es.get j)) := fun j g1 g2 => by
  have l1 := r1.length
  have l2 := r2.length
  have m1 := h2.len
  have g1' : j < xs.length := by simp at g1; first | lia | omega
  have g2' : j < ys.length := by simp at g2; first | lia | omega
  obtain ⟨u1, e1, q1⟩ := r1.get (List.getElem?_eq_getElem g1')
  obtain ⟨u2, e2, q2⟩ := r2.get (List.getElem?_eq_getElem g2')
  have d1 : i1.toArray[j] = u1 := by
    have : i1[j]? = some i1.toArray[j] := by simp
    rw [e1] at this; exact (Option.some.inj this).symm
  have d2 : i2.toArray[j] = u2 := by
    have : i2[j]? = some i2.toArray[j] := by simp
    rw [e2] at this; exact (Option.some.inj this).symm
  rw [d1, d2]
  exact eqAt_D I 50 _ _ _ _ _ _ _ (Nat.le_trans (dep_get ds j (by first | lia | omega)) hd) (h2.get (List.getElem?_eq_getElem g1')) (k2.get (List.getElem?_eq_getElem g2')) q1 q2 (by show A.units + 1 + 50 < cLine; first | lia | omega)
/-- == of two lists or tuples of data -/
def rEqD (K : PySem.W.Frag) (neg : Bool) : R2 := fun x y H Q => ∃ d e, DIs K H d x ∧ DIs K H e y ∧ (∃ a, x = .ref a) ∧ (∃ b, y = .ref b) ∧ dep d ≤ 50 ∧ Q (.bl (if neg then !deq d e else deq d e)) H
theorem op_eqD {k : Nat} (hr : Room k X.A) : OpR X (compareOp .Eq) (rEqD X.K false) := by
  intro pins s σ H x y v u Q I rx ry h
  obtain ⟨d, e, hd, he, ⟨a, rfl⟩, ⟨b, rfl⟩, hn, q⟩ := h
  cases rx
  cases ry
  have hu := hr.units
  cases d with
  | «at» p => rw [DIs] at hd; obtain ⟨rfl, hf⟩ := hd; cases hf
  | tup ds =>
    rw [dep] at hn
    rw [DIs] at hd
    obtain ⟨a', xs, e', h1, h2⟩ := hd
    cases e'
    obtain ⟨i1, r1, t1, _⟩ := I.tuple h1
    cases e with
    | «at» p => rw [DIs] at he; obtain ⟨rfl, hf⟩ := he; cases hf
    | tup es =>
      rw [DIs] at he
      obtain ⟨b', ys, e', k1, k2⟩ := he
      cases e'
      obtain ⟨i2, r2, t2, _⟩ := I.tuple k1
      refine RcAt.tuples (show s.heap.IsTuple a i1.toArray from t1) (show s.heap.IsTuple b i2.toArray from t2) (by first | lia | omega) (eqItems I h2 k2 r1 r2 (by first | lia | omega) (by first | lia | omega)) _ _ _ _ ⟨.bl _, H, I, ?_, q⟩
      show Value.bool _ = Value.bool _
      rw [List.size_toArray, List.size_toArray, ← r1.length, ← r2.length, ← h2.len, ← k2.len, deqs_all]
      simp only [Bool.false_eq_true, if_false]
      rw [deq]
    | lst es =>
      rw [DIs] at he
      obtain ⟨b', ys, e', k1, k2⟩ := he
      cases e'
      obtain ⟨i2, r2, t2, _⟩ := I.list k1
      refine RcAt.tuple_list (show s.heap.IsTuple a _ from t1) t2.isList (by first | lia | omega) _ _ _ _ ⟨.bl _, H, I, ?_, q⟩
      show Value.bool _ = Value.bool _
      simp only [Bool.false_eq_true, if_false]
      rw [deq] <;> (intros; simp_all)
  | lst ds =>
    rw [dep] at hn
    rw [DIs] at hd
    obtain ⟨a', xs, e', h1, h2⟩ := hd
    cases e'
    obtain ⟨i1, r1, t1, _⟩ := I.list h1
    cases e with
    | «at» p => rw [DIs] at he; obtain ⟨rfl, hf⟩ := he; cases hf
    | tup es =>
      rw [DIs] at he
      obtain ⟨b', ys, e', k1, k2⟩ := he
      cases e'
      obtain ⟨i2, r2, t2, _⟩ := I.tuple k1
      refine RcAt.list_tuple t1.isList (show s.heap.IsTuple b _ from t2) (by first | lia | omega) _ _ _ _ ⟨.bl _, H, I, ?_, q⟩
      show Value.bool _ = Value.bool _
      simp only [Bool.false_eq_true, if_false]
      rw [deq] <;> (intros; simp_all)
    | lst es =>
      rw [DIs] at he
      obtain ⟨b', ys, e', k1, k2⟩ := he
      cases e'
      obtain ⟨i2, r2, t2, _⟩ := I.list k1
      have l1 := r1.length
      have l2 := r2.length
      have m1 := h2.len
      have m2 := k2.len
      by_cases hz : ds.len = es.len
      · refine RcAt.lists t1.isList t2.isList (by simp; first | lia | omega) (by first | lia | omega) (eqItems I h2 k2 r1 r2 (by first | lia | omega) (by first | lia | omega)) _ _ _ _ ⟨.bl _, H, I, ?_, q⟩
        show Value.bool _ = Value.bool _
        simp only [Bool.false_eq_true, if_false]
        rw [deq, ← deqs_all, List.size_toArray, ← l1, ← m1, hz, Nat.min_self, beq_self_eq_true, Bool.and_true]
      · refine RcAt.lists_lengths t1.isList t2.isList (by simp; first | lia | omega) (by first | lia | omega) _ _ _ _ ⟨.bl _, H, I, ?_, q⟩
        show Value.bool _ = Value.bool _
        have e0 : (ds.len == es.len) = false := by simpa using hz
        simp only [Bool.false_eq_true, if_false]
        rw [deq, ← deqs_all, e0, Bool.and_false]
theorem op_neD {k : Nat} (hr : Room k X.A) : OpR X (compareOp .NotEq) (rEqD X.K true) := by
  intro pins s σ H x y v u Q I rx ry h
  obtain ⟨d, e, hd, he, ⟨a, rfl⟩, ⟨b, rfl⟩, hn, q⟩ := h
  cases rx
  cases ry
  have hu := hr.units
  cases d with
  | «at» p => rw [DIs] at hd; obtain ⟨rfl, hf⟩ := hd; cases hf
  | tup ds =>
    rw [dep] at hn
    rw [DIs] at hd
    obtain ⟨a', xs, e', h1, h2⟩ := hd
    cases e'
    obtain ⟨i1, r1, t1, _⟩ := I.tuple h1
    cases e with
    | «at» p => rw [DIs] at he; obtain ⟨rfl, hf⟩ := he; cases hf
    | tup es =>
      rw [DIs] at he
      obtain ⟨b', ys, e', k1, k2⟩ := he
      cases e'
      obtain ⟨i2, r2, t2, _⟩ := I.tuple k1
      refine RcNeAt.tuples (show s.heap.IsTuple a i1.toArray from t1) (show s.heap.IsTuple b i2.toArray from t2) (by first | lia | omega) (eqItems I h2 k2 r1 r2 (by first | lia | omega) (by first | lia | omega)) _ _ _ _ ⟨.bl _, H, I, ?_, q⟩
      show Value.bool _ = Value.bool _
      rw [List.size_toArray, List.size_toArray, ← r1.length, ← r2.length, ← h2.len, ← k2.len, deqs_all]
      simp only [if_true]
      rw [deq]
    | lst es =>
      rw [DIs] at he
      obtain ⟨b', ys, e', k1, k2⟩ := he
      cases e'
      obtain ⟨i2, r2, t2, _⟩ := I.list k1
      refine RcNeAt.tuple_list (show s.heap.IsTuple a _ from t1) t2.isList (by first | lia | omega) _ _ _ _ ⟨.bl _, H, I, ?_, q⟩
      show Value.bool _ = Value.bool _
      simp only [if_true]
      rw [deq] <;> first | rfl | (intros; simp_all)
  | lst ds =>
    rw [dep] at hn
    rw [DIs] at hd
    obtain ⟨a', xs, e', h1, h2⟩ := hd
    cases e'
    obtain ⟨i1, r1, t1, _⟩ := I.list h1
    cases e with
    | «at» p => rw [DIs] at he; obtain ⟨rfl, hf⟩ := he; cases hf
    | tup es =>
      rw [DIs] at he
      obtain ⟨b', ys, e', k1, k2⟩ := he
      cases e'
      obtain ⟨i2, r2, t2, _⟩ := I.tuple k1
      refine RcNeAt.list_tuple t1.isList (show s.heap.IsTuple b _ from t2) (by first | lia | omega) _ _ _ _ ⟨.bl _, H, I, ?_, q⟩
      show Value.bool _ = Value.bool _
      simp only [if_true]
      rw [deq] <;> first | rfl | (intros; simp_all)
    | lst es =>
      rw [DIs] at he
      obtain ⟨b', ys, e', k1, k2⟩ := he
      cases e'
      obtain ⟨i2, r2, t2, _⟩ := I.list k1
      have l1 := r1.length
      have l2 := r2.length
      have m1 := h2.len
      have m2 := k2.len
      by_cases hz : ds.len = es.len
      · refine RcNeAt.lists t1.isList t2.isList (by simp; first | lia | omega) (by first | lia | omega) (eqItems I h2 k2 r1 r2 (by first | lia | omega) (by first | lia | omega)) _ _ _ _ ⟨.bl _, H, I, ?_, q⟩
        show Value.bool _ = Value.bool _
        simp only [if_true]
        rw [deq, ← deqs_all, List.size_toArray, ← l1, ← m1, hz, Nat.min_self, beq_self_eq_true, Bool.and_true]
      · refine RcNeAt.lists_lengths t1.isList t2.isList (by simp; first | lia | omega) (by first | lia | omega) _ _ _ _ ⟨.bl _, H, I, ?_, q⟩
        show Value.bool _ = Value.bool _
        have e0 : (ds.len == es.len) = false := by simpa using hz
        simp only [if_true]
        rw [deq, ← deqs_all, e0, Bool.and_false]; rfl
end
end L2
namespace L2
open PySem PySem.Spec PyProof.Rows
section
variable {X : Cx} {e st : Expr} {te ts : TE} {pos p2 : Pos}
end
end L2
namespace L2
open PySem PySem.Spec PyProof.Rows
structure MkOk (P : Program) (w : World) (K : PySem.W.Frag) (mg : Str → Option Value) (base : Heap) (k : Nat) (x : Str) (C : Addr) (ps : List Str) (sp : Sp) : Prop where
  ex : ∃ (f : Addr) (fd : FuncData), Mk K C f ∧ FnOk P w K mg base CX0 k f fd ps sp ∧ mg x = some (.ref C) ∧ Binds K fd ps []
structure MdOk (P : Program) (w : World) (K : PySem.W.Frag) (mg : Str → Option Value) (base : Heap) (k : Nat) (C : Addr) (m : Str) (ps : List Str) (sp : Sp) : Prop where
  cl : Cls K C
  ex : ∃ (f : Addr) (fd : FuncData), Meth K C m f ∧ FnOk P w K mg base CX0 k f fd ps sp ∧ Binds K fd ps []
section
variable {X : Cx} {k j : Nat} {x m : Str} {C : Addr} {ps : List Str} {sp : Sp} {p pos apos : Pos} {e o : Expr} {es : List Expr} {t : TA} {ta : TE}
theorem pe_mk (D : MkOk X.prog X.w X.K X.mg X.base k x C ps sp) (hr : Room j X.A) (ha : PA X (e :: es) t) (hj : k + 1 ≤ j := by decide) (hg : Gl X x := by rfl) (hdb : (x == ("__debug__" : Str)) = false := by decide)
    (he : starEach (e :: es) X.env = (false, eval e X.env) :: starEach es X.env := by rfl) (hpl : (backTo pos (starEach es X.env)).any (·.1) = false := by rfl) : PE X (.Call (.Name x p) (e :: es) [] pos) (tMake C sp [] E0 t) := by
  obtain ⟨f, fd, M, F, hm, hb⟩ := D.ex
  exact pe_make M F (hr.mono hj) hg hm hb .nil pass0 ha hdb he hpl
theorem pe_md0 {pl : Sem Bool} (D : MdOk X.prog X.w X.K X.mg X.base k C m ps sp) (hr : Room j X.A) (he : PE X o ta) (hj : k ≤ j := by decide)
    (ht : eval (.Call (.Attribute o m apos) [] [] pos) X.env = (do
      let ov ← eval o X.env
      standAt apos.atName
      let (f, first) ← holding [ov] (getMethod ov m pl)
      callWith pos f first (backTo pos (starEach [] X.env)) (backToKw pos (keywordEach [] X.env))) := by rfl) : PE X (.Call (.Attribute o m apos) [] [] pos) (tMeth C m sp [] E0 ta tNil) := by
  obtain ⟨f, fd, M, F, hb⟩ := D.ex
  exact pe_meth0 he D.cl M F (hr.mono hj) hb .nil pass0 ht
end
section
variable {X : Cx} {K : PySem.W.Frag} {pos : Pos}
theorem pg_tupK {es : List Expr} {k : Nat} {t : TGs} {n : Nat} (hc : X.calm = true) (h : PGs X es t) (hK : X.K = K := by rfl)
    (hn : (assignEach es X.env).length = n := by rfl) (hst : (assignEach es X.env).findIdx? (·.1) = none := by rfl) : PG X (.Tuple es k pos) (gTup K n t) := by
  subst hK; exact pg_tup hc h hn hst
def rTupleOf (K : PySem.W.Frag) : List V → Hp → VK → Prop := fun xs H Q => ∃ p ys, xs = [V.ref p] ∧ ((SqL K H p ys ∧ ∀ l, H l = none → Q (.ref l) (upd H l (.tup ys))) ∨ (SqT K H p ys ∧ Q (.ref p) H))
theorem call_tuple_K (hK : X.K = K := by rfl) : CallR X (.type "tuple") (rTupleOf K) := by subst hK; exact call_tuple_of
end
end L2
namespace GB
open PySem L2
structure Rc where
  t : Int
  l : Int
  b : Int
  r : Int
  deriving DecidableEq
def Rc.ls (p : Rc) : List Int := [p.t, p.l, p.b, p.r]
def Rc.has (p : Rc) (r c : Int) : Prop := p.t ≤ r ∧ r < p.b ∧ p.l ≤ c ∧ c < p.r
def Rc.In (w h : Int) (p : Rc) : Prop := 0 ≤ p.t ∧ p.t < p.b ∧ p.b ≤ h ∧ 0 ≤ p.l ∧ p.l < p.r ∧ p.r ≤ w
def Apart (p q : Rc) : Prop := ∀ r c, p.has r c → q.has r c → False
theorem Apart.symm {p q : Rc} (h : Apart p q) : Apart q p := fun r c a b => h r c b a
structure Tiles (w h : Int) (ps : List Rc) : Prop where
  ins : ∀ p ∈ ps, p.In w h
  dis : ps.Pairwise Apart
  cov : ∀ r c, 0 ≤ r → r < h → 0 ≤ c → c < w → ∃ p ∈ ps, p.has r c
theorem Tiles.perm {w h : Int} {ps qs : List Rc} (T : Tiles w h ps) (e : qs.Perm ps) : Tiles w h qs :=
  ⟨fun p hp => T.ins p (e.mem_iff.mp hp), (e.pairwise_iff (fun {a b} x => Apart.symm x)).mpr T.dis, fun r c a b x y => let ⟨p, hp, z⟩ := T.cov r c a b x y; ⟨p, e.mem_iff.mpr hp, z⟩⟩
/-- the order of rectangles, as one number -/
def key : List Int → Int
  | [a, b, c, d] => ((a * 13 + b) * 13 + c) * 13 + d
  | _ => 0
theorem key_ls (p : Rc) : key p.ls = ((p.t * 13 + p.l) * 13 + p.b) * 13 + p.r := rfl
theorem key_lt {p q : Rc} {w h w' h' : Int} (hp : p.In w h) (hq : q.In w' h') (b1 : w ≤ 12) (b2 : h ≤ 12) (b3 : w' ≤ 12) (b4 : h' ≤ 12) : HT.lexLt p.ls q.ls = decide (key p.ls < key q.ls) := by
  obtain ⟨a1, a2, a3, a4, a5, a6⟩ := hp
  obtain ⟨c1, c2, c3, c4, c5, c6⟩ := hq
  rw [key_ls, key_ls]
  show (if p.t = q.t then (if p.l = q.l then (if p.b = q.b then (if p.r = q.r then false else decide (p.r < q.r)) else decide (p.b < q.b)) else decide (p.l < q.l)) else decide (p.t < q.t)) = _
  repeat' split
  all_goals (first | (apply Eq.symm; rw [decide_eq_false_iff_not]; first | lia | omega) | (rw [decide_eq_decide]; first | lia | omega))
theorem key_inj {p q : Rc} {w h w' h' : Int} (hp : p.In w h) (hq : q.In w' h') (b1 : w ≤ 12) (b2 : h ≤ 12) (b3 : w' ≤ 12) (b4 : h' ≤ 12) (e : key p.ls = key q.ls) : p = q := by
  obtain ⟨a1, a2, a3, a4, a5, a6⟩ := hp
  obtain ⟨c1, c2, c3, c4, c5, c6⟩ := hq
  rw [key_ls, key_ls] at e
  obtain ⟨pt, pl, pb, pr⟩ := p
  obtain ⟨qt, ql, qb, qr⟩ := q
  simp only at *
  have e1 : pt = qt := by first | lia | omega
  subst e1
  have e2 : pl = ql := by first | lia | omega
  subst e2
  have e3 : pb = qb := by first | lia | omega
  subst e3
  have e4 : pr = qr := by first | lia | omega
  subst e4
  rfl
def Srt (ps : List Rc) : Prop := (ps.map fun p => key p.ls).Pairwise (· ≤ ·)
theorem sorted_same {ps qs : List Rc} {w h : Int} (hp : ∀ p ∈ ps, p.In w h) (b1 : w ≤ 12) (b2 : h ≤ 12) (e : ps.Perm qs) (s1 : Srt ps) (s2 : Srt qs) : ps = qs := by
  have hq : ∀ p ∈ qs, p.In w h := fun p x => hp p (e.mem_iff.mpr x)
  have hm := PySem.W.ksm_same (List.Perm.map (fun p : Rc => key p.ls) e) s1 s2
  have len := e.length_eq
  apply List.ext_getElem len
  intro i h1 h2
  have := congrArg (fun l => l[i]?) hm
  simp only [List.getElem?_map, List.getElem?_eq_getElem h1, List.getElem?_eq_getElem h2, Option.map_some, Option.some.injEq] at this
  exact key_inj (hp _ (List.getElem_mem h1)) (hq _ (List.getElem_mem h2)) b1 b2 b1 b2 this
/-- the squares of a rectangle, row by row -/
def rowSq (p : Rc) (i : Nat) (j : Nat) : List (Int × Int) := (List.range j).map fun (k : Nat) => (p.t + (i : Int), p.l + (k : Int))
def sqsN (p : Rc) : Nat → List (Int × Int)
  | 0 => []
  | i + 1 => sqsN p i ++ rowSq p i (p.r - p.l).toNat
def sqs (p : Rc) : List (Int × Int) := sqsN p (p.b - p.t).toNat
theorem mem_rowSq {p : Rc} {i j : Nat} {r c : Int} : (r, c) ∈ rowSq p i j ↔ r = p.t + i ∧ p.l ≤ c ∧ c < p.l + j := by
  unfold rowSq
  rw [List.mem_map]
  constructor
  · rintro ⟨k, hk, e⟩
    have := List.mem_range.mp hk
    cases e
    first | lia | omega
  · rintro ⟨rfl, a, b⟩
    exact ⟨(c - p.l).toNat, List.mem_range.mpr (by first | lia | omega), by rw [show ((c - p.l).toNat : Int) = c - p.l by first | lia | omega]; congr 1; first | lia | omega⟩
theorem mem_sqsN {p : Rc} (h : p.l ≤ p.r) {r c : Int} : ∀ {n : Nat}, (r, c) ∈ sqsN p n ↔ p.t ≤ r ∧ r < p.t + n ∧ p.l ≤ c ∧ c < p.r
  | 0 => by
    simp only [sqsN, List.not_mem_nil, false_iff]
    first | lia | omega
  | n + 1 => by
    rw [sqsN, List.mem_append, mem_sqsN h, mem_rowSq]
    first | lia | omega
theorem mem_sqs {p : Rc} (h : p.l ≤ p.r) (h2 : p.t ≤ p.b) {r c : Int} : (r, c) ∈ sqs p ↔ p.has r c := by
  unfold sqs Rc.has
  rw [mem_sqsN h]
  first | lia | omega
theorem rowSq_nodup (p : Rc) (i j : Nat) : (rowSq p i j).Nodup := by
  unfold rowSq
  rw [List.nodup_iff_pairwise_ne, List.pairwise_map]
  exact (List.nodup_range (n := j)).imp fun {a b} h e => h (by
    have := congrArg Prod.snd e
    simp only at this
    first | lia | omega)
theorem sqsN_nodup {p : Rc} (h : p.l ≤ p.r) : ∀ n, (sqsN p n).Nodup
  | 0 => List.nodup_nil
  | n + 1 => by
    rw [sqsN, List.nodup_append]
    refine ⟨sqsN_nodup h n, rowSq_nodup p n _, fun a ha b hb e => ?_⟩
    subst e
    obtain ⟨r, c⟩ := a
    have h1 := (mem_sqsN h).mp ha
    have h2 := mem_rowSq.mp hb
    first | lia | omega
theorem sqsN_len (p : Rc) : ∀ n, (sqsN p n).length = n * (p.r - p.l).toNat
  | 0 => by simp [sqsN]
  | n + 1 => by rw [sqsN, List.length_append, sqsN_len p n, rowSq, List.length_map, List.length_range, Nat.succ_mul]
theorem rowSq_succ (p : Rc) (i j : Nat) : rowSq p i (j + 1) = rowSq p i j ++ [(p.t + (i : Int), p.l + (j : Int))] := by
  unfold rowSq
  rw [List.range_succ, List.map_append]
  rfl
/-- few rectangles reach the bottom row -/
theorem nodup_bound : ∀ (n : Nat) (xs : List Int), xs.Nodup → (∀ x ∈ xs, 0 ≤ x ∧ x < n) → xs.length ≤ n
  | 0, xs, _, h => by
    cases xs with
    | nil => exact Nat.le_refl _
    | cons x r => have := h x List.mem_cons_self; first | lia | omega
  | n + 1, xs, hn, h => by
    have h2 : (xs.filter fun x => decide (x ≠ (n : Int))).length ≤ n := nodup_bound n _ (hn.filter _) fun x hx => by
      obtain ⟨h1, h2⟩ := List.mem_filter.mp hx
      have := h x h1
      have h3 : x ≠ (n : Int) := of_decide_eq_true h2
      first | lia | omega
    have h3 : xs.length ≤ (xs.filter fun x => decide (x ≠ (n : Int))).length + 1 := by
      have key : ∀ (ys : List Int), ys.Nodup → ys.length ≤ (ys.filter fun x => decide (x ≠ (n : Int))).length + 1 := by
        intro ys
        induction ys with
        | nil => intro _; simp
        | cons y r ih =>
          intro hy
          obtain ⟨h4, h5⟩ := List.nodup_cons.mp hy
          by_cases e : y = (n : Int)
          · have e2 : (r.filter fun x => decide (x ≠ (n : Int))) = r := by
              rw [List.filter_eq_self]
              intro x hx
              exact decide_eq_true fun z => h4 (by rw [e, ← z]; exact hx)
            rw [List.filter_cons, if_neg (by simp [e]), e2, List.length_cons]; exact Nat.le_refl _
          · rw [List.filter_cons, if_pos (by simpa using e), List.length_cons, List.length_cons]
            have := ih h5
            first | lia | omega
      exact key xs hn
    first | lia | omega
theorem bottom_few {w h : Int} {ps : List Rc} (hi : ∀ p ∈ ps, p.In w h) (hb : ∀ p ∈ ps, p.b = h) (hd : ps.Pairwise Apart) : ps.length ≤ w.toNat := by
  have e : ps.length = (ps.map (·.l)).length := by rw [List.length_map]
  rw [e]
  refine nodup_bound _ _ ?_ fun x hx => ?_
  · rw [List.nodup_iff_pairwise_ne, List.pairwise_map]
    refine List.Pairwise.imp_of_mem (fun {p q} hp hq ha z => ?_) hd
    obtain ⟨a1, a2, a3, a4, a5, a6⟩ := hi p hp
    obtain ⟨c1, c2, c3, c4, c5, c6⟩ := hi q hq
    have := hb p hp
    have := hb q hq
    exact ha (h - 1) p.l ⟨by first | lia | omega, by first | lia | omega, by first | lia | omega, by first | lia | omega⟩ ⟨by first | lia | omega, by first | lia | omega, by first | lia | omega, by first | lia | omega⟩
  · obtain ⟨p, hp, rfl⟩ := List.mem_map.mp hx
    obtain ⟨a1, a2, a3, a4, a5, a6⟩ := hi p hp
    first | lia | omega
end GB
namespace L2
open PySem PySem.Spec PyProof.Rows
section
variable {prog : Program} {w : World} {A : Around} {E : Value → Shared → Prop} {h : Heap} {g : Array GenState} {d : Drawn} {t : Nat} {os : OsState}
  {nm qn : Str} {C N : Addr} {bs bm bmB : List Value} {hdct : Bool} {sn : List Str} {sub : List Value} {ab : Bool} {col : Option Bool} {dd : Option Addr} {k0 k1 k2 k3 k5 : Option Value} {B newId initId : String}
/-- the heap behind the making: the tuple of the arguments, then the exception -/
def rawExc (h : Heap) (C : Addr) (rest : List Value) : Heap := (h.push { cls := .type "tuple", data := .seq rest.toArray }).push { cls := .ref C, data := .fields #[.ref h.objs.size, .none, .none, .none, .bool false, .none] }
theorem rawExc_keep {C : Addr} {rest : List Value} {b : Addr} {o : Obj} (e : h.get? b = some o) : (rawExc h C rest).get? b = some o := Heap.get?_push_of_some _ (Heap.get?_push_of_some _ e)
theorem rawExc_at (C : Addr) (rest : List Value) : (rawExc h C rest).get? (h.objs.size + 1) = some { cls := .ref C, data := .fields #[.ref h.objs.size, .none, .none, .none, .bool false, .none] } := by
  unfold rawExc; heap_get
theorem type_call_excT (F : ExcBaseFacts B newId initId bmB) (T : OwnTail h bmB bm) {mN : Str → Option Value} {rest : List Value} {fI : Addr} {oI : Obj} {Q : Fin → Shared → Prop}
    (hC : h.get? C = some (excClassObj nm qn C N bs bm hdct sn sub ab col dd k0 k1 k2 k3 k5 newId)) (hn : h.Ns N mN) (hi : mN "__init__" = some (.ref fI)) (hfI : h.get? fI = some oI) (hfc : oI.cls = .type "function") (hrest : rest.length ≤ sizeLine)
    (hq : wpAny (model prog w) A (call (.ref fI) (.ref (h.objs.size + 1) :: rest)) (fun r s' => r = .none ∧ Q (.done (.ret (.ref (h.objs.size + 1)))) s') E ⟨rawExc h C rest, g, d, t, os⟩) :
    wpAny (model prog w) A (Builtin.«type.__call__» ⟨.ref C :: rest, []⟩) Q E ⟨h, g, d, t, os⟩ := by
  repeat (first | with_reducible refine wpAny_loadPart_at hC ?_ | with_reducible refine wpAny_madeBy_exc hC ?_ | wp_step)
  refine codeAny_call_builtin_code (Code.quiet_builtin _ F.quiet) (wpAny_check_new_subT F T hC (codeAny_exc_new_subT F T hC ?_ hrest))
  show wpAny _ _ _ _ _ ⟨rawExc h C rest, g, d, t, os⟩
  have c1 : (rawExc h C rest).get? C = _ := rawExc_keep hC
  have n1 : (rawExc h C rest).Ns N mN := let ⟨o, es, ep, e, r⟩ := hn; ⟨o, es, ep, rawExc_keep e, r⟩
  have e1 := rawExc_at (h := h) C rest
  have T1 : OwnTail (rawExc h C rest) bmB bm := T.keeps fun _ _ e => rawExc_keep e
  have cc : (Value.ref C :: bm).contains (.ref C) = true := by simp
  unfold isInstance
  repeat (first | with_reducible refine wpAny_loadPart_at e1 ?_ | (with_reducible refine wpAny_isSubtype_exc c1 ?_; rw [cc]) | wp_step)
  show wpAny _ _ (typeLookup (.ref C) _) _ _ _
  refine wpAny_typeLookup_tail c1 n1 T1 F.mroIs F.init.lookup ?_
  rw [hi]
  refine wpAny_holding (wpAny_bind ?_)
  unfold bindSpecial
  refine wpAny_bind (wpAny_typeOf (T := "function") ⟨_, rawExc_keep hfI, hfc⟩ ?_)
  rw [if_pos (by decide)]
  refine wpAny_pure (wpAny_bind (wpAny_mono hq (fun r s' hr => ?_) fun _ _ x => x))
  obtain ⟨rfl, hQ⟩ := hr
  wp_walk
  exact hQ
theorem call_excT (F : ExcBaseFacts B newId initId bmB) (T : OwnTail h bmB bm) {mN : Str → Option Value} {rest : List Value} {fI : Addr} {oI : Obj} {Q : Value → Shared → Prop}
    (hC : h.get? C = some (excClassObj nm qn C N bs bm hdct sn sub ab col dd k0 k1 k2 k3 k5 newId)) (hn : h.Ns N mN) (hi : mN "__init__" = some (.ref fI)) (hfI : h.get? fI = some oI) (hfc : oI.cls = .type "function") (hrest : rest.length ≤ sizeLine)
    (hq : wpAny (model prog w) (A.under (.builtin "type.__call__" ⟨.ref C :: rest, []⟩)) (call (.ref fI) (.ref (h.objs.size + 1) :: rest)) (fun r s' => r = .none ∧ Q (.ref (h.objs.size + 1)) s') E ⟨rawExc h C rest, g, d, t, os⟩) :
    wpAny (model prog w) A (call (.ref C) rest) Q E ⟨h, g, d, t, os⟩ := by
  have l1 := tc_lookup
  have l2 := tc_bind (.ref C)
  have ty : (⟨h, g, d, t, os⟩ : Shared).TypeIs (.ref C) "type" := ⟨_, hC, rfl⟩
  refine wpAny_call (codeAny_of_tree ?_)
  show wpAny _ _ (callAny (.ref C) _) _ _ _
  repeat (any_goals (first | assumption | with_reducible refine wpAny_loadPart_at hC ?_ | wp_step))
  exact ⟨rfl, codeAny_call_builtin_at (Code.quiet_builtin _ (by decide +kernel)) entry_typeCall (wpAny_check_type_call_sub hC (type_call_excT F T hC hn hi hfI hfc hrest hq))⟩
end
end L2
namespace L2
open PySem PySem.Spec PyProof.Rows PySem.W PySem.Builtin PySem.Builtin.ObjectAttr
def vErr : List Value := [.type "ValueError", .type "Exception", .type "BaseException", .type "object"]
def excMro : List Value → Bool
  | [] => false
  | x :: r => (match x with | .ref _ => excMro r | _ => false) || (x :: r == vErr)
theorem refuse_exc (self : Value) : ∀ {l : List Value}, excMro l = true → refuseLoop self "__setattr__" l = pure ()
  | [], e => by cases e
  | x :: r, e => by
    unfold excMro at e
    rw [Bool.or_eq_true] at e
    rcases e with e | e
    · cases x <;> first | (rw [refuseLoop_ref]; exact refuse_exc self e) | cases e
    · rw [show x :: r = vErr from beq_iff_eq.mp e]
      exact PySem.F.store_ValueError.passes self
theorem exc_has {T : String} (hT : vErr.contains (.type T) = true) : ∀ {l : List Value}, excMro l = true → l.contains (.type T) = true
  | [], e => by cases e
  | x :: r, e => by
    unfold excMro at e
    rw [Bool.or_eq_true] at e
    rcases e with e | e
    · cases x <;> first | (rw [List.contains_cons, exc_has hT e, Bool.or_true]) | cases e
    · rw [show x :: r = vErr from beq_iff_eq.mp e]; exact hT
def excIn (K : Frag) (C : Addr) : Bool := (clsIn K C).any fun cd => excMro cd.mro
section
variable {prog : Program} {w : World} {A : Around} {E : Value → Shared → Prop} {R : Result → Shared → Prop} {s : Shared} {K : Frag} {x C : Addr} {ox : Obj} {od : Option Obj} {name : Str} {tk : Tok} {v : Value}
theorem osa_exc (X : K.In s.heap) (I : InstAt s.heap x ox C od) (hp : excIn K C = true) (ht : findIn K (.ref C) name = some none)
    (h : wpAny (model prog w) A.in1 (storeInOwnDict (.ref x) (.ref C) (.str name tk) name v false)
      (fun fin s' => match fin with | .done f => R (.ok f) s' | .again c' => c'.quiet = true ∧ codeAny (model prog w) A c' R s') (fun e s' => R (.error e) s') s) :
    codeAny (model prog w) A (.call (.builtin "object.__setattr__") ⟨[.ref x, .str name tk, v], []⟩) R s := by
  have SF := PySem.F.store_object
  obtain ⟨cd, hc, ho⟩ := any_some hp
  have ne : cd.mro.isEmpty = false := by cases q : cd.mro with | nil => rw [q] at ho; cases ho | cons _ _ => rfl
  have tO : Looks (model prog w) s.heap (isInstance (.ref x) (.type "object")) true := I.type.andThen (looks_mroIn X (by
    unfold mroIn
    rw [hc, Option.bind_some, ne]
    show some (cd.mro.contains (.type "object")) = some true
    rw [exc_has (by decide +kernel) ho]))
  have tM : Looks (model prog w) s.heap (mroOf (.ref C)) cd.mro := (looks_clsIn X hc).andThen .now
  refine codeAny_call_builtin SF.slot.plain SF.entry (@check_slot (model prog w) _ _ s "object.__setattr__" "object" "__setattr__" (.ref x) [.str name tk, v] [] _ SF.kind SF.split tO (SF.args (.ref x) (.str name tk) v) ?_)
  rw [osa_eq, refuse_eq]
  refine wpAny_bind (wpAny_bind (I.type.here (wpAny_bind (tM.here ?_))))
  rw [refuse_exc _ ho]
  exact wpAny_pure (wpAny_bind (I.type.here (wpAny_bind ((looks_findIn X ht).here (wpAny_bind (wpAny_pure h))))))
/-- the first attribute: the refusal gets its dict -/
theorem set_exc0 {vs : Array Value} {sl : Array (Option Value)} {Q : Unit → Shared → Prop} (X : K.In s.heap) (hx : s.heap.get? x = some ⟨.ref C, none, .fields vs, sl⟩) (hs : findIn K (.ref C) "__setattr__" = some (some (.builtin "object.__setattr__")))
    (hp : excIn K C = true) (hh : hasDictIn K C = true) (ht : findIn K (.ref C) name = some none)
    (h : ∀ h', h'.get? x = some ⟨.ref C, some s.heap.objs.size, .fields vs, sl⟩ → h'.Ns1 s.heap.objs.size (fun y => if y = name then some v else none) → (∀ b o, b ≠ x → s.heap.get? b = some o → h'.get? b = some o) → Q () { s with heap := h', toks := s.toks + 2 }) :
    wpAny (model prog w) A (setAttr (.ref x) name v) Q E s := by
  have I : InstAt s.heap x ⟨.ref C, none, .fields vs, sl⟩ C none := ⟨hx, rfl, rfl, trivial⟩
  obtain ⟨cd, hc, hd'⟩ := any_some hh
  have nx : x ≠ s.heap.objs.size := Nat.ne_of_lt (Heap.lt_size hx)
  refine set_plain X I hs (osa_exc (s := { s with toks := s.toks + 1 }) X I hp ht ?_)
  refine wpAny_bind (wpAny_pure (wpAny_bind (wpAny_bind (wpAny_loadPart hx (wpAny_bind (Looks.here (s := { s with toks := s.toks + 1 }) (looks_clsIn X hc) ?_))))))
  rw [hd']
  refine wpAny_bind (wpAny_alloc (wpAny_bind (wpAny_update (Heap.get?_push_of_some _ hx) (wpAny_pure ?_))))
  generalize hH : (s.heap.push { cls := .type "dict", data := .dict #[] }).update x (fun o => { o with dict := some s.heap.objs.size }) = H1
  have hx1 : H1.get? x = some ⟨.ref C, some s.heap.objs.size, .fields vs, sl⟩ := by
    rw [← hH]; exact Heap.get?_update_self _ (Heap.get?_push_of_some _ hx) rfl
  have hd1 : H1.get? s.heap.objs.size = some { cls := .type "dict", data := .dict #[] } := by
    rw [← hH, Heap.get?_update_ne _ _ _ _ (Ne.symm nx)]; exact Heap.get?_push_size _ rfl
  have hk1 : ∀ b o, b ≠ x → s.heap.get? b = some o → H1.get? b = some o := fun b o hb e => by
    rw [← hH, Heap.get?_update_ne _ _ _ _ hb]; exact Heap.get?_push_of_some _ e
  have hn1 : H1.Ns1 s.heap.objs.size (fun _ => none) := Heap.Ns1.of_empty ⟨_, #[], _, hd1, rfl, fun e he => absurd he (by simp), fun _ => rfl⟩
  refine wpAny_bind (wpAny_pure (wpAny_bind (wpAny_nsSet1 (s := { s with heap := H1, toks := s.toks + 1 }) hn1 fun h' hn2 hs2 => ?_)))
  obtain ⟨oD, esD, epD, hoD, hdD, hcD⟩ := hn2.count (Within.cons name v Within.nil)
  refine wpAny_bind (wpAny_lookBehind hoD (by rw [hdD]; exact pastItsLine_dict (Nat.le_trans hcD (by rw [List.length_cons, List.length_nil, sizeLine_eq]; first | lia | omega))) ?_)
  exact wpAny_pure (h _ ((hs2.2 _ nx).trans hx1) hn2 fun b o hb e => (hs2.2 _ (Nat.ne_of_lt (Heap.lt_size e))).trans (hk1 b o hb e))
/-- a further one -/
theorem set_exc {vs : Array Value} {sl : Array (Option Value)} {dx : Addr} {mA : Str → Option Value} {ns : List Str} {Q : Unit → Shared → Prop} (X : K.In s.heap) (hx : s.heap.get? x = some ⟨.ref C, some dx, .fields vs, sl⟩) (hn : s.heap.Ns1 dx mA) (hne : dx ≠ x)
    (hs : findIn K (.ref C) "__setattr__" = some (some (.builtin "object.__setattr__"))) (hp : excIn K C = true) (hh : hasDictIn K C = true) (ht : findIn K (.ref C) name = some none) (hw : PySem.Within mA ns) (hsz : ns.length ≤ sizeLine)
    (h : ∀ h', h'.get? x = some ⟨.ref C, some dx, .fields vs, sl⟩ → h'.Ns1 dx (fun y => if y = name then some v else mA y) → Heap.SameBut dx s.heap h' → Q () { s with heap := h', toks := s.toks + 2 }) :
    wpAny (model prog w) A (setAttr (.ref x) name v) Q E s := by
  obtain ⟨od, ho⟩ : ∃ o, s.heap.get? dx = some o := let ⟨o, _, _, e, _⟩ := hn; ⟨o, e⟩
  have I : InstAt s.heap x ⟨.ref C, some dx, .fields vs, sl⟩ C (some od) := ⟨hx, rfl, rfl, ho⟩
  obtain ⟨cd, hc, hd'⟩ := any_some hh
  refine set_plain X I hs (osa_exc (s := { s with toks := s.toks + 1 }) X I hp ht ?_)
  refine wpAny_bind (wpAny_pure (wpAny_bind (wpAny_bind (wpAny_loadPart hx (wpAny_bind (Looks.here (s := { s with toks := s.toks + 1 }) (looks_clsIn X hc) ?_))))))
  rw [hd']
  refine wpAny_pure (a := some dx) (wpAny_bind (wpAny_pure (wpAny_bind (wpAny_nsSet1 (s := { s with toks := s.toks + 1 }) hn fun h' hn2 hs2 => ?_))))
  obtain ⟨oD, esD, epD, hoD, hdD, hcD⟩ := hn2.count (Within.cons name v hw)
  refine wpAny_bind (wpAny_lookBehind hoD (by rw [hdD]; exact pastItsLine_dict (Nat.le_trans hcD (by rw [List.length_cons]; first | lia | omega))) ?_)
  exact wpAny_pure (h _ ((hs2.2 _ (Ne.symm hne)).trans hx) hn2 hs2)
end
end L2
namespace L2
open PySem PySem.Spec PyProof.Rows PySem.W PySem.Builtin PySem.Builtin.ObjectAttr
section
variable {prog : Program} {w : World} {A : Around} {E : Value → Shared → Prop} {R : Result → Shared → Prop} {s : Shared} {K : Frag} {x C : Addr} {ox : Obj} {od : Option Obj} {name : Str} {tk : Tok} {v : Value} {expr : Bool}
theorem ga_code (X : K.In s.heap) (I : InstAt s.heap x ox C od) (hp : L2.excIn K C = true)
    (h : wpAny (model prog w) A.in1 (Builtin.«object.__getattribute__» ⟨[.ref x, .str name tk], []⟩)
      (fun fin s' => match fin with | .done f => R (.ok f) s' | .again c' => c'.quiet = true ∧ codeAny (model prog w) A c' R s') (fun e s' => R (.error e) s') s) :
    codeAny (model prog w) A (.call (.builtin "BaseException.__getattribute__") ⟨[.ref x, .str name tk], []⟩) R s := by
  obtain ⟨cd, hc, ho⟩ := any_some hp
  have ne : cd.mro.isEmpty = false := by cases q : cd.mro with | nil => rw [q] at ho; cases ho | cons _ _ => rfl
  have tB : Looks (model prog w) s.heap (isInstance (.ref x) (.type "BaseException")) true := I.type.andThen (looks_mroIn X (by
    unfold mroIn
    rw [hc, Option.bind_some, ne]
    show some (cd.mro.contains (.type "BaseException")) = some true
    rw [exc_has (by decide +kernel) ho]))
  exact codeAny_call_builtin PySem.F.attrBase_ValueError.ga.plain PySem.F.entry_bexc_ga (@check_slot (model prog w) _ _ s "BaseException.__getattribute__" "BaseException" "__getattribute__" (.ref x) [.str name tk] [] _ (by decide +kernel) (by decide +kernel) tB (PySem.F.args_bexc_ga (.ref x) (.str name tk)) h)
theorem ga_by (X : K.In s.heap) (I : InstAt s.heap x ox C od) (hp : L2.excIn K C = true) (hga : findIn K (.ref C) "__getattribute__" = some (some (.builtin "BaseException.__getattribute__"))) (hk : findIn K (.ref C) "__getattr__" = some none) {fill : Bool} {Q : Value → Shared → Prop}
    (h : wpAny (model prog w) A.in1 (Builtin.«object.__getattribute__» ⟨[.ref x, .str name tk], []⟩)
      (fun fin s' => match fin with | .done (.ret v) => wpAny (model prog w) A (handedOut v) Q E s' | _ => False) (fun _ _ => False) s) :
    wpAny (model prog w) A (getAttrBy (.ref x) (.str name tk) fill expr) Q E s := by
  have L0 := I.type (M := model prog w)
  have L1 := looks_findIn (M := model prog w) X hga
  have L2 := looks_findIn (M := model prog w) X hk
  unfold getAttrBy
  refine wpAny_holding (wpAny_bind (L0.here (wpAny_bind (L1.here ?_))))
  show wpAny _ _ (getAttrByItsOwn (.ref x) (.str name tk) (.ref C) (.builtin "BaseException.__getattribute__") fill expr) _ _ _
  unfold getAttrByItsOwn hookBefore callGetattribute boundAndCalled
  refine wpAny_bind (L2.here ?_)
  refine wpAny_bind (wpAny_attempt (wpAny_holding ?_))
  rw [show (expr && onTheHeap (Value.builtin "BaseException.__getattribute__")) = false from by cases expr <;> rfl, if_neg Bool.false_ne_true]
  refine wpAny_bind (wpAny_of_eq (PySem.F.attrBase_ValueError.ga.bind _) ?_)
  refine wpAny_call (ga_code X I hp (wpAny_mono h (fun fin s' z => ?_) fun _ _ z => z.elim))
  rcases fin with (_ | _ | _ | _) | _ <;> first | exact z.elim | exact z
theorem get_exc {Q : Value → Shared → Prop} (X : K.In s.heap) (I : InstAt s.heap x ox C od) (hp : L2.excIn K C = true) (hga : findIn K (.ref C) "__getattribute__" = some (some (.builtin "BaseException.__getattribute__"))) (hk : findIn K (.ref C) "__getattr__" = some none)
    (hf : findObj K C od name = some (.value v)) (hh : handedIn v = true) (h : Q v { s with toks := s.toks + 1 }) : wpAny (model prog w) A (getAttr (.ref x) name expr) Q E s := by
  unfold getAttr
  refine wpAny_bind (wpAny_mkText (ga_by (s := { s with toks := s.toks + 1 }) X I hp hga hk ?_))
  have L0 := I.type (M := model prog w)
  have L1 := looks_find (M := model prog w) X I hf
  refine wpAny_bind (wpAny_of_eq (show slotArgs "__getattribute__" 1 ⟨[.ref x, .str name s.toks], []⟩ = pure (.ref x, [.str name s.toks]) from rfl) ?_)
  refine wpAny_bind (wpAny_pure (wpAny_bind (Looks.here (s := { s with toks := s.toks + 1 }) L0 (wpAny_bind (Looks.here (s := { s with toks := s.toks + 1 }) L1 ?_)))))
  refine wpAny_pure ?_
  show wpAny _ _ (handedOut v) _ _ _
  rw [handedOut_of hh]; exact wpAny_pure h
theorem class_exc {Q : Option Value → Shared → Prop} (X : K.In s.heap) (I : InstAt s.heap x ox C od) (hp : L2.excIn K C = true) (hga : findIn K (.ref C) "__getattribute__" = some (some (.builtin "BaseException.__getattribute__"))) (hk : findIn K (.ref C) "__getattr__" = some none)
    (hf : findObj K C od "__class__" = some (.bind (.builtin "getset_descriptor.__get__") (.builtin "object.__class__"))) (hm : mroIn K C (.type "object") = some true) (h : Q (some (.ref C)) { s with toks := s.toks + 1 }) : wpAny (model prog w) A (getAttr? (.ref x) "__class__") Q E s := by
  unfold getAttr? getAttrBy?
  refine wpAny_bind (wpAny_mkText (wpAny_bind (wpAny_attempt (ga_by (s := { s with toks := s.toks + 1 }) X I hp hga hk ?_))))
  have L0 := I.type (M := model prog w)
  have L1 := looks_find (M := model prog w) X I hf
  refine wpAny_bind (wpAny_of_eq (show slotArgs "__getattribute__" 1 ⟨[.ref x, .str "__class__" s.toks], []⟩ = pure (.ref x, [.str "__class__" s.toks]) from rfl) ?_)
  refine wpAny_bind (wpAny_pure (wpAny_bind (Looks.here (s := { s with toks := s.toks + 1 }) L0 (wpAny_bind (Looks.here (s := { s with toks := s.toks + 1 }) L1 ?_)))))
  show wpAny _ _ (holding [.builtin "object.__class__"] (call (.builtin "getset_descriptor.__get__") [.builtin "object.__class__", .ref x, .ref C]) >>= ret) _ _ _
  refine wpAny_bind (wpAny_holding (wpAny_call (class_get (s := { s with toks := s.toks + 1 }) (ox := ox) (od := od) X I hm ?_)))
  exact wpAny_pure (handed_on rfl (wpAny_pure h))
end
end L2
namespace L2
open PySem PySem.Spec PyProof.Rows PySem.W
def ExcN (C x : Addr) : HO := .ext fun h => ∃ vs sl, h.get? x = some ⟨.ref C, none, .fields vs, sl⟩ ∧ vs[1]? = some Value.none
def ExcO (C dx x : Addr) : HO := .ext fun h => ∃ vs sl, h.get? x = some ⟨.ref C, some dx, .fields vs, sl⟩ ∧ vs[1]? = some Value.none
/-- .. that has been raised -/
def ExcT (C : Addr) (d : Option Addr) (x T : Addr) : HO := .ext fun h => ∃ vs sl, h.get? x = some ⟨.ref C, d, .fields vs, sl⟩ ∧ vs[1]? = some (.ref T)
def ExcD (dx : Addr) (fs : List (Str × V)) : HO := .ext fun h => ∃ mA, h.Ns1 dx mA ∧ (∀ f, RelO (fs.lookup f) (mA f)) ∧ PySem.Within mA (fs.map (·.1))
section
variable {P : Program} {w : World} {H : Hp} {h : Heap} {x C dx : Addr} {fs : List (Str × V)}
theorem excN_ok {vs : Array Value} {sl : Array (Option Value)} (e : h.get? x = some ⟨.ref C, none, .fields vs, sl⟩) (f : vs[1]? = some Value.none) : ObjOk P w H h x (ExcN C x) :=
  ⟨⟨vs, sl, e, f⟩, ⟨_, e⟩, fun _ _ ⟨vs, sl, e, f⟩ k => ⟨vs, sl, k _ e, f⟩⟩
theorem excO_ok {vs : Array Value} {sl : Array (Option Value)} (e : h.get? x = some ⟨.ref C, some dx, .fields vs, sl⟩) (f : vs[1]? = some Value.none) : ObjOk P w H h x (ExcO C dx x) :=
  ⟨⟨vs, sl, e, f⟩, ⟨_, e⟩, fun _ _ ⟨vs, sl, e, f⟩ k => ⟨vs, sl, k _ e, f⟩⟩
theorem excT_ok {d : Option Addr} {T : Addr} {vs : Array Value} {sl : Array (Option Value)} (e : h.get? x = some ⟨.ref C, d, .fields vs, sl⟩) (f : vs[1]? = some (.ref T)) : ObjOk P w H h x (ExcT C d x T) :=
  ⟨⟨vs, sl, e, f⟩, ⟨_, e⟩, fun _ _ ⟨vs, sl, e, f⟩ k => ⟨vs, sl, k _ e, f⟩⟩
theorem excD_ok {mA : Str → Option Value} (n : h.Ns1 dx mA) (r : ∀ f, RelO (fs.lookup f) (mA f)) (wi : PySem.Within mA (fs.map (·.1))) : ObjOk P w H h dx (ExcD dx fs) :=
  ⟨⟨mA, n, r, wi⟩, let ⟨o, _, _, e, _⟩ := n; ⟨o, e⟩, fun _ _ ⟨mA, n, r, wi⟩ k => ⟨mA, n.at k, r, wi⟩⟩
end
/-- what is asked of a refusal's class -/
structure XCls (K : Frag) (C : Addr) : Prop where
  ga : findIn K (.ref C) "__getattribute__" = some (some (.builtin "BaseException.__getattribute__"))
  gh : findIn K (.ref C) "__getattr__" = some none
  hd : hasDictIn K C = true
  sa : findIn K (.ref C) "__setattr__" = some (some (.builtin "object.__setattr__"))
  ex : L2.excIn K C = true
  ca : findIn K (.ref C) "__class__" = some (some (.builtin "object.__class__"))
  gn : specialIn K (.builtin "object.__class__") "__get__" = some (some (.builtin "getset_descriptor.__get__"))
  tk : takesIn K (.builtin "object.__class__") = some true
  mo : mroIn K C (.type "object") = some true
def xclsB (K : Frag) (C : Addr) : Bool := (findIn K (.ref C) "__getattribute__" == some (some (.builtin "BaseException.__getattribute__"))) && (findIn K (.ref C) "__getattr__" == some none) && hasDictIn K C && (findIn K (.ref C) "__setattr__" == some (some (.builtin "object.__setattr__"))) && L2.excIn K C &&
  (findIn K (.ref C) "__class__" == some (some (.builtin "object.__class__"))) && (specialIn K (.builtin "object.__class__") "__get__" == some (some (.builtin "getset_descriptor.__get__"))) &&
  (takesIn K (.builtin "object.__class__") == some true) && (mroIn K C (.type "object") == some true)
theorem XCls.of {K : Frag} {C : Addr} (h : xclsB K C = true) : XCls K C := by
  unfold xclsB at h
  simp only [Bool.and_eq_true, beq_iff_eq] at h
  obtain ⟨⟨⟨⟨⟨⟨⟨⟨a, a'⟩, b⟩, c⟩, d⟩, e⟩, f⟩, g⟩, i⟩ := h
  exact ⟨a, a', b, c, d, e, f, g, i⟩
section
variable {X : Cx} {pins : List (Addr × Obj)} {σ : St} {H : Hp} {s : Shared} {a C dx : Addr} {fs : List (Str × V)} {f : Str} {v : V} {A : Around} {E : Value → Shared → Prop}
theorem ext_ne_own {φ : Heap → Prop} {b c : Addr} (h : H b = some (.ext φ)) : H b ≠ some (.own c) := fun e => by rw [h] at e; cases e
theorem setexc0_ok {y : V} {u : Value} {Q : Unit → Shared → Prop} (I : Inv X pins σ H s) (e : H a = some (ExcN C a)) (c : XCls X.K C) (n : NoAttr X.K C f) (ry : RelV y u)
    (h : ∀ s' d, H d = none → Inv X pins σ (upd (upd H d (ExcD d [(f, y)])) a (ExcO C d a)) s' → Q () s') : wpAny (model X.prog X.w) A (setAttr (.ref a) f u) Q E s := by
  obtain ⟨⟨vs, sl, hx, hv1⟩, _⟩ := (show ObjOk X.prog X.w H s.heap a (ExcN C a) from I.hok a _ e)
  refine set_exc0 I.kIn hx c.sa c.ex c.hd n fun h' h1 h2 k => ?_
  have hn : H s.heap.objs.size = none := I.hok.fresh (Nat.le_refl _)
  have nea : s.heap.objs.size ≠ a := Ne.symm (ne_of_none e hn)
  refine h _ s.heap.objs.size hn ?_
  have e' : ∀ b o, H b = some o → b ≠ s.heap.objs.size := fun b o q => ne_of_none q hn
  have lt : ∀ b o, s.heap.get? b = some o → b ≠ s.heap.objs.size := fun b o q => Nat.ne_of_lt (Heap.lt_size q)
  have na : ∀ b o, H b = some o → (∀ φ, o ≠ .ext φ) → b ≠ a := fun b o q z t => by subst t; rw [e] at q; cases q; exact z _ rfl
  refine I.un (h' := h') (t' := s.toks + 2) ⟨fun b o q m _ _ => k b o (fun z => by rw [z, e] at m; cases m) q, fun b o q m _ _ => ⟨o.slots, k b o (fun z => by rw [z, e] at m; cases m) q⟩,
    fun b o q m _ => by rw [upd_ne (fun z => by rw [z, e] at m; cases m), upd_ne (lt b o q)]; exact m, fun b o q _ => ?_, fun b xs q => by rw [upd_ne (na b _ q (fun φ z => by cases z)), upd_ne (e' b _ q)]; exact q,
    fun b o u q => by rw [upd_ne (na b _ q (fun φ z => by cases z)), upd_ne (e' b _ q)]; exact q, fun b ps q => ⟨#[], by rw [upd_ne (na b _ q (fun φ z => by cases z)), upd_ne (e' b _ q), q]; simp⟩⟩ fun b o q => ?_
  · by_cases hb : b = a
    · subst hb; exact ⟨_, h1⟩
    · exact ⟨o, k b o hb q⟩
  · by_cases hb : b = a
    · subst hb; rw [upd_same] at q; cases q; exact excO_ok h1 hv1
    · rw [upd_ne hb] at q
      by_cases hd : b = s.heap.objs.size
      · subst hd; rw [upd_same] at q; cases q
        refine excD_ok h2 (fun g => ?_) fun g hg => ?_
        · show RelO (List.lookup g [(f, y)]) (if g = f then some u else none)
          by_cases q : g = f
          · have hb : (g == f) = true := beq_iff_eq.mpr q
            rw [if_pos q]; simp only [List.lookup, hb]; exact ry
          · have hb : (g == f) = false := beq_eq_false_iff_ne.mpr q
            rw [if_neg q]; simp only [List.lookup, hb]; exact True.intro
        · by_cases q : g = f
          · rw [q]; simp
          · exact absurd (if_neg q) hg
      · rw [upd_ne hd] at q
        refine (I.hok b o q).stay (fun cc w' hc z => k cc w' ?_ z) (fun cc z => ?_) fun cc xs z => ?_
        · rcases hc with rfl | hc
          · exact hb
          · exact fun t => ext_ne_own e (t ▸ hc)
        · rw [upd_ne (fun t => ext_ne_own e (t ▸ z)), upd_ne (e' cc _ z)]; exact z
        · rw [upd_ne (na cc _ z (fun φ t => by cases t)), upd_ne (e' cc _ z)]; exact z
theorem setexc_ok {y : V} {u : Value} {Q : Unit → Shared → Prop} (I : Inv X pins σ H s) (e : H a = some (ExcO C dx a)) (ed : H dx = some (ExcD dx fs)) (c : XCls X.K C) (n : NoAttr X.K C f) (hl : fs.length < 1000) (ry : RelV y u)
    (h : ∀ s', Inv X pins σ (upd H dx (ExcD dx (putF f y fs))) s' → Q () s') : wpAny (model X.prog X.w) A (setAttr (.ref a) f u) Q E s := by
  obtain ⟨⟨vs, sl, hx, _⟩, _⟩ := (show ObjOk X.prog X.w H s.heap a (ExcO C dx a) from I.hok a _ e)
  obtain ⟨⟨mA, hn, r, wi⟩, _⟩ := (show ObjOk X.prog X.w H s.heap dx (ExcD dx fs) from I.hok dx _ ed)
  have hne : dx ≠ a := fun z => by
    subst z
    obtain ⟨o, es, ep, ho, hd, _⟩ := hn
    rw [hx] at ho
    cases ho
    cases hd
  have hz : (fs.map (·.1)).length ≤ sizeLine := by rw [List.length_map, sizeLine_eq]; first | lia | omega
  refine set_exc I.kIn hx hn hne c.sa c.ex c.hd n wi hz fun h' h1 h2 sb => h _ ?_
  have hd : ∃ o, h'.get? dx = some o := let ⟨o, _, _, e', _⟩ := h2; ⟨o, e'⟩
  refine I.write (x := dx) (e := dx) (t' := s.toks + 2) (by rw [ed]; exact True.intro) (.inl rfl) (fun b q hb z => (sb.2 b hb).trans z) hd (excD_ok h2 (fun g => ?_) fun g hg => ?_)
  · show RelO ((putF f y fs).lookup g) (if g = f then some u else mA g)
    rw [lookup_putF]
    by_cases q : g = f
    · rw [if_pos q, if_pos q]; exact ry
    · rw [if_neg q, if_neg q]; exact r g
  · by_cases q : g = f
    · rw [q]; exact (keys_putF f y fs).1
    · refine (keys_putF f y fs).2 g (wi g fun z => hg ?_)
      show (if g = f then some u else mA g) = none
      rw [if_neg q]; exact z
/-- a refusal with its attributes' dict at dx: new, or raised -/
def XAt (H : Hp) (C dx a : Addr) : Prop := H a = some (ExcO C dx a) ∨ ∃ T, H a = some (ExcT C (some dx) a T)
theorem XAt.obj (I : Inv X pins σ H s) (h : XAt H C dx a) : ∃ vs sl, s.heap.get? a = some ⟨.ref C, some dx, .fields vs, sl⟩ := by
  rcases h with h | ⟨T, h⟩
  · obtain ⟨⟨vs, sl, hx, _⟩, _⟩ := (show ObjOk X.prog X.w H s.heap a (ExcO C dx a) from I.hok a _ h)
    exact ⟨vs, sl, hx⟩
  · obtain ⟨⟨vs, sl, hx, _⟩, _⟩ := (show ObjOk X.prog X.w H s.heap a (ExcT C (some dx) a T) from I.hok a _ h)
    exact ⟨vs, sl, hx⟩
theorem getexc_ok {b : Bool} {Q : Value → Shared → Prop} (I : Inv X pins σ H s) (e : XAt H C dx a) (ed : H dx = some (ExcD dx fs)) (c : XCls X.K C) (n : NoAttr X.K C f) (l : fs.lookup f = some v)
    (h : ∀ u s', Inv X pins σ H s' → RelV v u → Q u s') : wpAny (model X.prog X.w) A (getAttr (.ref a) f b) Q E s := by
  obtain ⟨vs, sl, hx⟩ := e.obj I
  obtain ⟨⟨mA, hn, r, wi⟩, _⟩ := (show ObjOk X.prog X.w H s.heap dx (ExcD dx fs) from I.hok dx _ ed)
  obtain ⟨u, hu, ru⟩ := RelO.some_of (v := v) (o := mA f) (by rw [← l]; exact r f)
  obtain ⟨od, ho, hl⟩ := lookIn_ns hn
  have J : InstAt s.heap a ⟨.ref C, some dx, .fields vs, sl⟩ C (some od) := ⟨hx, rfl, rfl, ho⟩
  exact get_exc I.kIn J c.ex c.ga c.gh (findObj_own c.hd n rfl (by rw [hl, hu])) (handed_of ru) (h u _ (I.tok _) ru)
end
theorem kitx_exc {K : Frag} {x D : Addr} (c : XCls K D) : KitX K (.ref x) (.ref D) (fun h => ∃ (ox : Obj) (od : Option Obj), InstAt h x ox D od) where
  ty := fun _ _ _ ⟨_, _, I⟩ => I.type
  it := fun _ _ X _ => by
    obtain ⟨cdD, hcD, _⟩ := any_some c.hd
    unfold clsIn at hcD
    split at hcD
    · rename_i c' d' cd' sl' ho
      intro A' Q' E' s' k q
      unfold isType loadHead
      exact wpAny_bind (wpAny_loadPart (k _ _ (X _ _ ho)) (wpAny_pure q))
    · cases hcD
  ne := fun h tp dd its n sl X htp => by
    obtain ⟨cdD, hcD, _⟩ := any_some c.hd
    refine Bool.eq_false_iff.mpr fun q => ?_
    have e : D = tp := Value.ref.inj (beq_iff_eq.mp q)
    subst e
    unfold clsIn at hcD
    split at hcD
    · rename_i c' d' cd' sl' ho
      have z := (X _ _ ho).symm.trans htp
      cases z
    · cases hcD
  ca := fun {prog w A E Q s} X ⟨ox, od, I⟩ h => by
    have hf : findObj K D od "__class__" = some (.bind (.builtin "getset_descriptor.__get__") (.builtin "object.__class__")) := by
      obtain ⟨cd, hc, _⟩ := any_some c.hd
      unfold findObj
      rw [hc, Option.bind_some, c.ca, Option.bind_some]
      simp [c.gn, c.tk]
    exact class_exc X I c.ex c.ga c.gh hf c.mo h
/-- a refusal stands at a, of the class at C -/
def IsExc (H : Hp) (a C : Addr) : Prop := (∃ dx fs, XAt H C dx a ∧ H dx = some (ExcD dx fs)) ∨ H a = some (ExcN C a) ∨ ∃ T, H a = some (ExcT C none a T)
section
variable {X : Cx}
theorem isexc_inst {pins : List (Addr × Obj)} {σ : St} {H : Hp} {s : Shared} {a C : Addr} (I : Inv X pins σ H s) (h : IsExc H a C) : ∃ (ox : Obj) (od : Option Obj), InstAt s.heap a ox C od := by
  rcases h with ⟨dx, fs, h1, h2⟩ | h | ⟨T, h⟩
  · obtain ⟨vs, sl, hx⟩ := h1.obj I
    obtain ⟨⟨mA, hn, _⟩, _⟩ := (show ObjOk X.prog X.w H s.heap dx (ExcD dx fs) from I.hok dx _ h2)
    obtain ⟨o, _, _, ho, _⟩ := hn
    exact ⟨_, some o, ⟨hx, rfl, rfl, ho⟩⟩
  · obtain ⟨⟨vs, sl, hx, _⟩, _⟩ := (show ObjOk X.prog X.w H s.heap a (ExcN C a) from I.hok a _ h)
    exact ⟨_, none, ⟨hx, rfl, rfl, trivial⟩⟩
  · obtain ⟨⟨vs, sl, hx, _⟩, _⟩ := (show ObjOk X.prog X.w H s.heap a (ExcT C none a T) from I.hok a _ h)
    exact ⟨_, none, ⟨hx, rfl, rfl, trivial⟩⟩
/-- isinstance(e, C) of a refusal, C an own class or a built-in one -/
theorem call_isinX : CallR X (.builtin "isinstance") (fun xs H Q => ∃ a C c u b, xs = [.ref a, c] ∧ IsExc H a C ∧ XCls X.K C ∧ RelV c u ∧ (∀ u', RelV c u' → u' = u) ∧ kitOne X.K (.ref C) u = some b ∧ Q (.bl b) H) := by
  intro pins s σ H xs us Q I r h
  obtain ⟨a, C, c, u, b, rfl, he, hc, ru, uq, hk, q⟩ := h
  obtain ⟨v1, v2, rfl, r1, r2⟩ := vals2 r
  cases r1
  have := uq v2 r2
  subst this
  exact kia_one (kitx_exc hc) I.kIn (isexc_inst I he) hk (fun z => nomatch z) fun tk => ⟨.bl b, H, I.tok tk, rfl, q⟩
end
def tXFld (K : Frag) (ta : TE) (f : Str) : TE := fun σ H Q => ta σ H fun x H1 => ∃ a C dx fs v, x = .ref a ∧ XAt H1 C dx a ∧ H1 dx = some (ExcD dx fs) ∧ XCls K C ∧ NoAttr K C f ∧ fs.lookup f = some v ∧ Q v H1
def sXFld (K : Frag) (ta tv : TE) (f : Str) : TS := fun D σ H => tv σ H fun y H1 => ta σ H1 fun x H2 => ∃ a C, x = .ref a ∧ XCls K C ∧ NoAttr K C f ∧
  ((H2 a = some (ExcN C a) ∧ ∀ d, H2 d = none → D.nx σ (upd (upd H2 d (ExcD d [(f, y)])) a (ExcO C d a))) ∨ ∃ dx fs, H2 a = some (ExcO C dx a) ∧ H2 dx = some (ExcD dx fs) ∧ fs.length < 1000 ∧ D.nx σ (upd H2 dx (ExcD dx (putF f y fs))))
section
variable {X : Cx} {o e value : Expr} {f : Str} {pos pos' : Pos} {ta tv : TE}
theorem pe_xfld (he : PE X e ta) (hb : attributeBase e f X.env (eval e X.env) = eval e X.env) : PE X (.Attribute e f pos) (tXFld X.K ta f) := by
  intro pins s σ H Q I h
  refine attr_of hb (thn (he pins s σ H _ I h) fun u s1 ⟨x, H1, I1, rx, a, C, dx, fs, v, ex, ea, ed, c, n, l, q⟩ => ?_)
  subst ex
  obtain rfl : u = Value.ref a := rx
  exact getexc_ok I1 ea ed c n l fun u' s2 I2 ru => ⟨v, H1, I2, ru, q⟩
theorem ps_xfld (ha : PE X o ta) (hv : PE X value tv) (hs : swapsWith value (some (.Attribute o f pos')) pos.line X.env = pure false) : PS X (.Assign [.Attribute o f pos'] value pos) (sXFld X.K ta tv f) := by
  intro pins s σ H D I h
  refine plainObj_wpAny_Assign_Attribute (thn (hv pins s σ H _ I h) fun u s1 ⟨y, H1, I1, ry, q⟩ => thn (ha pins s1 σ H1 _ I1 q) fun ov s2 ⟨x, H2, I2, rx, a, C, ex, c, n, q2⟩ => ?_) hs
  subst ex
  obtain rfl : ov = Value.ref a := rx
  rcases q2 with ⟨e0, q2⟩ | ⟨dx, fs, e1, e2, l, q2⟩
  · exact setexc0_ok I2 e0 c n ry fun s3 d hd I3 => ⟨σ, _, I3, q2 d hd⟩
  · exact setexc_ok I2 e1 e2 c n l ry fun s3 I3 => ⟨σ, _, I3, q2⟩
end
/-- its class, as the top has left it, with an __init__ of its own at fI -/
def excInI (K : Frag) (C : Addr) (fI : Addr) : Bool := match K.lookup C with
  | some ⟨.type "type", _, .cls cd, sl⟩ => (match cd.mro, sl.toList with
    | .ref C' :: bm, [_, _, _, _, some (.builtin n), _] => C' == C && n == "ValueError.__new__" && !cd.hasDel && tailIn K vErr bm && nsOkIn K cd.ns && nsIn K cd.ns "__init__" == some (some (.ref fI))
    | _, _ => false)
  | _ => false
theorem ns_some_of {K : Frag} {h : Heap} {N : Addr} {mg : Str → Option Value} {n : Str} {v : Value} (X : K.In h) (G : h.Ns N mg) (e : nsIn K N n = some (some v)) : mg n = some v := by
  obtain ⟨o, es, ep, ho, hd, _, hf⟩ := G
  unfold nsIn at e
  split at e
  · rename_i c d es' n' sl q
    have := X _ _ q
    rw [ho] at this
    cases this
    cases hd
    split at e
    · rename_i e' he
      cases e
      rw [← hf]
      unfold nsFind findBy
      rw [← Array.find?_toList, he]
      rfl
    · split at e <;> cases e
  · cases e
/-- what is asked of a class to be made by an __init__ of its own -/
structure XMk (K : Frag) (C fI : Addr) : Prop where
  cl : XCls K C
  ei : excInI K C fI = true
  kp : keepIn K (.ref C) = true
  fn : isFn K (.ref fI) = true
theorem XMk.call {K : Frag} {C fI : Addr} (M : XMk K C fI) {prog : Program} {w : World} {A : Around} {E : Value → Shared → Prop} {s : Shared} {rest : List Value} {Q : Value → Shared → Prop} (X : K.In s.heap) (hrest : rest.length ≤ sizeLine)
    (hq : wpAny (model prog w) (A.under (.builtin "type.__call__" ⟨.ref C :: rest, []⟩)) (call (.ref fI) (.ref (s.heap.objs.size + 1) :: rest)) (fun r s' => r = .none ∧ Q (.ref (s.heap.objs.size + 1)) s') E { s with heap := rawExc s.heap C rest }) :
    wpAny (model prog w) A (call (.ref C) rest) Q E s := by
  obtain ⟨hh, g, d, t, os⟩ := s
  have q := M.ei
  have fnt : typeIn K (.ref fI) = some (.type "function") := beq_iff_eq.mp M.fn
  have hfI : ∃ oI : Obj, hh.get? fI = some oI ∧ oI.cls = .type "function" := by
    cases z : K.lookup fI with
    | none => simp [typeIn, z] at fnt
    | some o => exact ⟨o, X _ _ z, by simpa [typeIn, z] using fnt⟩
  obtain ⟨oI, hoI, hcI⟩ := hfI
  unfold excInI at q
  split at q
  · rename_i dd cd sl ho
    split at q
    · rename_i C' bm k0 k1 k2 k3 n k5 hm hs
      simp only [Bool.and_eq_true, beq_iff_eq, Bool.not_eq_true'] at q
      obtain ⟨⟨⟨⟨⟨rfl, rfl⟩, hdel⟩, ht⟩, hok⟩, hni⟩ := q
      obtain ⟨nm, bs, mro, ns, qn, hd, sn, sub, ab, col, del⟩ := cd
      dsimp only at hm hdel hok hni
      subst hm hdel
      have hsl : sl = #[k0, k1, k2, k3, some (.builtin "ValueError.__new__"), k5] := by
        obtain ⟨l⟩ := sl
        simp only at hs
        rw [hs]
      subst hsl
      have G : hh.Ns ns (hh.nsMap ns) := .of_isNs (isNs_of_in X hok)
      exact call_excT PySem.F.excBase_ValueError (tail_of_in X ht) (X _ _ ho) G (ns_some_of X G hni) hoI hcI hrest hq
    · cases q
  · cases q
end L2
namespace L2
open PySem PySem.Spec PyProof.Rows PySem.W
theorem ObjOk.there {P : Program} {w : World} {H : Hp} {h : Heap} {a : Addr} {o : HO} (x : ObjOk P w H h a o) : ∃ u, h.get? a = some u := by
  cases o with
  | lst xs => obtain ⟨_, _, _, _, e⟩ := x; exact ⟨_, e⟩
  | tup xs => obtain ⟨_, _, _, p⟩ := x; obtain ⟨_, e, _⟩ := p; exact ⟨_, e⟩
  | dK kvs => obtain ⟨_, _, _, _, o, _, _, e, _⟩ := x; exact ⟨_, e⟩
  | dT kvs => obtain ⟨_, _, _, _, o, _, _, e, _⟩ := x; exact ⟨_, e⟩
  | set S n => obtain ⟨o, _, _, _, e, _⟩ := x; exact ⟨_, e⟩
  | ins C dx fs => obtain ⟨_, _, _, e, _⟩ := x; exact ⟨_, e⟩
  | own y => obtain ⟨_, e⟩ := x; exact ⟨_, e⟩
  | xd fs => obtain ⟨_, ⟨_, _, _, e, _⟩, _⟩ := x; exact ⟨_, e⟩
  | rng lo hi => obtain ⟨_, _, _, e⟩ := x; exact ⟨_, e⟩
  | frz ob u => obtain ⟨e, _⟩ := x; exact ⟨_, e⟩
  | tbl ps => exact ⟨_, (show h.get? a = some _ from x)⟩
  | met f y => exact ⟨_, (show h.get? a = some _ from x)⟩
  | ext φ => obtain ⟨_, ⟨_, e⟩, _⟩ := x; exact ⟨_, e⟩
/-- the promise of its __init__ -/
def sp_x (C : Addr) (names : List Str) : Sp := fun vs H Q _ => ∃ x ws, vs = .ref x :: ws ∧ ws.length = names.length ∧ H x = some (ExcN C x) ∧
  ∀ d H', H d = none → H' x = some (ExcO C d x) → H' d = some (ExcD d (names.zip ws)) → (∀ a o, a ≠ x → H a = some o → H' a = some o) → Q .non H'
structure XMkOk (P : Program) (w : World) (K : PySem.W.Frag) (mg : Str → Option Value) (base : Heap) (k : Nat) (x : Str) (C : Addr) (ps names : List Str) : Prop where
  few : names.length ≤ 1000
  ex : ∃ (f : Addr) (fd : FuncData), XMk K C f ∧ FnOk P w K mg base CX0 k f fd ps (sp_x C names) ∧ mg x = some (.ref C) ∧ Binds K fd ps []
section
variable {X : Cx} {CX : CXT} {k j : Nat} {f C : Addr} {fd : FuncData} {ps names : List Str} {sp : Sp} {E : XK} {x m : Str} {p pos apos : Pos} {e o : Expr} {es : List Expr} {ta : TE} {t : TA}
theorem run_xmk {pins : List (Addr × Obj)} {σ : St} {H : Hp} {s : Shared} {Q : VK} {us : List Value} {vs : List V} (M : XMk X.K C f) (F : FnOk X.prog X.w X.K X.mg X.base CX k f fd ps sp) (hr : Room (k + 1) X.A) (hb : Binds X.K fd ps [])
    (hx : Passes CX X E) (I : Inv X pins σ H s) (r : Vals vs us) (hz : vs.length ≤ 1000)
    (h : ∀ x, H x = none → sp (.ref x :: vs) (upd H x (ExcN C x)) (fun v H2 => v = .non ∧ Q (.ref x) H2) E) :
    wpAny (model X.prog X.w) X.A (call (.ref C) us) (EP X pins σ Q) X.xe s := by
  have hq := h (s.heap.objs.size + 1) (I.hok.fresh (Nat.le_succ _))
  have hus : us.length ≤ sizeLine := by rw [← r.length, sizeLine_eq]; first | lia | omega
  have I2 : Inv X pins σ (upd H (s.heap.objs.size + 1) (ExcN C (s.heap.objs.size + 1))) { s with heap := rawExc s.heap C us } :=
    I.laid (t' := s.toks) (fun b u z => rawExc_keep z) (Nat.le_succ _) (excN_ok (rawExc_at C us) rfl)
  have r2 : Vals (V.ref (s.heap.objs.size + 1) :: vs) (Value.ref (s.heap.objs.size + 1) :: us) := .cons rfl r
  have hl : (Value.ref (s.heap.objs.size + 1) :: us ++ []).length = ps.length := by
    have e := r2.length
    rw [F.len _ _ _ _ hq] at e
    rw [List.append_nil]
    exact e.symm
  have hb2 := hb { s with heap := rawExc s.heap C us } (Value.ref (s.heap.objs.size + 1) :: us) I2.kIn hl
  rw [List.append_nil] at hb2
  refine M.call I.kIn hus (wpAny_call (codeAny_mono (F.run _ X.stack _ _ ⟨Value.ref (s.heap.objs.size + 1) :: us, []⟩ (Value.ref (s.heap.objs.size + 1) :: us) _ _ E (hr.make C us [])
    (I2.env0.make C us []) hb2 r2 hq) fun r s' hq' => ?_))
  cases r with
  | error e => exact hx pins σ _ _ e s' I2 hq'
  | ok fl =>
    cases fl with
    | ret u =>
      obtain ⟨v, H', I3, rv, ev, q3⟩ := I2.after hq'
      subst ev
      exact ⟨rv, ⟨V.ref (s.heap.objs.size + 1), H', I3, rfl, q3⟩⟩
    | next => exact False.elim hq'
    | brk => exact False.elim hq'
    | cont => exact False.elim hq'
end
end L2
namespace L2
open PySem PySem.Spec PyProof.Rows PySem.W
/-- what noting the frame leaves: a new traceback at T, the exception's field, the frames' slots; the older traceback at those of tt may have changed -/
structure NoteTo (fr tt : List Addr) (e T : Addr) (fl cls : Value) (d : Option Addr) (h h' : Heap) : Prop where
  nT : h.get? T = none
  keep : ∀ b o, b ≠ e → b ∉ fr → b ∉ tt → h.get? b = some o → h'.get? b = some o
  slot : ∀ b o, b ∈ fr → h.get? b = some o → ∃ sl, h'.get? b = some { o with slots := sl }
  exc : ∃ vs sl, h'.get? e = some ⟨cls, d, .fields vs, sl⟩ ∧ vs[1]? = some (.ref T)
  tb : ∃ o ts, h'.get? T = some o ∧ o.data = .fields ts ∧ ts[3]? = some fl
  old : ∀ t o ts, t ∈ tt → t ≠ e → h.get? t = some o → o.data = .fields ts → 3 < ts.size → ∃ o' ts', h'.get? t = some o' ∧ o'.data = .fields ts' ∧ ts'[3]? = some Value.none
section
variable {M : Model} {A : Around} {E : Value → Shared → Prop} {s : Shared} {base : Heap} {env : Env} {outer : List Env} {L e : Addr} {cls : Value} {d : Option Addr} {vs : Array Value} {sl : Array (Option Value)} {Q : Unit → Shared → Prop}
theorem note_entry {head : Value} {hadNext : Bool} (hfr : A.frames = some (env :: outer)) (hl : s.heap.FunFrames base (env :: outer)) (hf : env.frame = some L) (he : s.heap.get? e = some ⟨cls, d, .fields vs, sl⟩) (hsz : 1 < vs.size)
    (h : ∀ h' T, NoteTo (frs (env :: outer)) [] e T (rawInt L) cls d s.heap h' → Q () { s with heap := h' }) :
    wpAny M A (do
      let a ← frameOf env
      let pl ← entryPlaceOf L hadNext
      let b ← EntryCells.newEntry head a .none (rawInt L) .none pl
      setField (.ref e) 1 b) Q E s := by
  have hne : e ∉ frs (env :: outer) := fun hm => by
    obtain ⟨_, o, ho, hnf⟩ := hl.mem hm
    rw [he] at ho; cases ho; exact hnf vs rfl
  refine wpAny_bind (wpAny_frameOf_fun hfr hl hf fun h₁ hs => wpAny_bind (wpAny_entryPlaceOf fun pl hpl => ?_))
  unfold EntryCells.newEntry newFields
  refine wpAny_bind (wpAny_newObj_type ?_ (hpl.sizeOk5 _ _ _ _ _))
  have e1 : h₁.get? e = some ⟨cls, d, .fields vs, sl⟩ := (hs.2.1 e hne).trans he
  generalize hob : ({ cls := .type "traceback", dict := none, data := .fields ([head, .ref L, .none, rawInt L, .none] ++ (if pl.isEmpty then List.replicate 6 Value.none else pl)).toArray } : Obj) = ob
  have hfb : ob.isFreed = false := by rw [← hob]; rfl
  have e2 := Heap.get?_push_of_some (h := h₁) ob e1
  refine wpAny_setField e2 rfl hsz (h _ h₁.objs.size ?_)
  have nTe : h₁.objs.size ≠ e := Nat.ne_of_gt (Heap.lt_size e1)
  have kp : ∀ b o, b ≠ e → h₁.get? b = some o → ((h₁.push ob).update e (Obj.mapFields (·.setIfInBounds 1 (Value.ref h₁.objs.size)))).get? b = some o := fun b o nb hb => by
    rw [Heap.get?_update_other _ _ (Ne.symm nb)]; exact Heap.get?_push_of_some _ hb
  refine ⟨Heap.get?_none_of_le (Nat.le_of_eq hs.1.symm), fun b o nb nf _ hb => kp b o nb ((hs.2.1 b nf).trans hb), fun b o bf hb => ?_, ⟨vs.setIfInBounds 1 (.ref h₁.objs.size), sl, ?_, by simp [hsz]⟩, ⟨ob, ([head, .ref L, .none, rawInt L, .none] ++ (if pl.isEmpty then List.replicate 6 Value.none else pl)).toArray, ?_, by rw [← hob], ?_⟩, fun _ _ _ z => nomatch z⟩
  · obtain ⟨sl', z⟩ := hs.2.2 b o hb
    exact ⟨sl', kp b _ (fun q => hne (q ▸ bf)) z⟩
  · exact Heap.get?_update_self _ e2 rfl
  · rw [Heap.get?_update_other _ _ (Ne.symm nTe)]; exact Heap.get?_push_size _ hfb
  · simp
theorem note_new (hfr : A.frames = some (env :: outer)) (hl : s.heap.FunFrames base (env :: outer)) (hf : env.frame = some L) (he : s.heap.get? e = some ⟨cls, d, .fields vs, sl⟩) (h1 : vs[1]? = some Value.none)
    (h : ∀ h' T, NoteTo (frs (env :: outer)) [] e T (rawInt L) cls d s.heap h' → Q () { s with heap := h' }) : wpAny M A (noteFrame (.ref e) env) Q E s := by
  unfold noteFrame
  simp only [hf]
  refine wpAny_bind (wpAny_field he rfl h1 ?_)
  rw [if_neg (by decide)]
  exact note_entry hfr hl hf he (Array.getElem?_eq_some_iff.mp h1).1 h
theorem note_next {T1 : Addr} {oT : Obj} {ts : Array Value} (hfr : A.frames = some (env :: outer)) (hl : s.heap.FunFrames base (env :: outer)) (hf : env.frame = some L) (he : s.heap.get? e = some ⟨cls, d, .fields vs, sl⟩) (h1 : vs[1]? = some (.ref T1))
    (hT : s.heap.get? T1 = some oT) (hd : oT.data = .fields ts) (h3 : ts[3]? = some Value.none) (ne : T1 ≠ e)
    (h : ∀ h' T, NoteTo (frs (env :: outer)) [T1] e T (rawInt L) cls d s.heap h' → Q () { s with heap := h' }) : wpAny M A (noteFrame (.ref e) env) Q E s := by
  unfold noteFrame
  simp only [hf]
  refine wpAny_bind (wpAny_field he rfl h1 ?_)
  rw [if_pos (show (Value.ref T1 != Value.none) = true from by simp)]
  refine wpAny_bind (wpAny_field hT hd h3 ?_)
  rw [if_neg (show ¬ ((Value.none == rawInt L) = true) from by simp [rawInt])]
  have hs3 : 3 < ts.size := (Array.getElem?_eq_some_iff.mp h3).1
  refine wpAny_bind (wpAny_setField hT hd hs3 ?_)
  have oth : ∀ b, b ≠ T1 → (s.heap.update T1 (Obj.mapFields (·.setIfInBounds 3 Value.none))).get? b = s.heap.get? b := fun b hb => Heap.get?_update_other _ _ (Ne.symm hb)
  have nT1 : T1 ∉ frs (env :: outer) := fun hm => by
    obtain ⟨_, o, ho, hnf⟩ := hl.mem hm
    rw [hT] at ho; cases ho; exact hnf ts hd
  have self : (s.heap.update T1 (Obj.mapFields (·.setIfInBounds 3 Value.none))).get? T1 = some (Obj.mapFields (·.setIfInBounds 3 Value.none) oT) := Heap.get?_update_self _ hT (Obj.isFreed_of_fields (Obj.data_mapFields hd _))
  refine note_entry (s := { s with heap := s.heap.update T1 (Obj.mapFields (·.setIfInBounds 3 Value.none)) }) hfr (hl.of_keeps fun b o hb hnf => ⟨o, (oth b fun q => ?_).trans hb, rfl⟩) hf ((oth e (Ne.symm ne)).trans he) (Array.getElem?_eq_some_iff.mp h1).1 fun h' T n => h h' T ?_
  · rw [q, hT] at hb; cases hb; exact hnf ts hd
  · have nT' : s.heap.get? T = none := by
      by_cases q : T = T1
      · have := n.nT; rw [q] at this; rw [self] at this; cases this
      · rw [← oth T q]; exact n.nT
    refine ⟨nT', fun b o nb nf nt hb => n.keep b o nb nf (by simp) ((oth b (by simpa using nt)).trans hb), fun b o bf hb => n.slot b o bf ((oth b fun q => nT1 (q ▸ bf)).trans hb), n.exc, n.tb, fun t o us ht hte hb hdo hsz => ?_⟩
    obtain rfl : t = T1 := by simpa using ht
    rw [hT] at hb; cases hb
    rw [hd] at hdo; cases hdo
    exact ⟨_, _, n.keep t _ hte nT1 (by simp) self, Obj.data_mapFields hd _, by simp [hs3]⟩
/-- the mark of flight is taken off -/
theorem flight_off {T : Addr} {oT : Obj} {ts : Array Value} (he : s.heap.get? e = some ⟨cls, d, .fields vs, sl⟩) (h1 : vs[1]? = some (.ref T)) (hT : s.heap.get? T = some oT) (hd : oT.data = .fields ts) (hs3 : 3 < ts.size)
    (h : ∀ h', (∀ b, b ≠ T → h'.get? b = s.heap.get? b) → (∃ o' ts', h'.get? T = some o' ∧ o'.data = .fields ts' ∧ ts'[3]? = some Value.none) → Q () { s with heap := h' }) : wpAny M A (setFlight (.ref e) none) Q E s := by
  unfold setFlight
  refine wpAny_bind (wpAny_field he rfl h1 ?_)
  rw [if_pos (show (Value.ref T != Value.none) = true from by simp)]
  refine wpAny_setField hT hd hs3 (h _ (fun b hb => Heap.get?_update_other _ _ (Ne.symm hb)) ⟨_, _, Heap.get?_update_self _ hT (Obj.isFreed_of_fields (Obj.data_mapFields hd _)), Obj.data_mapFields hd _, by simp [hs3]⟩)
end
end L2
namespace L2
open PySem PySem.Spec PyProof.Rows PySem.W
section
variable {prog : Program} {w : World} {A : Around} {E : Value → Shared → Prop} {s : Shared} {K : Frag} {C fI e : Addr} {d : Option Addr} {env : Env}
theorem raise_made {x : Sem Value} {Q : Flow → Shared → Prop} (M : XMk K C fI) (hh : A.handled = none)
    (h : wpAny (model prog w) A x (fun v s₁ => ∃ e d vs sl, v = .ref e ∧ K.In s₁.heap ∧ s₁.heap.get? e = some ⟨.ref C, d, .fields vs, sl⟩ ∧ vs[1]? = some Value.none ∧ E (.ref e) s₁) E s) :
    wpAny (model prog w) A (raiseStmt env (some x) none) Q E s := by
  unfold raiseStmt
  refine wpAny_bind (wpAny_mono h (fun v s₁ h₁ => ?_) fun _ _ x => x)
  obtain ⟨e, d, vs, sl', rfl, X, he, h1, hE⟩ := h₁
  obtain ⟨hp, g, dr, tk, os⟩ := s₁
  have q := M.ei
  unfold excInI at q
  split at q
  · rename_i dd cd sl ho
    split at q
    · rename_i C' bm k0 k1 k2 k3 n k5 hm hs
      simp only [Bool.and_eq_true, beq_iff_eq, Bool.not_eq_true'] at q
      obtain ⟨⟨⟨⟨⟨rfl, rfl⟩, hdel⟩, ht⟩, hok⟩, hni⟩ := q
      obtain ⟨nm, bs, mro, ns, qn, hd, sn, sub, ab, col, del⟩ := cd
      dsimp only at hm hdel hok hni
      subst hm hdel
      have hsl : sl = #[k0, k1, k2, k3, some (.builtin "ValueError.__new__"), k5] := by
        obtain ⟨l⟩ := sl
        simp only at hs
        rw [hs]
      subst hsl
      have hC : hp.get? C' = some (excClassObj nm qn C' ns bs bm hd sn sub ab col dd k0 k1 k2 k3 k5 "ValueError.__new__") := X _ _ ho
      have hcB : (Value.ref C' :: bm).contains (.type "BaseException") = true := by
        rw [List.contains_cons, (tail_of_in X ht).hasType (show vErr.contains (.type "BaseException") = true by decide +kernel)]; exact Bool.or_true _
      repeat (first | with_reducible refine wpAny_field he rfl h1 ?_ | with_reducible refine wpAny_loadPart_at he ?_ | with_reducible refine wpAny_loadPart_at hC ?_ | (with_reducible refine wpAny_isSubtype_exc hC ?_; rw [hcB]) | wp_step)
      exact wpAny_raiseNew_none hh hE
    · cases q
  · cases q
end
end L2
namespace L2
open PySem PySem.Spec PyProof.Rows PySem.W
def TbO (T : Addr) : HO := .ext fun h => ∃ o ts, h.get? T = some o ∧ o.data = .fields ts ∧ ts[3]? = some Value.none
theorem tbO_ok {P : Program} {w : World} {H : Hp} {h : Heap} {T : Addr} (t : ∃ o ts, h.get? T = some o ∧ o.data = .fields ts ∧ ts[3]? = some Value.none) : ObjOk P w H h T (TbO T) :=
  ⟨t, let ⟨o, _, e, _⟩ := t; ⟨o, e⟩, fun _ _ ⟨o, ts, e, r⟩ k => ⟨o, ts, k _ e, r⟩⟩
def Fresh (H : Hp) (x C : Addr) (d : Option Addr) : Prop := (d = none ∧ H x = some (ExcN C x)) ∨ ∃ dx, d = some dx ∧ H x = some (ExcO C dx x)
def Flown (H : Hp) (x C : Addr) (d : Option Addr) (T : Addr) : Prop := H x = some (ExcT C d x T) ∧ H T = some (TbO T) ∧ T ≠ x
def thrown (H : Hp) (x C : Addr) (d : Option Addr) (T : Addr) : Hp := upd (upd H T (TbO T)) x (ExcT C d x T)
theorem thrown_x {H : Hp} {x C T : Addr} {d : Option Addr} : thrown H x C d T x = some (ExcT C d x T) := upd_same
theorem thrown_T {H : Hp} {x C T : Addr} {d : Option Addr} (n : T ≠ x) : thrown H x C d T T = some (TbO T) := by unfold thrown; rw [upd_ne n, upd_same]
theorem thrown_ne {H : Hp} {x C T b : Addr} {d : Option Addr} (n : b ≠ x) (m : b ≠ T) : thrown H x C d T b = H b := by unfold thrown; rw [upd_ne n, upd_ne m]
section
variable {X : Cx} {pins : List (Addr × Obj)} {σ : St} {H : Hp} {s : Shared} {x C T : Addr} {d : Option Addr} {h1 h2 : Heap} {fl : Value} {tt : List Addr}
theorem note_un (I : Inv X pins σ H s) {φ : Heap → Prop} (hx : H x = some (.ext φ)) (htt : ∀ t ∈ tt, H t = some (TbO t) ∧ t ≠ x) (n : NoteTo (frs X.stack) tt x T fl (.ref C) d s.heap h1) (k2 : ∀ b, b ≠ T → h2.get? b = h1.get? b)
    (t2 : ∃ o ts, h2.get? T = some o ∧ o.data = .fields ts ∧ ts[3]? = some Value.none) : H T = none ∧ T ≠ x ∧ Un (frs X.stack) [] H (thrown H x C d T) s.heap h2 ∧ HOk X.prog X.w (thrown H x C d T) h2 := by
  have hT : H T = none := by
    cases q : H T with
    | none => rfl
    | some u =>
      obtain ⟨o, ho⟩ := (I.hok T u q).there
      rw [n.nT] at ho; cases ho
  have nTx : T ≠ x := fun z => by rw [z, hx] at hT; cases hT
  have tn : ∀ b o, s.heap.get? b = some o → b ≠ T := fun b o e z => by rw [z, n.nT] at e; cases e
  have un : ∀ b, H b = none → b ≠ x := fun b e z => by rw [z, hx] at e; cases e
  have ut : ∀ b, H b = none → b ∉ tt := fun b e z => by rw [(htt b z).1] at e; cases e
  have hb : ∀ b u, H b = some u → b ≠ T := fun b u e z => by rw [z, hT] at e; cases e
  have old : ∀ t ∈ tt, ∃ o' ts', h2.get? t = some o' ∧ o'.data = .fields ts' ∧ ts'[3]? = some Value.none := fun t ht => by
    obtain ⟨e, ne⟩ := htt t ht
    obtain ⟨⟨o, ts, e1, e2, e3⟩, _⟩ := (show ObjOk X.prog X.w H s.heap t (TbO t) from I.hok t _ e)
    obtain ⟨o', ts', f1, f2, f3⟩ := n.old t o ts ht ne e1 e2 (Array.getElem?_eq_some_iff.mp e3).1
    exact ⟨o', ts', (k2 t (hb t _ e)).trans f1, f2, f3⟩
  have exc : ∃ vs sl, h2.get? x = some ⟨.ref C, d, .fields vs, sl⟩ ∧ vs[1]? = some (.ref T) := by
    obtain ⟨vs, sl, e1, e2⟩ := n.exc
    exact ⟨vs, sl, (k2 x (Ne.symm nTx)).trans e1, e2⟩
  have ne_ext : ∀ b u, H b = some u → (∀ ψ, u ≠ .ext ψ) → b ≠ x := fun b u e z q => by rw [q, hx] at e; cases e; exact z _ rfl
  refine ⟨hT, nTx, ⟨fun b o q e nf _ => ?_, fun b o q e bf _ => ?_, fun b o q e _ => ?_, fun b o q _ => ?_, fun b xs e => ?_, fun b o u e => ?_, fun b ps e => ⟨#[], ?_⟩⟩, fun b u e => ?_⟩
  · exact (k2 b (tn b o q)).trans (n.keep b o (un b e) nf (ut b e) q)
  · obtain ⟨sl, z⟩ := n.slot b o bf q
    exact ⟨sl, (k2 b (tn b o q)).trans z⟩
  · rw [thrown_ne (un b e) (tn b o q)]; exact e
  · by_cases z : b = x
    · obtain ⟨vs, sl, e1, _⟩ := exc; exact ⟨_, z ▸ e1⟩
    · by_cases zf : b ∈ frs X.stack
      · obtain ⟨sl, z⟩ := n.slot b o zf q
        exact ⟨_, (k2 b (tn b o q)).trans z⟩
      · by_cases zt : b ∈ tt
        · obtain ⟨o', _, e1, _⟩ := old b zt; exact ⟨o', e1⟩
        · exact ⟨o, (k2 b (tn b o q)).trans (n.keep b o z zf zt q)⟩
  · rw [thrown_ne (ne_ext b _ e fun ψ z => by cases z) (hb b _ e)]; exact e
  · rw [thrown_ne (ne_ext b _ e fun ψ z => by cases z) (hb b _ e)]; exact e
  · rw [thrown_ne (ne_ext b _ e fun ψ z => by cases z) (hb b _ e), e]; simp
  · by_cases z : b = x
    · subst z; rw [thrown_x] at e; cases e
      obtain ⟨vs, sl, e1, e2⟩ := exc
      exact excT_ok e1 e2
    · by_cases zT : b = T
      · subst zT; rw [thrown_T nTx] at e; cases e
        exact tbO_ok t2
      · rw [thrown_ne z zT] at e
        by_cases zt : b ∈ tt
        · rw [(htt b zt).1] at e; cases e
          exact tbO_ok (old b zt)
        · have own_ne : ∀ c, H c = some (.own b) → c ≠ x ∧ c ≠ T := fun c hc => ⟨ne_ext c _ hc (fun ψ z => by cases z), hb c _ hc⟩
          refine (I.hok b u e).stay (fun c v hc q => ?_) (fun c q => ?_) fun c xs q => ?_
          · have hcH : ∃ y, H c = some y := by
              rcases hc with rfl | hc
              · exact ⟨u, e⟩
              · exact ⟨_, hc⟩
            obtain ⟨y, hy⟩ := hcH
            refine (k2 c (hb c y hy)).trans (n.keep c v ?_ (fun zf => by rw [I.stkFree c zf] at hy; cases hy) (fun zt' => ?_) q)
            · rcases hc with rfl | hc
              · exact z
              · exact (own_ne c hc).1
            · rcases hc with rfl | hc
              · exact zt zt'
              · rw [(htt c zt').1] at hc; cases hc
          · rw [thrown_ne (own_ne c q).1 (own_ne c q).2]; exact q
          · rw [thrown_ne (ne_ext c _ q fun ψ z => by cases z) (hb c _ q)]; exact q
/-- the frame is noted, the mark of flight taken off -/
theorem note_flight {E : Value → Shared → Prop} {Q : Unit → Shared → Prop} (I : Inv X pins σ H s) (hst : X.stack = X.env :: X.outer) (hfr : X.env.frame = some X.env.locals) (hf : Fresh H x C d ∨ ∃ T, Flown H x C d T)
    (h : ∀ h' T, H T = none → T ≠ x → Inv X pins σ (thrown H x C d T) { s with heap := h' } → Q () { s with heap := h' }) :
    wpAny (model X.prog X.w) X.A (noteFrame (.ref x) X.env) (fun _ s₂ => wpAny (model X.prog X.w) X.A (setFlight (.ref x) none) Q E s₂) E s := by
  have fr : X.A.frames = some (X.env :: X.outer) := hst ▸ I.ok.frames
  have ff : s.heap.FunFrames X.base (X.env :: X.outer) := hst ▸ I.stack
  have rest : ∀ {φ : Heap → Prop} {tt : List Addr} (hx : H x = some (.ext φ)) (htt : ∀ t ∈ tt, H t = some (TbO t) ∧ t ≠ x) (h1 : Heap) (T : Addr), NoteTo (frs (X.env :: X.outer)) tt x T (rawInt X.env.locals) (.ref C) d s.heap h1 →
      wpAny (model X.prog X.w) X.A (setFlight (.ref x) none) Q E { s with heap := h1 } := fun {φ tt} hx htt h1 T n => by
    obtain ⟨vs, sl, e1, e2⟩ := n.exc
    obtain ⟨o, ts, f1, f2, f3⟩ := n.tb
    refine flight_off (s := { s with heap := h1 }) e1 e2 f1 f2 (Array.getElem?_eq_some_iff.mp f3).1 fun h2 k2 t2 => ?_
    obtain ⟨hT, nT, un, ok⟩ := note_un I hx htt (hst ▸ n) k2 t2
    exact h h2 T hT nT (I.call (g' := s.gens) (d' := s.drawn) (t' := s.toks) (ch := []) un ok I.bare (fun b z => absurd z (by simp)))
  rcases hf with (⟨rfl, hx⟩ | ⟨dx, rfl, hx⟩) | ⟨T, hx, hT, ne⟩
  · obtain ⟨⟨vs, sl, e1, e2⟩, _⟩ := (show ObjOk X.prog X.w H s.heap x (ExcN C x) from I.hok x _ hx)
    exact note_new fr ff hfr e1 e2 fun h1 T n => rest (tt := []) hx (fun t z => absurd z (by simp)) h1 T n
  · obtain ⟨⟨vs, sl, e1, e2⟩, _⟩ := (show ObjOk X.prog X.w H s.heap x (ExcO C dx x) from I.hok x _ hx)
    exact note_new fr ff hfr e1 e2 fun h1 T n => rest (tt := []) hx (fun t z => absurd z (by simp)) h1 T n
  · obtain ⟨⟨vs, sl, e1, e2⟩, _⟩ := (show ObjOk X.prog X.w H s.heap x (ExcT C d x T) from I.hok x _ hx)
    obtain ⟨⟨o, ts, f1, f2, f3⟩, _⟩ := (show ObjOk X.prog X.w H s.heap T (TbO T) from I.hok T _ hT)
    exact note_next fr ff hfr e1 e2 f1 f2 f3 ne fun h1 T' n => rest (tt := [T]) hx (fun t z => by rw [List.mem_singleton.mp z]; exact ⟨hT, ne⟩) h1 T' n
theorem leave_inv {E : Value → Shared → Prop} {Q : Unit → Shared → Prop} (I : Inv X pins σ H s) (hst : X.stack = X.env :: X.outer) (hfr : X.env.frame = some X.env.locals) (hf : Fresh H x C d ∨ ∃ T, Flown H x C d T)
    (h : ∀ h' T, H T = none → T ≠ x → Inv X pins σ (thrown H x C d T) { s with heap := h' } → Q () { s with heap := h' }) : wpAny (model X.prog X.w) X.A (leaving X.env (.ref x)) Q E s := by
  unfold leaving
  exact wpAny_bind (note_flight I hst hfr hf h)
end
end L2
namespace L2
open PySem PySem.Spec PyProof.Rows PySem.W
/-- a raised refusal lies so behind a call -/
def CX1 (P : Program) (w : World) : CXT := fun outer H s E e s' => ∃ x T C d H', e = Value.ref x ∧ s'.os = s.os ∧ AllBare s'.gens ∧ Un (frs outer) [] H H' s.heap s'.heap ∧ HOk P w H' s'.heap ∧ Flown H' x C d T ∧ E (.ref x) d H'
/-- a refusal handed to the wish about exceptions is carried on -/
def XeOk (X : Cx) (E : XK) : Prop := ∀ (pins : List (Addr × Obj)) (σ : St) (H : Hp) (s : Shared) (x C : Addr) (d : Option Addr), Inv X pins σ H s → (Fresh H x C d ∨ ∃ T, Flown H x C d T) →
  (∀ T, H T = none → T ≠ x → E (.ref x) d (thrown H x C d T)) → X.xe (.ref x) s
section
variable {P : Program} {w : World} {K : PySem.W.Frag} {mg : Str → Option Value} {base : Heap} {N : List Str} {qual : Str} {scope : Scope} {f : Addr} {cd : Value} {A : Around} {outer : List Env} {s : Shared} {H : Hp} {E E₁ : XK}
theorem xeok_cx : XeOk (cxOf (CX1 P w) P w K mg base N qual scope f cd A outer s H E) E := by
  intro pins σ H1 s1 x C d I hf hE
  exact leave_inv I rfl rfl hf fun h' T hT nT I' => ⟨x, T, C, d, _, rfl, I'.os, I'.bare, I'.base, I'.hok, ⟨thrown_x, thrown_T nT, nT⟩, hE T hT nT⟩
end
section
variable {X : Cx} {E E₁ : XK}
end
/-- THE RULE for a def that refusals may leave -/
theorem Fun.okx {P : Program} {w : World} {K : PySem.W.Frag} {mg : Str → Option Value} {base : Heap} {x qual : Str} {st : Stmt} {f : Addr} {fd : FuncData} {N ps : List Str} {k : Nat} {sp : Sp} (F : Fun K x qual st f fd) (S : FnScope N ps (defScope st)) (len : ∀ vs H Q E, sp vs H Q E → vs.length = ps.length)
    (hbody : ∀ (cdv : Value) (A : Around) (outer : List Env) (s : Shared) (H : Hp) (vs : List V) (Q : VK) (E : XK), Room k (A.deeper (envOfC qual (defScope st) s.heap.objs.size f cdv)) → sp vs H Q E →
      ∃ t, PSs (cxOf (CX1 P w) P w K mg base N qual (defScope st) f cdv A outer s H E) (defBody st) t ∧ t { nx := fun _ H' => Q .non H', rt := Q } (start N vs) H) : FnOk P w K mg base (CX1 P w) (k + 1) f fd ps sp := by
  obtain ⟨oc, od, kV, doc, pm, an, cdv, ct, osl, rfl, lk, hcd⟩ := F.ex
  exact fn_of lk hcd S len fun A outer s H vs Q E hr hsp => hbody cdv A outer s H vs Q E hr hsp
structure DefOkX (P : Program) (w : World) (K : PySem.W.Frag) (mg : Str → Option Value) (base : Heap) (k : Nat) (x : Str) (ps : List Str) (sp : Sp) : Prop where
  ex : ∃ (f : Addr) (fd : FuncData), FnOk P w K mg base (CX1 P w) k f fd ps sp ∧ mg x = some (.ref f) ∧ PySem.W.keepIn K (.ref f) = true ∧ Binds K fd ps []
def sRaise (C : Addr) (names : List Str) (E : XK) (t : TA) : TS := fun _ σ H => t σ H fun vs H1 => vs.length = names.length ∧
  ∀ y dx T H2, H1 y = none → Same H1 H2 → H2 y = some (ExcO C dx y) → H2 dx = some (ExcD dx (names.zip vs)) → dx ≠ y → H2 T = none → T ≠ y → E (.ref y) (some dx) (thrown H2 y C (some dx) T)
section
variable {X : Cx} {k j : Nat} {x : Str} {C : Addr} {ps names : List Str} {sp : Sp} {p pos cpos : Pos} {e : Expr} {es : List Expr} {t : TA} {E E₁ : XK}
theorem pe_fnx (D : DefOkX X.prog X.w X.K X.mg X.base k x ps sp) (hr : Room j X.A) (hx : Passes (CX1 X.prog X.w) X E₁) (ha : PA X (e :: es) t) (hj : k ≤ j := by decide) (hg : Gl X x := by rfl) (hdb : (x == ("__debug__" : Str)) = false := by decide)
    (he : starEach (e :: es) X.env = (false, eval e X.env) :: starEach es X.env := by rfl) (hpl : (backTo pos (starEach es X.env)).any (·.1) = false := by rfl) : PE X (.Call (.Name x p) (e :: es) [] pos) (tCall sp [] E₁ t) := by
  obtain ⟨f, fd, F, hm, hk, hb⟩ := D.ex
  exact pe_call F (hr.mono hj) hg hm hk hb .nil hx ha hdb he hpl
theorem ps_raise (hX : XeOk X E) (D : XMkOk X.prog X.w X.K X.mg X.base k x C ps names) (hr : Room j X.A) (ha : PA X (e :: es) t) (hc : X.calm = true := by rfl) (hj : k + 1 ≤ j := by decide) (hg : Gl X x := by rfl) (hdb : (x == ("__debug__" : Str)) = false := by decide)
    (he : starEach (e :: es) X.env = (false, eval e X.env) :: starEach es X.env := by rfl) (hpl : (backTo cpos (starEach es X.env)).any (·.1) = false := by rfl) : PS X (.Raise (some (.Call (.Name x p) (e :: es) [] cpos)) none pos) (sRaise C names E t) := by
  intro pins s σ H Dd I h
  obtain ⟨f, fd, M, F, hm, hb⟩ := D.ex
  have pe : wpAny (model X.prog X.w) X.A (eval (.Call (.Name x p) (e :: es) [] cpos) X.env) (EP X pins σ fun v H2 => ∃ y d, v = V.ref y ∧ Fresh H2 y C d ∧ ∀ T, H2 T = none → T ≠ y → E (.ref y) d (thrown H2 y C d T)) X.xe s := by
    refine wpAny_Call_Name_kw (ld_glob I hg hm ?_ hdb)
    refine PySem.W.callWith_K (h₀ := X.base) I.ok.mod.kin M.kp (thn (ha cpos pins s σ H _ I h) fun us s1 ⟨vs, H1, I1, r, hl, q⟩ => ⟨I1.kIn, ?_⟩) he hpl
    refine run_xmk M F (hr.mono hj) hb pass0 I1 r (hl ▸ D.few) fun y hy => ⟨y, vs, rfl, hl, upd_same, fun d H' hd h1 h2 hs => ⟨rfl, y, some d, rfl, .inr ⟨d, rfl, h1⟩, fun T hT nT => ?_⟩⟩
    refine q y d T H' hy (fun a o ho => hs a o (ne_of_none ho hy) ?_) h1 h2 (fun z => by rw [z, upd_same] at hd; cases hd) hT nT
    rw [upd_ne (ne_of_none ho hy)]; exact ho
  rw [arm_exec_Raise]
  simp only [evalOpt, Option.map]
  refine wpAny_bind (wpAny_standAt (raise_made M (I.ok.hd hc) ?_))
  refine wpAny_bind (thn pe fun v s1 ⟨u, H2, I2, r, y, d, ey, fr, hE⟩ => wpAny_bind (wpAny_standAt (wpAny_pure ?_)))
  subst ey
  obtain rfl : v = Value.ref y := r
  have ob : ∃ vs sl, s1.heap.get? y = some ⟨.ref C, d, .fields vs, sl⟩ ∧ vs[1]? = some Value.none := by
    rcases fr with ⟨rfl, hx⟩ | ⟨dx, rfl, hx⟩
    · exact (show ObjOk X.prog X.w H2 s1.heap y (ExcN C y) from I2.hok y _ hx).1
    · exact (show ObjOk X.prog X.w H2 s1.heap y (ExcO C dx y) from I2.hok y _ hx).1
  obtain ⟨vs, sl, e1, e2⟩ := ob
  exact ⟨y, d, vs, sl, rfl, I2.kIn, e1, e2, hX pins σ H2 s1 y C d I2 (.inl fr) hE⟩
end
def emptyTo : Nat → Heap
  | 0 => {}
  | n + 1 => (emptyTo n).push { cls := .type "dict", data := .dict #[] }
theorem emptyTo_size : ∀ n, (emptyTo n).objs.size = n
  | 0 => rfl
  | n + 1 => by rw [emptyTo, Heap.size_push, emptyTo_size n]
theorem excT_inj {C C' x T T' : Addr} {d d' : Option Addr} (h : ExcT C d x T = ExcT C' d' x T') : C = C' ∧ d = d' ∧ T = T' := by
  have h : (HO.ext fun h => ∃ vs sl, h.get? x = some ⟨.ref C, d, .fields vs, sl⟩ ∧ vs[1]? = some (.ref T)) = HO.ext fun h => ∃ vs sl, h.get? x = some ⟨.ref C', d', .fields vs, sl⟩ ∧ vs[1]? = some (.ref T') := h
  injection h with h
  have e := congrFun h ((emptyTo x).push ⟨.ref C, d, .fields #[.none, .ref T], #[]⟩)
  have g : ((emptyTo x).push ⟨.ref C, d, .fields #[.none, .ref T], #[]⟩).get? x = some ⟨.ref C, d, .fields #[.none, .ref T], #[]⟩ := Heap.get?_push_at (emptyTo_size x).symm rfl
  have q := e.mp ⟨_, _, g, rfl⟩
  obtain ⟨vs, sl, e1, e2⟩ := q
  rw [g] at e1
  cases e1
  cases e2
  exact ⟨rfl, rfl, rfl⟩
/-- a raised refusal at x, of the class at C, its values fs -/
def XR (H : Hp) (x C : Addr) (d : Option Addr) (fs : List (Str × V)) : Prop := (∃ dx, d = some dx ∧ dx ≠ x ∧ H dx = some (ExcD dx fs)) ∧ ∃ T, H x = some (ExcT C d x T)
theorem xr_new {H1 H2 : Hp} {y C dx T : Addr} {fs : List (Str × V)} (hy : H1 y = none) (s : Same H1 H2) (e : H2 y = some (ExcO C dx y)) (ed : H2 dx = some (ExcD dx fs)) (hT : H2 T = none) (nd : dx ≠ y) :
    XR (thrown H2 y C (some dx) T) y C (some dx) fs ∧ Same H1 (thrown H2 y C (some dx) T) :=
  ⟨⟨⟨dx, rfl, nd, by rw [thrown_ne nd (ne_of_none ed hT)]; exact ed⟩, T, thrown_x⟩, fun a o ho => by rw [thrown_ne (ne_of_none ho hy) (ne_of_none (s a o ho) hT)]; exact s a o ho⟩
theorem xr_on {H H1 : Hp} {x C C' : Addr} {d : Option Addr} {T T2 : Addr} {fs : List (Str × V)} (hx : H1 x = none) (s : Same H1 H) (r : XR H x C d fs) (fl : Flown H x C' d T) (hT : H T2 = none) :
    C = C' ∧ XR (thrown H x C' d T2) x C d fs ∧ Same H1 (thrown H x C' d T2) := by
  obtain ⟨⟨dx, rfl, nd, ed⟩, T', e⟩ := r
  have q : C = C' := by
    have := fl.1
    rw [e] at this
    exact (excT_inj (Option.some.inj this)).1
  subst q
  exact ⟨rfl, ⟨⟨dx, rfl, nd, by rw [thrown_ne nd (ne_of_none ed hT)]; exact ed⟩, T2, thrown_x⟩, fun a o ho => by rw [thrown_ne (ne_of_none ho hx) (ne_of_none (s a o ho) hT)]; exact s a o ho⟩
/-- what is wanted of a refusal of the class at C, whose values are as P says -/
def Rf (H : Hp) (E : XK) (C : Addr) (P : List (Str × V) → Hp → Prop) : Prop := ∀ x d fs H', H x = none → Same H H' → XR H' x C (some d) fs → P fs H' → E (.ref x) (some d) H'
theorem Rf.raise {H H1 H2 : Hp} {E : XK} {C y dx T : Addr} {P : List (Str × V) → Hp → Prop} {fs : List (Str × V)} (r : Rf H E C P) (s1 : Same H H1) (hy : H1 y = none) (s : Same H1 H2) (e : H2 y = some (ExcO C dx y)) (ed : H2 dx = some (ExcD dx fs)) (nd : dx ≠ y)
    (hT : H2 T = none) (p : P fs (thrown H2 y C (some dx) T)) : E (.ref y) (some dx) (thrown H2 y C (some dx) T) := by
  obtain ⟨a, b⟩ := xr_new hy s e ed hT nd
  have hy0 : H y = none := by
    cases q : H y with
    | none => rfl
    | some o => rw [s1 y o q] at hy; cases hy
  exact r y dx fs _ hy0 (s1.trans b) a p
/-- the wish handed to a callee: a refusal of the class at C as P says -/
def XE (H : Hp) (R : Addr → List (Str × V) → Hp → Prop) : XK := fun v d H' => ∃ x C dx fs, v = .ref x ∧ d = some dx ∧ H x = none ∧ Same H H' ∧ XR H' x C (some dx) fs ∧ R C fs H'
theorem XE.rf {H : Hp} {R : Addr → List (Str × V) → Hp → Prop} {C : Addr} {P : List (Str × V) → Hp → Prop} (h : ∀ fs H', P fs H' → R C fs H') : Rf H (XE H R) C P := fun x d fs H' hx s r p => ⟨x, C, d, fs, rfl, rfl, hx, s, r, h fs H' p⟩
end L2
namespace L2
open PySem PySem.Spec PyProof.Rows PySem.W
section
variable {X : Cx} {pins : List (Addr × Obj)} {σ : St} {H : Hp} {s : Shared}
/-- the name goes behind the suite -/
theorem goes_ok {M : Model} {A : Around} {E : Value → Shared → Prop} {i : Nat} {n : Str} {pos : Pos} {Q : Unit → Shared → Prop} (I : Inv X pins σ H s) (hN : X.N.Nodup) (hi : X.N[i]? = some n) (hk : X.env.scope.names.lookup n = some .local)
    (h : ∀ s', Inv X pins (σ.set i none) H s' → Q () s') : wpAny M A (do bindName X.env n .none; unbindBehindTheSuite X.env n pos) Q E s := by
  obtain ⟨m, hn, hl⟩ := id I.loc
  have hcls : (X.env.scope.kind == .class || (X.env.scope.kind == .module && X.env.locals != X.env.globals)) = false := by rw [I.ok.kind]; rfl
  have hiσ : i < σ.length := by rw [I.len]; exact (List.getElem?_eq_some_iff.mp hi).1
  refine wpAny_nameGoes_keeps hk hn hcls fun h' v hn' hs => h _ ?_
  have nl : ∀ b o, X.s₀.heap.get? b = some o → b ≠ X.env.locals := fun b o e => Nat.ne_of_lt (Nat.lt_of_lt_of_le (Heap.lt_size e) I.ok.above)
  refine ⟨I.ok, I.os, I.bare, ⟨fun b o e z hb hx => (hs.2 b (nl b o e)).trans (I.base.keep b o e z hb hx), fun b o e z hb hx => ?_, I.base.free, fun b o e hx => ?_, I.base.tups, I.base.frzs, I.base.tbls⟩, ⟨_, hn', fun j y v' e1 e2 e3 => ?_⟩, fun y c e => ?_, I.free, I.freeC, fun p hp => ?_, fun b ob e => ?_, by simpa using I.len⟩
  · obtain ⟨sl, e1⟩ := I.base.slot b o e z hb hx
    exact ⟨sl, (hs.2 b (nl b o e)).trans e1⟩
  · obtain ⟨o', e1⟩ := I.base.there b o e hx
    exact ⟨o', (hs.2 b (nl b o e)).trans e1⟩
  · by_cases hj : j = i
    · subst hj
      rw [List.getElem?_set_self hiσ] at e2
      cases e2
    · rw [List.getElem?_set_ne (Ne.symm hj)] at e2
      obtain ⟨u', r', q⟩ := hl j y v' e1 e2 e3
      refine ⟨u', r', ?_⟩
      rcases q with ⟨k, e⟩ | ⟨k, c, e, z⟩
      · have ny : y ≠ n := fun e => hj (nodup_ix hN e1 (e ▸ hi))
        exact .inl ⟨k, by simp [ny, e]⟩
      · exact .inr ⟨k, c, e, z.sameBut hs (I.cne y c e)⟩
  · obtain ⟨w', z⟩ := I.cell y c e
    exact ⟨w', z.sameBut hs (I.cne y c e)⟩
  · obtain ⟨e, z, ne, nf, d⟩ := I.pin p hp
    exact ⟨(hs.2 p.1 ne).trans e, z, ne, nf, d⟩
  · refine (I.hok b ob e).stay (fun c w' hc q => (hs.2 c ?_).trans q) (fun _ q => q) fun _ _ q => q
    rintro rfl
    rcases hc with hc | hc
    · rw [← hc, I.free] at e; cases e
    · rw [I.free] at hc; cases hc
/-- the body of a try: the pins so far are borne, another wish -/
abbrev Cx.pw (X : Cx) (pn : List (Addr × Obj)) (E : Value → Shared → Prop) : Cx := { X with pn := pn, xe := E }
/-- a handler's suite: no exception leaves it -/
abbrev Cx.suite (X : Cx) (x : Addr) : Cx := { X with A := X.A.mark (some (.ref x)), calm := false, xe := fun _ _ => False }
theorem Inv.pw (I : Inv X pins σ H s) (E : Value → Shared → Prop) : Inv (X.pw (X.pn ++ pins) E) [] σ H s :=
  ⟨⟨I.ok.mod, I.ok.kind, I.ok.glob, I.ok.blt, I.ok.above, I.ok.inj, I.ok.has, I.ok.cab, I.ok.hd, I.ok.frames, I.ok.stk, I.ok.exf, I.ok.bs, I.ok.bsz, I.ok.noex, I.ok.exfs, I.ok.funs, I.ok.frf⟩, I.os, I.bare, I.base, I.loc, I.cell, I.free, I.freeC, fun p hp => I.pin p (by simpa using hp), I.hok, I.len⟩
theorem Inv.unpw {ok : X.Ok} {E : Value → Shared → Prop} {pins' : List (Addr × Obj)} (I : Inv (X.pw (X.pn ++ pins) E) pins' σ H s) : Inv X pins σ H s :=
  ⟨ok, I.os, I.bare, I.base, I.loc, I.cell, I.free, I.freeC, fun p hp => I.pin p (List.mem_append_left _ hp), I.hok, I.len⟩
theorem Inv.suite (I : Inv X pins σ H s) (x : Addr) : Inv (X.suite x) pins σ H s :=
  ⟨⟨I.ok.mod, I.ok.kind, I.ok.glob, I.ok.blt, I.ok.above, I.ok.inj, I.ok.has, I.ok.cab, (fun z => nomatch z), I.ok.frames, I.ok.stk, I.ok.exf, I.ok.bs, I.ok.bsz, I.ok.noex, I.ok.exfs, I.ok.funs, I.ok.frf⟩, I.os, I.bare, I.base, I.loc, I.cell, I.free, I.freeC, I.pin, I.hok, I.len⟩
theorem Inv.unsuite {ok : X.Ok} {x : Addr} (I : Inv (X.suite x) pins σ H s) : Inv X pins σ H s :=
  ⟨ok, I.os, I.bare, I.base, I.loc, I.cell, I.free, I.freeC, I.pin, I.hok, I.len⟩
end
end L2
namespace L2
open PySem PySem.Spec PyProof.Rows PySem.W
/-- an expression that a refusal may leave: the names' values stay known -/
def PX (X : Cx) (e : Expr) (t : TE) (E : XK) : Prop := ∀ (pins : List (Addr × Obj)) (s : Shared) (σ : St) (H : Hp) (Q : VK) (Ex : Value → Shared → Prop), Inv X pins σ H s → t σ H Q →
  (∀ x T C d H' s', Inv X pins σ H' s' → Flown H' x C d T → E (.ref x) d H' → Ex (.ref x) s') → wpAny (model X.prog X.w) X.A (eval e X.env) (EP X pins σ Q) Ex s
section
variable {X : Cx} {k j : Nat} {x : Str} {C : Addr} {ps : List Str} {sp : Sp} {p pos : Pos} {e : Expr} {es : List Expr} {t : TA} {E : XK}
theorem px_fn (D : DefOkX X.prog X.w X.K X.mg X.base k x ps sp) (hr : Room j X.A) (ha : PA X.nox (e :: es) t) (hj : k ≤ j := by decide) (hg : Gl X x := by rfl) (hdb : (x == ("__debug__" : Str)) = false := by decide)
    (he : starEach (e :: es) X.env = (false, eval e X.env) :: starEach es X.env := by rfl) (hpl : (backTo pos (starEach es X.env)).any (·.1) = false := by rfl) : PX X (.Call (.Name x p) (e :: es) [] pos) (tCall sp [] E t) E := by
  obtain ⟨f, fd, F, hm, hk, hb⟩ := D.ex
  intro pins s σ H Q Ex I h hx
  refine wpAny_Call_Name_kw (ld_glob I hg hm ?_ hdb)
  refine PySem.W.callWith_K (h₀ := X.base) I.ok.mod.kin hk (wpAny_mono (ha pos pins s σ H _ (I.wish _) h) (fun us s1 ⟨vs, H1, I1', r, q⟩ => ⟨I1'.unwish.kIn, ?_⟩) fun _ _ z => False.elim z) he hpl
  have I1 : Inv X pins σ H1 s1 := I1'.unwish
  have q : sp (vs ++ []) H1 Q E := q
  rw [List.append_nil] at q
  have hl : us.length = ps.length := by rw [← r.length]; exact F.len _ _ _ _ q
  have hb2 := hb s1 us I1.kIn (by rw [List.append_nil]; exact hl)
  rw [List.append_nil] at hb2
  refine wpAny_call (codeAny_mono (F.run X.A X.stack s1 H1 ⟨us, []⟩ us vs Q E (hr.mono hj) I1.env0 hb2 r q) fun r s' hq => ?_)
  cases r with
  | error e =>
    obtain ⟨x, T, C, d, H', rfl, os, bare, un, hok, fl, q'⟩ := hq
    exact hx x T C d H' s' (I1.call' (ch := []) os un hok bare (fun b z => absurd z (by simp))) fl q'
  | ok fl =>
    cases fl with
    | ret u => exact I1.after hq
    | next => exact False.elim hq
    | brk => exact False.elim hq
    | cont => exact False.elim hq
end
theorem match_sub {M : Model} {A : Around} {E : Value → Shared → Prop} {s : Shared} {K : Frag} {G C e : Addr} {d : Option Addr} {dt : Data} {sl' : Array (Option Value)} {Q : Bool → Shared → Prop} (X : K.In s.heap) (hG : PySem.W.excIn K G vErr "ValueError.__new__" = true)
    (he : s.heap.get? e = some ⟨.ref C, d, dt, sl'⟩) (hs : mroIn K C (.ref G) = some true) (h : Q true s) : wpAny M A (excMatches (.ref e) (.ref G)) Q E s := by
  have LS := looks_mroIn (M := M) X hs
  obtain ⟨hp, g, dr, tk, os⟩ := s
  have q := hG
  unfold PySem.W.excIn at q
  split at q
  · rename_i dd cd sl ho
    split at q
    · rename_i C' bm k0 k1 k2 k3 n k5 hm hs
      simp only [Bool.and_eq_true, beq_iff_eq, Bool.not_eq_true'] at q
      obtain ⟨⟨⟨⟨⟨rfl, rfl⟩, hdel⟩, ht⟩, hok⟩, hni⟩ := q
      obtain ⟨nm, bs, mro, ns, qn, hd, sn, sub, ab, col, del⟩ := cd
      dsimp only at hm hdel hok hni
      subst hm hdel
      have hsl : sl = #[k0, k1, k2, k3, some (.builtin "ValueError.__new__"), k5] := by
        obtain ⟨l⟩ := sl
        simp only at hs
        rw [hs]
      subst hsl
      have hC : hp.get? C' = some (excClassObj nm qn C' ns bs bm hd sn sub ab col dd k0 k1 k2 k3 k5 "ValueError.__new__") := X _ _ ho
      have hcB : (Value.ref C' :: bm).contains (.type "BaseException") = true := by
        rw [List.contains_cons, (tail_of_in X ht).hasType (show vErr.contains (.type "BaseException") = true by decide +kernel)]; exact Bool.or_true _
      have f := tc_notTuple
      unfold excMatches
      repeat (first | with_reducible refine wpAny_loadPart_at he ?_ | with_reducible refine wpAny_loadPart_at hC ?_ | (with_reducible refine wpAny_isSubtype_exc hC ?_; rw [hcB]) | (with_reducible refine LS.at ?_) | wp_step)
      exact h
    · cases q
  · cases q
/-- behind the suite the name goes -/
def goneD (im : Nat) (D : Ends) : Ends := { nx := fun σ H => D.nx (σ.set im none) H, rt := D.rt, bk := fun σ H => D.bk (σ.set im none) H, ct := fun σ H => D.ct (σ.set im none) H }
def sTry (K : Frag) (i im : Nat) (G : Addr) (te : XK → TE) (ts : TS) : TS := fun D σ H => ∃ E₁ : XK, te E₁ σ H (fun v H1 => D.nx (σ.set i (some v)) H1) ∧
  ∀ x C d T T2 H', E₁ (.ref x) d H' → Flown H' x C d T → H' T2 = none → T2 ≠ x → mroIn K C (.ref G) = some true ∧ ts (goneD im D) (σ.set im (some (.ref x))) (thrown H' x C d T2)
section
variable {X : Cx} {i im : Nat} {n m g : Str} {G : Addr} {value : Expr} {b₀ : Stmt} {suite : List Stmt} {np apos gp hpos pos : Pos} {te : XK → TE} {ts : TS}
theorem ps_tryset (hN : X.N.Nodup) (hi : X.N[i]? = some n) (hx : Loc X.env.scope n) (him : X.N[im]? = some m) (hm : X.env.scope.names.lookup m = some .local) (he : ∀ E, PX X value (te E) E) (hgl : Gl X g) (hg : X.mg g = some (.ref G))
    (hG : PySem.W.excIn X.K G vErr "ValueError.__new__" = true) (hst : X.stack = X.env :: X.outer) (hfr : X.env.frame = some X.env.locals) (hs : ∀ x, PSs (X.suite x) (b₀ :: suite) ts)
    (hsw : swapsWith value (some (.Name n np)) apos.line X.env = pure false := by rfl) (hf : X.fn n = true ∨ X.env.scope.names.lookup n = some .local := by first | exact .inl rfl | exact .inr rfl | assumption) (hdb : (g == ("__debug__" : Str)) = false := by decide) :
    PS X (.Try [.Assign [.Name n np] value apos] [.ExceptHandler (some (.Name g gp)) (some m) (b₀ :: suite) hpos] [] [] pos) (sTry X.K i im G te ts) := by
  intro pins s σ H D I ⟨E₁, h, hh⟩
  rw [arm_exec_Try]
  refine wpAny_bind (wpAny_standAt (wpAny_tryStmt_except ?_))
  refine wpAny_execs_cons (wpAny_Assign_Name (thn (he E₁ pins s σ H _ _ I h fun x T C d H' s' I' fl q => ?_) fun v s1 ⟨y, H1, I1, r1, q1⟩ => ?_) hsw)
  · refine note_flight I' hst hfr (.inr ⟨T, fl⟩) fun h' T2 hT2 nT2 I2 => ?_
    obtain ⟨hsub, hts⟩ := hh x C d T T2 H' q fl hT2 nT2
    have fl2 : Flown (thrown H' x C d T2) x C d T2 := ⟨thrown_x, thrown_T nT2, nT2⟩
    obtain ⟨⟨vs, sl, e1, e2⟩, _⟩ := (show ObjOk X.prog X.w (thrown H' x C d T2) h' x (ExcT C d x T2) from I2.hok x _ fl2.1)
    obtain ⟨⟨o, tv, f1, f2, f3⟩, _⟩ := (show ObjOk X.prog X.w (thrown H' x C d T2) h' T2 (TbO T2) from I2.hok T2 _ fl2.2.1)
    refine wpAny_handleBy_cons (codeAny_handlers_test (ld_glob (X := X.suite x) (I2.suite x) hgl hg (match_sub I2.kIn hG e1 hsub ?_) hdb)) (by intro z; cases z)
    show codeAny _ _ _ _ _
    refine codeAny_handlers_suite_as (flight_off e1 e2 f1 f2 (Array.getElem?_eq_some_iff.mp f3).1 fun h3 k3 t3 => ?_)
    have same : upd (thrown H' x C d T2) T2 (TbO T2) = thrown H' x C d T2 := funext fun b => by
      by_cases z : b = T2
      · rw [z, upd_same, thrown_T nT2]
      · rw [upd_ne z]
    have I3 : Inv X pins σ (thrown H' x C d T2) { s' with heap := h3 } := by
      have := I2.write (x := T2) (e := T2) (h' := h3) (o := TbO T2) (t' := s'.toks) (by rw [fl2.2.1]; exact True.intro) (.inl rfl) (fun b u nb z => (k3 b nb).trans z) (let ⟨o, _, e, _⟩ := t3; ⟨o, e⟩) (tbO_ok t3)
      rw [same] at this
      exact this
    refine store_ok (X := X.suite x) (I3.suite x) hN him (.inl hm) (v := .ref x) rfl (fun s4 I4 => ?_) (.inr hm)
    refine wpAny_mono (hs x pins s4 _ _ (goneD im D) I4 hts) (fun fl s5 q5 => ?_) fun _ _ z => False.elim z
    show wpAny (model X.prog X.w) X.A (do bindName X.env m .none; unbindBehindTheSuite X.env m hpos) (fun _ s₃ => SP X pins D fl s₃) X.xe s5
    cases fl with
    | next => obtain ⟨σ', H5, I5, q⟩ := q5; exact goes_ok (I5.unsuite (ok := I.ok)) hN him hm fun s6 I6 => ⟨_, H5, I6, q⟩
    | brk => obtain ⟨σ', H5, I5, q⟩ := q5; exact goes_ok (I5.unsuite (ok := I.ok)) hN him hm fun s6 I6 => ⟨_, H5, I6, q⟩
    | cont => obtain ⟨σ', H5, I5, q⟩ := q5; exact goes_ok (I5.unsuite (ok := I.ok)) hN him hm fun s6 I6 => ⟨_, H5, I6, q⟩
    | ret u => obtain ⟨v, σ', H5, I5, r, q⟩ := q5; exact goes_ok (I5.unsuite (ok := I.ok)) hN him hm fun s6 I6 => ⟨v, _, H5, I6, r, q⟩
  · exact store_ok I1 hN hi hx r1 (fun s2 I2 => wpAny_execs_nil (wpAny_execs_nil ⟨_, H1, I2, q1⟩)) hf
end
end L2
namespace L2
open PySem PySem.Spec PyProof.Rows
section
variable {prog : Program} {w : World} {A : Around} {R : Result → Shared → Prop} {s : Shared}
end
section
variable {X : Cx} {elt tg iter : Expr} {scope : Scope} {pos : Pos} {wi : TI} {g : TG} {te : TE} {N : List Str} {fr : List (Option Nat)}
variable {cnd : Expr} {tc : TT}
end
end L2
namespace L2
open PySem PySem.Spec PyProof.Rows
section
variable {X : Cx} {a b c d : Expr} {ta tb tc td : TE} {pos : Pos}
theorem ix_tupK {K : PySem.W.Frag} (hK : X.K = K := by rfl) : IxR X (rIxT K) := by subst hK; exact ix_tup
theorem ix_listK {K : PySem.W.Frag} (hK : X.K = K := by rfl) : IxR X (rIxL K) := by subst hK; exact ix_list
end
end L2
namespace L2
open PySem PySem.Spec PyProof.Rows
section
variable {X : Cx}
end
section
variable {X : Cx} {tg : Expr}
end
end L2
namespace L2
open PySem PySem.Spec PyProof.Rows PySem.W
section
variable {X : Cx} {k j : Nat} {m : Str} {ps : List Str} {sp : Sp} {pos apos : Pos} {e o : Expr} {es : List Expr} {t : TA} {ta : TE} {S : Addr → Prop}
end
section
variable {X : Cx} {g : Str} {G : Addr} {value : Expr} {b₀ : Stmt} {suite : List Stmt} {apos gp hpos pos : Pos} {te : XK → TE} {ts : TS}
end
end L2
namespace L2
open PySem PySem.Spec PyProof.Rows PySem.W
section
variable {P : Program} {w : World} {K : PySem.W.Frag} {mg : Str → Option Value} {base : Heap}
end
end L2
namespace L2
open PySem PySem.Spec PyProof.Rows PySem.W
end L2
namespace L2
open PySem PySem.Spec PyProof.Rows
theorem vals_strs : ∀ {ys : List Str} {us : List Value}, Vals (ys.map V.str) us → StrsAre us ys
  | [], _, .nil => .nil
  | y :: ys, _, .cons r t => by
    obtain ⟨tk, rfl⟩ := r
    exact .cons y tk (vals_strs t)
theorem strs_vals : ∀ (l : List (Str × Tok)), Vals ((l.map (·.1)).map V.str) (strValues l)
  | [] => .nil
  | p :: l => .cons ⟨_, rfl⟩ (strs_vals l)
def rJoin : V → List V → Hp → VK → Prop := fun x xs H Q => ∃ z l ys, x = .str z ∧ xs = [.ref l] ∧ H l = some (.lst (ys.map V.str)) ∧ (ys.map (·.length)).sum + ys.length * z.length ≤ 16777216 ∧ Q (.str (Txt.join z ys)) H
def rSplit : V → List V → Hp → VK → Prop := fun x xs H Q => ∃ z y, x = .str z ∧ xs = [.str y] ∧ (y.length == 0) = false ∧ z.length + 2 ≤ sizeLine ∧ ∀ l, H l = none → Q (.ref l) (upd H l (.lst ((Txt.split z y).map V.str)))
section
variable {X : Cx}
theorem mt_join : MtR X "str.join" rJoin := by
  intro pins s σ H x xs v us Q I rx rv h
  obtain ⟨z, l, ys, rfl, rfl, hl, hz, q⟩ := h
  obtain ⟨t, rfl⟩ := rx
  obtain ⟨u, rfl, ru⟩ := rv.one
  cases ru
  obtain ⟨its, n, r, e, _⟩ := I.lst hl
  exact join_list (items := its.toArray) ⟨_, e, rfl, n, rfl⟩ (vals_strs r) hz fun t' k => ⟨.str _, H, I.tok k, ⟨t', rfl⟩, q⟩
theorem mt_split : MtR X "str.split" rSplit := by
  intro pins s σ H x xs v us Q I rx rv h
  obtain ⟨z, y, rfl, rfl, hy, hz, q⟩ := h
  obtain ⟨t, rfl⟩ := rx
  obtain ⟨u0, rfl, u, rfl⟩ := rv.one
  have hn : (Builtin.Str.partsBetween z (Builtin.Str.occurrences z y 0 z.length (z.length + 1)) y.length).length ≤ sizeLine := by
    have e1 := StrLaws.occ_length_le z y 0 z.length (z.length + 1)
    rw [length_partsBetween]; first | lia | omega
  have fin : ∀ (l : List (Str × Tok)) (tk : Nat), l.map (·.1) = Txt.split z y → EP X pins σ Q (.ref s.heap.objs.size) { s with toks := tk, heap := s.heap.push { cls := .type "list", data := .seq (strValues l).toArray } } := fun l tk e => by
    refine ⟨.ref _, _, I.laid (t' := tk) (o := .lst ((Txt.split z y).map V.str)) (fun b ob q => Heap.get?_push_of_some _ q) (Nat.le_refl _) ⟨?_, strValues l, 0, ?_, Heap.get?_push_size _ rfl⟩, rfl, q _ (I.hok.fresh (Nat.le_refl _))⟩
    · rw [List.length_map]
      have := split_le z y
      first | lia | omega
    · rw [← e]; exact strs_vals l
  cases h1 : (decide (z.length < y.length) || decide (Builtin.Str.strKind z < Builtin.Str.strKind y))
  · cases hf : (Builtin.Str.occurrences z y 0 z.length (z.length + 1)).isEmpty
    · refine call_meets PySem.F.slot_str_split (typeIs_str _ _ _) PySem.F.entry_str_split (PySem.F.args_str_split_2 _ _) (meets_str_split_sep z y t u h1 hy hf (by first | lia | omega) hn) ?_
      show wants (EP X pins σ Q) _ _ { s with toks := _, heap := s.heap.push { cls := .type "list", data := .seq (strsFrom s.toks (Builtin.Str.partsBetween z (Builtin.Str.occurrences z y 0 z.length (z.length + 1)) y.length)).toArray } }
      rw [strsFrom_eq]
      exact fin (numbered s.toks _) _ ((numbered_texts _ _).trans ((if_neg (ne_true_of_eq_false h1)).trans (if_neg (ne_true_of_eq_false hf))).symm)
    · exact call_meets PySem.F.slot_str_split (typeIs_str _ _ _) PySem.F.entry_str_split (PySem.F.args_str_split_2 _ _) (meets_str_split_not_found z y t u h1 hy hf) (fin [(z, t)] s.toks ((if_neg (ne_true_of_eq_false h1)).trans (if_pos hf)).symm)
  · exact call_meets PySem.F.slot_str_split (typeIs_str _ _ _) PySem.F.entry_str_split (PySem.F.args_str_split_2 _ _) (meets_str_split_cannot_occur z y t u h1) (fin [(z, t)] s.toks (if_pos h1).symm)
def rSlS : V → Option Int → Option Int → Hp → VK → Prop := fun x lo hi H Q => ∃ z, x = .str z ∧ z.length ≤ sizeLine ∧ Q (.str (Txt.slice z lo hi)) H
theorem sl_str : SlR X rSlS := by
  intro pins s σ H x v vl vu lo hi sl Q I rx hs pl pu h
  obtain ⟨z, rfl, hz, q⟩ := h
  obtain ⟨t, rfl⟩ := rx
  refine ⟨"str", _, PySem.F.slot_str_getitem.lookup, typeIs_str _ _ _, ?_⟩
  obtain ⟨o, h1, h2, h3⟩ := hs
  cases pl with
  | none =>
    cases pu with
    | none => exact wpAny_getItem_str_slice (l := none) (u := none) (st := none) ⟨o, h1, h2, h3⟩ rfl (post_val_or_str ⟨Nat.le_trans (Txt.slice_le z none none) hz, fun t' k => ⟨.str (Txt.slice z none none), H, I.tok k, ⟨t', rfl⟩, q⟩⟩)
    | int j u => exact wpAny_getItem_str_slice (l := none) (u := some (j, u)) (st := none) ⟨o, h1, h2, h3⟩ rfl (post_val_or_str ⟨Nat.le_trans (Txt.slice_le z none (some j)) hz, fun t' k => ⟨.str (Txt.slice z none (some j)), H, I.tok k, ⟨t', rfl⟩, q⟩⟩)
  | int i t1 =>
    cases pu with
    | none => exact wpAny_getItem_str_slice (l := some (i, t1)) (u := none) (st := none) ⟨o, h1, h2, h3⟩ rfl (post_val_or_str ⟨Nat.le_trans (Txt.slice_le z (some i) none) hz, fun t' k => ⟨.str (Txt.slice z (some i) none), H, I.tok k, ⟨t', rfl⟩, q⟩⟩)
    | int j u => exact wpAny_getItem_str_slice (l := some (i, t1)) (u := some (j, u)) (st := none) ⟨o, h1, h2, h3⟩ rfl (post_val_or_str ⟨Nat.le_trans (Txt.slice_le z (some i) (some j)) hz, fun t' k => ⟨.str (Txt.slice z (some i) (some j)), H, I.tok k, ⟨t', rfl⟩, q⟩⟩)
end
def Itx (z : Str) : It := ⟨fun i _ => i < z.length, fun i H y H' => ∃ c, z.cps[i]? = some c ∧ y = .str ⟨#[c]⟩ ∧ H' = H, fun i _ => z.length ≤ i⟩
theorem turn_text {P : Program} {w : World} {K : PySem.W.Frag} {tg : Expr} (z : Str) (t : Tok) (it : Addr) : Turn P w K tg (Itx z) [it] it (fun i h => h.IsStrIter it "str_ascii_iterator" z t i) where
  mem := by simp
  obj := fun i h st b hb => by
    obtain ⟨o, e, c, d⟩ := st
    rw [List.mem_singleton.mp hb]
    exact ⟨o, e, fun v z => by rw [d] at z; cases z⟩
  keep := fun i h h' st k => by
    obtain ⟨o, e, c, d⟩ := st
    exact ⟨o, k it (by simp) o e, c, d⟩
  item := by
    intro X hP hw hK hc i pins s σ H E I hf st hg
    subst hP hw hK
    have hg : i < z.cps.size := hg
    obtain ⟨f0, f1, f2, f3, f4, f5⟩ := hf it (by simp)
    refine wpAny_pyNext_ascii_item st (c := z.cps[i]) (by simp [hg]) fun h' st' sb => ?_
    have I1 : Inv X pins σ H { s with heap := h', toks := s.toks + 1 } := I.turned (t' := s.toks + 1) (fun b o hb e => (sb.2 b hb).trans e) f0 f1 f3 f4 f5
    obtain ⟨o, e, c, d⟩ := id st'
    exact ⟨_, rfl, go_of (s := { s with heap := h', toks := s.toks + 1 }) e c d (by decide) ⟨.str ⟨#[z.cps[i]]⟩, H, I1, ⟨_, rfl⟩, ⟨z.cps[i], by simp [hg], rfl, rfl⟩, st', fun b hb => (hf b hb).1⟩⟩
  done := by
    intro X hP hw hK hc i pins s σ H E I hf st hg
    subst hP hw hK
    have hg : z.cps.size ≤ i := hg
    obtain ⟨f0, f1, f2, f3, f4, f5⟩ := hf it (by simp)
    exact wpAny_pyNext_ascii_end (I.ok.hd hc) st (Array.getElem?_eq_none hg) fun h' eb => ⟨rfl, I.turned (t' := s.toks) (fun b o hb e => eb b o hb e) f0 f1 f3 f4 f5⟩
  self := fun _ _ _ _ _ st h => wpAny_pyIter_striter_ascii st h
def iText (td : TE) : TI := fun σ H R => td σ H fun x H1 => ∃ z, x = .str z ∧ z.cps.all (· < 128) = true ∧ R (Itx z) H1
section
variable {X : Cx}
theorem pi_text {tg o : Expr} {td : TE} (hp : PE X o td) : PI X tg o (iText td) := by
  intro pins s σ H R I h
  refine thn (hp pins s σ H _ I h) fun v s1 ⟨x, H1, I1, r1, q1⟩ => ?_
  obtain ⟨z, e, ha, q⟩ := q1
  subst e
  obtain ⟨t, rfl⟩ := r1
  refine wpAny_pyIter_ascii ha ?_
  have I3 := I1.kept (h' := s1.heap.push { cls := .type "str_ascii_iterator", data := .fields #[.str z t, .int 0 0] }) (t' := s1.toks) fun b u z => Heap.get?_push_of_some _ z
  refine ⟨s1.heap.objs.size, [s1.heap.objs.size], _, _, _, rfl, I3, turn_text z t _, ⟨_, Heap.get?_push_size _ rfl, rfl, rfl⟩, fun b hb' => ?_, q⟩
  rw [List.mem_singleton.mp hb']
  exact I1.fpOk (Nat.le_refl _) (I1.hok.fresh (Nat.le_refl _))
end
theorem comp_text {z : Str} {g : TG} {te : TE} {σ : St} {H1 : Hp} {acc : Addr} {Qr : Hp → Prop} (Pv : Nat → List V → St → Hp → Prop) (h0 : Pv 0 [] σ (upd H1 acc (.lst [])))
    (hs : ∀ i c xs σ H, z.cps[i]? = some c → i < z.length → xs.length = i → H acc = some (.lst xs) → Pv i xs σ H → g (.str ⟨#[c]⟩) σ H fun σ2 H2 => te σ2 H2 fun v H3 => cNx acc z.length Pv i σ2 v H3)
    (hd : ∀ xs σ H, xs.length = z.length → H acc = some (.lst xs) → Pv z.length xs σ H → Qr H) :
    ∃ W : Nat → Nat → St → Hp → Prop, (∃ m, W 0 m σ (upd H1 acc (.lst []))) ∧ ∀ i m σ1 H2, W i m σ1 H2 →
      ((Itx z).stop i H2 ∧ Qr H2) ∨ ((Itx z).go i H2 ∧ ∀ x H3, (Itx z).yld i H2 x H3 → g x σ1 H3 fun σ4 H4 => te σ4 H4 fun v H5 => ∃ xs, H5 acc = some (.lst xs) ∧ xs.length < sizeLine ∧ ∃ m', m' < m ∧ W (i + 1) m' σ4 (upd H5 acc (.lst (xs ++ [v])))) := by
  refine ⟨cW acc z.length Pv, ⟨z.length, Nat.zero_le _, rfl, [], rfl, upd_same, h0⟩, ?_⟩
  rintro i m σ1 H2 ⟨hi, rfl, xs, hl, ha, hp⟩
  rcases Nat.lt_or_ge i z.length with h | h
  · refine .inr ⟨h, ?_⟩
    rintro x H3 ⟨c, hc, rfl, rfl⟩
    exact hs i c xs σ1 _ hc h hl ha hp
  · have e : i = z.length := Nat.le_antisymm hi h
    subst e
    exact .inl ⟨Nat.le_refl _, hd xs σ1 H2 hl ha hp⟩
end L2
namespace L2
open PySem PySem.Spec PyProof.Rows PySem.W
section
variable {X : Cx}
end
end L2
namespace L2
open PySem PySem.Spec PyProof.Rows
theorem Paired.get {α β : Type} {F : α → β → Prop} : ∀ {l₁ : List α} {l₂ : List β}, Paired F l₁ l₂ → ∀ {i : Nat} {a : α}, l₁[i]? = some a → ∃ b, l₂[i]? = some b ∧ F a b
  | _, _, .nil, i, a, h => by simp at h
  | _, _, .cons f t, 0, a, h => by
    simp only [List.getElem?_cons_zero, Option.some.injEq] at h
    subst h
    exact ⟨_, rfl, f⟩
  | _, _, .cons f t, i + 1, a, h => by
    simp only [List.getElem?_cons_succ] at h ⊢
    exact Paired.get t h
theorem kV_rel {P : Program} {w : World} {k : Key} {u : Value} (h : (mixKind P w).is k u = true) : RelV (kV k) u := by
  rcases keyIs_shape (show keyIs k u = true from h) with ⟨i, t, rfl, rfl⟩ | ⟨x, t, rfl, rfl⟩
  · exact ⟨t, rfl⟩
  · exact ⟨t, rfl⟩
/-- the dict at a, kept as the object ob while it is walked; at each turn a new tuple of a key and its value -/
def Itm (a : Addr) (ob : Obj) : It :=
  ⟨fun i H => ∃ kvs p, H a = some (.frz ob (.dK kvs)) ∧ kvs[i]? = some p,
   fun i H y H' => ∃ t p, (∀ kvs, H a = some (.frz ob (.dK kvs)) → kvs[i]? = some p) ∧ y = .ref t ∧ H t = none ∧ H' = upd H t (.tup [kV p.1, p.2]),
   fun i H => ∃ kvs, H a = some (.frz ob (.dK kvs)) ∧ kvs.length ≤ i⟩
theorem frz_at {P : Program} {w : World} {H : Hp} {h : Heap} {a : Addr} {ob : Obj} {kvs : List (Key × V)} {ents : Array DictEntry} {n ep : Nat} (ok : HOk P w H h) (e : H a = some (.frz ob (.dK kvs))) (hd : ob.data = .dict ents ep) (hn : ents.size = n) :
    ∃ vs, KV kvs vs ∧ h.DictAt (mixKind P w) a vs ep ∧ vs.length = n := by
  obtain ⟨ho, _, _, vs, rel, o, es, ep', h1, h2, h3, h4, h5, h6⟩ := (show ObjOk P w H h a (.frz ob (.dK kvs)) from ok a _ e)
  rw [ho] at h1
  cases h1
  rw [hd] at h3
  cases h3
  refine ⟨vs, rel, ⟨_, _, ho, h2, hd, h4, h5, h6⟩, ?_⟩
  rw [← h5.length, Array.length_toList]
  exact hn
theorem turn_items {P : Program} {w : World} {K : PySem.W.Frag} {es : List Expr} {k : Nat} {pos : Pos} (a it : Addr) {ob : Obj} {ents : Array DictEntry} {n ep : Nat} (hd : ob.data = .dict ents ep) (hn : ents.size = n) :
    Turn P w K (.Tuple es k pos) (Itm a ob) [it] it (fun i h => ∃ ok ov, IsItemIter h it a i n ep ok ov) where
  mem := by simp
  obj := fun i h st b hb => by
    obtain ⟨ok, ov, he⟩ := st
    rw [List.mem_singleton.mp hb]
    exact ⟨_, he, fun v z => by
      have z' : Data.fields _ = Data.cell v := z
      cases z'⟩
  keep := fun i h h' st kk => by
    obtain ⟨ok, ov, he⟩ := st
    exact ⟨ok, ov, kk it (by simp) _ he⟩
  item := by
    intro X hP hw hK hc i pins s σ H E I hf st hg
    subst hP hw hK
    obtain ⟨ok, ov, he⟩ := st
    obtain ⟨kvs, p, hq, hx⟩ := hg
    obtain ⟨vs, rel, hat, hl⟩ := frz_at I.hok hq hd hn
    obtain ⟨⟨k', u⟩, hu, hk', ru⟩ := Paired.get rel hx
    have fi := hf it (by simp)
    subst hl
    refine wpAny_pyNext_items_item he hat hu fun key h' hkey ho hT hsz kk => ?_
    refine ⟨_, rfl, ?_⟩
    have hfr : H s.heap.objs.size = none := I.hok.fresh (Nat.le_refl _)
    have ltI : it < s.heap.objs.size := Heap.lt_size he
    have rk : RelV (kV p.1) key := by
      have e : p.1 = k' := hk'
      rw [e]
      exact kV_rel hkey
    have I1 : Inv X pins σ (upd H s.heap.objs.size (.tup [kV p.1, p.2])) { s with heap := h', toks := s.toks } := by
      refine enum_step I fi fi (fun b o nb _ z => kk b o nb z) ⟨_, ho⟩ ⟨_, ho⟩ ⟨?_, [key, u], .cons rk (.cons ru .nil), ⟨_, hT, rfl, _, rfl⟩⟩
      show 2 ≤ sizeLine
      decide
    refine wpAny_letOwnedTupleGo_items (s := { s with heap := h' }) ho fun h2 he2 sb => ?_
    have nI : it ≠ s.heap.objs.size := Nat.ne_of_lt ltI
    have fi2 : (upd H s.heap.objs.size (.tup [kV p.1, p.2])) it = none := by rw [upd_ne nI]; exact fi.1
    have I2 : Inv X pins σ (upd H s.heap.objs.size (.tup [kV p.1, p.2])) { ({ s with heap := h', toks := s.toks } : Shared) with heap := h2, toks := s.toks } :=
      I1.turned (t' := s.toks) (it := it) (fun b o hb z => (sb.2 b hb).trans z) fi2 fi.2.1 fi.2.2.2.1 fi.2.2.2.2.1 fi.2.2.2.2.2
    refine ⟨.ref s.heap.objs.size, _, I2, rfl, ⟨_, p, fun ys hy => ?_, rfl, hfr, rfl⟩, ⟨_, _, he2⟩, fun b hb => ?_⟩
    · rw [hq] at hy
      cases hy
      exact hx
    · rw [List.mem_singleton.mp hb]; exact fi2
  done := by
    intro X hP hw hK hc i pins s σ H E I hf st hg
    subst hP hw hK
    obtain ⟨ok, ov, he⟩ := st
    obtain ⟨kvs, hq, hx⟩ := hg
    obtain ⟨vs, rel, hat, hl⟩ := frz_at I.hok hq hd hn
    obtain ⟨f0, f1, f2, f3, f4, f5⟩ := hf it (by simp)
    have hle : kvs.length = vs.length := rel.length
    subst hl
    exact wpAny_pyNext_items_end (I.ok.hd hc) he hat (List.getElem?_eq_none (by first | lia | omega)) fun h' eb => ⟨rfl, I.turned (t' := s.toks) (fun b o hb z => eb b o hb z) f0 f1 f3 f4 f5⟩
  self := fun _ _ _ _ _ st h => by
    obtain ⟨ok, ov, he⟩ := st
    exact PySem.W.kcp_self he h
def iItems (td : TE) : TI := fun σ H R => td σ H fun x H1 => ∃ a kvs, x = .ref a ∧ H1 a = some (.dK kvs) ∧ ∀ ob, R (Itm a ob) (upd H1 a (.frz ob (.dK kvs)))
section
variable {X : Cx}
theorem pi_items {o : Expr} {es : List Expr} {k : Nat} {tpos apos cpos : Pos} {td : TE} (hp : PE X o td)
    (hb : attributeBase o "items" X.env (eval o X.env) = eval o X.env := by rfl) (hline : (apos.endLine == cpos.line) = true := by rfl) :
    PI X (.Tuple es k tpos) (.Call (.Attribute o "items" apos) [] [] cpos) (iItems td) := by
  intro pins s σ H R I h
  refine wpAny_Call_method0_late hb hline (thn (hp pins s σ H _ I h) fun v s1 ⟨x, H1, I1, r1, q1⟩ => ?_)
  obtain ⟨a, kvs, e, ea, q⟩ := q1
  subst e
  cases r1
  obtain ⟨hty, hnd, hsys⟩ := isD_at I1 (.inl ⟨kvs, .inl ea⟩)
  obtain ⟨_, _, vs, rel, dd⟩ := dk_of I1.hok ea
  refine ⟨"dict", "dict.items", PySem.F.plainAttrs_dict, PySem.F.slot_dict_items, PySem.F.type_dict_items, hty, hnd, Calls.callWith_builtin rfl (PySem.evalArgs_none ?_)⟩
  refine call_meetsIn PySem.F.slot_dict_items dd.typeIs PySem.F.entry_dict_items (PySem.F.args_dict_items_1 _) (meets_dict_items (mixKind X.prog X.w) a hsys) ⟨⟨vs, dd⟩, ?_⟩
  obtain ⟨ob, ents, ep, g1, g2, g3, g4, g5, g6⟩ := id dd
  have hat : s1.heap.DictAt (mixKind X.prog X.w) a vs ep := ⟨ob, ents, g1, g2, g3, g4, g5, g6⟩
  refine wpAny_pyIter_items (knd := mixKind X.prog X.w) ⟨_, Heap.get?_push_size _ rfl, rfl, rfl⟩ (hat.push _) ?_
  have I2 : Inv X pins σ H1 { s1 with heap := s1.heap.push { cls := .type "dict_items", data := .fields #[.ref a] }, toks := s1.toks } := I1.kept fun b u z => Heap.get?_push_of_some _ z
  have I3 := I2.kept (h' := (s1.heap.push { cls := .type "dict_items", data := .fields #[.ref a] }).push { cls := .type "dict_itemiterator", data := .fields #[.none, .bool false, .ref a, .int 0 0, .int vs.length 0, .int ep 0, .none, .none] }) (t' := s1.toks) fun b u z => Heap.get?_push_of_some _ z
  have g1' : ((s1.heap.push { cls := .type "dict_items", data := .fields #[.ref a] }).push { cls := .type "dict_itemiterator", data := .fields #[.none, .bool false, .ref a, .int 0 0, .int vs.length 0, .int ep 0, .none, .none] }).get? a = some ob := Heap.get?_push_of_some _ (Heap.get?_push_of_some _ g1)
  have I4 := I3.write (x := a) (e := a) (o := .frz ob (.dK kvs)) (h' := (s1.heap.push { cls := .type "dict_items", data := .fields #[.ref a] }).push { cls := .type "dict_itemiterator", data := .fields #[.none, .bool false, .ref a, .int 0 0, .int vs.length 0, .int ep 0, .none, .none] }) (t' := s1.toks)
    (by rw [ea]; exact True.intro) (.inl rfl) (fun b u _ z => z) ⟨ob, g1'⟩ ⟨g1', I3.hok a _ ea⟩
  have hsz : ents.size = vs.length := by rw [← g5.length, Array.length_toList]
  have na : s1.heap.objs.size + 1 ≠ a := Nat.ne_of_gt (Nat.lt_succ_of_lt (Heap.lt_size g1))
  refine ⟨(s1.heap.push { cls := .type "dict_items", data := .fields #[.ref a] }).objs.size, [(s1.heap.push { cls := .type "dict_items", data := .fields #[.ref a] }).objs.size], _, _, _, rfl, I4, turn_items a _ g3 hsz, ⟨_, _, Heap.get?_push_size _ rfl⟩, fun b hb' => ?_, q ob⟩
  rw [List.mem_singleton.mp hb']
  refine I2.fpOk (Nat.le_refl _) ?_
  rw [upd_ne (by rw [Heap.size_push]; exact na)]
  exact I2.hok.fresh (Nat.le_refl _)
end
section
variable {X : Cx}
end
section
variable {prog : Program} {w : World} {A : Around} {E : Value → Shared → Prop} {s : Shared}
/-- which of the ints comes out -/
theorem least_at {its : List Value} {ns : List Int} {xs : Array (Int × Tok)} (hi : IntsAre its ns) (e : its.toArray = intItems xs) (hn : ns ≠ []) {v : Value}
    (hv : (intItems xs)[argBest (fun i j => decide (numAt xs i < numAt xs j)) (xs.size - 1)]? = some v) : ∃ m t, v = .int m t ∧ m ∈ ns ∧ ∀ z ∈ ns, m ≤ z := by
  have hns : ns = xs.toList.map (·.1) := by rw [← hi.numsOf, ← nums_intItems, ← e]
  have hsz : 0 < xs.size := by
    rcases Nat.eq_zero_or_pos xs.size with z | z
    · exact absurd (by rw [hns, List.map_eq_nil_iff, ← List.length_eq_zero_iff, Array.length_toList]; exact z) hn
    · exact z
  obtain ⟨t, rfl⟩ := intItems_at hv
  obtain ⟨b1, b2⟩ := argBest_lt (numAt xs) (xs.size - 1)
  refine ⟨_, t, rfl, ?_, fun z hz => ?_⟩
  · rw [hns, numAt_eq]; exact getD_mem (by rw [List.length_map, Array.length_toList]; first | lia | omega)
  · rw [hns] at hz
    obtain ⟨j, hj, rfl⟩ := mem_getD hz
    rw [List.length_map, Array.length_toList] at hj
    rw [← numAt_eq]; exact b2 j (by first | lia | omega)
end
section
variable {X : Cx}
theorem call_min1 : CallR X (.builtin "min") (fun xs H Q => ∃ (p : Addr) (ns : List Int), xs = [.ref p] ∧ SqL X.K H p (ns.map V.int) ∧ X.calm = true ∧ ns ≠ [] ∧ ∀ m, m ∈ ns → (∀ z ∈ ns, m ≤ z) → Q (.int m) H) := by
  intro pins s σ H xs us Q I r h
  obtain ⟨p, ns, rfl, hp, hc, hn, q⟩ := h
  obtain ⟨u, rfl, ru⟩ := vals1 r
  cases ru
  obtain ⟨its, rv, pl, hz⟩ := I.list hp
  have hi := intsAre_of rv
  obtain ⟨xs, e⟩ := hi.allInts.items
  have hl : s.heap.IsList p (intItems xs) := e ▸ pl.isList
  have hsz : 0 < xs.size := by
    have l1 : ns.length = its.length := by rw [← hi.length]
    have l2 : its.length = xs.size := by
      have := congrArg Array.size e
      simpa [intItems] using this
    have l3 : 0 < ns.length := List.length_pos_iff.mpr hn
    first | lia | omega
  refine min_intList (I.ok.hd hc) hl hsz fun v h' tk hv hk => ?_
  obtain ⟨m, t, rfl, hm, hle⟩ := least_at hi e hn hv
  exact ⟨.int m, H, I.kept (t' := tk) hk, ⟨t, rfl⟩, q m hm hle⟩
end
section
variable {prog : Program} {w : World} {A : Around} {E : Value → Shared → Prop} {s : Shared} {R : Result → Shared → Prop} {I : Addr} {fp wr : List Addr} {n : Nat} {P : Nat → Value → Prop} {St : Nat → Heap → Prop}
end
section
variable {X : Cx}
end
section
variable {X : Cx} {a : Expr} {ta : TE}
end
end L2
namespace L2
open PySem PySem.Spec PyProof.Rows
section
variable {X : Cx}
end
end L2
namespace L2
open PySem PySem.Spec PyProof.Rows
section
variable {X : Cx} {k j : Nat} {x y : Str} {ps : List Str} {sp : Sp} {p pos : Pos} {e : Expr} {es : List Expr} {tv : TE} {t : TA}
end
section
variable {prog : Program} {w : World} {A : Around} {E : Value → Shared → Prop} {s : Shared} {it d v : Addr} {i n ep : Nat} {od : Obj} {es : Array DictEntry} {k0 v0 : Value}
end
section
variable {X : Cx}
end
end L2
namespace L2
open PySem PySem.Spec PyProof.Rows
section
variable {prog : Program} {w : World} {A : Around} {E : Value → Shared → Prop} {s : Shared} {d : Addr} {od : Obj} {es : Array DictEntry} {ep : Nat}
end
section
variable {X : Cx}
end
theorem most_at {its : List Value} {ns : List Int} {xs : Array (Int × Tok)} (hi : IntsAre its ns) (e : its.toArray = intItems xs) (hn : ns ≠ []) {v : Value}
    (hv : (intItems xs)[argBest (fun i j => decide (numAt xs i > numAt xs j)) (xs.size - 1)]? = some v) : ∃ m t, v = .int m t ∧ m ∈ ns ∧ ∀ z ∈ ns, z ≤ m := by
  have hns : ns = xs.toList.map (·.1) := by rw [← hi.numsOf, ← nums_intItems, ← e]
  have hsz : 0 < xs.size := by
    rcases Nat.eq_zero_or_pos xs.size with z | z
    · exact absurd (by rw [hns, List.map_eq_nil_iff, ← List.length_eq_zero_iff, Array.length_toList]; exact z) hn
    · exact z
  obtain ⟨t, rfl⟩ := intItems_at hv
  obtain ⟨b1, b2⟩ := argBest_gt (numAt xs) (xs.size - 1)
  refine ⟨_, t, rfl, ?_, fun z hz => ?_⟩
  · rw [hns, numAt_eq]; exact getD_mem (by rw [List.length_map, Array.length_toList]; first | lia | omega)
  · rw [hns] at hz
    obtain ⟨j, hj, rfl⟩ := mem_getD hz
    rw [List.length_map, Array.length_toList] at hj
    rw [← numAt_eq]; exact b2 j (by first | lia | omega)
section
variable {X : Cx}
theorem call_max1 : CallR X (.builtin "max") (fun xs H Q => ∃ (p : Addr) (ns : List Int), xs = [.ref p] ∧ SqL X.K H p (ns.map V.int) ∧ X.calm = true ∧ ns ≠ [] ∧ ∀ m, m ∈ ns → (∀ z ∈ ns, z ≤ m) → Q (.int m) H) := by
  intro pins s σ H xs us Q I r h
  obtain ⟨p, ns, rfl, hp, hc, hn, q⟩ := h
  obtain ⟨u, rfl, ru⟩ := vals1 r
  cases ru
  obtain ⟨its, rv, pl, hz⟩ := I.list hp
  have hi := intsAre_of rv
  obtain ⟨xs, e⟩ := hi.allInts.items
  have hl : s.heap.IsList p (intItems xs) := e ▸ pl.isList
  have hsz : 0 < xs.size := by
    have l1 : ns.length = its.length := by rw [← hi.length]
    have l2 : its.length = xs.size := by
      have := congrArg Array.size e
      simpa [intItems] using this
    have l3 : 0 < ns.length := List.length_pos_iff.mpr hn
    first | lia | omega
  refine max_intList (I.ok.hd hc) hl hsz fun v h' tk hv hk => ?_
  obtain ⟨m, t, rfl, hm, hle⟩ := most_at hi e hn hv
  exact ⟨.int m, H, I.kept (t' := tk) hk, ⟨t, rfl⟩, q m hm hle⟩
end
end L2
namespace L2
open PySem PySem.Spec PyProof.Rows
structure O4 where
  a : Option Tok
  b : Option Tok
  c : Option Tok
  d : Option Tok
theorem four {v : Nat} (h1 : 1 ≤ v) (h4 : v ≤ 4) : v = 1 ∨ v = 2 ∨ v = 3 ∨ v = 4 := by first | lia | omega
section
variable {P : Program} {w : World} {A : Around} {E : Value → Shared → Prop} {s : Shared}
end
end L2
namespace L2
open PySem PySem.Spec PyProof.Rows
section
variable {pr : Program} {wo : World} {B : Around} {X0 : Value → Shared → Prop} {st : Shared} {I : Addr} {fp wr : List Addr} {G : Array GenState → Array GenState → Prop} {n : Nat} {Pv : Nat → Value → Prop} {Sv : Nat → Shared → Prop} {R : Result → Shared → Prop}
end
end L2
namespace L2
open PySem PySem.Spec PyProof.Rows
section
variable {pr : Program} {wo : World} {B : Around} {X0 : Value → Shared → Prop} {st : Shared}
end
end L2
namespace L2
open PySem PySem.Spec PyProof.Rows
end L2
namespace L2
open PySem PySem.Spec PyProof.Rows
section
variable {pr : Program} {wo : World} {B : Around} {X0 : Value → Shared → Prop} {st : Shared} {r I : Addr} {ep : Nat} {o : O4}
end
end L2
namespace L2
open PySem PySem.Spec PyProof.Rows
section
variable {pr : Program} {wo : World} {B : Around} {X0 : Value → Shared → Prop} {st : Shared} {r I : Addr} {ep : Nat} {o : O4}
end
end L2
namespace L2
open PySem PySem.Spec PyProof.Rows
section
variable {pr : Program} {wo : World} {B : Around} {X0 : Value → Shared → Prop} {st : Shared} {r : Addr} {ep : Nat} {o : O4}
end
section
variable {X : Cx} {e : Expr} {te : TE} {p1 p2 q1 q2 : Pos}
end
end L2
namespace L2
open PySem PySem.Spec PyProof.Rows
section
variable {X : Cx}
end
end L2
namespace L2
open PySem PySem.Spec PyProof.Rows
section
variable {X : Cx}
end
section
variable {X : Cx} {pins : List (Addr × Obj)} {σ : St} {H : Hp} {s : Shared} {a : Addr} {kvs : List (Key × V)} {k : Key} {z : V} {u r : Value} {A : Around} {E : Value → Shared → Prop}
theorem d_setdefault {Q : Value → Shared → Prop} (I : Inv X pins σ H s) (e : H a = some (.dK kvs)) (l : kvs.length < sizeLine) (ry : RelV (kV k) u) (rz : RelV z r)
    (h1 : ∀ v w' s', valV kvs k = some v → Inv X pins σ H s' → RelV v w' → Q w' s') (h2 : valV kvs k = none → ∀ s', Inv X pins σ (upd H a (.dK (putK kvs k z))) s' → Q r s') :
    wpAny (model X.prog X.w) A (call (.builtin "dict.setdefault") [.ref a, u, r]) Q E s := by
  obtain ⟨zl, hd, vs, rel, dd⟩ := dk_of I.hok e
  have hz : vs.length ≤ sizeLine := by rw [← rel.length]; exact zl
  have hl : (putK kvs k z).length ≤ sizeLine := by have := length_putK kvs k z; first | lia | omega
  have rv := rel.val k
  refine call_meetsIn PySem.F.slot_dict_setdefault dd.typeIs PySem.F.entry_dict_setdefault (PySem.F.args_dict_setdefault_3 _ _ _) (kt_meets_setdefault (mixKind X.prog X.w) a (kV_is ry) hd r) ⟨vs, dd, hz, fun v hv => ?_, fun hn h' dd' hs => ?_⟩
  · rw [hv] at rv
    cases hk : valV kvs k with
    | none => rw [hk] at rv; cases rv
    | some v0 => rw [hk] at rv; exact h1 v0 v _ hk (I.tok _) rv
  · rw [hn] at rv
    cases hk : valV kvs k with
    | some v0 => rw [hk] at rv; cases rv
    | none =>
      refine h2 hk _ ?_
      have he : ∃ q, h'.get? a = some q := let ⟨q, _, _, hq, _⟩ := dd'; ⟨q, hq⟩
      exact d_write I (by rw [e]; exact True.intro) hs he (dk_new hl hd (rel.put k rz) dd')
end
def tSetD (td ty tx : TE) : TE := fun σ H Q => td σ H fun x H1 => ∃ a, x = .ref a ∧ IsD H1 a ∧ ty σ H1 fun y H2 => tx σ H2 fun z H3 => ∃ kvs k, H3 a = some (.dK kvs) ∧ y = kV k ∧ kvs.length < sizeLine ∧
  (∀ v, valV kvs k = some v → Q v H3) ∧ (valV kvs k = none → Q z (upd H3 a (.dK (putK kvs k z))))
section
variable {X : Cx} {o e f : Expr} {apos cpos : Pos} {td ty tx : TE}
theorem pe_setd (ho : PE X o td) (he : PE X e ty) (hf : PE X f tx) (m : M2 X o "setdefault" apos e f cpos) : PE X (.Call (.Attribute o "setdefault" apos) [e, f] [] cpos) (tSetD td ty tx) := by
  intro pins s σ H Q I h
  refine wpAny_Call_method m.base m.few m.line PySem.F.plainAttrs_dict PySem.F.slot_dict_setdefault PySem.F.type_dict_setdefault (thn (ho pins s σ H _ I h) fun u s1 ⟨x, H1, I1, rx, a, ex, d, q1⟩ => ?_)
  subst ex
  obtain rfl : u = Value.ref a := rx
  obtain ⟨t1, t2, _⟩ := isD_at I1 d
  refine ⟨t1, t2, ?_⟩
  rw [m.trees]
  refine Calls.callWith_builtin rfl (Calls.evalArgs_plain (Calls.spliced_cons (thn (he pins s1 σ H1 _ I1 q1) fun iv s2 ⟨y, H2, I2, ry, q2⟩ =>
    Calls.spliced_cons (thn (hf pins s2 σ H2 _ I2 q2) fun fv s3 ⟨z, H3, I3, rz, kvs, k, ea, ey, l, q3, q4⟩ => Calls.spliced_nil ?_))))
  subst ey
  exact d_setdefault I3 ea l ry rz (fun v w' s4 hv I4 rv => ⟨v, H3, I4, rv, q3 v hv⟩) fun hn s4 I4 => ⟨z, _, I4, rz, q4 hn⟩
end
def Ies (z : Str) : It := ⟨fun i _ => i < z.length, fun i H y H' => ∃ t c, z.cps[i]? = some c ∧ y = .ref t ∧ H t = none ∧ H' = upd H t (.tup [.int i, .str ⟨#[c]⟩]), fun i _ => i = z.length⟩
theorem turn_enumS {P : Program} {w : World} {K : PySem.W.Frag} {es : List Expr} {k : Nat} {pos : Pos} (z : Str) (t0 : Tok) (e it : Addr) (hei : e ≠ it) :
    Turn P w K (.Tuple es k pos) (Ies z) [e, it] e (fun i h => (∃ old, IsEnum h e it i old) ∧ h.IsStrIter it "str_ascii_iterator" z t0 i) where
  mem := by simp
  obj := fun i h st b hb => by
    obtain ⟨⟨old, he⟩, ⟨o, eo, c, d⟩⟩ := st
    rcases List.mem_cons.mp hb with rfl | hb
    · exact ⟨_, he, fun v z => by
        have z' : Data.fields _ = Data.cell v := z
        cases z'⟩
    · rw [List.mem_singleton.mp hb]; exact ⟨o, eo, fun v z => by rw [d] at z; cases z⟩
  keep := fun i h h' st kk => by
    obtain ⟨⟨old, he⟩, ⟨o, eo, c, d⟩⟩ := st
    exact ⟨⟨old, kk e (by simp) _ he⟩, ⟨o, kk it (by simp) o eo, c, d⟩⟩
  item := by
    intro X hP hw hK hc i pins s σ H E I hf st hg
    subst hP hw hK
    obtain ⟨⟨old, he⟩, st⟩ := st
    have hg : i < z.cps.size := hg
    have fe := hf e (by simp)
    have fi := hf it (by simp)
    have D := Draws.strAscii (prog := X.prog) (w := X.w) (A := X.A.in1) (I.ok.hd hc) it z t0
    refine wpAny_pyNext_enum_itemD D he st hg hei (by simp [hei]) fun x h' tk px he' st' ht hz' kk => ?_
    refine ⟨_, rfl, ?_⟩
    obtain ⟨c, u, hcx, rfl⟩ := px
    have ltE : e < s.heap.objs.size := Heap.lt_size he
    have hn : H s.heap.objs.size = none := I.hok.fresh (Nat.le_refl _)
    have I1 : Inv X pins σ (upd H s.heap.objs.size (.tup [.int i, .str ⟨#[c]⟩])) { s with heap := h', toks := tk + 1 } := by
      refine enum_step I fe fi kk ⟨_, he'⟩ (let ⟨o, eo, _⟩ := st'; ⟨o, eo⟩) ⟨?_, [.int i tk, .str ⟨#[c]⟩ u], .cons ⟨_, rfl⟩ (.cons ⟨_, rfl⟩ .nil), ⟨_, ht, rfl, _, rfl⟩⟩
      show 2 ≤ sizeLine
      decide
    refine wpAny_letOwnedTupleGo_enum (s := { s with heap := h', toks := tk + 1 }) he' fun h2 he2 sb => ?_
    have neE : e ≠ s.heap.objs.size := Nat.ne_of_lt ltE
    have fe2 : (upd H s.heap.objs.size (.tup [.int i, .str ⟨#[c]⟩])) e = none := by rw [upd_ne neE]; exact fe.1
    have I2 : Inv X pins σ (upd H s.heap.objs.size (.tup [.int i, .str ⟨#[c]⟩])) { ({ s with heap := h', toks := tk + 1 } : Shared) with heap := h2, toks := tk + 1 } :=
      I1.turned (t' := tk + 1) (it := e) (fun b o hb z => (sb.2 b hb).trans z) fe2 fe.2.1 fe.2.2.2.1 fe.2.2.2.2.1 fe.2.2.2.2.2
    obtain ⟨oi, hoi, _⟩ := id st
    have ltI : it < s.heap.objs.size := Heap.lt_size hoi
    refine ⟨.ref s.heap.objs.size, _, I2, rfl, ⟨_, c, hcx, rfl, hn, rfl⟩, ⟨⟨.str ⟨#[c]⟩ u, ?_⟩, ?_⟩, fun b hb => ?_⟩
    · have e1 : ((i + 1 : Nat) : Int) = (i : Int) + 1 := by push_cast; rfl
      rw [e1]; exact he2
    · obtain ⟨o3, e3, c3, d3⟩ := st'
      exact ⟨o3, (sb.2 it (Ne.symm hei)).trans e3, c3, d3⟩
    · rcases List.mem_cons.mp hb with rfl | hb
      · exact fe2
      · rw [List.mem_singleton.mp hb, upd_ne (Nat.ne_of_lt ltI)]; exact fi.1
  done := by
    intro X hP hw hK hc i pins s σ H E I hf st hg
    subst hP hw hK
    obtain ⟨⟨old, he⟩, st⟩ := st
    have hg : i = z.cps.size := hg
    obtain ⟨f0, f1, f2, f3, f4, f5⟩ := hf it (by simp)
    have D := Draws.strAscii (prog := X.prog) (w := X.w) (A := X.A.in1) (I.ok.hd hc) it z t0
    subst hg
    exact wpAny_pyNext_enum_endD D he st fun h' eb => ⟨rfl, I.turned (t' := s.toks) (fun b o hb z => eb b o hb z) f0 f1 f3 f4 f5⟩
  self := fun _ _ _ _ _ st h => by
    obtain ⟨⟨old, he⟩, _⟩ := st
    exact wpAny_pyIter_enum he h
def iEnumS (ta : TA) : TI := fun σ H R => ta σ H fun vs H1 => ∃ z, vs = [.str z] ∧ z.cps.all (· < 128) = true ∧ R (Ies z) H1
section
variable {X : Cx}
theorem pi_enumS {a : Expr} {es : List Expr} {k : Nat} {tpos : Pos} {ta : TA} {p pos : Pos} (hg : Gl X "enumerate") (hm : X.mg "enumerate" = none) (ha : PA X [a] ta) (hs : starEach [a] X.env = [(false, eval a X.env)] := by rfl) :
    PI X (.Tuple es k tpos) (.Call (.Name "enumerate" p) [a] [] pos) (iEnumS ta) := by
  intro pins s σ H R I h
  refine Call_ (ld_blt I hg hm boot_enumerate (PyProof.Rows.callWith_type1 (thn (ha pos pins s σ H _ I h) fun us s1 ⟨vs, H1, I1, r1, q1⟩ => ?_) hs rfl))
  obtain ⟨z, e, hz, q⟩ := q1
  subst e
  cases r1 with
  | cons r rr =>
    cases rr
    obtain ⟨t0, rfl⟩ := r
    refine call_enumerate_str fun h' he hit hsz hk => ?_
    have hit : h'.IsStrIter s1.heap.objs.size "str_ascii_iterator" z t0 0 := by
      have : strIterType z = "str_ascii_iterator" := by unfold strIterType; rw [hz]; rfl
      rw [this] at hit; exact hit
    have I2 : Inv X pins σ H1 { s1 with heap := h' } := I1.kept (t' := s1.toks) hk
    refine wpAny_pyIter_enum (s := { s1 with heap := h' }) he ?_
    refine ⟨s1.heap.objs.size + 1, [s1.heap.objs.size + 1, s1.heap.objs.size], _, _, H1, rfl, I2, turn_enumS z t0 _ _ (Nat.succ_ne_self _), ⟨⟨_, he⟩, hit⟩, fun c hc => ?_, q⟩
    rcases List.mem_cons.mp hc with rfl | hc
    · exact I1.fpOk (Nat.le_succ _) (I1.hok.fresh (Nat.le_succ _))
    · rw [List.mem_singleton.mp hc]; exact I1.fpOk (Nat.le_refl _) (I1.hok.fresh (Nat.le_refl _))
end
theorem for_enumS {z : Str} {g : TG} {tb : TS} {D : Ends} {σ : St} {H : Hp} (Pv : Nat → St → Hp → Prop) (h0 : Pv 0 σ H)
    (hs : ∀ i c σ H t, z.cps[i]? = some c → i < z.length → Pv i σ H → H t = none → g (.ref t) σ (upd H t (.tup [.int i, .str ⟨#[c]⟩])) fun σ2 H2 => tb { D with nx := Pv (i + 1), ct := Pv (i + 1), bk := D.nx } σ2 H2) (hd : ∀ σ H, Pv z.length σ H → D.nx σ H) :
    ∃ W : Nat → Nat → St → Hp → Prop, (∃ m, W 0 m σ H) ∧ ∀ i m σ H, W i m σ H →
      ((Ies z).stop i H ∧ D.nx σ H) ∨ ((Ies z).go i H ∧ ∃ N : St → Hp → Prop, (∀ σ' H', N σ' H' → ∃ m', m' < m ∧ W (i + 1) m' σ' H') ∧ ∀ x H', (Ies z).yld i H x H' → g x σ H' fun σ2 H2 => tb { D with nx := N, ct := N, bk := D.nx } σ2 H2) := by
  refine ⟨fun i m σ H => m = z.length - i ∧ i ≤ z.length ∧ Pv i σ H, ⟨z.length, by simp, Nat.zero_le _, h0⟩, ?_⟩
  rintro i m σ H ⟨rfl, hi, p⟩
  by_cases hlt : i < z.length
  · refine .inr ⟨hlt, Pv (i + 1), fun σ' H' p' => ⟨z.length - (i + 1), by first | lia | omega, rfl, hlt, p'⟩, fun x H' y => ?_⟩
    obtain ⟨t, c, hc, rfl, ht, rfl⟩ := y
    exact hs i c σ H t hc hlt p ht
  · have e : i = z.length := by first | lia | omega
    subst e
    exact .inl ⟨rfl, hd σ H p⟩
theorem comp_items {a : Addr} {ob : Obj} {kvs : List (Key × V)} {g : TG} {te : TE} {σ : St} {H1 : Hp} {acc : Addr} {Qr : Hp → Prop} (Pv : Nat → List V → St → Hp → Prop) (h0 : Pv 0 [] σ (upd H1 acc (.lst [])))
    (hl : ∀ i xs σ H, i ≤ kvs.length → H acc = some (.lst xs) → Pv i xs σ H → H a = some (.frz ob (.dK kvs)))
    (hs : ∀ i p xs σ H t, kvs[i]? = some p → i < kvs.length → xs.length = i → H acc = some (.lst xs) → Pv i xs σ H → H t = none → g (.ref t) σ (upd H t (.tup [kV p.1, p.2])) fun σ2 H2 => te σ2 H2 fun v H3 => cNx acc kvs.length Pv i σ2 v H3)
    (hd : ∀ xs σ H, xs.length = kvs.length → H acc = some (.lst xs) → Pv kvs.length xs σ H → Qr H) :
    ∃ W : Nat → Nat → St → Hp → Prop, (∃ m, W 0 m σ (upd H1 acc (.lst []))) ∧ ∀ i m σ1 H2, W i m σ1 H2 →
      ((Itm a ob).stop i H2 ∧ Qr H2) ∨ ((Itm a ob).go i H2 ∧ ∀ x H3, (Itm a ob).yld i H2 x H3 → g x σ1 H3 fun σ4 H4 => te σ4 H4 fun v H5 => ∃ xs, H5 acc = some (.lst xs) ∧ xs.length < sizeLine ∧ ∃ m', m' < m ∧ W (i + 1) m' σ4 (upd H5 acc (.lst (xs ++ [v])))) := by
  refine ⟨cW acc kvs.length Pv, ⟨kvs.length, Nat.zero_le _, rfl, [], rfl, upd_same, h0⟩, ?_⟩
  rintro i m σ1 H2 ⟨hi, rfl, xs, hl', ha, hp⟩
  have q := hl i xs σ1 H2 hi ha hp
  rcases Nat.lt_or_ge i kvs.length with h | h
  · refine .inr ⟨⟨kvs, kvs[i], q, by simp [h]⟩, ?_⟩
    rintro x H3 ⟨t, p, hc, rfl, ht, rfl⟩
    exact hs i p xs σ1 _ t (hc kvs q) h hl' ha hp ht
  · have e : i = kvs.length := Nat.le_antisymm hi h
    subst e
    exact .inl ⟨⟨kvs, q, Nat.le_refl _⟩, hd xs σ1 H2 hl' ha hp⟩
section
variable {X : Cx} {K : PySem.W.Frag} {o e : Expr} {es : List Expr} {to : TE} {t : TA} {name : Str} {apos cpos : Pos} {T id : String} {r : V → List V → Hp → VK → Prop}
theorem pe_bmK (pa : PlainAttrs T) (slot : Slot T name id) (hty : typeOf (.builtin id) = pure (.type "method_descriptor")) (hm : MtR X id r) (ho : PE X o to) (ha : PA X (e :: es) t) (hK : X.K = K := by rfl)
    (hbase : attributeBase o name X.env (eval o X.env) = eval o X.env := by rfl)
    (hfew : ((backTo cpos (starEach (e :: es) X.env)).all (fun x => !x.1) && (backToKw cpos (keywordEach [] X.env)).all (fun x => x.1.isSome)
      && decide ((e :: es).length + ([] : List Keyword).length + (if ([] : List Keyword).isEmpty then 0 else 1) < 30)) = true := by rfl)
    (hline : (apos.endLine == cpos.line) = true := by rfl) (hs : starEach (e :: es) X.env = (false, eval e X.env) :: starEach es X.env := by rfl) (hplain : (backTo cpos (starEach es X.env)).any (·.1) = false := by rfl) :
    PE X (.Call (.Attribute o name apos) (e :: es) [] cpos) (tBM K T r to t) := by
  subst hK
  exact pe_bm pa slot hty hm ho ha hbase hfew hline hs hplain
end
end L2
namespace L2
open PySem PySem.Spec PyProof.Rows
section
variable {X : Cx} {elt tg iter : Expr} {scope : Scope} {pos : Pos} {wi : TI} {g : TG} {te : TE} {N : List Str} {fr : List (Option Nat)}
end
end L2
namespace L2
open PySem PySem.Spec PyProof.Rows PySem.W
/-- the entry of a frame hangs on the frame alone -/
theorem noteFrame_eq {e : Value} {a b : Env} (h : a.frame = b.frame) : noteFrame e a = noteFrame e b := by
  unfold noteFrame PySem.frameOf
  rw [h]
section
variable {M : Model} {A : Around} {E : Value → Shared → Prop} {s : Shared} {e : Addr} {cls : Value} {d : Option Addr} {vs : Array Value} {sl : Array (Option Value)}
/-- a refusal goes on out of a block: its head entry's mark of flight becomes another -/
theorem pass_any {α : Type} {what : String} {cenv : Env} {T : Addr} {oT : Obj} {ts : Array Value} {Q : α → Shared → Prop} (he : s.heap.get? e = some ⟨cls, d, .fields vs, sl⟩) (h1 : vs[1]? = some (.ref T)) (hT : s.heap.get? T = some oT) (hd : oT.data = .fields ts) (hs3 : 3 < ts.size)
    (h : ∀ h', (∀ b, b ≠ T → h'.get? b = s.heap.get? b) → (∃ o' ts', h'.get? T = some o' ∧ o'.data = .fields ts' ∧ 3 < ts'.size) → E (.ref e) { s with heap := h' }) : wpAny M A (PySem.passOn what (.ref e) cenv : Sem α) Q E s := by
  unfold PySem.passOn
  refine wpAny_bind (wpAny_field he rfl h1 ?_)
  rw [if_neg (show ¬ (Value.ref T == Value.none) = true from by simp)]
  refine wpAny_bind ?_
  unfold setFlight
  refine wpAny_bind (wpAny_field he rfl h1 ?_)
  rw [if_pos (show (Value.ref T != Value.none) = true from by simp)]
  refine wpAny_setField hT hd hs3 (wpAny_throw (h _ (fun b hb => Heap.get?_update_other _ _ (Ne.symm hb)) ⟨_, _, Heap.get?_update_self _ hT (Obj.isFreed_of_fields (Obj.data_mapFields hd _)), Obj.data_mapFields hd _, by simp [hs3]⟩))
end
section
variable {M : Model} {A : Around} {E : Value → Shared → Prop} {s : Shared} {base : Heap} {env : Env} {outer : List Env} {L e : Addr} {cls : Value} {d : Option Addr} {vs : Array Value} {sl : Array (Option Value)} {Q : Unit → Shared → Prop}
/-- the frame is noted behind an entry whose mark of flight is another -/
theorem note_nextA {T1 : Addr} {oT : Obj} {ts : Array Value} {v3 : Value} (hfr : A.frames = some (env :: outer)) (hl : s.heap.FunFrames base (env :: outer)) (hf : env.frame = some L) (he : s.heap.get? e = some ⟨cls, d, .fields vs, sl⟩) (h1 : vs[1]? = some (.ref T1))
    (hT : s.heap.get? T1 = some oT) (hd : oT.data = .fields ts) (h3 : ts[3]? = some v3) (n3 : (v3 == rawInt L) = false) (ne : T1 ≠ e)
    (h : ∀ h' T, NoteTo (frs (env :: outer)) [T1] e T (rawInt L) cls d s.heap h' → Q () { s with heap := h' }) : wpAny M A (noteFrame (.ref e) env) Q E s := by
  unfold noteFrame
  simp only [hf]
  refine wpAny_bind (wpAny_field he rfl h1 ?_)
  rw [if_pos (show (Value.ref T1 != Value.none) = true from by simp)]
  refine wpAny_bind (wpAny_field hT hd h3 ?_)
  rw [if_neg (show ¬ ((v3 == rawInt L) = true) from by rw [n3]; exact Bool.false_ne_true)]
  have hs3 : 3 < ts.size := (Array.getElem?_eq_some_iff.mp h3).1
  refine wpAny_bind (wpAny_setField hT hd hs3 ?_)
  have oth : ∀ b, b ≠ T1 → (s.heap.update T1 (Obj.mapFields (·.setIfInBounds 3 Value.none))).get? b = s.heap.get? b := fun b hb => Heap.get?_update_other _ _ (Ne.symm hb)
  have nT1 : T1 ∉ frs (env :: outer) := fun hm => by
    obtain ⟨_, o, ho, hnf⟩ := hl.mem hm
    rw [hT] at ho; cases ho; exact hnf ts hd
  have self : (s.heap.update T1 (Obj.mapFields (·.setIfInBounds 3 Value.none))).get? T1 = some (Obj.mapFields (·.setIfInBounds 3 Value.none) oT) := Heap.get?_update_self _ hT (Obj.isFreed_of_fields (Obj.data_mapFields hd _))
  refine note_entry (s := { s with heap := s.heap.update T1 (Obj.mapFields (·.setIfInBounds 3 Value.none)) }) hfr (hl.of_keeps fun b o hb hnf => ⟨o, (oth b fun q => ?_).trans hb, rfl⟩) hf ((oth e (Ne.symm ne)).trans he) (Array.getElem?_eq_some_iff.mp h1).1 fun h' T n => h h' T ?_
  · rw [q, hT] at hb; cases hb; exact hnf ts hd
  · have nT' : s.heap.get? T = none := by
      by_cases q : T = T1
      · have := n.nT; rw [q] at this; rw [self] at this; cases this
      · rw [← oth T q]; exact n.nT
    refine ⟨nT', fun b o nb nf nt hb => n.keep b o nb nf (by simp) ((oth b (by simpa using nt)).trans hb), fun b o bf hb => n.slot b o bf ((oth b fun q => nT1 (q ▸ bf)).trans hb), n.exc, n.tb, fun t o us ht hte hb hdo hsz => ?_⟩
    obtain rfl : t = T1 := by simpa using ht
    rw [hT] at hb; cases hb
    rw [hd] at hdo; cases hdo
    exact ⟨_, _, n.keep t _ hte nT1 (by simp) self, Obj.data_mapFields hd _, by simp [hs3]⟩
/-- the frame is the one in flight: nothing is noted -/
theorem note_same {T1 : Addr} {oT : Obj} {ts : Array Value} {v3 : Value} (hf : env.frame = some L) (he : s.heap.get? e = some ⟨cls, d, .fields vs, sl⟩) (h1 : vs[1]? = some (.ref T1))
    (hT : s.heap.get? T1 = some oT) (hd : oT.data = .fields ts) (h3 : ts[3]? = some v3) (n3 : (v3 == rawInt L) = true) (h : Q () s) : wpAny M A (noteFrame (.ref e) env) Q E s := by
  unfold noteFrame
  simp only [hf]
  refine wpAny_bind (wpAny_field he rfl h1 ?_)
  rw [if_pos (show (Value.ref T1 != Value.none) = true from by simp)]
  refine wpAny_bind (wpAny_field hT hd h3 ?_)
  rw [if_pos n3]
  exact wpAny_pure h
end
end L2
namespace L2
open PySem PySem.Spec PyProof.Rows PySem.W
/-- an entry whatever its mark of flight -/
def TbA (T : Addr) : HO := .ext fun h => ∃ o ts, h.get? T = some o ∧ o.data = .fields ts ∧ 3 < ts.size
theorem tbA_ok {P : Program} {w : World} {H : Hp} {h : Heap} {T : Addr} (t : ∃ o ts, h.get? T = some o ∧ o.data = .fields ts ∧ 3 < ts.size) : ObjOk P w H h T (TbA T) :=
  ⟨t, let ⟨o, _, e, _⟩ := t; ⟨o, e⟩, fun _ _ ⟨o, ts, e, r⟩ k => ⟨o, ts, k _ e, r⟩⟩
def thrownN (H : Hp) (x C : Addr) (d : Option Addr) (T : Addr) (nw : HO) : Hp := upd (upd H T nw) x (ExcT C d x T)
theorem thrownN_x {H : Hp} {x C T : Addr} {d : Option Addr} {nw : HO} : thrownN H x C d T nw x = some (ExcT C d x T) := upd_same
theorem thrownN_T {H : Hp} {x C T : Addr} {d : Option Addr} {nw : HO} (n : T ≠ x) : thrownN H x C d T nw T = some nw := by unfold thrownN; rw [upd_ne n, upd_same]
theorem thrownN_ne {H : Hp} {x C T b : Addr} {d : Option Addr} {nw : HO} (n : b ≠ x) (m : b ≠ T) : thrownN H x C d T nw b = H b := by unfold thrownN; rw [upd_ne n, upd_ne m]
section
variable {X : Cx} {pins : List (Addr × Obj)} {σ : St} {H : Hp} {s : Shared} {x C T : Addr} {d : Option Addr} {h1 h2 : Heap} {fl : Value} {tt : List Addr} {nw : HO}
theorem note_unA (I : Inv X pins σ H s) {φ : Heap → Prop} (hx : H x = some (.ext φ)) (htt : ∀ t ∈ tt, (H t = some (TbO t) ∨ H t = some (TbA t)) ∧ t ≠ x) (n : NoteTo (frs X.stack) tt x T fl (.ref C) d s.heap h1) (k2 : ∀ b, b ≠ T → h2.get? b = h1.get? b)
    (t2 : ObjOk X.prog X.w (thrownN H x C d T nw) h2 T nw) : H T = none ∧ T ≠ x ∧ Un (frs X.stack) [] H (thrownN H x C d T nw) s.heap h2 ∧ HOk X.prog X.w (thrownN H x C d T nw) h2 := by
  have hT : H T = none := by
    cases q : H T with
    | none => rfl
    | some u =>
      obtain ⟨o, ho⟩ := (I.hok T u q).there
      rw [n.nT] at ho; cases ho
  have nTx : T ≠ x := fun z => by rw [z, hx] at hT; cases hT
  have tn : ∀ b o, s.heap.get? b = some o → b ≠ T := fun b o e z => by rw [z, n.nT] at e; cases e
  have un : ∀ b, H b = none → b ≠ x := fun b e z => by rw [z, hx] at e; cases e
  have ut : ∀ b, H b = none → b ∉ tt := fun b e z => by
    rcases (htt b z).1 with q | q <;> (rw [q] at e; cases e)
  have hb : ∀ b u, H b = some u → b ≠ T := fun b u e z => by rw [z, hT] at e; cases e
  have old : ∀ t ∈ tt, ∃ o' ts', h2.get? t = some o' ∧ o'.data = .fields ts' ∧ ts'[3]? = some Value.none := fun t ht => by
    obtain ⟨e, ne⟩ := htt t ht
    rcases e with e | e
    · obtain ⟨⟨o, ts, e1, e2, e3⟩, _⟩ := (show ObjOk X.prog X.w H s.heap t (TbO t) from I.hok t _ e)
      obtain ⟨o', ts', f1, f2, f3⟩ := n.old t o ts ht ne e1 e2 (Array.getElem?_eq_some_iff.mp e3).1
      exact ⟨o', ts', (k2 t (hb t _ e)).trans f1, f2, f3⟩
    · obtain ⟨⟨o, ts, e1, e2, e3⟩, _⟩ := (show ObjOk X.prog X.w H s.heap t (TbA t) from I.hok t _ e)
      obtain ⟨o', ts', f1, f2, f3⟩ := n.old t o ts ht ne e1 e2 e3
      exact ⟨o', ts', (k2 t (hb t _ e)).trans f1, f2, f3⟩
  have exc : ∃ vs sl, h2.get? x = some ⟨.ref C, d, .fields vs, sl⟩ ∧ vs[1]? = some (.ref T) := by
    obtain ⟨vs, sl, e1, e2⟩ := n.exc
    exact ⟨vs, sl, (k2 x (Ne.symm nTx)).trans e1, e2⟩
  have ne_ext : ∀ b u, H b = some u → (∀ ψ, u ≠ .ext ψ) → b ≠ x := fun b u e z q => by rw [q, hx] at e; cases e; exact z _ rfl
  refine ⟨hT, nTx, ⟨fun b o q e nf _ => ?_, fun b o q e bf _ => ?_, fun b o q e _ => ?_, fun b o q _ => ?_, fun b xs e => ?_, fun b o u e => ?_, fun b ps e => ⟨#[], ?_⟩⟩, fun b u e => ?_⟩
  · exact (k2 b (tn b o q)).trans (n.keep b o (un b e) nf (ut b e) q)
  · obtain ⟨sl, z⟩ := n.slot b o bf q
    exact ⟨sl, (k2 b (tn b o q)).trans z⟩
  · rw [thrownN_ne (un b e) (tn b o q)]; exact e
  · by_cases z : b = x
    · obtain ⟨vs, sl, e1, _⟩ := exc; exact ⟨_, z ▸ e1⟩
    · by_cases zf : b ∈ frs X.stack
      · obtain ⟨sl, z⟩ := n.slot b o zf q
        exact ⟨_, (k2 b (tn b o q)).trans z⟩
      · by_cases zt : b ∈ tt
        · obtain ⟨o', _, e1, _⟩ := old b zt; exact ⟨o', e1⟩
        · exact ⟨o, (k2 b (tn b o q)).trans (n.keep b o z zf zt q)⟩
  · rw [thrownN_ne (ne_ext b _ e fun ψ z => by cases z) (hb b _ e)]; exact e
  · rw [thrownN_ne (ne_ext b _ e fun ψ z => by cases z) (hb b _ e)]; exact e
  · rw [thrownN_ne (ne_ext b _ e fun ψ z => by cases z) (hb b _ e), e]; simp
  · by_cases z : b = x
    · subst z; rw [thrownN_x] at e; cases e
      obtain ⟨vs, sl, e1, e2⟩ := exc
      exact excT_ok e1 e2
    · by_cases zT : b = T
      · subst zT; rw [thrownN_T nTx] at e; cases e
        exact t2
      · rw [thrownN_ne z zT] at e
        by_cases zt : b ∈ tt
        · obtain ⟨o', ts', f1, f2, f3⟩ := old b zt
          rcases (htt b zt).1 with q | q
          · rw [q] at e; cases e
            exact tbO_ok ⟨o', ts', f1, f2, f3⟩
          · rw [q] at e; cases e
            exact tbA_ok ⟨o', ts', f1, f2, (Array.getElem?_eq_some_iff.mp f3).1⟩
        · have own_ne : ∀ c, H c = some (.own b) → c ≠ x ∧ c ≠ T := fun c hc => ⟨ne_ext c _ hc (fun ψ z => by cases z), hb c _ hc⟩
          refine (I.hok b u e).stay (fun c v hc q => ?_) (fun c q => ?_) fun c xs q => ?_
          · have hcH : ∃ y, H c = some y := by
              rcases hc with rfl | hc
              · exact ⟨u, e⟩
              · exact ⟨_, hc⟩
            obtain ⟨y, hy⟩ := hcH
            refine (k2 c (hb c y hy)).trans (n.keep c v ?_ (fun zf => by rw [I.stkFree c zf] at hy; cases hy) (fun zt' => ?_) q)
            · rcases hc with rfl | hc
              · exact z
              · exact (own_ne c hc).1
            · rcases hc with rfl | hc
              · exact zt zt'
              · rcases (htt c zt').1 with q | q <;> (rw [q] at hc; cases hc)
          · rw [thrownN_ne (own_ne c q).1 (own_ne c q).2]; exact q
          · rw [thrownN_ne (ne_ext c _ q fun ψ z => by cases z) (hb c _ q)]; exact q
/-- the refusal leaves a block: its entry is made, its mark of flight stays -/
theorem note_block {Q : Unit → Shared → Prop} {E : Value → Shared → Prop} {env : Env} {outer : List Env} {L : Addr} (I : Inv X pins σ H s) (hst : X.stack = env :: outer) (hfr : env.frame = some L) (hx : H x = some (ExcT C d x T)) (hT : H T = some (TbO T)) (ne : T ≠ x)
    (h : ∀ h' T2, H T2 = none → T2 ≠ x → Inv X pins σ (thrownN H x C d T2 (TbA T2)) { s with heap := h' } → Q () { s with heap := h' }) :
    wpAny (model X.prog X.w) X.A (noteFrame (.ref x) env) Q E s := by
  have fr : X.A.frames = some (env :: outer) := hst ▸ I.ok.frames
  have ff : s.heap.FunFrames X.base (env :: outer) := hst ▸ I.stack
  obtain ⟨⟨vs, sl, e1, e2⟩, _⟩ := (show ObjOk X.prog X.w H s.heap x (ExcT C d x T) from I.hok x _ hx)
  obtain ⟨⟨o, ts, f1, f2, f3⟩, _⟩ := (show ObjOk X.prog X.w H s.heap T (TbO T) from I.hok T _ hT)
  refine note_next fr ff hfr e1 e2 f1 f2 f3 ne fun h1 T' n => ?_
  obtain ⟨o2, ts2, g1, g2, g3⟩ := n.tb
  obtain ⟨hT', nT', un, ok⟩ := note_unA (nw := TbA T') I hx (tt := [T]) (fun t z => by rw [List.mem_singleton.mp z]; exact ⟨.inl hT, ne⟩) (hst ▸ n) (fun _ _ => rfl) (tbA_ok ⟨o2, ts2, g1, g2, (Array.getElem?_eq_some_iff.mp g3).1⟩)
  exact h h1 T' hT' nT' (I.call (g' := s.gens) (d' := s.drawn) (t' := s.toks) (ch := []) un ok I.bare (fun b z => absurd z (by simp)))
/-- the refusal leaves the def behind a block -/
theorem leave_any {Q : Unit → Shared → Prop} {E : Value → Shared → Prop} (I : Inv X pins σ H s) (hst : X.stack = X.env :: X.outer) (hfr : X.env.frame = some X.env.locals) (hx : H x = some (ExcT C d x T)) (hT : H T = some (TbA T)) (ne : T ≠ x)
    (ha : ∀ h', Inv X pins σ (upd H T (TbO T)) { s with heap := h' } → Q () { s with heap := h' })
    (hb : ∀ h' T2, H T2 = none → T2 ≠ x → Inv X pins σ (thrown H x C d T2) { s with heap := h' } → Q () { s with heap := h' }) :
    wpAny (model X.prog X.w) X.A (leaving X.env (.ref x)) Q E s := by
  have fr : X.A.frames = some (X.env :: X.outer) := hst ▸ I.ok.frames
  have ff : s.heap.FunFrames X.base (X.env :: X.outer) := hst ▸ I.stack
  obtain ⟨⟨vs, sl, e1, e2⟩, _⟩ := (show ObjOk X.prog X.w H s.heap x (ExcT C d x T) from I.hok x _ hx)
  obtain ⟨⟨o, ts, f1, f2, f3⟩, _⟩ := (show ObjOk X.prog X.w H s.heap T (TbA T) from I.hok T _ hT)
  have f4 : ts[3]? = some ts[3] := Array.getElem?_eq_getElem f3
  unfold leaving
  refine wpAny_bind ?_
  cases hv : (ts[3] == rawInt X.env.locals) with
  | true =>
    refine note_same hfr e1 e2 f1 f2 f4 hv ?_
    refine flight_off e1 e2 f1 f2 f3 fun h3 k3 t3 => ha h3 ?_
    exact I.write (x := T) (e := T) (h' := h3) (o := TbO T) (t' := s.toks) (by rw [hT]; exact True.intro) (.inl rfl) (fun b u nb z => (k3 b nb).trans z) (let ⟨o, _, e, _⟩ := t3; ⟨o, e⟩) (tbO_ok t3)
  | false =>
    refine note_nextA fr ff hfr e1 e2 f1 f2 f4 hv ne fun h1 T' n => ?_
    obtain ⟨vs', sl', g1, g2⟩ := n.exc
    obtain ⟨o2, ts2, g3, g4, g5⟩ := n.tb
    refine flight_off (s := { s with heap := h1 }) g1 g2 g3 g4 (Array.getElem?_eq_some_iff.mp g5).1 fun h2 k2 t2 => ?_
    obtain ⟨hT', nT', un, ok⟩ := note_unA (nw := TbO T') I hx (tt := [T]) (fun t z => by rw [List.mem_singleton.mp z]; exact ⟨.inr hT, ne⟩) (hst ▸ n) k2 (tbO_ok t2)
    exact hb h2 T' hT' nT' (I.call (g' := s.gens) (d' := s.drawn) (t' := s.toks) (ch := []) un ok I.bare (fun b z => absurd z (by simp)))
end
end L2
namespace L2
open PySem PySem.Spec PyProof.Rows PySem.W
/-- where a refusal leaves the block -/
def ErC (X : Cx) (scope : Scope) (cl : List (Str × Addr)) (N : List Str) (C : Addr) (s : Shared) (H : Hp) (ex : List Addr) (G : Value → Hp → Prop) : Value → Shared → Prop := fun e s'' => ∃ pn E pins σ H'', Inv ((compCx X scope cl N C s H ex).pw pn E) pins σ H'' s'' ∧ G e H''
/-- what the body's wish takes -/
def RXf (Hs : Hp) (E : XK) : Addr → List (Str × V) → Hp → Prop := fun C fs _ => Rf Hs E C fun fs' _ => fs' = fs
structure GXs (Hs : Hp) (E : XK) (H : Hp) (x C dx T : Addr) (fs : List (Str × V)) : Prop where
  hx : Hs x = none
  hT : Hs T = none
  same : Same Hs H
  nd : dx ≠ x
  ed : H dx = some (ExcD dx fs)
  ex : H x = some (ExcT C (some dx) x T)
  tb : H T = some (TbA T)
  nT : T ≠ x
  dT : dx ≠ T
  rf : Rf Hs E C fun fs' _ => fs' = fs
def GX (Hs : Hp) (E : XK) : Value → Hp → Prop := fun e H => ∃ x C dx T fs, e = .ref x ∧ GXs Hs E H x C dx T fs
theorem rf_x {Hs H2 : Hp} {E : XK} {C : Addr} {l : List (Str × V)} (s : Same Hs H2) (r : Rf Hs E C fun fs _ => fs = l) : Rf H2 (XE Hs (RXf Hs E)) C fun fs _ => fs = l := fun x d fs H' hx s2 xr p => by
  have hx0 : Hs x = none := by
    cases q : Hs x with
    | none => rfl
    | some o => rw [s x o q] at hx; cases hx
  exact ⟨x, C, d, fs, rfl, rfl, hx0, s.trans s2, xr, by subst p; exact r⟩
section
variable {X : Cx} {elt tg iter : Expr} {scope : Scope} {pos : Pos} {wi : TI} {g : TG} {te : TE} {N : List Str} {fr : List (Option Nat)}
theorem comp_coreZ {pins : List (Addr × Obj)} {σ : St} {H : Hp} {s : Shared} {Q : VK} {cl : List (Str × Addr)} {R : Value → Addr → Result → Shared → Prop} {G : Value → Hp → Prop} (hc : X.calm = true) (I : Inv X pins σ H s) (hi : PI X tg iter wi)
    (hg : ∀ cl C s H ex, PG (compCx X scope cl N C s H ex) tg g) (he : ∀ cl C s H ex pn, PE ((compCx X scope cl N C s H ex).pw pn (notedBy (model X.prog X.w) X.A (compEnvC scope cl C X.env) (ErC X scope cl N C s H ex G))) elt te) (ck : CompChk X.env.scope X.N scope N fr)
    (c1 : ∀ x c, cl.lookup x = some c → X.env.cells.lookup x = some c) (c2 : ∀ x, (x, NameKind.free) ∈ scope.names → ∃ c, cl.lookup x = some c)
    (h : tComp wi g te fr σ H Q)
    (hE : ∀ acc C e s' H' m, s'.heap.Ns C m → FpOk X pins H' C → Inv X pins σ H' s' → G e H' → R (.ref acc) C (.error e) s')
    (hR : ∀ acc C s' H' m, s'.heap.Ns C m → FpOk X pins H' C → Inv X pins σ H' s' → Q (.ref acc) H' → R (.ref acc) C (.ok .next) s') :
    wpAny (model X.prog X.w) X.A (eval iter X.env) (fun x s₁ => wpAny (model X.prog X.w) X.A (pyIter x) (fun it s₂ => wpAny (model X.prog X.w) X.A (newList []) (fun acc s₃ =>
      wpAny (model X.prog X.w) X.A (newFunctionEnv scope X.env.globals cl [] X.env.qual none .none (some X.env)) (fun cenv s₄ =>
        codeAny (model X.prog X.w) X.A (.compStart (.ListComp elt [⟨tg, iter, [], 0⟩] scope pos) 0 it acc { cenv with scope := relabel scope X.env }) (R acc cenv.locals) s₄) X.xe s₃) X.xe s₂) X.xe s₁) X.xe s := by
  refine thn (hi pins s σ H _ I h) fun v s1 h1 => thn h1 fun itv s2 h2 => ?_
  obtain ⟨it, fp, tn, J, H2, e, I2, T, st2, f2, q2⟩ := h2
  subst e
  refine wpAny_newObj_type (wpAny_newFunctionEnv ck.nocell (by intro y hy; simp at hy) (fun h₁ hns₁ hsb₁ => ?_) ck.kind)
  dsimp only at hns₁ hsb₁ ⊢
  have I3 : Inv X pins σ (upd H2 s2.heap.objs.size (.lst [])) { s2 with heap := s2.heap.push { cls := .type "list", dict := none, data := .seq ([] : List Value).toArray } } := I2.lnew (t' := s2.toks) (its := []) .nil (Nat.zero_le _)
  have acc0 : H2 s2.heap.objs.size = none := I2.fresh
  obtain ⟨W, ⟨m0, w0⟩, turn⟩ := q2 s2.heap.objs.size acc0
  generalize hH3 : s2.heap.push { cls := .type "list", dict := none, data := .seq ([] : List Value).toArray } = h3 at hns₁ hsb₁ I3 ⊢
  have hz3 : h3.objs.size = s2.heap.objs.size + 1 := by rw [← hH3, Heap.size_push]
  have k23 : ∀ b o, s2.heap.get? b = some o → h3.get? b = some o := fun b o e => by rw [← hH3]; exact Heap.get?_push_of_some _ e
  have k34 : ∀ b o, h3.get? b = some o → h₁.get? b = some o := fun b o e => hsb₁.extBut b o (Nat.ne_of_lt (Heap.lt_size e)) (Heap.get?_push_of_some _ e)
  have fpo : ∀ b ∈ fp, ∃ o, s2.heap.get? b = some o ∧ ∀ v, o.data ≠ .cell v := T.obj 0 _ st2
  have hex : ∀ b ∈ fp, FpOk X pins (upd H2 s2.heap.objs.size (.lst [])) b ∧ b < h3.objs.size := fun b hb => by
    obtain ⟨o, eo, _⟩ := fpo b hb
    have lt := Heap.lt_size eo
    obtain ⟨f0, fr'⟩ := f2 b hb
    exact ⟨⟨by rw [upd_ne (Nat.ne_of_lt lt)]; exact f0, fr'⟩, by rw [hz3]; exact Nat.lt_succ_of_lt lt⟩
  have I4 : Inv (compCx X scope cl N h3.objs.size { s2 with heap := h3 } (upd H2 s2.heap.objs.size (.lst [])) fp) [] (stC fr σ) (upd H2 s2.heap.objs.size (.lst [])) { s2 with heap := h₁, toks := s2.toks + ([] : List (Str × Value)).length } :=
    comp_entry I3 ck c1 c2 hex (Nat.le_refl _) hns₁ k34 rfl rfl
  have stat : ∀ {H' : Hp}, (∀ b ∈ fp, H' b = none) → ∀ b ∈ fp, FpOk (compCx X scope cl N h3.objs.size { s2 with heap := h3 } (upd H2 s2.heap.objs.size (.lst [])) fp) [] H' b := fun hn b hb =>
    ⟨hn b hb, (I4.ok.exf b hb).1, I4.ok.exfs b hb, .inl hb, (I4.ok.exf b hb).2, fun p hp => by simp at hp⟩
  have stn : ∀ i h h', tn i h → (∀ b o, h.get? b = some o → h'.get? b = some o) → tn i h' := fun i h h' st kk => T.keep i h h' st fun b _ o e => kk b o e
  have loop : codeAny (model X.prog X.w) X.A (.compLoop (.ListComp elt [⟨tg, iter, [], 0⟩] scope pos) 0 (.ref it) (.ref s2.heap.objs.size) (compEnvC scope cl h3.objs.size X.env)) (R (.ref s2.heap.objs.size) h3.objs.size)
      { s2 with heap := h₁, toks := s2.toks + ([] : List (Str × Value)).length } := by
    have err : ∀ e s'', ErC X scope cl N h3.objs.size { s2 with heap := h3 } (upd H2 s2.heap.objs.size (.lst [])) fp G e s'' → R (.ref s2.heap.objs.size) h3.objs.size (.error e) s'' := fun e s'' ⟨pn', E', pins', σ', H'', J, g⟩ => by
      obtain ⟨mc, hmc, _⟩ := J.loc
      have I5 : Inv X pins σ H'' s'' := I3.call' (ch := fp) J.os J.base J.hok J.bare fun b hb => ⟨(hex b hb).1.2.2.2.1, (hex b hb).1.2.1, (hex b hb).1.2.2.2.2.1, (hex b hb).1.2.2.2.2.2⟩
      exact hE _ _ e s'' H'' mc hmc (I3.fpOk (Nat.le_refl _) J.free) I5 g
    refine compLoop_any (fun n s' => ∃ i σ' H', Inv (compCx X scope cl N h3.objs.size { s2 with heap := h3 } (upd H2 s2.heap.objs.size (.lst [])) fp) [] σ' H' s' ∧ tn i s'.heap ∧ (∀ b ∈ fp, H' b = none) ∧ W i n σ' H') ?_ m0
      ⟨0, _, _, I4, stn _ _ _ st2 fun b o e => k34 b o (k23 b o e), fun b hb => (hex b hb).1.1, w0⟩
    rintro n s3 ⟨i, σ3, H3, J3, st3, fr3, w3⟩
    rcases turn i n σ3 H3 w3 with ⟨stop, qn⟩ | ⟨go, step⟩
    · refine wpFalse (thn (T.done (compCx X scope cl N h3.objs.size { s2 with heap := h3 } (upd H2 s2.heap.objs.size (.lst [])) fp) rfl rfl rfl hc i [] s3 σ3 H3 (fun _ _ => False) J3 (stat fr3) st3 stop) fun r s4 ⟨hr, J4⟩ => ?_)
      subst hr
      obtain ⟨mc, hmc, _⟩ := J4.loc
      have I5 : Inv X pins σ H3 s4 := I3.call' (ch := fp) J4.os J4.base J4.hok J4.bare fun b hb => ⟨(hex b hb).1.2.2.2.1, (hex b hb).1.2.1, (hex b hb).1.2.2.2.2.1, (hex b hb).1.2.2.2.2.2⟩
      exact hR _ _ s4 H3 mc hmc (I3.fpOk (Nat.le_refl _) J4.free) I5 qn
    · refine wpFalse (thn (T.item (compCx X scope cl N h3.objs.size { s2 with heap := h3 } (upd H2 s2.heap.objs.size (.lst [])) fp) rfl rfl rfl hc i [] s3 σ3 H3 (fun _ _ => False) J3 (stat fr3) st3 go) fun r s4 ⟨u, hr, h4⟩ => ?_)
      subst hr
      refine wpFalse (thn h4 fun _ s5 ⟨x, H5, J5, r5, y5, st5, fr5⟩ => ?_)
      have J5' := J5.pinned (stat fr5) (T.obj _ _ st5)
      refine wpFalse (thn (hg _ _ _ _ _ _ s5 σ3 H5 x u _ J5' r5 (step x H5 y5)) fun _ s6 ⟨σ6, H6, J6, q6⟩ => ?_)
      refine wpAny_mono (he _ _ _ _ _ _ _ s6 σ6 H6 _ (J6.pw _) q6) (fun y s7 ⟨v7, H7, J7', r7, xs, hx, hz, m', hm', w7⟩ => ?_) fun e s' z => wpAny_mono z (fun _ s'' y => err _ _ y) fun e' s'' y => err _ _ y
      have J7 := J7'.unpw (ok := J6.ok)
      refine wpFalse (thn (mt_append _ s7 σ6 H7 (.ref s2.heap.objs.size) [v7] (.ref s2.heap.objs.size) [y] (fun v H8 => H8 = upd H7 s2.heap.objs.size (.lst (xs ++ [v7]))) J7 rfl (.cons r7 .nil) ⟨_, xs, v7, rfl, rfl, hx, hz, rfl⟩) fun _ s8 ⟨_, H8, J8, _, e8⟩ => ?_)
      subst e8
      refine ⟨m', hm', i + 1, σ6, _, J8.unpinned, T.keep _ _ _ st5 fun b hb o e => (J8.pin (b, o) (List.mem_append_right _ (List.mem_append_right _ (mem_pinsAt hb e)))).1, fun b hb => ?_, w7⟩
      obtain ⟨o, e, d⟩ := T.obj _ _ st5 b hb
      exact (J8.pin (b, o) (List.mem_append_right _ (List.mem_append_right _ (mem_pinsAt hb e)))).2.1
  exact codeAny_compStart_list loop (T.self _ 0 _ _ _ (stn _ _ _ st2 fun b o e => k34 b o (k23 b o e)) loop)

/-- a refusal of a def that the element calls -/
theorem pass_c {Hs : Hp} {E : XK} {cl : List (Str × Addr)} {C : Addr} {s : Shared} {H : Hp} {ex : List Addr} {pn : List (Addr × Obj)} (hst : X.stack = X.env :: X.outer) (hfr : X.env.frame = some X.env.locals) :
    Passes (CX1 X.prog X.w) ((compCx X scope cl N C s H ex).pw pn (notedBy (model X.prog X.w) X.A (compEnvC scope cl C X.env) (ErC X scope cl N C s H ex (GX Hs E)))) (XE Hs (RXf Hs E)) := by
  rintro pins σ H1 s1 e s' I ⟨x, T, C1, d, H', rfl, os, bare, un, hok, fl, q⟩
  obtain ⟨hh, gg, dr, t, os'⟩ := s'
  obtain rfl : os' = s1.os := os
  have I1 := I.call (h' := hh) (g' := gg) (d' := dr) (t' := t) (ch := []) un hok bare (fun b z => absurd z (by simp))
  obtain ⟨x', C2, dx, fs, ev, rfl, hx, s34, ⟨⟨dx', ed, nd, hdx⟩, T3, hxT⟩, r⟩ := q
  obtain rfl : x = x' := Value.ref.inj ev
  cases ed
  have e1 := hxT.symm.trans fl.1
  injection e1 with e1
  obtain ⟨rfl, _, rfl⟩ := excT_inj e1
  show wpAny _ X.A (noteFrame (.ref x) (compEnvC scope cl C X.env)) _ _ _
  rw [noteFrame_eq (show (compEnvC scope cl C X.env).frame = X.env.frame from rfl)]
  refine note_block (X := (compCx X scope cl N C s H ex).pw pn (notedBy (model X.prog X.w) X.A (compEnvC scope cl C X.env) (ErC X scope cl N C s H ex (GX Hs E)))) (outer := X.outer) I1 hst hfr fl.1 fl.2.1 fl.2.2 fun h2 T2 hT2 nT2 I2 => ?_
  have hs2 : Hs T2 = none := by
    cases q : Hs T2 with
    | none => rfl
    | some o => rw [s34 _ _ q] at hT2; cases hT2
  have nd2 : dx ≠ T2 := ne_of_none hdx hT2
  exact ⟨_, _, _, _, _, I2, x, C2, dx, T2, fs, rfl, hx, hs2, fun b o e => by rw [thrownN_ne (ne_of_none e hx) (ne_of_none e hs2)]; exact s34 b o e, nd, by rw [thrownN_ne nd nd2]; exact hdx, thrownN_x, thrownN_T nT2, nT2, nd2, r⟩
/-- name = [..], where a refusal may leave the element -/
theorem ps_setCompX {Hs : Hp} {E : XK} {y : Str} {py spos : Pos} {gy : TG} (hc : X.calm = true) (hy : PG X (.Name y py) gy) (hi : PI X tg iter wi) (hg : ∀ cl C s H ex, PG (compCx X scope cl N C s H ex) tg g)
    (he : ∀ cl C s H ex pn, PE ((compCx X scope cl N C s H ex).pw pn (notedBy (model X.prog X.w) X.A (compEnvC scope cl C X.env) (ErC X scope cl N C s H ex (GX Hs E)))) elt te)
    (hxe : ∀ pins σ H s e, Inv X pins σ H s → GX Hs E e H → X.xe e s)
    (hk : compChk X.env.scope X.N scope N fr = true := by rfl) (hsw : swapsWith (.ListComp elt [⟨tg, iter, [], 0⟩] scope pos) (some (.Name y py)) spos.line X.env = pure true := by rfl) (hs : ∀ x, foldedSetIterable iter X.env x = pure x := by intro _; rfl) :
    PS X (.Assign [.Name y py] (.ListComp elt [⟨tg, iter, [], 0⟩] scope pos) spos) (tAsg (tComp wi g te fr) gy) := by
  intro pins s σ H D I h
  have ck := compChk_of hk
  obtain ⟨cl, e1, c1, c2⟩ := comp_cl I.ok ck
  rw [exec_Assign_Name_used _ _ _ _ hsw]
  refine wpAny_bind (wpAny_standAt (wpAny_bind ?_))
  show wpAny _ X.A (do let _ ← comprehension (.ListComp elt [⟨tg, iter, [], 0⟩] scope pos) scope X.env _ (newList []) false (eval iter X.env) (some (assign (.Name y py) X.env))) _ _ s
  refine wpAny_bind (wpAny_mono (wpAny_comprehension_free (use := some (assign (.Name y py) X.env)) (Q := fun _ s' => SP X pins D .next s') rfl hs e1 ck.kind ck.loc
    (comp_coreZ (R := fun acc C => compPost (model X.prog X.w) X.A X.xe (some (assign (.Name y py) X.env)) (fun _ s' => SP X pins D .next s') acc C) hc I hi hg he ck c1 c2 h (fun acc C e s' H' m hn f I' gx => ?_) fun acc C s' H' m hn f I' q => ?_)) (fun _ s' hq => wpAny_pure (wpAny_pure hq)) fun _ _ e => e)
  · refine ⟨m, hn, fun h' hs' cenv _ => ?_⟩
    obtain ⟨f0, f1, f2, f3, f4, f5⟩ := f
    have I2 : Inv X pins σ H' { s' with heap := h' } := I'.turned (t' := s'.toks) (fun b o hb e => hs'.extBut b o hb e) f0 f1 f3 f4 f5
    obtain ⟨x, C1, dx, T, fs, rfl, gs⟩ := gx
    obtain ⟨⟨vs, sl, g1, g2⟩, _⟩ := (show ObjOk X.prog X.w H' h' x (ExcT C1 (some dx) x T) from I2.hok x _ gs.ex)
    obtain ⟨⟨o, ts, k1, k2, k3⟩, _⟩ := (show ObjOk X.prog X.w H' h' T (TbA T) from I2.hok T _ gs.tb)
    refine pass_any (s := { s' with heap := h' }) g1 g2 k1 k2 k3 fun h3 e3 t3 => ?_
    have same : upd H' T (TbA T) = H' := funext fun b => by
      by_cases z : b = T
      · rw [z, upd_same, gs.tb]
      · rw [upd_ne z]
    have I3 := I2.write (x := T) (e := T) (h' := h3) (o := TbA T) (t' := s'.toks) (by rw [gs.tb]; exact True.intro) (.inl rfl) (fun b u nb z => (e3 b nb).trans z) (let ⟨o, _, e, _⟩ := t3; ⟨o, e⟩) (tbA_ok t3)
    rw [same] at I3
    exact hxe _ _ _ _ _ I3 ⟨x, C1, dx, T, fs, rfl, gs⟩
  · show wpAny _ X.A (assign (.Name y py) X.env (.ref acc)) _ _ _
    obtain ⟨oC, es, ep, hoC, hdC, hrC⟩ := id hn
    have IP := I'.pinned (fp := [C]) (fun b hb => by rw [List.mem_singleton.mp hb]; exact f) (fun b hb => by rw [List.mem_singleton.mp hb]; exact ⟨oC, hoC, fun v z => by rw [hdC] at z; cases z⟩)
    refine thn (hy _ s' σ H' (.ref acc) (.ref acc) _ IP rfl q) fun _ s'' ⟨σ6, H6, I6, q6⟩ => ?_
    have pC := I6.pin (C, oC) (List.mem_append_right _ (List.mem_append_right _ (mem_pinsAt (List.mem_singleton.mpr rfl) hoC)))
    obtain ⟨f0, f1, f2, f3, f4, f5⟩ := f
    exact ⟨m, ⟨oC, es, ep, pC.1, hdC, hrC⟩, fun h' hs' => ⟨σ6, H6, I6.unpinned.turned (t' := s''.toks) (fun b o hb e => hs'.extBut b o hb e) pC.2.1 f1 f3 f4 f5, q6⟩⟩
end
section
variable {P : Program} {w : World} {K : PySem.W.Frag} {mg : Str → Option Value} {base : Heap} {N : List Str} {qual : Str} {scope : Scope} {f : Addr} {cd : Value} {A : Around} {outer : List Env} {s : Shared} {H : Hp} {E : XK} {Hs : Hp}
theorem xe_any : ∀ pins σ H1 s1 e, Inv (cxOf (CX1 P w) P w K mg base N qual scope f cd A outer s H E) pins σ H1 s1 → GX Hs E e H1 → (cxOf (CX1 P w) P w K mg base N qual scope f cd A outer s H E).xe e s1 := by
  rintro pins σ H1 s1 e I ⟨x, C, dx, T, fs, rfl, g⟩
  refine leave_any I rfl rfl g.ex g.tb g.nT (fun h' I' => ?_) fun h' T2 hT2 nT2 I' => ?_
  · have s1 : Same Hs (upd H1 T (TbO T)) := fun b o e => by rw [upd_ne (ne_of_none e g.hT)]; exact g.same b o e
    refine ⟨x, T, C, some dx, _, rfl, I'.os, I'.bare, I'.base, I'.hok, ⟨by rw [upd_ne (Ne.symm g.nT)]; exact g.ex, upd_same, g.nT⟩, ?_⟩
    exact g.rf x dx fs _ g.hx s1 ⟨⟨dx, rfl, g.nd, by rw [upd_ne g.dT]; exact g.ed⟩, T, by rw [upd_ne (Ne.symm g.nT)]; exact g.ex⟩ rfl
  · have hs2 : Hs T2 = none := by
      cases q : Hs T2 with
      | none => rfl
      | some o => rw [g.same _ _ q] at hT2; cases hT2
    have s1 : Same Hs (thrown H1 x C (some dx) T2) := fun b o e => by rw [thrown_ne (ne_of_none e g.hx) (ne_of_none e hs2)]; exact g.same b o e
    refine ⟨x, T2, C, some dx, _, rfl, I'.os, I'.bare, I'.base, I'.hok, ⟨thrown_x, thrown_T nT2, nT2⟩, ?_⟩
    exact g.rf x dx fs _ g.hx s1 ⟨⟨dx, rfl, g.nd, by rw [thrown_ne g.nd (ne_of_none g.ed hT2)]; exact g.ed⟩, T2, thrown_x⟩ rfl
end
end L2
namespace L2
open PySem PySem.Spec PyProof.Rows
def tStrs (ks : List Str) : TA := fun _ H Q => Q (ks.map V.str) H
section
variable {X : Cx}
def strsE : List Expr → Option (List Str)
  | [] => some []
  | .Constant (.str i) _ _ :: es => (strsE es).map (i :: ·)
  | _ => none
theorem pa_strs : ∀ {es : List Expr} {ks : List Str}, strsE es = some ks → (∀ k ∈ ks, k.length ≤ 1000) → PA X es (tStrs ks)
  | [], ks, h, _ => by
    cases h
    exact pa_nil
  | .Constant (.str i) k p :: es, ks, h, hk => by
    rw [strsE] at h
    obtain ⟨r, hr, rfl⟩ := Option.map_eq_some_iff.mp h
    exact pa_cons pe_str (pa_strs hr fun k hm => hk k (List.mem_cons_of_mem _ hm))
theorem pe_lstS {es : List Expr} {ks : List Str} {pos : Pos} (h : strsE es = some ks) (hk : ∀ k ∈ ks, k.length ≤ 1000) : PE X (.List es pos) (tLst (tStrs ks)) := pe_lst (pa_strs h hk)
end
end L2
namespace L2
open PySem PySem.Spec PyProof.Rows
section
variable {prog : Program} {w : World} {A : Around} {E : Value → Shared → Prop} {s : Shared} {it d : Addr} {i ep : Nat} {od : Obj} {es : Array DictEntry}
end
section
variable {X : Cx}
end
end L2
namespace L2
open PySem PySem.Spec PyProof.Rows
section
variable {X : Cx}
end
end L2
namespace L2
open PySem PySem.Spec PyProof.Rows
def Itk (a : Addr) (ob : Obj) : It :=
  ⟨fun i H => ∃ kvs p, H a = some (.frz ob (.dK kvs)) ∧ kvs[i]? = some p,
   fun i H y H' => ∃ p, (∀ kvs, H a = some (.frz ob (.dK kvs)) → kvs[i]? = some p) ∧ y = kV p.1 ∧ H' = H,
   fun i H => ∃ kvs, H a = some (.frz ob (.dK kvs)) ∧ kvs.length ≤ i⟩
theorem turn_keysK {P : Program} {w : World} {K : PySem.W.Frag} {tg : Expr} (a it : Addr) {ob : Obj} {ents : Array DictEntry} {n ep : Nat} (hd : ob.data = .dict ents ep) (hn : ents.size = n) :
    Turn P w K tg (Itk a ob) [it] it (fun i h => h.IsKeyIter it a i n ep) where
  mem := by simp
  obj := fun i h st b hb => by
    obtain ⟨o, e, c, d⟩ := st
    rw [List.mem_singleton.mp hb]
    exact ⟨o, e, fun v z => by rw [d] at z; cases z⟩
  keep := fun i h h' st k => st.at fun o e => k it (by simp) o e
  item := by
    intro X hP hw hK hc i pins s σ H E I hf st hg
    subst hP hw hK
    obtain ⟨kvs, p, hq, hx⟩ := hg
    obtain ⟨vs, rel, hat, hl⟩ := frz_at I.hok hq hd hn
    obtain ⟨⟨k', u⟩, hu, hk', ru⟩ := Paired.get rel hx
    obtain ⟨f0, f1, f2, f3, f4, f5⟩ := hf it (by simp)
    subst hl
    refine wpAny_pyNext_dict_item st hat hu fun key h' hkey st' sb => ?_
    have rk : RelV (kV p.1) key := by
      have e : p.1 = k' := hk'
      rw [e]
      exact kV_rel hkey
    have I1 : Inv X pins σ H { s with heap := h' } := I.turned (t' := s.toks) (fun b o hb e => (sb.2 b hb).trans e) f0 f1 f3 f4 f5
    refine ⟨_, rfl, letGo_keyiter (s' := { s with heap := h' }) st' ⟨kV p.1, H, I1, rk, ⟨p, fun ys hy => ?_, rfl, rfl⟩, st', fun b hb => (hf b hb).1⟩⟩
    rw [hq] at hy
    cases hy
    exact hx
  done := by
    intro X hP hw hK hc i pins s σ H E I hf st hg
    subst hP hw hK
    obtain ⟨kvs, hq, hx⟩ := hg
    obtain ⟨vs, rel, hat, hl⟩ := frz_at I.hok hq hd hn
    obtain ⟨f0, f1, f2, f3, f4, f5⟩ := hf it (by simp)
    have hle : kvs.length = vs.length := rel.length
    subst hl
    exact wpAny_pyNext_dict_end (I.ok.hd hc) st hat (List.getElem?_eq_none (by first | lia | omega)) fun h' eb => ⟨rfl, I.turned (t' := s.toks) (fun b o hb z => eb b o hb z) f0 f1 f3 f4 f5⟩
  self := fun _ _ _ _ _ st h => wpAny_pyIter_keyiter st h
def iKeysK (td : TE) : TI := fun σ H R => td σ H fun x H1 => ∃ a kvs, x = .ref a ∧ Rd H1 a (.dK kvs) ∧ ∀ ob, R (Itk a ob) (upd H1 a (.frz ob (.dK kvs)))
section
variable {X : Cx}
theorem pi_keysK {tg o : Expr} {td : TE} (hp : PE X o td) : PI X tg o (iKeysK td) := by
  intro pins s σ H R I h
  refine thn (hp pins s σ H _ I h) fun v s1 ⟨x, H1, I1, r1, q1⟩ => ?_
  obtain ⟨a, kvs, e, ea, q⟩ := q1
  subst e
  cases r1
  obtain ⟨hty, hnd, hsys⟩ := isD_at I1 (.inl ⟨kvs, ea⟩)
  obtain ⟨_, _, vs, rel, dd⟩ := dk_rd I1.hok ea
  obtain ⟨ob, ents, ep, g1, g2, g3, g4, g5, g6⟩ := id dd
  have hat : s1.heap.DictAt (mixKind X.prog X.w) a vs ep := ⟨ob, ents, g1, g2, g3, g4, g5, g6⟩
  have hsz : ents.size = vs.length := by rw [← g5.length, Array.length_toList]
  refine wpAny_pyIter_dict hsys hat ?_
  have I3 := I1.kept (h' := s1.heap.push { cls := .type "dict_keyiterator", data := .fields #[.ref a, .int 0 0, .int vs.length 0, .int ep 0] }) (t' := s1.toks) fun b u z => Heap.get?_push_of_some _ z
  have g1' : (s1.heap.push { cls := .type "dict_keyiterator", data := .fields #[.ref a, .int 0 0, .int vs.length 0, .int ep 0] }).get? a = some ob := Heap.get?_push_of_some _ g1
  have na : s1.heap.objs.size ≠ a := Nat.ne_of_gt (Heap.lt_size g1)
  rcases ea with ea | ⟨ob', ea⟩
  · have I4 := I3.write (x := a) (e := a) (o := .frz ob (.dK kvs)) (h' := s1.heap.push { cls := .type "dict_keyiterator", data := .fields #[.ref a, .int 0 0, .int vs.length 0, .int ep 0] }) (t' := s1.toks)
      (by rw [ea]; exact True.intro) (.inl rfl) (fun b u _ z => z) ⟨ob, g1'⟩ ⟨g1', I3.hok a _ ea⟩
    refine ⟨s1.heap.objs.size, [s1.heap.objs.size], _, _, _, rfl, I4, turn_keysK a _ g3 hsz, ⟨_, Heap.get?_push_size _ rfl, rfl, rfl⟩, fun b hb' => ?_, q ob⟩
    rw [List.mem_singleton.mp hb']
    refine I1.fpOk (Nat.le_refl _) ?_
    rw [upd_ne na]
    exact I1.hok.fresh (Nat.le_refl _)
  · obtain ⟨y1, _⟩ := (show ObjOk X.prog X.w H1 s1.heap a (.frz ob' (.dK kvs)) from I1.hok a _ ea)
    rw [g1] at y1
    cases y1
    have eH : upd H1 a (.frz ob (.dK kvs)) = H1 := by
      funext c
      by_cases z : c = a
      · rw [z, upd_same, ea]
      · rw [upd_ne z]
    have qq := q ob
    rw [eH] at qq
    refine ⟨s1.heap.objs.size, [s1.heap.objs.size], _, _, _, rfl, I3, turn_keysK a _ g3 hsz, ⟨_, Heap.get?_push_size _ rfl, rfl, rfl⟩, fun b hb' => ?_, qq⟩
    rw [List.mem_singleton.mp hb']
    exact I1.fpOk (Nat.le_refl _) (I1.hok.fresh (Nat.le_refl _))
end
theorem for_keysK {a : Addr} {ob : Obj} {kvs : List (Key × V)} {g : TG} {tb : TS} {D : Ends} {σ : St} {H : Hp} (Pv : Nat → St → Hp → Prop) (h0 : Pv 0 σ H) (hl : ∀ i σ H, i ≤ kvs.length → Pv i σ H → H a = some (.frz ob (.dK kvs)))
    (hs : ∀ i p σ H, kvs[i]? = some p → Pv i σ H → g (kV p.1) σ H fun σ2 H2 => tb { D with nx := Pv (i + 1), ct := Pv (i + 1), bk := D.nx } σ2 H2) (hd : ∀ σ H, Pv kvs.length σ H → D.nx σ H) :
    ∃ W : Nat → Nat → St → Hp → Prop, (∃ m, W 0 m σ H) ∧ ∀ i m σ H, W i m σ H →
      ((Itk a ob).stop i H ∧ D.nx σ H) ∨ ((Itk a ob).go i H ∧ ∃ N : St → Hp → Prop, (∀ σ' H', N σ' H' → ∃ m', m' < m ∧ W (i + 1) m' σ' H') ∧ ∀ x H', (Itk a ob).yld i H x H' → g x σ H' fun σ2 H2 => tb { D with nx := N, ct := N, bk := D.nx } σ2 H2) := by
  refine ⟨fun i m σ H => m = kvs.length - i ∧ i ≤ kvs.length ∧ Pv i σ H, ⟨kvs.length, by simp, Nat.zero_le _, h0⟩, ?_⟩
  rintro i m σ H ⟨rfl, hi, p⟩
  have q := hl i σ H hi p
  by_cases hlt : i < kvs.length
  · refine .inr ⟨⟨kvs, kvs[i], q, by simp [hlt]⟩, Pv (i + 1), fun σ' H' p' => ⟨kvs.length - (i + 1), by first | lia | omega, rfl, hlt, p'⟩, fun x H' y => ?_⟩
    obtain ⟨z, hz, rfl, rfl⟩ := y
    exact hs i z σ _ (hz kvs q) p
  · have e : i = kvs.length := by first | lia | omega
    subst e
    exact .inl ⟨⟨kvs, q, Nat.le_refl _⟩, hd σ H p⟩
section
variable {X : Cx}
end
end L2
namespace L2
open PySem PySem.Spec PyProof.Rows
theorem op_mul_str {X : Cx} : OpR X (binaryOp .Mult) (fun x y H Q => ∃ z n, x = .str z ∧ y = .int n ∧ MulOk z n ∧ Q (.str (Txt.mul z n)) H) := by
  intro pins s σ H x y v u Q I rx ry h
  obtain ⟨z, n, rfl, rfl, ok, q⟩ := h
  obtain ⟨t, rfl⟩ := rx
  obtain ⟨t', rfl⟩ := ry
  exact PySem.SB.mul ok fun t2 k => ⟨.str (Txt.mul z n), H, I.tok _, ⟨_, rfl⟩, q⟩
/-- all(list), in a block -/
theorem call_allK {X : Cx} {K : PySem.W.Frag} (hK : X.K = K := by rfl) (hc : X.calm = true := by rfl) : CallR X (.builtin "all") (fun xs H Q => ∃ (p : Addr) (bs : List Bool), xs = [.ref p] ∧ SqL K H p (bs.map V.bl) ∧ Q (.bl (bs.all id)) H) := by
  subst hK
  intro pins s σ H xs us Q I r h
  obtain ⟨p, bs, e, hp, q⟩ := h
  exact call_all pins s σ H xs us Q I r ⟨p, bs, e, hp, hc, q⟩
end L2
namespace L2
open PySem PySem.W PyProof.Rows
def lookO {α β : Type} (oS : Program → List Str → List Str → (Shared → Bool) → Bool → Shared → α) (ms : List Str) (p q : Program) (lo : List Str) (Xt : Shared → Bool) (Yf : Shared → β) (h0 : Heap) (s : Shared) : Bool × α × β :=
  ((((staticsOk ms h0 s.heap && namesBound p s.heap) && gensDone s) && laidKept h0 s.heap), oS q lo ms Xt true s, Yf s)
noncomputable abbrev atBoot (P : Params) (os : OsState) : Shared := Shared.mk (boot_heap P) (Array.mk []) boot_drawn boot_toks os
theorem left_once {p q : Program} {lo : List Str} {Xt : Shared → Bool} {β : Type} {Yf : Shared → β} {Ya : World → β} {N m : Nat} {an : Option Value}
    (bo : ∀ w : World, Option.map (fun s => (s.heap, s.gens, s.drawn, s.toks)) (fencedOpening treeTable p w N) = some (boot_heap w.params, Array.mk [], boot_drawn, boot_toks))
    (sz : ∀ w : World, ((boot_heap w.params).isNs mainGlobals, (boot_heap w.params).objs.size, (boot_heap w.params).nsMap mainGlobals "__annotations__") = (true, m, an))
    (rn : ∀ (w : World) (os : OsState), Option.map (lookO openSeen (importedModules p.main.body) p q lo Xt Yf (boot_heap w.params)) (topRun treeTable p w m an N (atBoot w.params os) (topStub p)) = some (true, openGood q lo, Ya w)) :
    LeftO p q lo Xt Yf Ya N := by
  intro w
  obtain ⟨s0, e0, e1⟩ := Option.map_eq_some_iff.mp (bo w)
  obtain ⟨hp, gs, dr, tk, os⟩ := s0
  simp only [Prod.mk.injEq] at e1
  obtain ⟨rfl, rfl, rfl, rfl⟩ := e1
  have z := sz w
  simp only [Prod.mk.injEq] at z
  obtain ⟨z1, z2, z3⟩ := z
  obtain ⟨s1, r1, r2⟩ := Option.map_eq_some_iff.mp (rn w os)
  unfold lookO at r2
  simp only [Prod.mk.injEq] at r2
  obtain ⟨l1, l2, l3⟩ := r2
  have tf : topFrom treeTable p w N (atBoot w.params os) = some s1 := by
    unfold topFrom
    dsimp only
    rw [z1, z2, z3]
    show Option.bind (topRun treeTable p w m an N (atBoot w.params os) (topStub p)) _ = _
    rw [r1]
    show (match (((staticsOk (importedModules p.main.body) (boot_heap w.params) s1.heap && namesBound p s1.heap) && gensDone s1) && laidKept (boot_heap w.params) s1.heap) with | true => some s1 | false => none) = _
    rw [l1]
  unfold openEnds
  rw [e0]
  show Option.map _ (topFrom treeTable p w N (atBoot w.params os)) = _
  rw [tf]
  exact congrArg some (Prod.ext l2 l3)
def treeAt : List Obj → Nat → BT → BT
  | [], _, t => t
  | o :: r, i, t => treeAt r (i + 1) (t.ins i o)
def topRunT (ok : Thread → Bool) (stp : SharedT → Thread → Option (SharedT × Thread)) : Nat → SharedT → Thread → Option SharedT
  | 0, _, _ => none
  | n + 1, s, t => match through t with
    | true => some s
    | false => match ok t with
      | false => none
      | true => match stp s t with
        | some (s1, t1) => topRunT ok stp n s1 t1
        | none => none
theorem topRunT_of {tb : String → Option Builtin} {p : Program} {w : World} {m : Nat} {an : Option Value} : ∀ {n : Nat} {s s1 : SharedT} {t : Thread}, topRunT (stepOk m an) (stepT (denote tb) p w) n s t = some s1 → topRun tb p w m an n s.abs t = some s1.abs
  | 0, _, _, _, h => by cases h
  | n + 1, s, s1, t, h => by
    rw [topRunT] at h
    rw [topRun]
    cases ht : through t with
    | true => rw [ht] at h; cases h; rfl
    | false =>
      rw [ht] at h
      cases hk : stepOk m an t with
      | false => rw [hk] at h; cases h
      | true =>
        rw [hk] at h
        cases hs : stepT (denote tb) p w s t with
        | none => rw [hs] at h; cases h
        | some r =>
          obtain ⟨s2, t2⟩ := r
          rw [hs] at h
          rw [stepT_spec hs]
          exact topRunT_of h
noncomputable def bootT (P : Params) : BT := treeAt (boot_heap P).objs.toList 0 .nil
noncomputable def atBootT (P : Params) (os : OsState) : SharedT := SharedT.mk (bootT P) 11 (boot_heap P).life (Array.mk []) boot_drawn boot_toks os
theorem bootT_is (P : Params) (os : OsState) : (atBootT P os).abs = atBoot P os := by kernel_rfl
theorem ran_of {p q : Program} {lo ms : List Str} {Xt : Shared → Bool} {α β : Type} {Yf : Shared → β} {N m : Nat} {an : Option Value} {w : World} {os : OsState} {r : Bool × α × β} {oS : Program → List Str → List Str → (Shared → Bool) → Bool → Shared → α}
    (h : Option.map (fun s => lookO oS ms p q lo Xt Yf (boot_heap w.params) (SharedT.abs s)) (topRunT (stepOk m an) (stepT (denote treeTable) p w) N (atBootT w.params os) (topStub p)) = some r) :
    Option.map (lookO oS ms p q lo Xt Yf (boot_heap w.params)) (topRun treeTable p w m an N (atBoot w.params os) (topStub p)) = some r := by
  obtain ⟨s, e, z⟩ := Option.map_eq_some_iff.mp h
  have e := topRunT_of e
  rw [bootT_is] at e
  rw [e]
  exact congrArg some z
/-- by twins -/
theorem run_by {p p' : Program} {q : Program → Program} {lo : List Str} {Xt : Program → Shared → Bool} {β : Type} {Yf : Shared → β} {Ya : World → β} {N m : Nat} {an : Option Value}
    {sT : (Code → Sem Fin) → Program → World → SharedT → Thread → Option (SharedT × Thread)} {dn : (String → Option Builtin) → Code → Sem Fin} {tT : String → Option Builtin} {iM : List Stmt → List Str}
    (h1 : @stepT = sT) (h0 : @denote = dn) (h2 : treeTable = tT) (h3 : @importedModules = iM) {oS : ∀ (q : Program) (lo ms : List Str) (Xt : Shared → Bool) (g0 : Bool) (s : Shared), _} (h4 : @openSeen = oS) (h5 : p = p')
    (rn : ∀ (w : World) (os : OsState), Option.map (fun s => lookO oS (iM p'.main.body) p' (q p') lo (Xt p') Yf (boot_heap w.params) (SharedT.abs s)) (topRunT (stepOk m an) (sT (dn tT) p' w) N (atBootT w.params os) (topStub p')) = some (true, openGood (q p') lo, Ya w)) :
    ∀ (w : World) (os : OsState), Option.map (lookO openSeen (importedModules p.main.body) p (q p) lo (Xt p) Yf (boot_heap w.params)) (topRun treeTable p w m an N (atBoot w.params os) (topStub p)) = some (true, openGood (q p) lo, Ya w) := by
  subst h1 h0 h2 h3 h4 h5
  exact fun w os => ran_of (rn w os)
end L2
namespace K5
open PySem L2 GB
def top (i : Nat) : Stmt := PySem.Challenge.pw_glazebench_k05_drawings_refused.main.body.getD i (.Pass ⟨0, 0, 0, 0⟩)
abbrev s_NoDrawing_init : Stmt := inClass (top 8) 0
abbrev s_Ragged_init : Stmt := inClass (top 9) 0
abbrev s_is_whole : Stmt := top 13
abbrev s_is_side : Stmt := top 14
abbrev s_is_rectangle : Stmt := top 15
abbrev s_inside : Stmt := top 16
abbrev s_squares_of : Stmt := top 17
abbrev s_check_sides : Stmt := top 18
abbrev s_check_panes : Stmt := top 19
abbrev s_panes_by_square : Stmt := top 20
abbrev s_check_covered : Stmt := top 21
abbrev s_Panel_init : Stmt := inClass (top 22) 0
abbrev s_Panel_panes : Stmt := inClass (top 22) 1
abbrev s_is_row : Stmt := top 25
abbrev s_is_drawing : Stmt := top 26
abbrev s_squares_by_letter : Stmt := top 27
abbrev s_pane_drawn : Stmt := top 28
abbrev s_read_drawing : Stmt := top 29
abbrev s__law_purse : Stmt := top 31
abbrev s__law_take : Stmt := top 32
abbrev s__law_tiled : Stmt := top 33
abbrev s__law_drawn : Stmt := top 34
abbrev s__law_spoiled : Stmt := top 35
abbrev s__law_formed : Stmt := top 36
abbrev s__law_due : Stmt := top 37
abbrev s__law_found : Stmt := top 38
abbrev s_law : Stmt := top 39
def wholeV : V → Bool
  | .int _ => true
  | _ => false
def sideV : V → Bool
  | .int i => decide (1 ≤ i) && decide (i ≤ 12)
  | _ => false
def rectB : List V → Bool
  | [.int a, .int b, .int c, .int d] => decide (0 ≤ a) && decide (a < c) && (decide (0 ≤ b) && decide (b < d))
  | _ => false
def Ty (H : Hp) (v : V) : Prop := ∃ T, tyS H v = some T
theorem tyS_same {H H' : Hp} (s : Same H H') {v : V} {T : String} (h : tyS H v = some T) : tyS H' v = some T := by
  cases v with
  | ref a =>
    have h : tyO (H a) = some T := h
    show tyO (H' a) = some T
    cases e : H a with
    | none => rw [e] at h; cases h
    | some o => rw [e] at h; rw [s a o e]; exact h
  | _ => exact h
theorem Ty.same {H H' : Hp} (s : Same H H') {v : V} (h : Ty H v) : Ty H' v := let ⟨T, e⟩ := h; ⟨T, tyS_same s e⟩
theorem whole_eq {H : Hp} {v : V} {T : String} (h : tyS H v = some T) : (isB T "int" = true → (!isB T "bool") = wholeV v) ∧ (isB T "int" = false → false = wholeV v) := by
  cases v with
  | non => cases h; exact ⟨fun z => absurd z (by decide), fun _ => rfl⟩
  | bl b => cases h; exact ⟨fun _ => by show (!isB "bool" "bool") = false; decide, fun z => absurd z (by decide)⟩
  | int i => cases h; exact ⟨fun _ => by show (!isB "int" "bool") = true; decide, fun z => absurd z (by decide)⟩
  | str x => cases h; exact ⟨fun z => absurd z (by decide), fun _ => rfl⟩
  | byt b => cases h
  | flt b => cases h
  | ty n => cases h
  | ref a =>
    have key : T = "list" ∨ T = "tuple" ∨ T = "dict" := by
      have h : tyO (H a) = some T := h
      unfold tyO at h
      split at h <;> first | (cases h; simp) | cases h
    rcases key with rfl | rfl | rfl <;> exact ⟨fun z => absurd z (by decide), fun _ => rfl⟩
theorem ty_tup {H : Hp} {a : Addr} {xs : List V} (h : H a = some (.tup xs)) : tyS H (.ref a) = some "tuple" := by
  show tyO (H a) = some "tuple"
  rw [h]; rfl
/-- four ints -/
abbrev four (a b c d : Int) : List V := [.int a, .int b, .int c, .int d]
def insB (a0 a1 a2 a3 o0 o1 o2 o3 : Int) : Bool := decide (o0 ≤ a0) && decide (o1 ≤ a1) && (decide (a2 ≤ o2) && decide (a3 ≤ o3))
/-- panes as they lie: the tuples at their addresses -/
def At (H : Hp) (ts : List (Addr × Rc)) : Prop := ∀ t ∈ ts, H t.1 = some (.tup (four t.2.t t.2.l t.2.b t.2.r))
theorem At.same {H H' : Hp} {ts : List (Addr × Rc)} (a : At H ts) (s : Same H H') : At H' ts := fun t h => s _ _ (a t h)
theorem At.perm {H : Hp} {ts us : List (Addr × Rc)} (a : At H ts) (s : us.Perm ts) : At H us := fun t h => a t (s.mem_iff.mp h)
abbrev refs (ts : List (Addr × Rc)) : List V := ts.map fun t => V.ref t.1
abbrev rcs (ts : List (Addr × Rc)) : List Rc := ts.map (·.2)
theorem refs_snoc (us : List (Addr × Rc)) (x : Addr × Rc) : refs (us ++ [x]) = refs us ++ [V.ref x.1] := by simp
theorem rcs_snoc (us : List (Addr × Rc)) (x : Addr × Rc) : rcs (us ++ [x]) = rcs us ++ [x.2] := by simp
theorem refs_get {ts : List (Addr × Rc)} {i : Nat} {x : V} (h : (refs ts)[i]? = some x) : ∃ t, ts[i]? = some t ∧ x = .ref t.1 := by
  rw [List.getElem?_map] at h
  cases e : ts[i]? with
  | none => rw [e] at h; cases h
  | some t => rw [e] at h; exact ⟨t, rfl, (Option.some.inj h).symm⟩
def flds (w h : Int) (ls ld : Addr) : List (Str × V) := putF "by_square" (.ref ld) (putF "sorted_panes" (.ref ls) (putF "height" (.int h) (putF "width" (.int w) [])))
theorem flds_w (w h : Int) (ls ld : Addr) : (flds w h ls ld).lookup ("width" : Str) = some (.int w) := by
  unfold flds
  rw [lookup_putF, if_neg (by decide +kernel), lookup_putF, if_neg (by decide +kernel), lookup_putF, if_neg (by decide +kernel), lookup_putF, if_pos rfl]
theorem flds_h (w h : Int) (ls ld : Addr) : (flds w h ls ld).lookup ("height" : Str) = some (.int h) := by
  unfold flds
  rw [lookup_putF, if_neg (by decide +kernel), lookup_putF, if_neg (by decide +kernel), lookup_putF, if_pos rfl]
theorem flds_s (w h : Int) (ls ld : Addr) : (flds w h ls ld).lookup ("sorted_panes" : Str) = some (.ref ls) := by
  unfold flds
  rw [lookup_putF, if_neg (by decide +kernel), lookup_putF, if_pos rfl]
theorem flds_no (w h : Int) (ls ld : Addr) {m : Str} (h1 : ¬ m = "by_square") (h2 : ¬ m = "sorted_panes") (h3 : ¬ m = "height") (h4 : ¬ m = "width") : (flds w h ls ld).lookup m = none := by
  unfold flds
  rw [lookup_putF, if_neg h1, lookup_putF, if_neg h2, lookup_putF, if_neg h3, lookup_putF, if_neg h4]; rfl
abbrev sqK (r c : Int) : List Key := [Sum.inl r, Sum.inl c]
theorem sqK_inj {r c r' c' : Int} (h : sqK r c = sqK r' c') : r = r' ∧ c = c' := by
  injection h with h1 h2
  injection h2 with h2 _
  exact ⟨Sum.inl.inj h1, Sum.inl.inj h2⟩
/-- a panel: its sorted panes ts -/
structure PanelAt (C : Addr) (H : Hp) (a : Addr) (w h : Int) (ts : List (Addr × Rc)) (dx ls ld : Addr) (kvs : List (List Key × V)) : Prop where
  ob : H a = some (.ins C dx (flds w h ls ld))
  lst : H ls = some (.lst (refs ts))
  dic : H ld = some (.dT kvs)
  ats : At H ts
  til : Tiles w h (rcs ts)
  few : ts.length ≤ 52
  srt : Srt (rcs ts)
  look : ∀ r c, 0 ≤ r → r < h → 0 ≤ c → c < w → ∃ t ∈ ts, valV kvs (sqK r c) = some (.ref t.1) ∧ t.2.has r c
  sw : 1 ≤ w ∧ w ≤ 12
  sh : 1 ≤ h ∧ h ≤ 12
theorem PanelAt.same {C : Addr} {H H' : Hp} {a : Addr} {w h : Int} {ts : List (Addr × Rc)} {dx ls ld : Addr} {kvs : List (List Key × V)} (p : PanelAt C H a w h ts dx ls ld kvs) (s : Same H H') : PanelAt C H' a w h ts dx ls ld kvs :=
  ⟨s _ _ p.ob, s _ _ p.lst, s _ _ p.dic, p.ats.same s, p.til, p.few, p.srt, p.look, p.sw, p.sh⟩
/-- the datum of a list of panes -/
def rcD (p : Rc) : D := .tup (.cons (.at (.int p.t)) (.cons (.at (.int p.l)) (.cons (.at (.int p.b)) (.cons (.at (.int p.r)) .nil))))
def rcsD : List Rc → Ds
  | [] => .nil
  | p :: r => .cons (rcD p) (rcsD r)
theorem rcD_is {K : PySem.W.Frag} {H : Hp} {a : Addr} {p : Rc} (h : H a = some (.tup (four p.t p.l p.b p.r))) : DIs K H (rcD p) (.ref a) := by
  unfold rcD
  rw [DIs]
  refine ⟨a, _, rfl, SqT.of h, ?_⟩
  rw [DIss]; refine ⟨_, _, rfl, by rw [DIs]; exact ⟨rfl, rfl⟩, ?_⟩
  rw [DIss]; refine ⟨_, _, rfl, by rw [DIs]; exact ⟨rfl, rfl⟩, ?_⟩
  rw [DIss]; refine ⟨_, _, rfl, by rw [DIs]; exact ⟨rfl, rfl⟩, ?_⟩
  rw [DIss]; refine ⟨_, _, rfl, by rw [DIs]; exact ⟨rfl, rfl⟩, ?_⟩
  rw [DIss]
theorem rcsD_is {K : PySem.W.Frag} {H : Hp} : ∀ {ts : List (Addr × Rc)}, At H ts → DIss K H (rcsD (rcs ts)) (refs ts)
  | [], _ => by rw [show rcsD (rcs []) = .nil from rfl, DIss]; rfl
  | t :: r, h => by
    show DIss K H (.cons (rcD t.2) (rcsD (rcs r))) (V.ref t.1 :: refs r)
    rw [DIss]
    exact ⟨_, _, rfl, rcD_is (h t List.mem_cons_self), rcsD_is fun u hu => h u (List.mem_cons_of_mem _ hu)⟩
theorem rcD_dep (p : Rc) : dep (rcD p) = 1 := by
  unfold rcD
  simp [dep, deps]
theorem rcsD_dep : ∀ ps : List Rc, deps (rcsD ps) ≤ 1
  | [] => by rw [show rcsD [] = .nil from rfl, deps]; first | lia | omega
  | p :: r => by
    have := rcsD_dep r
    show deps (.cons (rcD p) (rcsD r)) ≤ 1
    rw [deps, rcD_dep]; first | lia | omega
/-- the datum of a list of panes, whole -/
theorem listD_is {K : PySem.W.Frag} {H : Hp} {l : Addr} {ts : List (Addr × Rc)} (h : SqL K H l (refs ts)) (a : At H ts) : DIs K H (.lst (rcsD (rcs ts))) (.ref l) := by
  rw [DIs]; exact ⟨l, _, rfl, h, rcsD_is a⟩
def sp_whole : Sp := fun vs H Q _ => ∃ v, vs = [v] ∧ Ty H v ∧ Q (.bl (wholeV v)) H
def sp_side : Sp := fun vs H Q _ => ∃ v, vs = [v] ∧ Ty H v ∧ Q (.bl (sideV v)) H
def sp_rect : Sp := fun vs H Q _ => ∃ v, vs = [v] ∧ ((∃ a xs, v = .ref a ∧ H a = some (.tup xs) ∧ xs.length ≤ 100 ∧ (∀ x ∈ xs, Ty H x) ∧ ∀ H', Same H H' → Q (.bl (rectB xs)) H') ∨ ∃ T, tyS H v = some T ∧ T ≠ "tuple" ∧ Q (.bl false) H)
def sp_inside : Sp := fun vs H Q _ => ∃ a b a0 a1 a2 a3 o0 o1 o2 o3, vs = [.ref a, .ref b] ∧ H a = some (.tup (four a0 a1 a2 a3)) ∧ H b = some (.tup (four o0 o1 o2 o3)) ∧ Q (.bl (insB a0 a1 a2 a3 o0 o1 o2 o3)) H
def sp_purse (K : PySem.W.Frag) : Sp := fun vs H Q _ => ∃ (a : Addr) (ns : List Int) (k : Int), vs = [.ref a, .int k] ∧ SqL K H a (ns.map V.int) ∧ 0 ≤ k ∧ k < 1000 ∧ ∀ p z, H p = none → Q (.ref p) (upd H p (.lst [.int z]))
def sp_take : Sp := fun vs H Q _ => ∃ p z m, vs = [.ref p, .int m] ∧ H p = some (.lst [.int z]) ∧ 0 < m ∧ m < 18446744073709551616 ∧ ∀ r z', 0 ≤ r → r < m → Q (.int r) (upd H p (.lst [.int z']))
def sp_squares : Sp := fun vs H Q _ => ∃ (a : Addr) (p : Rc), vs = [.ref a] ∧ H a = some (.tup (four p.t p.l p.b p.r)) ∧ 0 ≤ p.t ∧ p.t ≤ p.b ∧ p.b ≤ 12 ∧ 0 ≤ p.l ∧ p.l ≤ p.r ∧ p.r ≤ 12 ∧
  ∀ (l : Addr) (sq : List (Addr × (Int × Int))) (H' : Hp), Same H H' → H l = none → H' l = some (.lst (sq.map fun s => V.ref s.1)) → (∀ s ∈ sq, H' s.1 = some (.tup [.int s.2.1, .int s.2.2])) → sq.map (·.2) = sqs p → Q (.ref l) H'
def sp_check_sides : Sp := fun vs H Q _ => ∃ (w h : Int), vs = [.int w, .int h] ∧ (1 ≤ w ∧ w ≤ 12) ∧ (1 ≤ h ∧ h ≤ 12) ∧ ∀ H', Same H H' → Q .non H'
def sp_check_panes (K : PySem.W.Frag) : Sp := fun vs H Q _ => ∃ (l sh : Addr) (w h : Int) (ts : List (Addr × Rc)), vs = [.ref l, .ref sh] ∧ SqL K H l (refs ts) ∧ At H ts ∧ H sh = some (.tup (four 0 0 h w)) ∧ (∀ p ∈ rcs ts, p.In w h) ∧ ts.length ≤ 52 ∧ ∀ H', Same H H' → Q .non H'
def sp_by_square (K : PySem.W.Frag) : Sp := fun vs H Q _ => ∃ (l : Addr) (w h : Int) (ts : List (Addr × Rc)), vs = [.ref l] ∧ SqL K H l (refs ts) ∧ At H ts ∧ (∀ p ∈ rcs ts, p.In w h) ∧ (rcs ts).Pairwise Apart ∧ ts.length ≤ 52 ∧ w ≤ 12 ∧ h ≤ 12 ∧
  ∀ (d : Addr) (kvs : List (List Key × V)) (H' : Hp), Same H H' → H d = none → H' d = some (.dT kvs) → (∀ t ∈ ts, ∀ r c, t.2.has r c → valV kvs (sqK r c) = some (.ref t.1)) → Q (.ref d) H'
def sp_check_covered : Sp := fun vs H Q _ => ∃ (d sh : Addr) (w h : Int) (kvs : List (List Key × V)), vs = [.ref d, .ref sh] ∧ H d = some (.dT kvs) ∧ H sh = some (.tup (four 0 0 h w)) ∧ (1 ≤ w ∧ w ≤ 12) ∧ (1 ≤ h ∧ h ≤ 12) ∧ (∀ r c, 0 ≤ r → r < h → 0 ≤ c → c < w → valV kvs (sqK r c) ≠ none) ∧ ∀ H', Same H H' → Q .non H'
def sp_Panel (K : PySem.W.Frag) (C : Addr) : Sp := fun vs H Q _ => ∃ (a dx l : Addr) (w h : Int) (ts : List (Addr × Rc)), vs = [.ref a, .int w, .int h, .ref l] ∧ H a = some (.ins C dx []) ∧ SqL K H l (refs ts) ∧ At H ts ∧ Tiles w h (rcs ts) ∧ ts.length ≤ 52 ∧ (1 ≤ w ∧ w ≤ 12) ∧ (1 ≤ h ∧ h ≤ 12) ∧
  ∀ (ts' : List (Addr × Rc)) (ls ld : Addr) (kvs : List (List Key × V)) (H' : Hp), SameX a H H' → ts'.Perm ts → PanelAt C H' a w h ts' dx ls ld kvs → Q .non H'
def sp_panes (C : Addr) : Sp := fun vs H Q _ => ∃ (a dx ls ld : Addr) (w h : Int) (ts : List (Addr × Rc)) (kvs : List (List Key × V)), vs = [.ref a] ∧ PanelAt C H a w h ts dx ls ld kvs ∧ ∀ l, H l = none → Q (.ref l) (upd H l (.lst (refs ts)))
def sp_tiled (K : PySem.W.Frag) : Sp := fun vs H Q _ => ∃ (a : Addr) (ns : List Int) (k w h : Int), vs = [.ref a, .int k, .int w, .int h] ∧ SqL K H a (ns.map V.int) ∧ 0 ≤ k ∧ k ≤ 10 ∧ (1 ≤ w ∧ w ≤ 12) ∧ (1 ≤ h ∧ h ≤ 12) ∧ ∀ (l : Addr) (ts : List (Addr × Rc)) (H' : Hp), Same H H' → H l = none → H' l = some (.lst (refs ts)) → At H' ts → Tiles w h (rcs ts) → ts.length ≤ 52 → Q (.ref l) H'
def sp_law (K : PySem.W.Frag) : Sp := fun vs H Q _ => ∃ (a : Addr) (ns : List Int), vs = [.ref a] ∧ SqL K H a (ns.map V.int) ∧ ns.length ≤ 63 ∧ ∀ H', Q (.bl true) H'
structure Txt (mg : Str → Option Value) (tk : Tok × Tok) : Prop where
  z_isinstance : mg "isinstance" = none
  z_int : mg "int" = none
  z_bool : mg "bool" = none
  z_tuple : mg "tuple" = none
  z_len : mg "len" = none
  z_all : mg "all" = none
  z_any : mg "any" = none
  z_range : mg "range" = none
  z_sorted : mg "sorted" = none
  z_min : mg "min" = none
  z_max : mg "max" = none
  z_list : mg "list" = none
  z_enumerate : mg "enumerate" = none
  z_str : mg "str" = none
  z_ValueError : mg "ValueError" = none
  g_LONGEST_SIDE : mg "LONGEST_SIDE" = some (.int 12 tk.1)
  g_MOST_PANES : mg "MOST_PANES" = some (.int 52 tk.2)
/-- what the walk asks of the class Panel -/
structure PCls (K : PySem.W.Frag) (C : Addr) : Prop where
  cl : Cls K C
  n_width : NoAttr K C "width"
  n_height : NoAttr K C "height"
  n_sorted_panes : NoAttr K C "sorted_panes"
  n_by_square : NoAttr K C "by_square"
abbrev LETS : Str := "abcdefghijklmnopqrstuvwxyzABCDEFGHIJKLMNOPQRSTUVWXYZ"
def LETC : List Nat := (List.range 26).map (· + 97) ++ (List.range 26).map (· + 65)
theorem lets_is : LETS = ⟨LETC.toArray⟩ := by kernel_rfl
abbrev one (c : Nat) : Str := ⟨#[c]⟩
structure Lets (ls : List Nat) : Prop where
  len : ls.length = 52
  nd : ls.Nodup
  mem : ∀ c ∈ ls, c ∈ LETC
theorem letc_lets : Lets LETC := ⟨by decide, by decide, fun _ h => h⟩
theorem letc_low {c : Nat} (h : c ∈ LETC) : c < 128 ∧ c ≠ 47 := by
  have : ∀ x ∈ LETC, x < 128 ∧ x ≠ 47 := by decide
  exact this c h
/-- the squares by their letters, in the order in which letters first come -/
def grpAdd : List (Nat × List (Int × Int)) → Nat → Int × Int → List (Nat × List (Int × Int))
  | [], c, q => [(c, [q])]
  | e :: r, c, q => if e.1 = c then (e.1, e.2 ++ [q]) :: r else e :: grpAdd r c q
def grp (l : List (Nat × (Int × Int))) : List (Nat × List (Int × Int)) := l.foldl (fun es x => grpAdd es x.1 x.2) []
theorem grp_snoc (l : List (Nat × (Int × Int))) (c : Nat) (q : Int × Int) : grp (l ++ [(c, q)]) = grpAdd (grp l) c q := by
  unfold grp; rw [List.foldl_append]; rfl
theorem grpAdd_keys : ∀ (es : List (Nat × List (Int × Int))) (c : Nat) (q : Int × Int), (grpAdd es c q).map (·.1) = if c ∈ es.map (·.1) then es.map (·.1) else es.map (·.1) ++ [c]
  | [], c, q => by simp [grpAdd]
  | e :: r, c, q => by
    unfold grpAdd
    by_cases h : e.1 = c
    · subst h; simp
    · rw [if_neg h, List.map_cons, grpAdd_keys r c q]
      have h' : ¬ c = e.1 := fun z => h z.symm
      by_cases h2 : c ∈ r.map (·.1)
      · rw [if_pos h2, if_pos (by rw [List.map_cons]; exact List.mem_cons_of_mem _ h2)]; rfl
      · rw [if_neg h2, if_neg (by rw [List.map_cons, List.mem_cons]; exact fun z => z.elim h' h2)]; rfl
theorem grp_nodup : ∀ (l : List (Nat × (Int × Int))), ((grp l).map (·.1)).Nodup := by
  intro l
  suffices H : ∀ (l : List (Nat × (Int × Int))) (es : List (Nat × List (Int × Int))), (es.map (·.1)).Nodup → ((l.foldl (fun es x => grpAdd es x.1 x.2) es).map (·.1)).Nodup from H l [] List.nodup_nil
  intro l
  induction l with
  | nil => exact fun es h => h
  | cons x r ih =>
    intro es h
    refine ih _ ?_
    rw [grpAdd_keys]
    by_cases h2 : x.1 ∈ es.map (·.1)
    · rw [if_pos h2]; exact h
    · rw [if_neg h2, List.nodup_append]
      exact ⟨h, by simp, fun a ha b hb e => h2 (by rw [List.mem_singleton.mp hb] at e; exact e ▸ ha)⟩
/-- what is in it -/
def GrpOk (l : List (Nat × (Int × Int))) (es : List (Nat × List (Int × Int))) : Prop := (∀ e ∈ es, e.2 = (l.filter (fun x => x.1 == e.1)).map (·.2) ∧ ∃ x ∈ l, x.1 = e.1) ∧ ∀ x ∈ l, x.1 ∈ es.map (·.1)
theorem grpAdd_mem : ∀ {es : List (Nat × List (Int × Int))} {c : Nat} {q : Int × Int} {e : Nat × List (Int × Int)}, (es.map (·.1)).Nodup → e ∈ grpAdd es c q →
    (e ∈ es ∧ e.1 ≠ c) ∨ (e.1 = c ∧ ((∃ qs, (c, qs) ∈ es ∧ e.2 = qs ++ [q]) ∨ (c ∉ es.map (·.1) ∧ e.2 = [q])))
  | [], c, q, e, _, h => by
    unfold grpAdd at h
    rw [List.mem_singleton.mp h]
    exact .inr ⟨rfl, .inr ⟨by simp, rfl⟩⟩
  | f :: r, c, q, e, nd, h => by
    rw [List.map_cons, List.nodup_cons] at nd
    unfold grpAdd at h
    by_cases hc : f.1 = c
    · rw [if_pos hc] at h
      rcases List.mem_cons.mp h with rfl | h
      · exact .inr ⟨hc, .inl ⟨f.2, by rw [← hc]; exact List.mem_cons_self, rfl⟩⟩
      · exact .inl ⟨List.mem_cons_of_mem _ h, fun z => nd.1 (by rw [hc, ← z]; exact List.mem_map.mpr ⟨e, h, rfl⟩)⟩
    · rw [if_neg hc] at h
      rcases List.mem_cons.mp h with rfl | h
      · exact .inl ⟨List.mem_cons_self, hc⟩
      · rcases grpAdd_mem nd.2 h with ⟨a, b⟩ | ⟨a, ⟨qs, m, b⟩ | ⟨n, b⟩⟩
        · exact .inl ⟨List.mem_cons_of_mem _ a, b⟩
        · exact .inr ⟨a, .inl ⟨qs, List.mem_cons_of_mem _ m, b⟩⟩
        · exact .inr ⟨a, .inr ⟨by rw [List.map_cons, List.mem_cons]; exact fun z => z.elim (fun y => hc y.symm) n, b⟩⟩
theorem grp_step {l : List (Nat × (Int × Int))} {es : List (Nat × List (Int × Int))} (nd : (es.map (·.1)).Nodup) (ih : GrpOk l es) (c : Nat) (q : Int × Int) : GrpOk (l ++ [(c, q)]) (grpAdd es c q) := by
    obtain ⟨a, b⟩ := ih
    refine ⟨fun e he => ?_, fun y hy => ?_⟩
    · rw [List.filter_append, List.map_append]
      rcases grpAdd_mem nd he with ⟨m, n⟩ | ⟨ec, ⟨qs, m, eq⟩ | ⟨n, eq⟩⟩
      · obtain ⟨e1, z, hz, ez⟩ := a e m
        refine ⟨?_, z, List.mem_append_left _ hz, ez⟩
        have : (c == e.1) = false := by rw [beq_eq_false_iff_ne]; exact fun y => n y.symm
        rw [e1]
        simp [List.filter_cons, this]
      · obtain ⟨e1, z, hz, ez⟩ := a _ m
        refine ⟨?_, z, List.mem_append_left _ hz, by rw [ez, ec]⟩
        rw [eq, ec]
        simp only [] at e1
        rw [e1]
        simp
      · refine ⟨?_, (c, q), List.mem_append_right _ (by simp), ec.symm⟩
        have : l.filter (fun x => x.1 == e.1) = [] := by
          rw [List.filter_eq_nil_iff]
          intro y hy hyc
          have hyc : y.1 = e.1 := beq_iff_eq.mp hyc
          exact n (by rw [← ec, ← hyc]; exact b y hy)
        rw [this, eq, ec]
        simp
    · rw [grpAdd_keys]
      rcases List.mem_append.mp hy with hy | hy
      · have := b y hy
        split
        · exact this
        · exact List.mem_append_left _ this
      · rw [List.mem_singleton.mp hy]
        split
        · assumption
        · exact List.mem_append_right _ (by simp)
theorem grpAdd_nodup {es : List (Nat × List (Int × Int))} (h : (es.map (·.1)).Nodup) (c : Nat) (q : Int × Int) : ((grpAdd es c q).map (·.1)).Nodup := by
  rw [grpAdd_keys]
  by_cases h2 : c ∈ es.map (·.1)
  · rw [if_pos h2]; exact h
  · rw [if_neg h2, List.nodup_append]
    exact ⟨h, by simp, fun a ha b hb e => h2 (by rw [List.mem_singleton.mp hb] at e; exact e ▸ ha)⟩
theorem grp_ok (l : List (Nat × (Int × Int))) : GrpOk l (grp l) := by
  suffices H : ∀ (l l0 : List (Nat × (Int × Int))) (es : List (Nat × List (Int × Int))), (es.map (·.1)).Nodup → GrpOk l0 es → GrpOk (l0 ++ l) (l.foldl (fun es x => grpAdd es x.1 x.2) es) from
    H l [] [] List.nodup_nil ⟨fun e h => (nomatch h), fun x h => (nomatch h)⟩
  intro l
  induction l with
  | nil => intro l0 es _ h; rw [List.append_nil]; exact h
  | cons x r ih =>
    intro l0 es nd h
    have := ih (l0 ++ [x]) (grpAdd es x.1 x.2) (grpAdd_nodup nd _ _) (grp_step nd h x.1 x.2)
    rw [List.append_assoc] at this
    exact this
theorem nd_lenG {α : Type} [DecidableEq α] : ∀ {l m : List α}, l.Nodup → (∀ x ∈ l, x ∈ m) → l.length ≤ m.length
  | [], _, _, _ => Nat.zero_le _
  | x :: r, m, nd, h => by
    rw [List.nodup_cons] at nd
    have hx := h x List.mem_cons_self
    have := nd_lenG (l := r) (m := m.erase x) nd.2 fun y hy => (List.mem_erase_of_ne (fun z : y = x => nd.1 (by rw [← z]; exact hy))).mpr (h y (List.mem_cons_of_mem _ hy))
    rw [List.length_erase_of_mem hx] at this
    have := List.length_pos_of_mem hx
    rw [List.length_cons]; first | lia | omega
theorem nd_fill {α : Type} [DecidableEq α] : ∀ {l m : List α}, l.Nodup → (∀ x ∈ l, x ∈ m) → m.length ≤ l.length → ∀ x ∈ m, x ∈ l
  | [], m, _, _, h, x, hx => by
    have := List.length_pos_of_mem hx
    have h : m.length ≤ 0 := h
    first | lia | omega
  | y :: r, m, nd, h, hl, x, hx => by
    rw [List.nodup_cons] at nd
    have hy := h y List.mem_cons_self
    by_cases e : x = y
    · exact e ▸ List.mem_cons_self
    · have le := List.length_erase_of_mem hy
      have lp := List.length_pos_of_mem hy
      rw [List.length_cons] at hl
      exact List.mem_cons_of_mem _ (nd_fill (l := r) (m := m.erase y) nd.2 (fun z hz => (List.mem_erase_of_ne (fun q : z = y => nd.1 (by rw [← q]; exact hz))).mpr (h z (List.mem_cons_of_mem _ hz))) (by rw [le]; first | lia | omega) x ((List.mem_erase_of_ne e).mpr hx))
/-- least and greatest -/
def minI : List Int → Int
  | [] => 0
  | [x] => x
  | x :: y :: r => if minI (y :: r) < x then minI (y :: r) else x
def maxI : List Int → Int
  | [] => 0
  | [x] => x
  | x :: y :: r => if maxI (y :: r) > x then maxI (y :: r) else x
theorem minI_ok : ∀ {l : List Int}, l ≠ [] → minI l ∈ l ∧ ∀ y ∈ l, minI l ≤ y
  | [], h => absurd rfl h
  | [x], _ => ⟨by simp [minI], fun y hy => by rw [List.mem_singleton.mp hy]; exact Int.le_refl _⟩
  | x :: y :: r, _ => by
    obtain ⟨a, b⟩ := minI_ok (l := y :: r) (by simp)
    unfold minI
    split
    · exact ⟨List.mem_cons_of_mem _ a, fun z hz => by
        rcases List.mem_cons.mp hz with rfl | hz
        · first | lia | omega
        · exact b z hz⟩
    · exact ⟨List.mem_cons_self, fun z hz => by
        rcases List.mem_cons.mp hz with rfl | hz
        · first | lia | omega
        · have := b z hz; first | lia | omega⟩
theorem maxI_ok : ∀ {l : List Int}, l ≠ [] → maxI l ∈ l ∧ ∀ y ∈ l, y ≤ maxI l
  | [], h => absurd rfl h
  | [x], _ => ⟨by simp [maxI], fun y hy => by rw [List.mem_singleton.mp hy]; exact Int.le_refl _⟩
  | x :: y :: r, _ => by
    obtain ⟨a, b⟩ := maxI_ok (l := y :: r) (by simp)
    unfold maxI
    split
    · exact ⟨List.mem_cons_of_mem _ a, fun z hz => by
        rcases List.mem_cons.mp hz with rfl | hz
        · first | lia | omega
        · exact b z hz⟩
    · exact ⟨List.mem_cons_self, fun z hz => by
        rcases List.mem_cons.mp hz with rfl | hz
        · first | lia | omega
        · have := b z hz; first | lia | omega⟩
theorem minI_is {l : List Int} {m : Int} (h : m ∈ l) (hm : ∀ y ∈ l, m ≤ y) : m = minI l := by
  obtain ⟨a, b⟩ := minI_ok (l := l) (fun z => by rw [z] at h; cases h)
  have := b m h
  have := hm _ a
  first | lia | omega
theorem maxI_is {l : List Int} {m : Int} (h : m ∈ l) (hm : ∀ y ∈ l, y ≤ m) : m = maxI l := by
  obtain ⟨a, b⟩ := maxI_ok (l := l) (fun z => by rw [z] at h; cases h)
  have := b m h
  have := hm _ a
  first | lia | omega
/-- the least rectangle around squares -/
def bx (qs : List (Int × Int)) : Rc := ⟨minI (qs.map (·.1)), minI (qs.map (·.2)), maxI (qs.map (·.1)) + 1, maxI (qs.map (·.2)) + 1⟩
def okE (qs : List (Int × Int)) : Bool := decide ((qs.length : Int) = ((bx qs).b - (bx qs).t) * ((bx qs).r - (bx qs).l))
def rag (es : List (Nat × List (Int × Int))) : Option Nat := (es.find? fun e => !okE e.2).map (·.1)
theorem bx_has {qs : List (Int × Int)} {s : Int × Int} (h : s ∈ qs) : (bx qs).has s.1 s.2 := by
  have n1 : qs.map (·.1) ≠ [] := fun z => by rw [List.map_eq_nil_iff] at z; rw [z] at h; cases h
  have n2 : qs.map (·.2) ≠ [] := fun z => by rw [List.map_eq_nil_iff] at z; rw [z] at h; cases h
  have a := (minI_ok n1).2 s.1 (List.mem_map.mpr ⟨s, h, rfl⟩)
  have b := (maxI_ok n1).2 s.1 (List.mem_map.mpr ⟨s, h, rfl⟩)
  have c := (minI_ok n2).2 s.2 (List.mem_map.mpr ⟨s, h, rfl⟩)
  have d := (maxI_ok n2).2 s.2 (List.mem_map.mpr ⟨s, h, rfl⟩)
  show minI _ ≤ _ ∧ _ < maxI _ + 1 ∧ minI _ ≤ _ ∧ _ < maxI _ + 1
  first | lia | omega
theorem bx_in {qs : List (Int × Int)} {w h : Int} (ne : qs ≠ []) (hq : ∀ s ∈ qs, 0 ≤ s.1 ∧ s.1 < h ∧ 0 ≤ s.2 ∧ s.2 < w) : (bx qs).In w h := by
  have n1 : qs.map (·.1) ≠ [] := fun z => ne (List.map_eq_nil_iff.mp z)
  have n2 : qs.map (·.2) ≠ [] := fun z => ne (List.map_eq_nil_iff.mp z)
  obtain ⟨s, hs⟩ := List.exists_mem_of_ne_nil qs ne
  obtain ⟨q1, e1, f1⟩ := List.mem_map.mp (minI_ok n1).1
  obtain ⟨q2, e2, f2⟩ := List.mem_map.mp (maxI_ok n1).1
  obtain ⟨q3, e3, f3⟩ := List.mem_map.mp (minI_ok n2).1
  obtain ⟨q4, e4, f4⟩ := List.mem_map.mp (maxI_ok n2).1
  have g1 := hq q1 e1
  have g2 := hq q2 e2
  have g3 := hq q3 e3
  have g4 := hq q4 e4
  obtain ⟨h1, h2, h3, h4⟩ := bx_has hs
  show 0 ≤ minI _ ∧ (bx qs).t < (bx qs).b ∧ maxI _ + 1 ≤ h ∧ 0 ≤ minI _ ∧ (bx qs).l < (bx qs).r ∧ maxI _ + 1 ≤ w
  first | lia | omega
/-- squares that fill their rectangle are all of it -/
theorem bx_all {qs : List (Int × Int)} {w h : Int} (ne : qs ≠ []) (hq : ∀ s ∈ qs, 0 ≤ s.1 ∧ s.1 < h ∧ 0 ≤ s.2 ∧ s.2 < w) (nd : qs.Nodup) (ok : okE qs = true) {r c : Int} (hh : (bx qs).has r c) : (r, c) ∈ qs := by
  obtain ⟨a1, a2, a3, a4, a5, a6⟩ := bx_in ne hq
  refine nd_fill nd (m := sqs (bx qs)) (fun s hs => (mem_sqs (r := s.1) (c := s.2) (by first | lia | omega) (by first | lia | omega)).mpr (bx_has hs)) ?_ (r, c) ((mem_sqs (by first | lia | omega) (by first | lia | omega)).mpr hh)
  have e := of_decide_eq_true ok
  have : ((sqs (bx qs)).length : Int) = ((bx qs).b - (bx qs).t) * ((bx qs).r - (bx qs).l) := by
    unfold sqs
    rw [sqsN_len, Int.natCast_mul, Int.toNat_of_nonneg (by first | lia | omega), Int.toNat_of_nonneg (by first | lia | omega)]
  first | lia | omega
/-- rows of letters, all of one length -/
structure Fm (rs : List Str) (w h : Nat) : Prop where
  len : rs.length = h
  bh : 1 ≤ h ∧ h ≤ 12
  bw : 1 ≤ w ∧ w ≤ 12
  row : ∀ x ∈ rs, x.length = w ∧ ∀ c ∈ x.cps.toList, c ∈ LETC
def codeR (rs : List Str) (r c : Nat) : Nat := (rs.getD r ⟨#[]⟩).cps.toList.getD c 0
def allR (rs : List Str) (w h : Nat) : List (Nat × (Int × Int)) := (List.range h).flatMap fun (r : Nat) => (List.range w).map fun (c : Nat) => (codeR rs r c, ((r : Int), (c : Int)))
theorem mem_allR {rs : List Str} {w h : Nat} {x : Nat × (Int × Int)} : x ∈ allR rs w h ↔ ∃ r c : Nat, r < h ∧ c < w ∧ x = (codeR rs r c, ((r : Int), (c : Int))) := by
  unfold allR
  simp only [List.mem_flatMap, List.mem_map, List.mem_range]
  constructor
  · rintro ⟨r, hr, c, hc, rfl⟩; exact ⟨r, c, hr, hc, rfl⟩
  · rintro ⟨r, c, hr, hc, rfl⟩; exact ⟨r, hr, c, hc, rfl⟩
theorem allR_nodup (rs : List Str) (w h : Nat) : ((allR rs w h).map (·.2)).Nodup := by
  unfold allR
  induction h with
  | zero => exact List.nodup_nil
  | succ h ih =>
    rw [List.range_succ, List.flatMap_append, List.map_append, List.nodup_append]
    refine ⟨ih, ?_, ?_⟩
    · rw [List.flatMap_singleton, List.map_map]
      refine List.pairwise_map.mpr (List.Pairwise.imp ?_ (List.nodup_range (n := w)))
      intro a b ne e
      have e : ((h : Int), (a : Int)) = ((h : Int), (b : Int)) := e
      injection e with _ e
      exact ne (by first | lia | omega)
    · intro a ha b hb e
      subst e
      obtain ⟨x, hx, rfl⟩ := List.mem_map.mp ha
      obtain ⟨y, hy, ey⟩ := List.mem_map.mp hb
      obtain ⟨r, c, hr, hc, rfl⟩ := mem_allR.mp hx
      rw [List.flatMap_singleton, List.mem_map] at hy
      obtain ⟨c', _, rfl⟩ := hy
      have ey : ((h : Int), (c' : Int)) = ((r : Int), (c : Int)) := ey
      injection ey with e1 _
      first | lia | omega
theorem allR_len (rs : List Str) (w : Nat) : ∀ h, (allR rs w h).length = h * w
  | 0 => by simp [allR]
  | h + 1 => by
    have ih := allR_len rs w h
    unfold allR at ih ⊢
    rw [List.range_succ, List.flatMap_append, List.flatMap_singleton, List.length_append, ih, List.length_map, List.length_range, Nat.succ_mul]
theorem allR_succ (rs : List Str) (w i : Nat) : allR rs w (i + 1) = allR rs w i ++ (List.range w).map fun (c : Nat) => (codeR rs i c, ((i : Int), (c : Int))) := by
  unfold allR
  rw [List.range_succ, List.flatMap_append, List.flatMap_singleton]
theorem Fm.get {rs : List Str} {w h : Nat} (m : Fm rs w h) {r : Nat} (hr : r < h) : ∃ x, rs[r]? = some x ∧ x ∈ rs ∧ rs.getD r ⟨#[]⟩ = x := by
  have h1 : r < rs.length := by rw [m.len]; exact hr
  exact ⟨rs[r], List.getElem?_eq_getElem h1, List.getElem_mem h1, by rw [List.getD_eq_getElem?_getD, List.getElem?_eq_getElem h1]; rfl⟩
theorem Fm.code {rs : List Str} {w h : Nat} (m : Fm rs w h) {r c : Nat} (hr : r < h) (hc : c < w) : codeR rs r c ∈ LETC := by
  obtain ⟨x, _, hx, e⟩ := m.get hr
  obtain ⟨l, k⟩ := m.row x hx
  unfold codeR
  rw [e]
  have hl : c < x.cps.toList.length := by rw [Array.length_toList]; show c < x.length; first | lia | omega
  rw [List.getD_eq_getElem?_getD, List.getElem?_eq_getElem hl]
  exact k _ (List.getElem_mem hl)
/-- what an entry is -/
theorem ent_is {rs : List Str} {w h : Nat} (m : Fm rs w h) {e : Nat × List (Int × Int)} (he : e ∈ grp (allR rs w h)) : e.1 ∈ LETC ∧ e.2 ≠ [] ∧ e.2.Nodup ∧ (∀ s ∈ e.2, 0 ≤ s.1 ∧ s.1 < h ∧ 0 ≤ s.2 ∧ s.2 < w) ∧ ∀ r c : Nat, r < h → c < w → (((r : Int), (c : Int)) ∈ e.2 ↔ codeR rs r c = e.1) := by
  obtain ⟨e1, x, hx, ex⟩ := (grp_ok (allR rs w h)).1 e he
  obtain ⟨r0, c0, hr0, hc0, rfl⟩ := mem_allR.mp hx
  have mem : ∀ s, s ∈ e.2 ↔ ∃ r c : Nat, r < h ∧ c < w ∧ s = ((r : Int), (c : Int)) ∧ codeR rs r c = e.1 := fun s => by
    rw [e1, List.mem_map]
    constructor
    · rintro ⟨y, hy, rfl⟩
      obtain ⟨hy1, hy2⟩ := List.mem_filter.mp hy
      obtain ⟨r, c, hr, hc, rfl⟩ := mem_allR.mp hy1
      exact ⟨r, c, hr, hc, rfl, beq_iff_eq.mp hy2⟩
    · rintro ⟨r, c, hr, hc, rfl, e⟩
      exact ⟨(codeR rs r c, ((r : Int), (c : Int))), List.mem_filter.mpr ⟨mem_allR.mpr ⟨r, c, hr, hc, rfl⟩, beq_iff_eq.mpr e⟩, rfl⟩
  refine ⟨by rw [← ex]; exact m.code hr0 hc0, fun z => ?_, ?_, fun s hs => ?_, fun r c hr hc => ?_⟩
  · have := (mem ((r0 : Int), (c0 : Int))).mpr ⟨r0, c0, hr0, hc0, rfl, ex⟩
    rw [z] at this; cases this
  · rw [e1]
    exact (allR_nodup rs w h).sublist (List.Sublist.map _ List.filter_sublist)
  · obtain ⟨r, c, hr, hc, rfl, _⟩ := (mem s).mp hs
    simp only []
    first | lia | omega
  · rw [mem]
    constructor
    · rintro ⟨r', c', _, _, e, k⟩
      injection e with e2 e3
      have : r = r' := by first | lia | omega
      have : c = c' := by first | lia | omega
      subst r' c'
      exact k
    · intro k; exact ⟨r, c, hr, hc, rfl, k⟩
theorem ent_few {rs : List Str} {w h : Nat} (m : Fm rs w h) : (grp (allR rs w h)).length ≤ 52 := by
  have := nd_lenG (grp_nodup (allR rs w h)) (m := LETC) fun x hx => by
    obtain ⟨e, he, rfl⟩ := List.mem_map.mp hx
    exact (ent_is m he).1
  rw [List.length_map, letc_lets.len] at this
  exact this
theorem rag_none {es : List (Nat × List (Int × Int))} (h : rag es = none) : ∀ e ∈ es, okE e.2 = true := fun e he => by
  unfold rag at h
  rw [Option.map_eq_none_iff, List.find?_eq_none] at h
  have := h e he
  simpa using this
theorem rag_at {es : List (Nat × List (Int × Int))} {i : Nat} {e : Nat × List (Int × Int)} (he : es[i]? = some e) (h0 : ∀ (k : Nat) (e' : Nat × List (Int × Int)), k < i → es[k]? = some e' → okE e'.2 = true) (hn : okE e.2 = false) : rag es = some e.1 := by
  obtain ⟨hi, rfl⟩ := List.getElem?_eq_some_iff.mp he
  unfold rag
  rw [List.find?_eq_some_iff_getElem.mpr ⟨by rw [hn]; rfl, i, hi, rfl, fun j hj => by rw [h0 j es[j] hj (List.getElem?_eq_getElem (by first | lia | omega))]; rfl⟩]
  rfl
/-- the rectangles of letters that are none ragged fill the panel -/
theorem tiles_of {rs : List Str} {w h : Nat} (m : Fm rs w h) (hr : rag (grp (allR rs w h)) = none) : Tiles w h ((grp (allR rs w h)).map fun e => bx e.2) := by
  have ok := rag_none hr
  refine ⟨fun p hp => ?_, ?_, fun r c r0 r1 c0 c1 => ?_⟩
  · obtain ⟨e, he, rfl⟩ := List.mem_map.mp hp
    obtain ⟨_, ne, _, hq, _⟩ := ent_is m he
    exact bx_in ne hq
  · rw [List.pairwise_map]
    refine List.Pairwise.imp_of_mem ?_ (List.pairwise_map.mp (grp_nodup (allR rs w h)))
    intro e e' he he' ne r c h1 h2
    obtain ⟨_, n1, d1, q1, k1⟩ := ent_is m he
    obtain ⟨_, n2, d2, q2, k2⟩ := ent_is m he'
    have m1 := bx_all n1 q1 d1 (ok e he) h1
    have m2 := bx_all n2 q2 d2 (ok e' he') h2
    obtain ⟨a1, a2, a3, a4⟩ := q1 _ m1
    simp only [] at a1 a2 a3 a4
    have er : ((r.toNat : Nat) : Int) = r := Int.toNat_of_nonneg a1
    have ec : ((c.toNat : Nat) : Int) = c := Int.toNat_of_nonneg a3
    have x1 := (k1 r.toNat c.toNat (by first | lia | omega) (by first | lia | omega)).mp (by rw [er, ec]; exact m1)
    have x2 := (k2 r.toNat c.toNat (by first | lia | omega) (by first | lia | omega)).mp (by rw [er, ec]; exact m2)
    exact ne (x1.symm.trans x2)
  · have er : ((r.toNat : Nat) : Int) = r := Int.toNat_of_nonneg r0
    have ec : ((c.toNat : Nat) : Int) = c := Int.toNat_of_nonneg c0
    have hx := (grp_ok (allR rs w h)).2 _ (mem_allR.mpr ⟨r.toNat, c.toNat, by first | lia | omega, by first | lia | omega, rfl⟩)
    obtain ⟨e, he, ee⟩ := List.mem_map.mp hx
    obtain ⟨_, n1, d1, q1, k1⟩ := ent_is m he
    have m1 := (k1 r.toNat c.toNat (by first | lia | omega) (by first | lia | omega)).mpr ee.symm
    rw [er, ec] at m1
    exact ⟨_, List.mem_map.mpr ⟨e, he, rfl⟩, bx_has m1⟩
structure TxtL (mg : Str → Option Value) (tl : Tok) : Prop where
  g_LETTERS : mg "LETTERS" = some (.str LETS tl)
def Asc (z : Str) : Prop := z.cps.all (· < 128) = true
theorem join2 {c : Nat} {x y : Str} {r : List Str} : (Str.join ⟨#[c]⟩ (x :: y :: r)).cps.toList = x.cps.toList ++ c :: (Str.join ⟨#[c]⟩ (y :: r)).cps.toList := by
  show (x.cps ++ #[c] ++ (Str.join ⟨#[c]⟩ (y :: r)).cps).toList = _
  rw [Array.toList_append, Array.toList_append, List.append_assoc]; rfl
theorem join_mem : ∀ {xs : List Str} {c : Nat} {p : Str}, p ∈ xs → ∀ a ∈ p.cps.toList, a ∈ (Str.join ⟨#[c]⟩ xs).cps.toList
  | [x], c, p, hp, a, ha => by
    rw [List.mem_singleton.mp hp] at ha
    exact ha
  | x :: y :: r, c, p, hp, a, ha => by
    rw [join2]
    rcases List.mem_cons.mp hp with rfl | hp
    · exact List.mem_append_left _ ha
    · exact List.mem_append_right _ (List.mem_cons_of_mem _ (join_mem hp a ha))
theorem join_long : ∀ {xs : List Str} {c : Nat}, xs.length ≤ (Str.join ⟨#[c]⟩ xs).cps.toList.length + 1
  | [], _ => by show 0 ≤ _; first | lia | omega
  | [x], _ => by show 1 ≤ _; first | lia | omega
  | x :: y :: r, c => by
    have := join_long (xs := y :: r) (c := c)
    rw [join2, List.length_append, List.length_cons]
    show _ ≤ _ + (_ + 1) + 1
    first | lia | omega
theorem join_each : ∀ {xs : List Str} {c : Nat} {p : Str}, p ∈ xs → p.cps.toList.length ≤ (Str.join ⟨#[c]⟩ xs).cps.toList.length
  | [x], c, p, hp => by
    rw [List.mem_singleton.mp hp]; exact Nat.le_refl _
  | x :: y :: r, c, p, hp => by
    rw [join2, List.length_append, List.length_cons]
    rcases List.mem_cons.mp hp with rfl | hp
    · first | lia | omega
    · have := join_each (c := c) hp
      first | lia | omega

structure Wk (ws : List Str) : Prop where
  ok : ∀ w ∈ ws, Asc w ∧ w.length ≤ 700
  few : ws.length ≤ 701
theorem wk_split {z : Str} (ha : Asc z) (hl : z.length ≤ 700) : Wk (Txt.split z "/") := by
  have e : ("/" : Str) = ⟨#[47]⟩ := by decide +kernel
  have j : Str.join ⟨#[47]⟩ (Txt.split z "/") = z := by
    have := StrLaws.join_split z "/"
    rw [← e]; exact this
  have len : ∀ x : Str, x.cps.toList.length = x.length := fun x => by rw [Array.length_toList]; rfl
  refine ⟨fun w hw => ⟨?_, ?_⟩, ?_⟩
  · unfold Asc at ha ⊢
    rw [← Array.all_toList, List.all_eq_true] at ha ⊢
    intro a h
    have := join_mem (c := 47) hw a h
    rw [j] at this
    exact ha a this
  · have := join_each (c := 47) hw
    rw [j, len, len] at this
    first | lia | omega
  · have := join_long (xs := Txt.split z "/") (c := 47)
    rw [j, len] at this
    first | lia | omega
def letB (c : Nat) : Bool := !(Builtin.Str.occurrences LETS (one c) 0 LETS.length 1).isEmpty
theorem let_ok : (List.range 128).all (fun c => letB c == decide (c ∈ LETC)) = true := by decide +kernel
theorem let_of {c : Nat} (h : c < 128) : letB c = decide (c ∈ LETC) := by
  have := List.all_eq_true.mp let_ok c (List.mem_range.mpr h)
  exact beq_iff_eq.mp this
def rowB (x : Str) (n : Int) : Bool := decide ((x.length : Int) = n) && x.cps.toList.all letB
def fmB (rs : List Str) : Bool := decide (rs.length ≤ 12) && (decide (1 ≤ (rs.headD ⟨#[]⟩).length) && decide ((rs.headD ⟨#[]⟩).length ≤ 12)) && rs.all fun x => rowB x (rs.headD ⟨#[]⟩).length
theorem fm_of {rs : List Str} (h : fmB rs = true) (hn : rs ≠ []) (ha : ∀ x ∈ rs, Asc x) : Fm rs (rs.headD ⟨#[]⟩).length rs.length := by
  unfold fmB at h
  simp only [Bool.and_eq_true, decide_eq_true_eq] at h
  obtain ⟨⟨h1, h2, h3⟩, h4⟩ := h
  refine ⟨rfl, ⟨?_, h1⟩, ⟨h2, h3⟩, fun x hx => ?_⟩
  · exact List.length_pos_iff.mpr hn
  · have := List.all_eq_true.mp h4 x hx
    unfold rowB at this
    rw [Bool.and_eq_true, decide_eq_true_eq] at this
    refine ⟨by first | lia | omega, fun c hc => ?_⟩
    have l := List.all_eq_true.mp this.2 c hc
    have a := ha x hx
    unfold Asc at a
    rw [← Array.all_toList, List.all_eq_true] at a
    have := of_decide_eq_true (a c hc)
    rw [let_of this] at l
    exact of_decide_eq_true l
/-- a letter, the address of its list, its squares -/
abbrev Ent := Nat × Addr × List (Addr × (Int × Int))
def kvE (e : Ent) : Key × V := (Sum.inr (one e.1), .ref e.2.1)
abbrev srefs (sq : List (Addr × (Int × Int))) : List V := sq.map fun s => V.ref s.1
def SqAt (H : Hp) (sq : List (Addr × (Int × Int))) : Prop := ∀ s ∈ sq, H s.1 = some (.tup [.int s.2.1, .int s.2.2])
structure EntsAt (H : Hp) (es : List Ent) : Prop where
  lst : ∀ e ∈ es, H e.2.1 = some (.lst (srefs e.2.2))
  sqa : ∀ e ∈ es, SqAt H e.2.2
def era (e : Ent) : Nat × List (Int × Int) := (e.1, e.2.2.map (·.2))
def TxOr (H : Hp) (v : V) (z : Option Str) : Prop := match z with
  | none => ∃ T, tyS H v = some T ∧ T ≠ "str"
  | some z => v = .str z ∧ Asc z ∧ z.length ≤ 700
def fmO : Option Str → Bool
  | none => false
  | some z => fmB (Txt.split z "/")
theorem TxOr.same {H H' : Hp} (s : Same H H') {v : V} : ∀ {z : Option Str}, TxOr H v z → TxOr H' v z
  | none, ⟨T, h, n⟩ => ⟨T, tyS_same s h, n⟩
  | some _, h => h
def sp_row : Sp := fun vs H Q _ => ∃ (x : Str) (n : Int), vs = [.str x, .int n] ∧ Asc x ∧ x.length ≤ 700 ∧ ∀ H', Same H H' → Q (.bl (rowB x n)) H'
def sp_isdr : Sp := fun vs H Q _ => ∃ (v : V) (z : Option Str), vs = [v] ∧ TxOr H v z ∧ ∀ H', Same H H' → Q (.bl (fmO z)) H'
def sp_sbl : Sp := fun vs H Q _ => ∃ (l : Addr) (rs : List Str) (w h : Nat), vs = [.ref l] ∧ H l = some (.lst (rs.map V.str)) ∧ Fm rs w h ∧
  ∀ (d : Addr) (es : List Ent) (H' : Hp), Same H H' → H d = none → H' d = some (.dK (es.map kvE)) → EntsAt H' es → es.map era = grp (allR rs w h) → Q (.ref d) H'
def sp_paned (cR : Addr) : Sp := fun vs H Q E => ∃ (v : V) (l : Addr) (sq : List (Addr × (Int × Int))), vs = [v, .ref l] ∧ H l = some (.lst (srefs sq)) ∧ SqAt H sq ∧ sq ≠ [] ∧ sq.length ≤ 144 ∧ (∀ s ∈ sq, 0 ≤ s.2.1 ∧ s.2.1 < 12 ∧ 0 ≤ s.2.2 ∧ s.2.2 < 12) ∧
  (okE (sq.map (·.2)) = true → ∀ (t : Addr) (H' : Hp), Same H H' → H' t = some (.tup (four (bx (sq.map (·.2))).t (bx (sq.map (·.2))).l (bx (sq.map (·.2))).b (bx (sq.map (·.2))).r)) → Q (.ref t) H') ∧ (okE (sq.map (·.2)) = false → Rf H E cR fun fs _ => fs = [(("letter" : Str), v)])
def grpS (x : Str) : List (Nat × List (Int × Int)) := grp (allR (Txt.split x "/") ((Txt.split x "/").headD ⟨#[]⟩).length (Txt.split x "/").length)
def sp_read (C cR cD : Addr) : Sp := fun vs H Q E => ∃ (v : V) (z : Option Str), vs = [v] ∧ TxOr H v z ∧ (fmO z = false → Rf H E cD fun fs _ => fs = [(("drawing" : Str), v)]) ∧
  (∀ (x : Str) (c : Nat), z = some x → fmB (Txt.split x "/") = true → rag (grpS x) = some c → Rf H E cR fun fs _ => fs = [(("letter" : Str), .str (one c))]) ∧
  ∀ (x : Str), z = some x → fmB (Txt.split x "/") = true → rag (grpS x) = none → ∀ (b dx l ld : Addr) (ts : List (Addr × Rc)) (kvs : List (List Key × V)) (H' : Hp), Same H H' → PanelAt C H' b (((Txt.split x "/").headD ⟨#[]⟩).length : Nat) ((Txt.split x "/").length : Nat) ts dx l ld kvs → (rcs ts).Perm ((grpS x).map fun e => bx e.2) → Q (.ref b) H'
theorem srefs_get {sq : List (Addr × (Int × Int))} {i : Nat} {x : V} (h : (srefs sq)[i]? = some x) : ∃ s, sq[i]? = some s ∧ x = .ref s.1 := by
  rw [List.getElem?_map] at h
  obtain ⟨s, hs, rfl⟩ := Option.map_eq_some_iff.mp h
  exact ⟨s, hs, rfl⟩
theorem SqAt.same {H H' : Hp} {sq : List (Addr × (Int × Int))} (a : SqAt H sq) (s : Same H H') : SqAt H' sq := fun z hz => s _ _ (a z hz)
structure RG (mg : Str → Option Value) (K : PySem.W.Frag) (cG cR cD : Addr) : Prop where
  g_GlassError : mg "GlassError" = some (.ref cG)
  g_Ragged : mg "Ragged" = some (.ref cR)
  g_NoDrawing : mg "NoDrawing" = some (.ref cD)
  x_GlassError : PySem.W.excIn K cG vErr "ValueError.__new__" = true
  mR : PySem.W.mroIn K cR (.ref cG) = some true
  mD : PySem.W.mroIn K cD (.ref cG) = some true
  clR : XCls K cR
  clD : XCls K cD
  n_letter : NoAttr K cR "letter"
  n_drawing : NoAttr K cD "drawing"
  kRR : PySem.W.kitOne K (.ref cR) (.ref cR) = some true
  kRD : PySem.W.kitOne K (.ref cR) (.ref cD) = some false
  kDR : PySem.W.kitOne K (.ref cD) (.ref cR) = some false
  kDD : PySem.W.kitOne K (.ref cD) (.ref cD) = some true
  kRV : PySem.W.kitOne K (.ref cR) (.type "ValueError") = some true
  kDV : PySem.W.kitOne K (.ref cD) (.type "ValueError") = some true
section
variable {P : Program} {w : World} {K : PySem.W.Frag} {mg : Str → Option Value} {base : Heap} {tk : Tok × Tok} {C cR cD cG : Addr} {tl : Tok}
theorem S_is_whole : FnScope ["thing"] ["thing"] (defScope s_is_whole) := ⟨rfl, rfl, rfl, by decide +kernel, rfl, by decide +kernel, by decide +kernel⟩
theorem ok_is_whole {f : Addr} {fd : FuncData} (F : Fun K "is_whole" "is_whole" s_is_whole f fd) (T : Txt mg tk) : FnOk P w K mg base CX0 1 f fd ["thing"] sp_whole := by
  have S := S_is_whole
  refine F.ok S (fun vs H Q E h => ?_) (fun cdv A outer s H vs Q E hr h => ?_)
  · obtain ⟨v, rfl, _⟩ := h; rfl
  · obtain ⟨v, rfl, ⟨T', hT⟩, q⟩ := h
    refine ⟨_, (pss_one (ps_ret (pe_and (pe_callB call_isin rfl T.z_isinstance rfl (pa_cons (pv 0) (pa_cons (pe_bltn (v := .ty "int") rfl T.z_int rfl rfl) pa_nil))) (pe_one (pe_not (pe_callB call_isin rfl T.z_isinstance rfl (pa_cons (pv 0) (pa_cons (pe_bltn (v := .ty "bool") rfl T.z_bool rfl rfl) pa_nil)))))))), ?_⟩
    refine ⟨v, rfl, v, T', "int", rfl, hT, .inl rfl, _, rfl, ite3 (fun h => ?_) (fun h => ?_)⟩
    · refine ⟨v, rfl, v, T', "bool", rfl, hT, .inr (.inl rfl), _, rfl, ?_⟩
      rw [(whole_eq hT).1 h]; exact q
    · show Q (.bl false) H
      rw [(whole_eq hT).2 h]; exact q
theorem S_is_side : FnScope ["thing"] ["thing"] (defScope s_is_side) := ⟨rfl, rfl, rfl, by decide +kernel, rfl, by decide +kernel, by decide +kernel⟩
theorem ok_is_side {f : Addr} {fd : FuncData} (F : Fun K "is_side" "is_side" s_is_side f fd) (T : Txt mg tk) (D_is_whole : DefOk P w K mg base 1 "is_whole" ["thing"] sp_whole) : FnOk P w K mg base CX0 2 f fd ["thing"] sp_side := by
  have S := S_is_side
  refine F.ok S (fun vs H Q E h => ?_) (fun cdv A outer s H vs Q E hr h => ?_)
  · obtain ⟨v, rfl, _⟩ := h; rfl
  · obtain ⟨v, rfl, hv, q⟩ := h
    refine ⟨_, (pss_one (ps_ret (pe_and (pe_fn D_is_whole hr (pa_cons (pv 0) pa_nil)) (pe_one (pe_chain op_le op_le pe_int (pv 0) (pe_glob (v := .int 12) rfl T.g_LONGEST_SIDE ⟨_, rfl⟩)))))), ?_⟩
    refine ⟨v, rfl, v, rfl, hv, _, rfl, ite3 (fun h => ?_) (fun h => ?_)⟩
    · obtain ⟨i, rfl⟩ : ∃ i, v = .int i := by cases v <;> first | exact ⟨_, rfl⟩ | cases h
      refine ⟨_, rfl, _, _, rfl, rfl, _, rfl, ite3 (fun h1 => ?_) (fun h1 => ?_)⟩
      · refine ⟨_, _, rfl, rfl, ?_⟩
        have e : sideV (.int i) = decide (i ≤ 12) := by
          show (decide (1 ≤ i) && decide (i ≤ 12)) = _
          rw [h1]; rfl
        show Q (.bl (decide (i ≤ 12))) H
        rw [← e]; exact q
      · have e : sideV (.int i) = false := by
          show (decide (1 ≤ i) && decide (i ≤ 12)) = _
          rw [h1]; rfl
        show Q (.bl false) H
        rw [← e]; exact q
    · have e : sideV v = false := by cases v <;> first | rfl | cases h
      show Q (.bl false) H
      rw [← e]; exact q
theorem at0 {x0 x1 x2 x3 : V} : atI [x0, x1, x2, x3] 0 = some x0 := rfl
theorem at1 {x0 x1 x2 x3 : V} : atI [x0, x1, x2, x3] 1 = some x1 := rfl
theorem at2 {x0 x1 x2 x3 : V} : atI [x0, x1, x2, x3] 2 = some x2 := rfl
theorem at3 {x0 x1 x2 x3 : V} : atI [x0, x1, x2, x3] 3 = some x3 := rfl
theorem four_of : ∀ {xs : List V}, xs.length = 4 → (xs.map wholeV).all id = true → ∃ a b c d, xs = four a b c d
  | [x0, x1, x2, x3], _, h => by
    simp only [List.map_cons, List.map_nil, List.all_cons, List.all_nil, id, Bool.and_true, Bool.and_eq_true] at h
    obtain ⟨h0, h1, h2, h3⟩ := h
    have g : ∀ {x : V}, wholeV x = true → ∃ i, x = .int i := fun {x} h => by cases x <;> first | exact ⟨_, rfl⟩ | cases h
    obtain ⟨a, rfl⟩ := g h0
    obtain ⟨b, rfl⟩ := g h1
    obtain ⟨c, rfl⟩ := g h2
    obtain ⟨d, rfl⟩ := g h3
    exact ⟨a, b, c, d, rfl⟩
theorem rect_no {xs : List V} (h : ∀ a b c d, xs ≠ four a b c d) : rectB xs = false := by
  unfold rectB
  split
  · exact absurd rfl (h _ _ _ _)
  · rfl
theorem dec4 {n : Nat} : (!decide (V.int (n : Int) = V.int 4)) = true → n ≠ 4 := fun h e => by
  subst e
  have : decide (V.int ((4 : Nat) : Int) = V.int 4) = true := decI.mpr rfl
  rw [this] at h; cases h
theorem dec4' {n : Nat} : (!decide (V.int (n : Int) = V.int 4)) = false → n = 4 := fun h => by
  have e : decide (V.int (n : Int) = V.int 4) = true := by
    cases z : decide (V.int (n : Int) = V.int 4) with
    | true => rfl
    | false => rw [z] at h; cases h
  have := decI.mp e
  first | lia | omega
theorem take_next {xs : List V} {i : Nat} {x : V} (h : xs[i]? = some x) {f : V → V} : (xs.take i).map f ++ [f x] = (xs.take (i + 1)).map f := by
  rw [List.take_succ, h, List.map_append]; rfl
theorem S_is_rectangle : FnScope ["thing"] ["thing"] (defScope s_is_rectangle) := ⟨rfl, rfl, rfl, by decide +kernel, rfl, by decide +kernel, by decide +kernel⟩
theorem ok_is_rectangle {f : Addr} {fd : FuncData} (F : Fun K "is_rectangle" "is_rectangle" s_is_rectangle f fd) (T : Txt mg tk) (D_is_whole : DefOk P w K mg base 1 "is_whole" ["thing"] sp_whole) : FnOk P w K mg base CX0 2 f fd ["thing"] sp_rect := by
  have S := S_is_rectangle
  refine F.ok S (fun vs H Q E h => ?_) (fun cdv A outer s H vs Q E hr h => ?_)
  · obtain ⟨v, rfl, _⟩ := h; rfl
  · obtain ⟨v, rfl, h⟩ := h
    refine ⟨_, (pss_cons (ps_if (PW.pt (pw_or (pt_not (pt_val (pe_callB call_isin rfl T.z_isinstance rfl (pa_cons (pv 0) (pa_cons (pe_bltn (v := .ty "tuple") rfl T.z_tuple rfl rfl) pa_nil))))) (pw_or1 (pt_cmpR op_ne (pe_callB call_len_seq rfl T.z_len rfl (pa_cons (pv 0) pa_nil)) pe_int (nomark _))))) (pss_one (ps_ret pe_bl)) pss_nil)
      (pss_cons (ps_if (pt_not (pt_val (pe_callB call_all rfl T.z_all rfl (pa_cons (pe_comp rfl (pi_tup (pv 0)) (fun _ _ _ _ _ => (pg_name (i := 0) (show List.Nodup (["part"] : List Str) from by decide +kernel) rfl (Or.inl rfl))) (fun _ _ _ _ _ => (pe_fn D_is_whole hr (pa_cons (pv 0) pa_nil))) (N := ["part"]) (fr := [none])) pa_nil)))) (pss_one (ps_ret pe_bl)) pss_nil)
      (pss_one (ps_ret (pe_and (pe_chain op_le op_lt pe_int (pe_ix ix_tup (pv 0) pe_int (fun _ _ => rfl)) (pe_ix ix_tup (pv 0) pe_int (fun _ _ => rfl))) (pe_one (pe_chain op_le op_lt pe_int (pe_ix ix_tup (pv 0) pe_int (fun _ _ => rfl)) (pe_ix ix_tup (pv 0) pe_int (fun _ _ => rfl))))))))), ?_⟩
    rcases h with ⟨a, xs, rfl, ha, hlen, hx, q⟩ | ⟨T', hT, hne, q⟩
    · refine ⟨_, rfl, _, "tuple", "tuple", rfl, ty_tup ha, .inr (.inr (.inl rfl)), _, rfl, iteN (by rw [isB_tt]; rfl) ?_⟩
      refine ⟨_, rfl, a, xs, rfl, .inr (SqT.of ha), rfl, _, rfl, ite3 (fun h => ?_) (fun h => ?_)⟩
      · have e : rectB xs = false := rect_no fun a b c d z => dec4 h (by rw [z]; rfl)
        show Q (.bl false) H
        rw [← e]; exact q H (Same.refl H)
      · have h4 := dec4' h
        refine ⟨_, rfl, a, rfl, ⟨xs, SqT.of ha⟩, fun acc hacc => comp_tup (K := K) (a := a) (ys := xs) (fun i zs σ H' => (∃ y, σ = [y]) ∧ Same H H' ∧ zs = (xs.take i).map fun x => V.bl (wholeV x)) ⟨⟨none, rfl⟩, Same.new hacc, rfl⟩
          (fun i zs σ H' _ _ hp => SqT.of (hp.2.1 _ _ ha)) ?_ ?_⟩
        · rintro i x zs σ H' hxi hi hl hacc' ⟨⟨y, rfl⟩, hs, hzs⟩
          refine ⟨x, rfl, x, rfl, (hx x (List.mem_of_getElem? hxi)).same hs, cNx.mk (Nat.le_of_lt (small1000 (by first | lia | omega))) hi hl hacc' ⟨⟨_, rfl⟩, fun b o e => ?_, ?_⟩⟩
          · rw [upd_ne (ne_of_none e hacc)]; exact hs b o e
          · rw [hzs]; exact take_next (f := fun x => V.bl (wholeV x)) hxi
        · rintro zs σ H' hl hacc' ⟨_, hs, hzs⟩
          refine ⟨acc, xs.map wholeV, rfl, SqL.of (by rw [hacc', hzs, List.take_length, List.map_map]; rfl), rfl, _, rfl, ite3 (fun h => ?_) (fun h => ?_)⟩
          · have e : rectB xs = false := rect_no fun a b c d z => by subst z; cases h
            show Q (.bl false) H'
            rw [← e]; exact q H' hs
          · obtain ⟨a0, a1, a2, a3, rfl⟩ := four_of h4 (by simpa using h)
            have ha' := hs _ _ ha
            have key : Q (.bl (decide (0 ≤ a0) && decide (a0 < a2) && (decide (0 ≤ a1) && decide (a1 < a3)))) H' := q H' hs
            refine ⟨_, rfl, a, _, _, _, rfl, rfl, SqT.of ha', at0, _, _, rfl, rfl, _, rfl, ite3 (fun h1 => ?_) (fun h1 => ?_)⟩
            · refine ⟨_, rfl, a, _, _, _, rfl, rfl, SqT.of ha', at2, _, _, rfl, rfl, _, rfl, ite3 (fun h2 => ?_) (fun h2 => ?_)⟩
              · refine ⟨_, rfl, a, _, _, _, rfl, rfl, SqT.of ha', at1, _, _, rfl, rfl, _, rfl, ite3 (fun h3 => ?_) (fun h3 => ?_)⟩
                · refine ⟨_, rfl, a, _, _, _, rfl, rfl, SqT.of ha', at3, _, _, rfl, rfl, ?_⟩
                  rw [h1, h2, h3] at key; exact key
                · show Q (.bl false) H'
                  rw [h1, h2, h3] at key; exact key
              · show Q (.bl false) H'
                rw [h1, h2] at key; exact key
            · refine ⟨_, rfl, iteF ?_⟩
              show Q (.bl false) H'
              rw [h1] at key; exact key
    · refine ⟨_, rfl, _, T', "tuple", rfl, hT, .inr (.inr (.inl rfl)), _, rfl, iteP ?_ (iteT q)⟩
      have e : isB T' "tuple" = false := by
        unfold isB
        rw [decide_eq_false hne]
        simp
      rw [e]; rfl
theorem S_inside : FnScope ["one", "other", "starts_within"] ["one", "other"] (defScope s_inside) := ⟨rfl, rfl, rfl, by decide +kernel, rfl, by decide +kernel, by decide +kernel⟩
theorem ok_inside {f : Addr} {fd : FuncData} (F : Fun K "inside" "inside" s_inside f fd) : FnOk P w K mg base CX0 1 f fd ["one", "other"] sp_inside := by
  have S := S_inside
  refine F.ok S (fun vs H Q E h => ?_) (fun cdv A outer s H vs Q E hr h => ?_)
  · obtain ⟨a, b, a0, a1, a2, a3, o0, o1, o2, o3, rfl, _⟩ := h; rfl
  · obtain ⟨a, b, a0, a1, a2, a3, o0, o1, o2, o3, rfl, ha, hb, q⟩ := h
    refine ⟨_, (pss_cons (ps_set (i := 2) S.nd rfl (Or.inl rfl) (pe_and (pe_cmpR op_le (pe_ix ix_tup (pv 1) pe_int (fun _ _ => rfl)) (pe_ix ix_tup (pv 0) pe_int (fun _ _ => rfl)) (nomark _)) (pe_one (pe_cmpR op_le (pe_ix ix_tup (pv 1) pe_int (fun _ _ => rfl)) (pe_ix ix_tup (pv 0) pe_int (fun _ _ => rfl)) (nomark _)))))
      (pss_one (ps_ret (pe_and (pv 2) (pe_and (pe_cmpR op_le (pe_ix ix_tup (pv 0) pe_int (fun _ _ => rfl)) (pe_ix ix_tup (pv 1) pe_int (fun _ _ => rfl)) (nomark _)) (pe_one (pe_cmpR op_le (pe_ix ix_tup (pv 0) pe_int (fun _ _ => rfl)) (pe_ix ix_tup (pv 1) pe_int (fun _ _ => rfl)) (nomark _)))))))), ?_⟩
    have key : Q (.bl (decide (o0 ≤ a0) && decide (o1 ≤ a1) && (decide (a2 ≤ o2) && decide (a3 ≤ o3)))) H := q
    refine ⟨_, rfl, b, _, _, _, rfl, rfl, SqT.of hb, at0, _, rfl, a, _, _, _, rfl, rfl, SqT.of ha, at0, _, _, rfl, rfl, _, rfl, ite3 (fun h1 => ?_) (fun h1 => ?_)⟩
    · refine ⟨_, rfl, b, _, _, _, rfl, rfl, SqT.of hb, at1, _, rfl, a, _, _, _, rfl, rfl, SqT.of ha, at1, _, _, rfl, rfl, ?_⟩
      refine ⟨_, rfl, _, rfl, ite3 (fun h2 => ?_) (fun h2 => ?_)⟩
      · refine ⟨_, rfl, a, _, _, _, rfl, rfl, SqT.of ha, at2, _, rfl, b, _, _, _, rfl, rfl, SqT.of hb, at2, _, _, rfl, rfl, _, rfl, ite3 (fun h3 => ?_) (fun h3 => ?_)⟩
        · refine ⟨_, rfl, a, _, _, _, rfl, rfl, SqT.of ha, at3, _, rfl, b, _, _, _, rfl, rfl, SqT.of hb, at3, _, _, rfl, rfl, ?_⟩
          rw [h1, h2, h3] at key; exact key
        · show Q (.bl false) H
          rw [h1, h2, h3] at key; exact key
      · show Q (.bl false) H
        rw [h1, h2] at key; exact key
    · refine ⟨_, rfl, _, rfl, iteF ?_⟩
      show Q (.bl false) H
      rw [h1] at key; exact key
theorem S_law_take : FnScope ["_law_purse_here", "_law_many", "_law_found_here"] ["_law_purse_here", "_law_many"] (defScope s__law_take) := ⟨rfl, rfl, rfl, by decide +kernel, rfl, by decide +kernel, by decide +kernel⟩
theorem ok_law_take {f : Addr} {fd : FuncData} (F : Fun K "_law_take" "_law_take" s__law_take f fd) : FnOk P w K mg base CX0 1 f fd ["_law_purse_here", "_law_many"] sp_take := by
  have S := S_law_take
  refine F.ok S (fun vs H Q E h => ?_) (fun cdv A outer s H vs Q E hr h => ?_)
  · obtain ⟨p, z, m, rfl, _⟩ := h; rfl
  · obtain ⟨p, z, m, rfl, hp, hm, hm2, q⟩ := h
    refine ⟨_, (pss_cons (ps_set (i := 2) S.nd rfl (Or.inl rfl) (pe_op op_mod (pe_ix ix_list (pv 0) pe_int (fun _ _ => rfl)) (pv 1)))
      (pss_cons (ps_asg (pe_op op_fdivL (pe_ix ix_list (pv 0) pe_int (fun _ _ => rfl)) (pv 1)) (pg_sub (pv 0) pe_int set_list))
      (pss_one (ps_ret (pv 2))))), ?_⟩
    have hdiv : CDivL z m := ⟨hm, Nat.lt_trans (log2_lt_of (k := 64) (by decide) (by first | lia | omega)) (by decide)⟩
    refine ⟨_, rfl, p, _, _, _, rfl, rfl, SqL.of hp, rfl, _, rfl, _, _, rfl, rfl, hm, ?_⟩
    refine ⟨_, rfl, p, _, _, _, rfl, rfl, SqL.of hp, rfl, _, rfl, _, _, rfl, rfl, hdiv, _, rfl, p, _, _, 0, rfl, rfl, hp, rfl, ?_⟩
    exact ⟨_, rfl, q _ _ (Int.emod_nonneg _ (by first | lia | omega)) (Int.emod_lt_of_pos _ hm)⟩
theorem S_law_purse : FnScope ["_law_script", "_law_k", "_law_cell"] ["_law_script", "_law_k"] (defScope s__law_purse) := ⟨rfl, rfl, rfl, by decide +kernel, rfl, by decide +kernel, by decide +kernel⟩
theorem pow18 : CPow 10 18 := ⟨by decide, by decide, by decide⟩
theorem pow30 : CPow 10 30 := ⟨by decide, by decide, by decide⟩
theorem div18 (z : Int) : CDivL z (10 ^ (18 : Int).toNat) := ⟨by decide +kernel, by decide +kernel⟩
theorem big_eq : (10 : Int) ^ (30 : Int).toNat + 57 = 1000000000000000000000000000057 := by decide +kernel
theorem big_pos : (0 : Int) < (10 : Int) ^ (30 : Int).toNat + 57 := by rw [big_eq]; decide
theorem big_mul {z k : Int} (h0 : 0 ≤ k) (h1 : k < 1000) : IntMulOk (z % ((10 : Int) ^ (30 : Int).toNat + 57) + k + 1) 618033988749894848204586834365 := by
  rw [big_eq]
  refine mulOk_of ?_ (by decide +kernel)
  have a := Int.emod_nonneg z (b := 1000000000000000000000000000057) (by decide)
  have b := Int.emod_lt_of_pos z (b := 1000000000000000000000000000057) (by decide)
  have c : (2 : Nat) ^ 128 = 340282366920938463463374607431768211456 := by decide +kernel
  rw [c]
  first | lia | omega
theorem ok_law_purse {f : Addr} {fd : FuncData} (F : Fun K "_law_purse" "_law_purse" s__law_purse f fd) (T : Txt mg tk) : FnOk P w K mg base CX0 1 f fd ["_law_script", "_law_k"] (sp_purse K) := by
  have S := S_law_purse
  refine F.ok S (fun vs H Q E h => ?_) (fun cdv A outer s H vs Q E hr h => ?_)
  · obtain ⟨a, ns, k, rfl, _⟩ := h; rfl
  · obtain ⟨a, ns, k, rfl, hS, hk0, hk1, q⟩ := h
    refine ⟨_, (pss_cons (ps_set (i := 2) S.nd rfl (Or.inl rfl) pe_int)
      (pss_cons (ps_if (pt_cmpR op_lt (pv 1) (pe_callB call_len_seq rfl T.z_len rfl (pa_cons (pv 0) pa_nil)) (nomark _)) (pss_one (ps_set (i := 2) S.nd rfl (Or.inl rfl) (pe_ix ix_list (pv 0) (pv 1) (fun _ _ => rfl)))) pss_nil)
      (pss_cons (ps_if (pt_cmpR op_ne (pe_op op_fdivL (pv 2) (pe_op op_pow pe_int pe_int)) pe_int (nomark _)) (pss_one (ps_ret (pe_lst (pa_cons (pv 2) pa_nil)))) pss_nil)
      (pss_one (ps_ret (pe_lst (pa_cons (pe_op op_mod (pe_op op_mulL (pe_op op_add (pe_op op_add (pe_op op_mod (pv 2) (pe_op op_add (pe_op op_pow pe_int pe_int) pe_int)) (pv 1)) pe_int) pe_int) (pe_op op_add (pe_op op_pow pe_int pe_int) pe_int)) pa_nil))))))), ?_⟩
    refine ⟨_, rfl, _, rfl, a, _, rfl, .inl hS, _, _, rfl, rfl, _, rfl, ite3 (fun h => ?_) (fun h => ?_)⟩
    · have hk : k.toNat < ns.length := by
        have h' : k < ((ns.map V.int).length : Int) := of_decide_eq_true h
        rw [List.length_map] at h'
        first | lia | omega
      have hz : (ns.map V.int)[k.toNat]? = some (.int ns[k.toNat]) := by rw [List.getElem?_map, List.getElem?_eq_getElem hk]; rfl
      have hat : atI (ns.map V.int) k = some (.int ns[k.toNat]) := by
        have e := atI_nat hz
        rw [Int.toNat_of_nonneg hk0] at e
        exact e
      refine ⟨_, rfl, _, rfl, a, _, k, _, rfl, rfl, hS, hat, ?_⟩
      generalize ns[k.toNat] = z0
      refine ⟨_, rfl, _, _, rfl, rfl, pow18, _, _, rfl, rfl, div18 _, rfl, _, rfl, ite3 (fun h => ?_) (fun h => ?_)⟩
      · exact ⟨_, rfl, lenOk 1, fun p hp => q p _ hp⟩
      · exact ⟨_, rfl, _, _, rfl, rfl, pow30, _, _, rfl, rfl, _, _, rfl, rfl, big_pos, _, rfl, _, _, rfl, rfl, _, _, rfl, rfl, _, _, rfl, rfl, big_mul hk0 hk1, _, _, rfl, rfl, pow30, _, _, rfl, rfl, _, _, rfl, rfl, big_pos, lenOk 1, fun p hp => q p _ hp⟩
    · refine ⟨_, rfl, _, _, rfl, rfl, pow18, _, _, rfl, rfl, div18 _, rfl, _, rfl, ite3 (fun h => ?_) (fun h => ?_)⟩
      · exact ⟨_, rfl, lenOk 1, fun p hp => q p _ hp⟩
      · exact ⟨_, rfl, _, _, rfl, rfl, pow30, _, _, rfl, rfl, _, _, rfl, rfl, big_pos, _, rfl, _, _, rfl, rfl, _, _, rfl, rfl, _, _, rfl, rfl, big_mul hk0 hk1, _, _, rfl, rfl, pow30, _, _, rfl, rfl, _, _, rfl, rfl, big_pos, lenOk 1, fun p hp => q p _ hp⟩
theorem atI_in {L : List V} {i : Int} (h0 : 0 ≤ i) (h1 : i < L.length) : ∃ v, atI L i = some v ∧ v ∈ L := by
  have h : i.toNat < L.length := by first | lia | omega
  have e := atI_nat (List.getElem?_eq_getElem h)
  rw [Int.toNat_of_nonneg h0] at e
  exact ⟨_, e, List.getElem_mem h⟩
theorem S_squares_of : FnScope ["rectangle", "squares", "row", "column"] ["rectangle"] (defScope s_squares_of) := ⟨rfl, rfl, rfl, by decide +kernel, rfl, by decide +kernel, by decide +kernel⟩
theorem mul144 {i m : Nat} (h1 : i ≤ 12) (h2 : m ≤ 12) : i * m ≤ 144 := Nat.mul_le_mul h1 h2
theorem ok_squares_of {f : Addr} {fd : FuncData} (F : Fun K "squares_of" "squares_of" s_squares_of f fd) (T : Txt mg tk) : FnOk P w K mg base CX0 1 f fd ["rectangle"] sp_squares := by
  have S := S_squares_of
  refine F.ok S (fun vs H Q E h => ?_) (fun cdv A outer s H vs Q E hr h => ?_)
  · obtain ⟨a, p, rfl, _⟩ := h; rfl
  · obtain ⟨a, p, rfl, ha, g1, g2, g3, g4, g5, g6, q⟩ := h
    refine ⟨_, (pss_cons (ps_set (i := 1) S.nd rfl (Or.inl rfl) (pe_lst pa_nil))
      (pss_cons (ps_for PassesOwn.never rfl (pi_range2 rfl T.z_range (pa_cons (pe_ix ix_tup (pv 0) pe_int (fun _ _ => rfl)) (pa_cons (pe_ix ix_tup (pv 0) pe_int (fun _ _ => rfl)) pa_nil))) (pg_name (i := 2) S.nd rfl (Or.inl rfl)) (pss_one (ps_for PassesOwn.never rfl (pi_range2 rfl T.z_range (pa_cons (pe_ix ix_tup (pv 0) pe_int (fun _ _ => rfl)) (pa_cons (pe_ix ix_tup (pv 0) pe_int (fun _ _ => rfl)) pa_nil))) (pg_name (i := 3) S.nd rfl (Or.inl rfl)) (pss_one (ps_expr (pe_bm PySem.F.plainAttrs_list PySem.F.slot_list_append PySem.F.type_list_append mt_append (pv 1) (pa_cons (pe_tup (pa_cons (pv 2) (pa_cons (pv 3) pa_nil))) pa_nil)))))))
      (pss_one (ps_ret (pv 1))))), ?_⟩
    refine ⟨lenOk 0, fun l hl => ?_⟩
    have ha0 : (upd H l (.lst [])) a = some (.tup (four p.t p.l p.b p.r)) := Same.new hl _ _ ha
    refine ⟨_, rfl, a, _, _, _, rfl, rfl, SqT.of ha0, at0, _, rfl, a, _, _, _, rfl, rfl, SqT.of ha0, at2, p.t, p.b, rfl, ⟨by first | lia | omega, by first | lia | omega, by first | lia | omega, by first | lia | omega⟩,
      for_range (lo := p.t) (n := (p.b - p.t).toNat) (fun i σ H' => ∃ x y, ∃ sq : List (Addr × (Int × Int)), σ = [some (.ref a), some (.ref l), x, y] ∧ Same H H' ∧ H' l = some (.lst (sq.map fun s => V.ref s.1)) ∧ (∀ s ∈ sq, H' s.1 = some (.tup [.int s.2.1, .int s.2.2])) ∧ sq.map (·.2) = sqsN p i)
        ⟨none, none, [], rfl, Same.new hl, upd_same, fun s hs => (nomatch hs), rfl⟩ ?_ ?_⟩
    · rintro i σ H' hi ⟨x, y, sq, rfl, hs, hlst, hsq, hmap⟩
      have ha' := hs _ _ ha
      refine ⟨_, rfl, a, _, _, _, rfl, rfl, SqT.of ha', at1, _, rfl, a, _, _, _, rfl, rfl, SqT.of ha', at3, p.l, p.r, rfl, ⟨by first | lia | omega, by first | lia | omega, by first | lia | omega, by first | lia | omega⟩,
        for_range (lo := p.l) (n := (p.r - p.l).toNat) (fun j σ H2 => ∃ y, ∃ sq : List (Addr × (Int × Int)), σ = [some (.ref a), some (.ref l), some (.int (p.t + i)), y] ∧ Same H H2 ∧ H2 l = some (.lst (sq.map fun s => V.ref s.1)) ∧ (∀ s ∈ sq, H2 s.1 = some (.tup [.int s.2.1, .int s.2.2])) ∧ sq.map (·.2) = sqsN p i ++ rowSq p i j)
          ⟨y, sq, rfl, hs, hlst, hsq, by rw [hmap]; simp [rowSq]⟩ ?_ ?_⟩
      · rintro j σ H2 hj ⟨y, sq, rfl, hs2, hl2, hq2, hm2⟩
        refine ⟨_, rfl, .inl ⟨rfl, _, SqL.of hl2⟩, _, rfl, _, rfl, lenOk 2, fun t ht => ?_⟩
        have nlt : l ≠ t := ne_of_none hl2 ht
        have hlen : sq.length ≤ 288 := by
          have e := congrArg List.length hm2
          rw [List.length_map, List.length_append, sqsN_len, rowSq, List.length_map, List.length_range] at e
          have := mul144 (i := i) (m := (p.r - p.l).toNat) (by first | lia | omega) (by first | lia | omega)
          first | lia | omega
        refine ⟨l, _, _, rfl, rfl, by rw [upd_ne nlt]; exact hl2, small1000 (by rw [List.length_map]; first | lia | omega), ?_⟩
        refine ⟨_, sq ++ [(t, (p.t + (i : Int), p.l + (j : Int)))], rfl, fun b o e => ?_, ?_, fun z hz => ?_, ?_⟩
        · rw [upd_ne (ne_of_none e hl), upd_ne (ne_of_none (hs2 _ _ e) ht)]; exact hs2 b o e
        · rw [upd_same, List.map_append]; rfl
        · rcases List.mem_append.mp hz with hz | hz
          · have e := hq2 z hz
            have n1 : z.1 ≠ l := ne_of e hl2 (by intro q; cases q)
            rw [upd_ne n1, upd_ne (ne_of_none e ht)]; exact e
          · rw [List.mem_singleton.mp hz, upd_ne (Ne.symm nlt)]; exact upd_same
        · rw [List.map_append, hm2, List.append_assoc, rowSq_succ]; rfl
      · rintro σ H2 ⟨y, sq, rfl, hs2, hl2, hq2, hm2⟩
        exact ⟨_, _, sq, rfl, hs2, hl2, hq2, hm2⟩
    · rintro σ H2 ⟨x, y, sq, rfl, hs2, hl2, hq2, hm2⟩
      exact ⟨_, rfl, q l sq H2 hs2 hl hl2 hq2 hm2⟩
theorem S_check_sides : FnScope ["width", "height", "side"] ["width", "height"] (defScope s_check_sides) := ⟨rfl, rfl, rfl, by decide +kernel, rfl, by decide +kernel, by decide +kernel⟩
theorem side_ok {x : Int} (h : 1 ≤ x ∧ x ≤ 12) : sideV (.int x) = true := by
  show (decide (1 ≤ x) && decide (x ≤ 12)) = true
  rw [decide_eq_true h.1, decide_eq_true h.2]; rfl
theorem ok_check_sides {f : Addr} {fd : FuncData} (F : Fun K "check_sides" "check_sides" s_check_sides f fd) (D_is_side : DefOk P w K mg base 2 "is_side" ["thing"] sp_side) : FnOk P w K mg base CX0 3 f fd ["width", "height"] sp_check_sides := by
  have S := S_check_sides
  refine F.ok S (fun vs H Q E h => ?_) (fun cdv A outer s H vs Q E hr h => ?_)
  · obtain ⟨a, p, rfl, _⟩ := h; rfl
  · obtain ⟨w, h, rfl, gw, gh, q⟩ := h
    refine ⟨_, (pss_one (ps_for PassesOwn.never rfl (pi_tup (pe_tup (pa_cons (pv 0) (pa_cons (pv 1) pa_nil)))) (pg_name (i := 2) S.nd rfl (Or.inl rfl)) (pss_one (ps_if (pt_not (pt_val (pe_fn D_is_side hr (pa_cons (pv 2) pa_nil)))) (pss_one ps_never) pss_nil)))), ?_⟩
    refine ⟨_, rfl, _, rfl, lenOk 2, fun t ht => ⟨t, rfl, ⟨_, SqT.of upd_same⟩, for_tup (K := K) (a := t) (xs := [.int w, .int h]) (fun i σ H' => (∃ y, σ = [some (.int w), some (.int h), y]) ∧ H' = upd H t (.tup [.int w, .int h])) ⟨⟨none, rfl⟩, rfl⟩ (fun i σ H' _ hp => by rw [hp.2]; exact SqT.of upd_same) ?_ ?_⟩⟩
    · rintro i x σ H' hx ⟨⟨y, rfl⟩, rfl⟩
      obtain ⟨z, rfl, hz⟩ : ∃ z, x = .int z ∧ (1 ≤ z ∧ z ≤ 12) := by
        have := List.mem_of_getElem? hx
        simp only [List.mem_cons, List.not_mem_nil, or_false] at this
        rcases this with rfl | rfl
        · exact ⟨_, rfl, gw⟩
        · exact ⟨_, rfl, gh⟩
      refine ⟨_, rfl, .int z, rfl, ⟨"int", rfl⟩, _, rfl, iteN (by rw [side_ok hz]; rfl) ?_⟩
      exact ⟨⟨_, rfl⟩, rfl⟩
    · rintro σ H' ⟨⟨y, rfl⟩, rfl⟩
      exact q _ (Same.new ht)
theorem S_check_panes : FnScope ["panes", "sheet", "place", "pane"] ["panes", "sheet"] (defScope s_check_panes) := ⟨rfl, rfl, rfl, by decide +kernel, rfl, by decide +kernel, by decide +kernel⟩
theorem in_rect {p : Rc} {w h : Int} (i : p.In w h) : rectB (four p.t p.l p.b p.r) = true := by
  obtain ⟨a1, a2, a3, a4, a5, a6⟩ := i
  show (decide (0 ≤ p.t) && decide (p.t < p.b) && (decide (0 ≤ p.l) && decide (p.l < p.r))) = true
  rw [decide_eq_true a1, decide_eq_true a2, decide_eq_true a4, decide_eq_true a5]; rfl
theorem in_ins {p : Rc} {w h : Int} (i : p.In w h) : insB p.t p.l p.b p.r 0 0 h w = true := by
  obtain ⟨a1, a2, a3, a4, a5, a6⟩ := i
  show (decide (0 ≤ p.t) && decide (0 ≤ p.l) && (decide (p.b ≤ h) && decide (p.r ≤ w))) = true
  rw [decide_eq_true a1, decide_eq_true a4, decide_eq_true a3, decide_eq_true a6]; rfl
theorem four_ty {H : Hp} {a b c d : Int} : ∀ x ∈ four a b c d, Ty H x := fun x hx => by
  simp only [List.mem_cons, List.not_mem_nil, or_false] at hx
  rcases hx with rfl | rfl | rfl | rfl <;> exact ⟨"int", rfl⟩
theorem ok_check_panes {f : Addr} {fd : FuncData} (F : Fun K "check_panes" "check_panes" s_check_panes f fd) (T : Txt mg tk) (D_is_rectangle : DefOk P w K mg base 2 "is_rectangle" ["thing"] sp_rect) (D_inside : DefOk P w K mg base 1 "inside" ["one", "other"] sp_inside) :
    FnOk P w K mg base CX0 3 f fd ["panes", "sheet"] (sp_check_panes K) := by
  have S := S_check_panes
  refine F.ok S (fun vs H Q E h => ?_) (fun cdv A outer s H vs Q E hr h => ?_)
  · obtain ⟨l, sh, w, h, ts, rfl, _⟩ := h; rfl
  · obtain ⟨l, sh, w, h, ts, rfl, hl, hat, hsh, hin, hlen, q⟩ := h
    refine ⟨_, (pss_cons (ps_if (pt_cmpR op_gt (pe_callB call_len_seq rfl T.z_len rfl (pa_cons (pv 0) pa_nil)) (pe_glob (v := .int 52) rfl T.g_MOST_PANES ⟨_, rfl⟩) (nomark _)) (pss_one ps_never) pss_nil)
      (pss_one (ps_for PassesOwn.never rfl (pi_enum rfl T.z_enumerate (pa_cons (pv 0) pa_nil)) (pg_tup rfl (pgs_cons (pg_name (i := 2) S.nd rfl (Or.inl rfl)) (pgs_cons (pg_name (i := 3) S.nd rfl (Or.inl rfl)) pgs_nil))) (pss_one (ps_if (PW.pt (pw_or (pt_not (pt_val (pe_fn D_is_rectangle hr (pa_cons (pv 3) pa_nil)))) (pw_or1 (pt_not (pt_val (pe_fn D_inside hr (pa_cons (pv 3) (pa_cons (pv 1) pa_nil)))))))) (pss_one ps_never) pss_nil))))), ?_⟩
    refine ⟨_, rfl, l, _, rfl, .inl hl, _, _, rfl, rfl, _, rfl, iteN (decide_eq_false (by rw [List.length_map]; first | lia | omega)) ?_⟩
    refine ⟨_, rfl, l, rfl, ⟨_, hl⟩, for_enum (K := K) (a := l) (xs := refs ts) (fun i σ H' => (∃ x y, σ = [some (.ref l), some (.ref sh), x, y]) ∧ Same H H') ⟨⟨none, none, rfl⟩, Same.refl H⟩ (fun i σ H' _ hp => hp.2.seq hl) ?_ ?_⟩
    · rintro i x σ H' t hx ⟨⟨x0, y0, rfl⟩, hs⟩ ht
      obtain ⟨u, hu, rfl⟩ := refs_get hx
      have hum := List.mem_of_getElem? hu
      have hsT := Same.new (o := .tup [.int i, .ref u.1]) ht
      have s1 := hs.trans hsT
      have hui := hin u.2 (List.mem_map.mpr ⟨u, hum, rfl⟩)
      have hua := s1 _ _ (hat u hum)
      refine ⟨t, _, rfl, SqT.of upd_same, rfl, _, _, rfl, _, _, rfl, rfl, ?_⟩
      refine ⟨_, rfl, _, rfl, .inl ⟨u.1, _, rfl, hua, (by show (4 : Nat) ≤ 100; decide), four_ty, fun H2 s2 => ⟨_, rfl, iteN (by rw [in_rect hui]; rfl) ?_⟩⟩⟩
      refine ⟨_, rfl, _, rfl, u.1, sh, _, _, _, _, _, _, _, _, rfl, s2 _ _ hua, s2 _ _ (s1 _ _ hsh), _, rfl, iteN (by rw [in_ins hui]; rfl) ?_⟩
      exact ⟨⟨_, _, rfl⟩, s1.trans s2⟩
    · rintro σ H' ⟨⟨x0, y0, rfl⟩, hs⟩
      exact q H' hs
theorem mem_take_succ {α : Type} {xs : List α} {i : Nat} {u x : α} (h : xs[i]? = some u) : x ∈ xs.take (i + 1) ↔ x ∈ xs.take i ∨ x = u := by
  rw [List.take_succ, h, List.mem_append]
  simp
theorem apart_take {ts : List (Addr × Rc)} (hd : (rcs ts).Pairwise Apart) {i : Nat} {u t : Addr × Rc} (h : ts[i]? = some u) (ht : t ∈ ts.take i) : Apart t.2 u.2 := by
  obtain ⟨j, hj, rfl⟩ := List.getElem_of_mem ht
  obtain ⟨hi, rfl⟩ := List.getElem?_eq_some_iff.mp h
  rw [List.pairwise_iff_getElem] at hd
  have hj' : j < i := by rw [List.length_take] at hj; first | lia | omega
  have := hd j i (by rw [List.length_map]; first | lia | omega) (by rw [List.length_map]; exact hi) hj'
  simpa using this
theorem nodup_take {α β : Type} {xs : List α} {f : α → β} (hn : (xs.map f).Nodup) {j : Nat} {s : α} (h : xs[j]? = some s) : f s ∉ (xs.take j).map f := fun hm => by
  obtain ⟨hj, rfl⟩ := List.getElem?_eq_some_iff.mp h
  obtain ⟨y, hy, e⟩ := List.mem_map.mp hm
  obtain ⟨k, hk, rfl⟩ := List.getElem_of_mem hy
  have hk' : k < j := by rw [List.length_take] at hk; first | lia | omega
  rw [List.nodup_iff_pairwise_ne, List.pairwise_iff_getElem] at hn
  exact hn k j (by rw [List.length_map]; first | lia | omega) (by rw [List.length_map]; exact hj) hk' (by simpa using e)
theorem sq_get {sq : List (Addr × (Int × Int))} {i : Nat} {x : V} (h : (sq.map fun s => V.ref s.1)[i]? = some x) : ∃ t, sq[i]? = some t ∧ x = .ref t.1 := by
  rw [List.getElem?_map] at h
  cases e : sq[i]? with
  | none => rw [e] at h; cases h
  | some t => rw [e] at h; exact ⟨t, rfl, (Option.some.inj h).symm⟩
theorem sqs_len {p : Rc} {w h : Int} (i : p.In w h) (b1 : w ≤ 12) (b2 : h ≤ 12) : (sqs p).length ≤ 144 := by
  obtain ⟨a1, a2, a3, a4, a5, a6⟩ := i
  unfold sqs
  rw [sqsN_len]
  exact mul144 (by first | lia | omega) (by first | lia | omega)
theorem S_panes_by_square : FnScope ["panes", "by_square", "place", "pane", "square"] ["panes"] (defScope s_panes_by_square) := ⟨rfl, rfl, rfl, by decide +kernel, rfl, by decide +kernel, by decide +kernel⟩
theorem ok_panes_by_square {f : Addr} {fd : FuncData} (F : Fun K "panes_by_square" "panes_by_square" s_panes_by_square f fd) (T : Txt mg tk) (D_squares_of : DefOk P w K mg base 1 "squares_of" ["rectangle"] sp_squares) : FnOk P w K mg base CX0 2 f fd ["panes"] (sp_by_square K) := by
  have S := S_panes_by_square
  refine F.ok S (fun vs H Q E h => ?_) (fun cdv A outer s H vs Q E hr h => ?_)
  · obtain ⟨l, w, h, ts, rfl, _⟩ := h; rfl
  · obtain ⟨l, w, h, ts, rfl, hl, hat, hin, hap, hlen, bw, bh, q⟩ := h
    have hu := hu_of hr
    refine ⟨_, (pss_cons (ps_set (i := 1) S.nd rfl (Or.inl rfl) pe_dnewT)
      (pss_cons (ps_for PassesOwn.never rfl (pi_enum rfl T.z_enumerate (pa_cons (pv 0) pa_nil)) (pg_tup rfl (pgs_cons (pg_name (i := 2) S.nd rfl (Or.inl rfl)) (pgs_cons (pg_name (i := 3) S.nd rfl (Or.inl rfl)) pgs_nil))) (pss_one (ps_for PassesOwn.never rfl (pi_list (pe_fn D_squares_of hr (pa_cons (pv 3) pa_nil))) (pg_name (i := 4) S.nd rfl (Or.inl rfl)) (pss_cons (ps_if (pt_cmp (pc_din hu (pv 4) (pv 1))) (pss_one ps_never) pss_nil)
      (pss_one (ps_dput hu (pv 1) (pv 4) (pv 3) rfl))))))
      (pss_one (ps_ret (pv 1))))), ?_⟩
    intro d hd
    refine ⟨_, rfl, l, rfl, ⟨_, (Same.new hd).seq hl⟩, for_enum (K := K) (a := l) (xs := refs ts) (fun i σ H' => (∃ x y z, σ = [some (.ref l), some (.ref d), x, y, z]) ∧ Same H H' ∧ ∃ kvs, H' d = some (.dT kvs) ∧ kvs.length ≤ 144 * i ∧
        (∀ t ∈ ts.take i, ∀ r c, t.2.has r c → valV kvs (sqK r c) = some (.ref t.1)) ∧ ∀ r c v, valV kvs (sqK r c) = some v → ∃ t ∈ ts.take i, t.2.has r c)
      ⟨⟨none, none, none, rfl⟩, Same.new hd, [], upd_same, Nat.zero_le _, fun t ht => (nomatch ht), fun r c v e => by cases e⟩ (fun i σ H' _ hp => hp.2.1.seq hl) ?_ ?_⟩
    · rintro i x σ H' tt hx ⟨⟨x0, y0, z0, rfl⟩, hs, kvs, hk, hkl, ha1, ha2⟩ htt
      obtain ⟨u, hu', rfl⟩ := refs_get hx
      have hum := List.mem_of_getElem? hu'
      have hi : i < ts.length := (List.getElem?_eq_some_iff.mp hu').1
      have s1 := hs.trans (Same.new (o := .tup [.int i, .ref u.1]) htt)
      have hui := hin u.2 (List.mem_map.mpr ⟨u, hum, rfl⟩)
      obtain ⟨c1, c2, c3, c4, c5, c6⟩ := id hui
      have hua := s1 _ _ (hat u hum)
      have hk1 : (upd H' tt (.tup [.int i, .ref u.1])) d = some (.dT kvs) := Same.new htt _ _ hk
      refine ⟨tt, _, rfl, SqT.of upd_same, rfl, _, _, rfl, _, _, rfl, rfl, ?_⟩
      refine ⟨_, rfl, u.1, u.2, rfl, hua, c1, by first | lia | omega, by first | lia | omega, c4, by first | lia | omega, by first | lia | omega, fun l2 sq H2 s2 n2 hl2 hsq hmap => ⟨l2, rfl, ⟨_, SqL.of hl2⟩, ?_⟩⟩
      have hk2 := s2 _ _ hk1
      have nl2 : l2 ≠ d := ne_of hl2 hk2 (by intro z; cases z)
      have sql : sq.length ≤ 144 := by
        have := sqs_len hui bw bh
        rw [← hmap, List.length_map] at this
        exact this
      have nd := sqsN_nodup (p := u.2) (by first | lia | omega) (u.2.b - u.2.t).toNat
      have nd' : (sq.map (·.2)).Nodup := by rw [hmap]; exact nd
      refine for_list (K := K) (a := l2) (xs := sq.map fun s => V.ref s.1) (fun j σ H3 => (∃ z, σ = [some (.ref l), some (.ref d), some (.int i), some (.ref u.1), z]) ∧ SameX d H2 H3 ∧ ∃ kvs, H3 d = some (.dT kvs) ∧ kvs.length ≤ 144 * i + j ∧
          (∀ t ∈ ts.take i, ∀ r c, t.2.has r c → valV kvs (sqK r c) = some (.ref t.1)) ∧ (∀ z ∈ sq.take j, valV kvs (sqK z.2.1 z.2.2) = some (.ref u.1)) ∧
          ∀ r c v, valV kvs (sqK r c) = some v → (∃ t ∈ ts.take i, t.2.has r c) ∨ (r, c) ∈ (sq.take j).map (fun y : Addr × (Int × Int) => y.2))
        ⟨⟨_, rfl⟩, SameX.refl, kvs, hk2, by first | lia | omega, ha1, fun z hz => (nomatch hz), fun r c v e => .inl (ha2 r c v e)⟩ (fun j σ H3 _ hp => SqL.of (hp.2.1 _ _ nl2 hl2)) ?_ ?_
      · rintro j y σ H3 hy ⟨⟨z0, rfl⟩, s3, kv, hk3, hkl3, b1, b2, b3⟩
        obtain ⟨z, hz, rfl⟩ := sq_get hy
        have hzm := List.mem_of_getElem? hz
        have hj : j < sq.length := (List.getElem?_eq_some_iff.mp hz).1
        have hz2 := hsq z hzm
        have nz : z.1 ≠ d := ne_of hz2 hk2 (by intro q; cases q)
        have hz3 := s3 _ _ nz hz2
        have hin2 : u.2.has z.2.1 z.2.2 := (mem_sqs (by first | lia | omega) (by first | lia | omega)).mp (by rw [← hmap]; exact List.mem_map.mpr ⟨z, hzm, rfl⟩)
        have hno : valV kv (sqK z.2.1 z.2.2) = none := by
          cases e : valV kv (sqK z.2.1 z.2.2) with
          | none => rfl
          | some v =>
            rcases b3 _ _ v e with ⟨t, ht, hh⟩ | hm
            · exact (apart_take hap hu' ht _ _ hh hin2).elim
            · exact absurd hm (nodup_take nd' hz)
        have dg := DGet.t (k := sqK z.2.1 z.2.2) hk3 hz3
        rw [hno] at dg
        refine ⟨_, rfl, _, rfl, d, _, rfl, dg, _, rfl, iteF ?_⟩
        refine ⟨_, rfl, _, rfl, _, rfl, d, _, rfl, DPut.t (k := sqK z.2.1 z.2.2) hk3 hz3 (Nat.lt_of_le_of_lt (m := 20000) (by first | lia | omega) (by rw [sizeLine_eq]; decide)), ?_⟩
        refine ⟨⟨_, rfl⟩, s3.trans SameX.upd, _, upd_same, ?_, fun t ht r c hh => ?_, fun y hy => ?_, fun r c v e => ?_⟩
        · have := length_putK kv (sqK z.2.1 z.2.2) (V.ref u.1)
          first | lia | omega
        · rw [valV_put, if_neg, b1 t ht r c hh]
          intro e
          obtain ⟨e1, e2⟩ := sqK_inj e
          exact apart_take hap hu' ht _ _ (by rw [← e1, ← e2]; exact hh) hin2
        · rw [valV_put]
          rcases (mem_take_succ hz).mp hy with hy | rfl
          · split
            · rfl
            · exact b2 y hy
          · rw [if_pos rfl]
        · rw [valV_put] at e
          split at e
          · rename_i e2
            obtain ⟨e3, e4⟩ := sqK_inj e2
            exact .inr (List.mem_map.mpr ⟨z, (mem_take_succ hz).mpr (.inr rfl), by rw [e3, e4]⟩)
          · rcases b3 r c v e with h1 | h1
            · exact .inl h1
            · obtain ⟨y, hy, e2⟩ := List.mem_map.mp h1
              exact .inr (List.mem_map.mpr ⟨y, (mem_take_succ hz).mpr (.inl hy), e2⟩)
      · rintro σ H3 ⟨⟨z0, rfl⟩, s3, kv, hk3, hkl3, b1, b2, b3⟩
        rw [List.length_map] at hkl3 b2 b3
        rw [List.take_length] at b2 b3
        refine ⟨⟨_, _, _, rfl⟩, fun b o e => ?_, kv, hk3, by first | lia | omega, fun t ht r c hh => ?_, fun r c v e => ?_⟩
        · exact s3 b o (ne_of_none e hd) (s2 b o (s1 b o e))
        · rcases (mem_take_succ hu').mp ht with ht | rfl
          · exact b1 t ht r c hh
          · have hm : (r, c) ∈ sq.map (·.2) := by rw [hmap]; exact (mem_sqs (by first | lia | omega) (by first | lia | omega)).mpr hh
            obtain ⟨z, hz, e⟩ := List.mem_map.mp hm
            have := b2 z hz
            rw [e] at this
            exact this
        · rcases b3 r c v e with ⟨t, ht, hh⟩ | hm
          · exact ⟨t, (mem_take_succ hu').mpr (.inl ht), hh⟩
          · exact ⟨u, (mem_take_succ hu').mpr (.inr rfl), (mem_sqs (by first | lia | omega) (by first | lia | omega)).mp (by rw [← hmap]; exact hm)⟩
    · rintro σ H' ⟨⟨x0, y0, z0, rfl⟩, hs, kvs, hk, hkl, ha1, ha2⟩
      rw [List.length_map, List.take_length] at ha1
      exact ⟨_, rfl, q d kvs H' hs hd hk ha1⟩
theorem S_check_covered : FnScope ["by_square", "sheet", "square"] ["by_square", "sheet"] (defScope s_check_covered) := ⟨rfl, rfl, rfl, by decide +kernel, rfl, by decide +kernel, by decide +kernel⟩
theorem ok_check_covered {f : Addr} {fd : FuncData} (F : Fun K "check_covered" "check_covered" s_check_covered f fd) (D_squares_of : DefOk P w K mg base 1 "squares_of" ["rectangle"] sp_squares) : FnOk P w K mg base CX0 2 f fd ["by_square", "sheet"] sp_check_covered := by
  have S := S_check_covered
  refine F.ok S (fun vs H Q E h => ?_) (fun cdv A outer s H vs Q E hr h => ?_)
  · obtain ⟨d, sh, w, h, kvs, rfl, _⟩ := h; rfl
  · obtain ⟨d, sh, w, h, kvs, rfl, hd, hsh, gw, gh, hcov, q⟩ := h
    have hu := hu_of hr
    refine ⟨_, (pss_one (ps_for PassesOwn.never rfl (pi_list (pe_fn D_squares_of hr (pa_cons (pv 1) pa_nil))) (pg_name (i := 2) S.nd rfl (Or.inl rfl)) (pss_one (ps_if (pt_cmp (pc_dnotin hu (pv 2) (pv 0))) (pss_one ps_never) pss_nil)))), ?_⟩
    refine ⟨_, rfl, sh, ⟨0, 0, h, w⟩, rfl, hsh, Int.le_refl _, by show (0 : Int) ≤ h; first | lia | omega, by show h ≤ 12; first | lia | omega, Int.le_refl _, by show (0 : Int) ≤ w; first | lia | omega, by show w ≤ 12; first | lia | omega, fun l2 sq H2 s2 n2 hl2 hsq hmap => ⟨l2, rfl, ⟨_, SqL.of hl2⟩, ?_⟩⟩
    refine for_list (K := K) (a := l2) (xs := sq.map fun s => V.ref s.1) (fun j σ H3 => (∃ z, σ = [some (.ref d), some (.ref sh), z]) ∧ H3 = H2) ⟨⟨none, rfl⟩, rfl⟩ (fun j σ H3 _ hp => by rw [hp.2]; exact SqL.of hl2) ?_ ?_
    · rintro j y σ H3 hy ⟨⟨z0, rfl⟩, rfl⟩
      obtain ⟨z, hz, rfl⟩ := sq_get hy
      have hzm := List.mem_of_getElem? hz
      have hz2 := hsq z hzm
      have hin2 : (⟨0, 0, h, w⟩ : Rc).has z.2.1 z.2.2 := (mem_sqs (p := ⟨0, 0, h, w⟩) (by show (0 : Int) ≤ w; first | lia | omega) (by show (0 : Int) ≤ h; first | lia | omega)).mp (by rw [← hmap]; exact List.mem_map.mpr ⟨z, hzm, rfl⟩)
      obtain ⟨i1, i2, i3, i4⟩ := hin2
      have hk2 := s2 _ _ hd
      have dg := DGet.t (k := sqK z.2.1 z.2.2) hk2 hz2
      cases e : valV kvs (sqK z.2.1 z.2.2) with
      | none => exact absurd e (hcov _ _ i1 i2 i3 i4)
      | some v =>
        rw [e] at dg
        exact ⟨_, rfl, _, rfl, d, _, rfl, dg, _, rfl, iteF ⟨⟨_, rfl⟩, rfl⟩⟩
    · rintro σ H3 ⟨⟨z0, rfl⟩, rfl⟩
      exact q _ s2
theorem perm_unmap {α β : Type} {f : α → β} : ∀ {l' m : List β}, l'.Perm m → ∀ {l : List α}, m = l.map f → ∃ us : List α, us.Perm l ∧ l' = us.map f := by
  intro l' m h
  induction h with
  | nil => intro l e; exact ⟨l, .refl _, e⟩
  | cons x hp ih =>
    intro l e
    cases l with
    | nil => cases e
    | cons y r =>
      rw [List.map_cons] at e
      injection e with e1 e2
      obtain ⟨us, h1, h2⟩ := ih e2
      exact ⟨y :: us, h1.cons y, by rw [List.map_cons, ← h2, e1]⟩
  | swap x y r =>
    intro l e
    match l, e with
    | a :: b :: r', e =>
      rw [List.map_cons, List.map_cons] at e
      injection e with e1 e2
      injection e2 with e2 e3
      exact ⟨b :: a :: r', .swap a b r', by rw [List.map_cons, List.map_cons, e1, e2, e3]⟩
  | trans h1 h2 ih1 ih2 =>
    intro l e
    obtain ⟨us, a1, a2⟩ := ih2 e
    obtain ⟨vs, b1, b2⟩ := ih1 a2
    exact ⟨vs, b1.trans a1, b2⟩
theorem S_Panel_init : FnScope ["self", "width", "height", "panes", "sheet", "own_panes", "by_square"] ["self", "width", "height", "panes"] (defScope s_Panel_init) := ⟨rfl, rfl, rfl, by decide +kernel, rfl, by decide +kernel, by decide +kernel⟩
theorem ok_Panel_init {f : Addr} {fd : FuncData} (F : Fun K "__init__" "Panel.__init__" s_Panel_init f fd) (T : Txt mg tk) (PC : PCls K C) (D_check_sides : DefOk P w K mg base 3 "check_sides" ["width", "height"] sp_check_sides) (D_check_panes : DefOk P w K mg base 3 "check_panes" ["panes", "sheet"] (sp_check_panes K))
    (D_panes_by_square : DefOk P w K mg base 2 "panes_by_square" ["panes"] (sp_by_square K)) (D_check_covered : DefOk P w K mg base 2 "check_covered" ["by_square", "sheet"] sp_check_covered) : FnOk P w K mg base CX0 4 f fd ["self", "width", "height", "panes"] (sp_Panel K C) := by
  have S := S_Panel_init
  refine F.ok S (fun vs H Q E h => ?_) (fun cdv A outer s H vs Q E hr h => ?_)
  · obtain ⟨a, dx, l, w, h, ts, rfl, _⟩ := h; rfl
  · obtain ⟨a, dx, l, w, h, ts, rfl, hob, hl, hat, til, hlen, gw, gh, q⟩ := h
    refine ⟨_, (pss_cons (ps_expr (pe_fn D_check_sides hr (pa_cons (pv 1) (pa_cons (pv 2) pa_nil))))
      (pss_cons (ps_set (i := 4) S.nd rfl (Or.inl rfl) (pe_tup (pa_cons pe_int (pa_cons pe_int (pa_cons (pv 2) (pa_cons (pv 1) pa_nil))))))
      (pss_cons (ps_expr (pe_fn D_check_panes hr (pa_cons (pv 3) (pa_cons (pv 4) pa_nil))))
      (pss_cons (ps_setComp rfl (pg_name (i := 5) S.nd rfl (Or.inl rfl)) (pi_list (pv 3)) (fun _ _ _ _ _ => (pg_name (i := 0) (show List.Nodup (["pane"] : List Str) from by decide +kernel) rfl (Or.inl rfl))) (fun _ _ _ _ _ => (pe_callTy (call_tuple_K (K := K)) rfl T.z_tuple rfl (pa_cons (pv 0) pa_nil))) (N := ["pane"]) (fr := [none]))
      (pss_cons (ps_set (i := 6) S.nd rfl (Or.inl rfl) (pe_fn D_panes_by_square hr (pa_cons (pv 5) pa_nil)))
      (pss_cons (ps_expr (pe_fn D_check_covered hr (pa_cons (pv 6) (pa_cons (pv 4) pa_nil))))
      (pss_cons (ps_fld (pv 0) (pv 1) rfl)
      (pss_cons (ps_fld (pv 0) (pv 2) rfl)
      (pss_cons (ps_fld (pv 0) (pe_callB call_sortedT rfl T.z_sorted rfl (pa_cons (pv 5) pa_nil)) rfl)
      (pss_one (ps_fld (pv 0) (pv 6) rfl))))))))))), ?_⟩
    refine ⟨_, rfl, _, rfl, w, h, rfl, gw, gh, fun H1 s1 => ?_⟩
    refine ⟨_, rfl, _, rfl, lenOk 4, fun t ht => ?_⟩
    have s2 := s1.trans (Same.new (o := .tup (four 0 0 h w)) ht)
    have hsh : (upd H1 t (.tup (four 0 0 h w))) t = some (.tup (four 0 0 h w)) := upd_same
    generalize upd H1 t (.tup (four 0 0 h w)) = H2 at s2 hsh ⊢
    refine ⟨_, rfl, _, rfl, l, t, w, h, ts, rfl, s2.seq hl, hat.same s2, hsh, til.ins, hlen, fun H3 s3 => ?_⟩
    have s13 := s2.trans s3
    refine ⟨_, rfl, l, rfl, ⟨_, s13.seq hl⟩, fun acc hacc => comp_list (K := K) (a := l) (ys := refs ts) (fun i xs σ H' => (∃ y, σ = [y]) ∧ Same H3 H' ∧ xs = (refs ts).take i) ⟨⟨none, rfl⟩, Same.new hacc, rfl⟩
      (fun i xs σ H' _ _ hp => (s13.trans hp.2.1).seq hl) ?_ ?_⟩
    · rintro i x xs σ H' hx hi hl' hacc' ⟨⟨y, rfl⟩, hs, rfl⟩
      obtain ⟨u, hu', rfl⟩ := refs_get hx
      have hua := (s13.trans hs) _ _ (hat u (List.mem_of_getElem? hu'))
      refine ⟨_, rfl, u.1, _, rfl, .inr ⟨SqT.of hua, cNx.mk (Nat.le_of_lt (small1000 (by rw [List.length_map]; first | lia | omega))) hi hl' hacc' ⟨⟨_, rfl⟩, fun b o e => ?_, ?_⟩⟩⟩
      · rw [upd_ne (ne_of_none e hacc)]; exact hs b o e
      · rw [List.take_succ, hx]; rfl
    · rintro xs σ H4 hl4 hacc4 ⟨_, s4, rfl⟩
      rw [List.take_length] at hacc4
      have s14 := s13.trans s4
      refine ⟨_, rfl, acc, w, h, ts, rfl, SqL.of hacc4, hat.same s14, til.ins, til.dis, hlen, gw.2, gh.2, fun d kvs H5 s5 n5 hd5 hk5 => ?_⟩
      have s15 := s14.trans s5
      have look : ∀ r c, 0 ≤ r → r < h → 0 ≤ c → c < w → ∃ t ∈ ts, valV kvs (sqK r c) = some (.ref t.1) ∧ t.2.has r c := fun r c a1 a2 a3 a4 => by
        obtain ⟨p, hp, hh⟩ := til.cov r c a1 a2 a3 a4
        obtain ⟨u, hu', rfl⟩ := List.mem_map.mp hp
        exact ⟨u, hu', hk5 u hu' r c hh, hh⟩
      refine ⟨_, rfl, _, rfl, d, t, w, h, kvs, rfl, hd5, (s3.trans (s4.trans s5)) _ _ hsh, gw, gh, fun r c a1 a2 a3 a4 e => ?_, fun H6 s6 => ?_⟩
      · obtain ⟨u, _, hv, _⟩ := look r c a1 a2 a3 a4
        rw [hv] at e; cases e
      have s16 := s15.trans s6
      have ob6 := s16 _ _ hob
      have hacc6 := (s5.trans s6) _ _ hacc4
      have hd6 := s6 _ _ hd5
      have na : acc ≠ a := ne_of hacc6 ob6 (by intro z; cases z)
      have nd : d ≠ a := ne_of hd6 ob6 (by intro z; cases z)
      refine ⟨_, rfl, _, rfl, a, C, dx, _, rfl, ob6, PC.cl, PC.n_width, (by show 0 < 1000; decide), ?_⟩
      refine ⟨_, rfl, _, rfl, a, C, dx, _, rfl, upd_same, PC.cl, PC.n_height, (by show 1 < 1000; decide), ?_⟩
      have hacc7 : (upd (upd H6 a (.ins C dx (putF "width" (.int w) []))) a (.ins C dx (putF "height" (.int h) (putF "width" (.int w) [])))) acc = some (.lst (refs ts)) := by rw [upd_ne na, upd_ne na]; exact hacc6
      have tup : ∀ t ∈ ts, (upd (upd H6 a (.ins C dx (putF "width" (.int w) []))) a (.ins C dx (putF "height" (.int h) (putF "width" (.int w) [])))) t.1 = some (.tup (four t.2.t t.2.l t.2.b t.2.r)) := fun t ht => by
        have e := s16 _ _ (hat t ht)
        have nt : t.1 ≠ a := ne_of e ob6 (by intro z; cases z)
        rw [upd_ne nt, upd_ne nt]; exact e
      refine ⟨_, rfl, acc, ts.map fun t => (t.1, t.2.ls), 3, key, rfl, ?_, by rw [List.length_map]; first | lia | omega, ?_, ?_, fun ls us hls hp hsr => ?_⟩
      · rw [List.map_map]; exact SqL.of hacc7
      · intro z hz
        obtain ⟨t, ht, rfl⟩ := List.mem_map.mp hz
        exact ⟨rfl, tup t ht⟩
      · intro z hz y hy
        obtain ⟨t, ht, rfl⟩ := List.mem_map.mp hz
        obtain ⟨u, hu', rfl⟩ := List.mem_map.mp hy
        exact key_lt (til.ins _ (List.mem_map.mpr ⟨t, ht, rfl⟩)) (til.ins _ (List.mem_map.mpr ⟨u, hu', rfl⟩)) gw.2 gh.2 gw.2 gh.2
      obtain ⟨ts', hp', rfl⟩ := perm_unmap hp rfl
      have nls : ls ≠ a := Ne.symm (ne_of_none upd_same hls)
      refine ⟨_, rfl, a, C, dx, _, rfl, by rw [upd_ne (Ne.symm nls)]; exact upd_same, PC.cl, PC.n_sorted_panes, (by show 2 < 1000; decide), ?_⟩
      refine ⟨_, rfl, _, rfl, a, C, dx, _, rfl, upd_same, PC.cl, PC.n_by_square, (by show 3 < 1000; decide), ?_⟩
      have sx : SameX a H6 (upd (upd (upd (upd (upd H6 a (.ins C dx (putF "width" (.int w) []))) a (.ins C dx (putF "height" (.int h) (putF "width" (.int w) [])))) ls (.lst (List.map (fun t => V.ref t.1) (List.map (fun t : Addr × Rc => (t.1, t.2.ls)) ts')))) a (.ins C dx (putF "sorted_panes" (.ref ls) (putF "height" (.int h) (putF "width" (.int w) []))))) a (.ins C dx (flds w h ls d))) := by
        refine SameX.trans (SameX.trans (SameX.trans (SameX.trans SameX.upd SameX.upd) (SameX.new hls)) SameX.upd) SameX.upd
      refine q ts' ls d kvs _ (fun b o nb e => sx b o nb (s16 b o e)) hp' ⟨upd_same, ?_, sx _ _ nd hd6, fun t ht => ?_, til.perm (hp'.map _), by rw [hp'.length_eq]; exact hlen, ?_, fun r c a1 a2 a3 a4 => ?_, gw, gh⟩
      · rw [upd_ne nls, upd_ne nls, upd_same, List.map_map]; rfl
      · have ht' := hp'.mem_iff.mp ht
        have e := s16 _ _ (hat t ht')
        have nt : t.1 ≠ a := ne_of e ob6 (by intro z; cases z)
        exact sx _ _ nt e
      · unfold Srt
        rw [List.map_map] at hsr ⊢
        exact hsr
      · obtain ⟨u, hu', hv, hh⟩ := look r c a1 a2 a3 a4
        exact ⟨u, hp'.mem_iff.mpr hu', hv, hh⟩
theorem S_Panel_panes : FnScope ["self"] ["self"] (defScope s_Panel_panes) := ⟨rfl, rfl, rfl, by decide +kernel, rfl, by decide +kernel, by decide +kernel⟩
theorem ok_Panel_panes {f : Addr} {fd : FuncData} (F : Fun K "panes" "Panel.panes" s_Panel_panes f fd) (T : Txt mg tk) (PC : PCls K C) : FnOk P w K mg base CX0 1 f fd ["self"] (sp_panes C) := by
  have S := S_Panel_panes
  refine F.ok S (fun vs H Q E h => ?_) (fun cdv A outer s H vs Q E hr h => ?_)
  · obtain ⟨a, dx, ls, ld, w, h, ts, kvs, rfl, _⟩ := h; rfl
  · obtain ⟨a, dx, ls, ld, w, h, ts, kvs, rfl, pn, q⟩ := h
    refine ⟨_, (pss_one (ps_ret (pe_callTy call_list_of rfl T.z_list rfl (pa_cons (pe_fld (pv 0) rfl) pa_nil)))), ?_⟩
    exact ⟨_, rfl, a, C, dx, _, _, rfl, pn.ob, PC.cl, PC.n_sorted_panes, flds_s _ _ _ _, ls, _, rfl, .inl (SqL.of pn.lst), fun l hl => q l hl⟩
structure Til (H0 H : Hp) (lp d : Addr) (w h r c : Int) (ts : List (Addr × Rc)) (kvs : List (List Key × V)) : Prop where
  same : Same H0 H
  lst : H lp = some (.lst (refs ts))
  dic : H d = some (.dT kvs)
  ats : At H ts
  ins : ∀ p ∈ rcs ts, p.In w h
  dis : (rcs ts).Pairwise Apart
  own : ∀ r' c', valV kvs (sqK r' c') ≠ none ↔ ∃ p ∈ rcs ts, p.has r' c'
  tops : ∀ p ∈ rcs ts, p.t ≤ r
  done : ∀ r' c', 0 ≤ r' → 0 ≤ c' → c' < w → (r' < r ∨ (r' = r ∧ c' < c)) → ∃ p ∈ rcs ts, p.has r' c'
  cnt : (ts.length : Int) ≤ 12 * r + c
  siz : kvs.length ≤ 144 * ts.length
  bot : ∀ p ∈ (rcs ts).drop 40, p.b = h
theorem Til.to {H0 H H' : Hp} {lp d : Addr} {w h r c : Int} {ts : List (Addr × Rc)} {kvs : List (List Key × V)} (t : Til H0 H lp d w h r c ts kvs) (s : Same H H') : Til H0 H' lp d w h r c ts kvs :=
  ⟨t.same.trans s, s _ _ t.lst, s _ _ t.dic, t.ats.same s, t.ins, t.dis, t.own, t.tops, t.done, t.cnt, t.siz, t.bot⟩
theorem Til.skip {H0 H : Hp} {lp d : Addr} {w h r c : Int} {ts : List (Addr × Rc)} {kvs : List (List Key × V)} (t : Til H0 H lp d w h r c ts kvs) (e : valV kvs (sqK r c) ≠ none) : Til H0 H lp d w h r (c + 1) ts kvs :=
  ⟨t.same, t.lst, t.dic, t.ats, t.ins, t.dis, t.own, t.tops, fun r' c' a1 a2 a3 a4 => by
    by_cases h1 : r' = r ∧ c' = c
    · obtain ⟨rfl, rfl⟩ := h1; exact (t.own _ _).mp e
    · exact t.done r' c' a1 a2 a3 (by first | lia | omega), by have := t.cnt; first | lia | omega, t.siz, t.bot⟩
theorem Til.line {H0 H : Hp} {lp d : Addr} {w h r : Int} {ts : List (Addr × Rc)} {kvs : List (List Key × V)} (t : Til H0 H lp d w h r w ts kvs) (hw : w ≤ 12) : Til H0 H lp d w h (r + 1) 0 ts kvs :=
  ⟨t.same, t.lst, t.dic, t.ats, t.ins, t.dis, t.own, fun p hp => by have := t.tops p hp; first | lia | omega, fun r' c' a1 a2 a3 a4 => t.done r' c' a1 a2 a3 (by first | lia | omega), by have := t.cnt; first | lia | omega, t.siz, t.bot⟩
theorem Til.tiles {H0 H : Hp} {lp d : Addr} {w h : Int} {ts : List (Addr × Rc)} {kvs : List (List Key × V)} (t : Til H0 H lp d w h h 0 ts kvs) (hw : w ≤ 12) : Tiles w h (rcs ts) ∧ ts.length ≤ 52 := by
  refine ⟨⟨t.ins, t.dis, fun r c a1 a2 a3 a4 => t.done r c a1 a3 a4 (.inl a2)⟩, ?_⟩
  have := bottom_few (w := w) (h := h) (ps := (rcs ts).drop 40) (fun p hp => t.ins p (List.mem_of_mem_drop hp)) t.bot (t.dis.sublist (List.drop_sublist _ _))
  rw [List.length_drop, List.length_map] at this
  first | lia | omega
/-- the squares of the new pane, by one number -/
theorem sq_num {wd hg r c i j : Int} (h1 : 1 ≤ wd) (h2 : 1 ≤ hg) : (∃ q, 0 ≤ q ∧ q < wd * hg ∧ r = i + q / wd ∧ c = j + q % wd) ↔ (i ≤ r ∧ r < i + hg ∧ j ≤ c ∧ c < j + wd) := by
  constructor
  · rintro ⟨q, q0, q1, rfl, rfl⟩
    have a1 : 0 ≤ q / wd := Int.ediv_nonneg q0 (by first | lia | omega)
    have a2 : q / wd < hg := Int.ediv_lt_of_lt_mul (by first | lia | omega) (by rw [Int.mul_comm]; exact q1)
    have a3 := Int.emod_nonneg q (b := wd) (by first | lia | omega)
    have a4 := Int.emod_lt_of_pos q (b := wd) (by first | lia | omega)
    first | lia | omega
  · rintro ⟨b1, b2, b3, b4⟩
    refine ⟨(r - i) * wd + (c - j), ?_, ?_, ?_, ?_⟩
    · have := Int.mul_nonneg (show 0 ≤ r - i by first | lia | omega) (show 0 ≤ wd by first | lia | omega)
      first | lia | omega
    · have e : (r - i + 1) * wd ≤ hg * wd := Int.mul_le_mul_of_nonneg_right (by first | lia | omega) (by first | lia | omega)
      rw [Int.add_mul, Int.one_mul] at e
      rw [Int.mul_comm wd hg]
      first | lia | omega
    · rw [Int.add_comm ((r - i) * wd), Int.add_mul_ediv_right _ _ (by first | lia | omega), Int.ediv_eq_zero_of_lt (by first | lia | omega) (by first | lia | omega)]
      first | lia | omega
    · rw [Int.add_comm ((r - i) * wd), Int.add_mul_emod_self_right, Int.emod_eq_of_lt (by first | lia | omega) (by first | lia | omega)]
      first | lia | omega
/-- one pane more -/
theorem Til.more {H0 H H' : Hp} {lp d t : Addr} {w h i j wd hg : Int} {ts : List (Addr × Rc)} {kvs kv : List (List Key × V)} (T : Til H0 H lp d w h i j ts kvs) (i0 : 0 ≤ i) (j0 : 0 ≤ j) (w1 : 1 ≤ wd) (w2 : j + wd ≤ w) (h1 : 1 ≤ hg) (h2 : i + hg ≤ h)
    (fr : ∀ x, j ≤ x → x < j + wd → valV kvs (sqK i x) = none) (hb : 39 < ts.length → i + hg = h) (hs : Same H0 H') (hl : H' lp = some (.lst (refs ts ++ [V.ref t]))) (hd : H' d = some (.dT kv)) (ha : At H' ts)
    (ht : H' t = some (.tup (four i j (i + hg) (j + wd)))) (hk : ∀ r c, valV kv (sqK r c) ≠ none ↔ (valV kvs (sqK r c) ≠ none ∨ (i ≤ r ∧ r < i + hg ∧ j ≤ c ∧ c < j + wd))) (hz : kv.length ≤ kvs.length + 144) :
    Til H0 H' lp d w h i (j + 1) (ts ++ [(t, ⟨i, j, i + hg, j + wd⟩)]) kv := by
  have ap : ∀ p ∈ rcs ts, Apart p ⟨i, j, i + hg, j + wd⟩ := fun p hp r c a b => by
    obtain ⟨a1, a2, a3, a4⟩ := a
    obtain ⟨b1, b2, b3, b4⟩ := b
    have tp := T.tops p hp
    simp only at b1 b2 b3 b4
    exact (T.own i c).mpr ⟨p, hp, ⟨tp, by first | lia | omega, a3, a4⟩⟩ (fr c b3 b4)
  refine ⟨hs, by rw [hl, refs_snoc], hd, fun u hu => ?_, fun p hp => ?_, ?_, fun r c => ?_, fun p hp => ?_, fun r c a1 a2 a3 a4 => ?_, ?_, ?_, fun p hp => ?_⟩
  · rcases List.mem_append.mp hu with hu | hu
    · exact ha u hu
    · rw [List.mem_singleton.mp hu]; exact ht
  · rw [rcs_snoc] at hp
    rcases List.mem_append.mp hp with hp | hp
    · exact T.ins p hp
    · rw [List.mem_singleton.mp hp]
      exact ⟨i0, by show i < i + hg; first | lia | omega, h2, j0, by show j < j + wd; first | lia | omega, w2⟩
  · rw [rcs_snoc, List.pairwise_append]
    exact ⟨T.dis, List.pairwise_singleton _ _, fun p hp q hq => by rw [List.mem_singleton.mp hq]; exact ap p hp⟩
  · rw [hk, T.own, rcs_snoc]
    constructor
    · rintro (⟨p, hp, hh⟩ | hh)
      · exact ⟨p, List.mem_append_left _ hp, hh⟩
      · exact ⟨_, List.mem_append_right _ (List.mem_singleton.mpr rfl), hh⟩
    · rintro ⟨p, hp, hh⟩
      rcases List.mem_append.mp hp with hp | hp
      · exact .inl ⟨p, hp, hh⟩
      · rw [List.mem_singleton.mp hp] at hh; exact .inr hh
  · rw [rcs_snoc] at hp
    rcases List.mem_append.mp hp with hp | hp
    · exact T.tops p hp
    · rw [List.mem_singleton.mp hp]; exact Int.le_refl _
  · rw [rcs_snoc]
    by_cases e : r = i ∧ c = j
    · obtain ⟨rfl, rfl⟩ := e
      exact ⟨_, List.mem_append_right _ (List.mem_singleton.mpr rfl), ⟨Int.le_refl _, by show r < r + hg; first | lia | omega, Int.le_refl _, by show c < c + wd; first | lia | omega⟩⟩
    · obtain ⟨p, hp, hh⟩ := T.done r c a1 a2 a3 (by first | lia | omega)
      exact ⟨p, List.mem_append_left _ hp, hh⟩
  · have := T.cnt
    rw [List.length_append]
    simp only [List.length_cons, List.length_nil]
    first | lia | omega
  · have := T.siz
    rw [List.length_append]
    simp only [List.length_cons, List.length_nil]
    first | lia | omega
  · rw [rcs_snoc] at hp
    by_cases e : 39 < ts.length
    · rw [List.drop_append_of_le_length (by rw [List.length_map]; first | lia | omega)] at hp
      rcases List.mem_append.mp hp with hp | hp
      · exact T.bot p hp
      · rw [List.mem_singleton.mp hp]; exact hb e
    · rw [List.drop_of_length_le (by rw [List.length_append, List.length_map]; simp; first | lia | omega)] at hp
      cases hp
def nth (b : List Stmt) (i : Nat) : Stmt := b.getD i (.Pass ⟨0, 0, 0, 0⟩)
def forBody : Stmt → List Stmt
  | .For _ _ b _ _ => b
  | _ => []
def muFree (ww : Int) (σ : St) : Nat := match σ[9]? with
  | some (some (V.int q)) => (ww - q).toNat
  | _ => 0
theorem pow20 : CPow 10 20 := ⟨by decide, by decide, by decide⟩
theorem div20 (z : Int) : CDivL z (10 ^ (20 : Int).toNat) := ⟨by decide +kernel, by decide +kernel⟩
abbrev N_tiled : List Str := ["_law_script", "_law_k", "_law_width", "_law_height", "_law_most", "_law_panes", "_law_owned", "_law_row", "_law_column", "_law_free", "_law_purse_here", "_law_wide", "_law_high", "_law_square"]
theorem S_law_tiled : FnScope N_tiled ["_law_script", "_law_k", "_law_width", "_law_height"] (defScope s__law_tiled) := ⟨rfl, rfl, rfl, by decide +kernel, rfl, by decide +kernel, by decide +kernel⟩
theorem ok_law_tiled {f : Addr} {fd : FuncData} (F : Fun K "_law_tiled" "_law_tiled" s__law_tiled f fd) (T : Txt mg tk) (D__law_purse : DefOk P w K mg base 1 "_law_purse" ["_law_script", "_law_k"] (sp_purse K)) (D__law_take : DefOk P w K mg base 1 "_law_take" ["_law_purse_here", "_law_many"] sp_take) :
    FnOk P w K mg base CX0 2 f fd ["_law_script", "_law_k", "_law_width", "_law_height"] (sp_tiled K) := by
  have S := S_law_tiled
  refine F.ok S (fun vs H Q E h => ?_) (fun cdv A outer s H vs Q E hr h => ?_)
  · obtain ⟨a, ns, k, w, h, rfl, _⟩ := h; rfl
  · obtain ⟨a, ns, k, ww, h, rfl, hS, k0, k1, gw, gh, q⟩ := h
    have hu := hu_of hr
    -- the last two statements of a turn: the pane, and its squares
    obtain ⟨tt, htt, fin⟩ : ∃ rd, PSs (cxOf CX0 P w K mg base N_tiled "_law_tiled" (defScope s__law_tiled) f cdv A outer s H E).nox ((forBody (nth (forBody (nth (defBody s__law_tiled) 3)) 0)).drop 7) rd ∧
        ∀ (D : Ends) (lp d pp : Addr) (i j fr wd hg m : Int) (x13 : Option V) (ts : List (Addr × Rc)) (kvs : List (List Key × V)) (H5 : Hp), Til H H5 lp d ww h i j ts kvs → H lp = none → H d = none → 0 ≤ i → i < h → 0 ≤ j → j < ww → 1 ≤ wd → j + wd ≤ ww → 1 ≤ hg → i + hg ≤ h →
          (∀ x, j ≤ x → x < j + wd → valV kvs (sqK i x) = none) → (39 < ts.length → i + hg = h) →
          (∀ (x13 : Option V) (ts' : List (Addr × Rc)) (kvs' : List (List Key × V)) (H6 : Hp), Til H H6 lp d ww h i (j + 1) ts' kvs' → D.nx [some (.ref a), some (.int k), some (.int ww), some (.int h), some (.int m), some (.ref lp), some (.ref d), some (.int i), some (.int j), some (.int fr), some (.ref pp), some (.int wd), some (.int hg), x13] H6) →
          rd D [some (.ref a), some (.int k), some (.int ww), some (.int h), some (.int m), some (.ref lp), some (.ref d), some (.int i), some (.int j), some (.int fr), some (.ref pp), some (.int wd), some (.int hg), x13] H5 := by
      refine ⟨_, (pss_cons (ps_expr (pe_bm PySem.F.plainAttrs_list PySem.F.slot_list_append PySem.F.type_list_append mt_append (pv 5) (pa_cons (pe_tup (pa_cons (pv 7) (pa_cons (pv 8) (pa_cons (pe_op op_add (pv 7) (pv 12)) (pa_cons (pe_op op_add (pv 8) (pv 11)) pa_nil))))) pa_nil)))
      (pss_one (ps_for PassesOwn.never rfl (pi_range1 rfl T.z_range (pa_cons (pe_op op_mulL (pv 11) (pv 12)) pa_nil)) (pg_name (i := 13) S.nd rfl (Or.inl rfl)) (pss_one (ps_dput hu (pv 6) (pe_tup (pa_cons (pe_op op_add (pv 7) (pe_op op_fdivL (pv 13) (pv 11))) (pa_cons (pe_op op_add (pv 8) (pe_op op_mod (pv 13) (pv 11))) pa_nil))) pe_bl rfl))))), ?_⟩
      intro D lp d pp i j fr wd hg m x13 ts kvs H5 T5 nlp nd i0 i1 j0 j1 w1 w2 h1 h2 hfr hb nx
      have nlpd : lp ≠ d := ne_of T5.lst T5.dic (by intro z; cases z)
      have few : ts.length ≤ 200 := by have := T5.cnt; first | lia | omega
      refine ⟨_, rfl, .inl ⟨rfl, _, SqL.of T5.lst⟩, _, rfl, _, rfl, _, rfl, _, rfl, _, _, rfl, rfl, _, rfl, _, rfl, _, _, rfl, rfl, lenOk 4, fun t ht => ?_⟩
      have nlt : lp ≠ t := ne_of_none T5.lst ht
      have ndt : d ≠ t := ne_of_none T5.dic ht
      refine ⟨lp, _, _, rfl, rfl, by rw [upd_ne nlt]; exact T5.lst, small1000 (by rw [List.length_map]; first | lia | omega), ?_⟩
      have l6 : (upd (upd H5 t (.tup (four i j (i + hg) (j + wd)))) lp (.lst (refs ts ++ [V.ref t]))) lp = some (.lst (refs ts ++ [V.ref t])) := upd_same
      have t6 : (upd (upd H5 t (.tup (four i j (i + hg) (j + wd)))) lp (.lst (refs ts ++ [V.ref t]))) t = some (.tup (four i j (i + hg) (j + wd))) := by rw [upd_ne (Ne.symm nlt)]; exact upd_same
      have d6 : (upd (upd H5 t (.tup (four i j (i + hg) (j + wd)))) lp (.lst (refs ts ++ [V.ref t]))) d = some (.dT kvs) := by rw [upd_ne (Ne.symm nlpd), upd_ne ndt]; exact T5.dic
      have s6 : Same H (upd (upd H5 t (.tup (four i j (i + hg) (j + wd)))) lp (.lst (refs ts ++ [V.ref t]))) := fun b o e => by
        rw [upd_ne (ne_of_none e nlp), upd_ne (ne_of_none (T5.same _ _ e) ht)]; exact T5.same b o e
      have a6 : At (upd (upd H5 t (.tup (four i j (i + hg) (j + wd)))) lp (.lst (refs ts ++ [V.ref t]))) ts := fun u hu => by
        have e := T5.ats u hu
        rw [upd_ne (ne_of e T5.lst (by intro z; cases z)), upd_ne (ne_of_none e ht)]; exact e
      generalize upd (upd H5 t (.tup (four i j (i + hg) (j + wd)))) lp (.lst (refs ts ++ [V.ref t])) = H6 at l6 t6 d6 s6 a6 ⊢
      have area : 0 ≤ wd * hg ∧ wd * hg ≤ 144 := by
        refine ⟨Int.mul_nonneg (by first | lia | omega) (by first | lia | omega), ?_⟩
        have e1 : wd * hg ≤ 12 * hg := Int.mul_le_mul_of_nonneg_right (by first | lia | omega) (by first | lia | omega)
        first | lia | omega
      refine ⟨_, rfl, _, rfl, _, _, rfl, rfl, mulOk_of (by first | lia | omega) (by first | lia | omega), wd * hg, rfl, by first | lia | omega, by first | lia | omega, for_range (lo := 0) (n := (wd * hg).toNat)
        (fun n σ H' => ∃ (x13 : Option V) (kv : List (List Key × V)), σ = [some (.ref a), some (.int k), some (.int ww), some (.int h), some (.int m), some (.ref lp), some (.ref d), some (.int i), some (.int j), some (.int fr), some (.ref pp), some (.int wd), some (.int hg), x13] ∧
          SameX d H6 H' ∧ H' d = some (.dT kv) ∧ kv.length ≤ kvs.length + n ∧ ∀ r c, valV kv (sqK r c) ≠ none ↔ (valV kvs (sqK r c) ≠ none ∨ ∃ q : Int, 0 ≤ q ∧ q < n ∧ r = i + q / wd ∧ c = j + q % wd))
        ⟨x13, kvs, rfl, SameX.refl, d6, by first | lia | omega, fun r c => ⟨.inl, fun z => z.elim id fun ⟨q, q0, q1, _⟩ => by first | lia | omega⟩⟩ ?_ ?_⟩
      · rintro n σ H' hn ⟨x13, kv, rfl, sx, dk, dl, dv⟩
        rw [Int.zero_add]
        have hdiv : CDivL (n : Int) wd := ⟨by first | lia | omega, Nat.lt_trans (log2_lt_of (k := 64) (by decide) (by first | lia | omega)) (by decide)⟩
        refine ⟨_, rfl, _, rfl, _, rfl, _, rfl, _, _, rfl, rfl, hdiv, _, _, rfl, rfl, _, rfl, _, rfl, _, rfl, _, _, rfl, rfl, (show 0 < wd by first | lia | omega), _, _, rfl, rfl, lenOk 2, fun y hy => ?_⟩
        have ndy : d ≠ y := ne_of_none dk hy
        refine ⟨d, _, rfl, DPut.t (k := sqK (i + n / wd) (j + n % wd)) (by rw [upd_ne ndy]; exact dk) upd_same (Nat.lt_of_le_of_lt (m := 40000) (by have := T5.siz; first | lia | omega) (by rw [sizeLine_eq]; decide)), ?_⟩
        refine ⟨_, _, rfl, fun b o nb e => ?_, upd_same, ?_, fun r c => ?_⟩
        · rw [upd_ne nb, upd_ne (ne_of_none (sx b o nb e) hy)]; exact sx b o nb e
        · have := length_putK kv (sqK (i + n / wd) (j + n % wd)) (V.bl true)
          first | lia | omega
        · rw [valV_put]
          by_cases e : sqK r c = sqK (i + n / wd) (j + n % wd)
          · rw [if_pos e]
            obtain ⟨e1, e2⟩ := sqK_inj e
            exact ⟨fun _ => .inr ⟨n, by first | lia | omega, by first | lia | omega, e1, e2⟩, fun _ z => by cases z⟩
          · rw [if_neg e, dv]
            constructor
            · rintro (z | ⟨q, q0, q1, q2, q3⟩)
              · exact .inl z
              · exact .inr ⟨q, q0, by first | lia | omega, q2, q3⟩
            · rintro (z | ⟨q, q0, q1, q2, q3⟩)
              · exact .inl z
              · refine .inr ⟨q, q0, ?_, q2, q3⟩
                by_cases eq : q = (n : Int)
                · subst eq; exact absurd (by rw [q2, q3]) e
                · first | lia | omega
      · rintro σ H' ⟨x13, kv, rfl, sx, dk, dl, dv⟩
        have nl := ne_of l6 d6 (by intro z; cases z)
        have nt := ne_of t6 d6 (by intro z; cases z)
        refine nx x13 _ kv H' (T5.more i0 j0 w1 w2 h1 h2 hfr hb (fun b o e => sx b o (ne_of_none e nd) (s6 b o e)) (sx _ _ nl l6) dk (fun u hu => sx _ _ (ne_of (a6 u hu) d6 (by intro z; cases z)) (a6 u hu)) (sx _ _ nt t6) (fun r c => ?_) (by first | lia | omega))
        rw [dv, ← sq_num (i := i) (j := j) w1 h1]
        have en : (((wd * hg).toNat : Nat) : Int) = wd * hg := Int.toNat_of_nonneg area.1
        rw [en]
    -- from the purse on
    obtain ⟨t2, ht2, fin2⟩ : ∃ rd, PSs (cxOf CX0 P w K mg base N_tiled "_law_tiled" (defScope s__law_tiled) f cdv A outer s H E).nox ((forBody (nth (forBody (nth (defBody s__law_tiled) 3)) 0)).drop 3) rd ∧
        ∀ (D : Ends) (lp d : Addr) (i j fr m : Int) (x10 x11 x12 x13 : Option V) (ts : List (Addr × Rc)) (kvs : List (List Key × V)) (H5 : Hp), Til H H5 lp d ww h i j ts kvs → H lp = none → H d = none → 0 ≤ i → i < h → 0 ≤ j → j < ww → 1 ≤ fr → j + fr ≤ ww → 2 ≤ m → m ≤ 12 →
          (∀ x, j ≤ x → x < j + fr → valV kvs (sqK i x) = none) →
          (∀ (x9 x10 x11 x12 x13 : Option V) (ts' : List (Addr × Rc)) (kvs' : List (List Key × V)) (H6 : Hp), Til H H6 lp d ww h i (j + 1) ts' kvs' → D.nx [some (.ref a), some (.int k), some (.int ww), some (.int h), some (.int m), some (.ref lp), some (.ref d), some (.int i), some (.int j), x9, x10, x11, x12, x13] H6) →
          rd D [some (.ref a), some (.int k), some (.int ww), some (.int h), some (.int m), some (.ref lp), some (.ref d), some (.int i), some (.int j), some (.int fr), x10, x11, x12, x13] H5 := by
      refine ⟨_, (pss_cons (ps_set (i := 10) S.nd rfl (Or.inl rfl) (pe_fn D__law_purse hr (pa_cons (pv 0) (pa_cons (pe_op op_add (pv 1) (pe_callB call_len_seq rfl T.z_len rfl (pa_cons (pv 5) pa_nil))) pa_nil))))
      (pss_cons (ps_set (i := 11) S.nd rfl (Or.inl rfl) (pe_op op_add pe_int (pe_fn D__law_take hr (pa_cons (pv 10) (pa_cons (pe_callB (call_min2 rfl) rfl T.z_min rfl (pa_cons (pv 4) (pa_cons (pv 9) pa_nil))) pa_nil)))))
      (pss_cons (ps_set (i := 12) S.nd rfl (Or.inl rfl) (pe_op op_add pe_int (pe_fn D__law_take hr (pa_cons (pv 10) (pa_cons (pe_callB (call_min2 rfl) rfl T.z_min rfl (pa_cons (pv 4) (pa_cons (pe_op op_sub (pv 3) (pv 7)) pa_nil))) pa_nil)))))
      (pss_cons (ps_if (pt_cmpR op_gt (pe_callB call_len_seq rfl T.z_len rfl (pa_cons (pv 5) pa_nil)) pe_int (nomark _)) (pss_cons (ps_set (i := 11) S.nd rfl (Or.inl rfl) (pv 9))
      (pss_one (ps_set (i := 12) S.nd rfl (Or.inl rfl) (pe_op op_sub (pv 3) (pv 7))))) pss_nil)
      htt)))), ?_⟩
      intro D lp d i j fr m x10 x11 x12 x13 ts kvs H5 T5 nlp nd i0 i1 j0 j1 f1 f2 m1 m2 hfr nx
      have few : (ts.length : Int) ≤ 200 := by have := T5.cnt; first | lia | omega
      refine ⟨_, rfl, _, rfl, _, rfl, lp, _, rfl, .inl (SqL.of T5.lst), _, _, rfl, rfl, a, ns, _, rfl, T5.same.seq hS, by first | lia | omega, by rw [List.length_map]; first | lia | omega, fun pp z hpp => ?_⟩
      refine ⟨_, rfl, _, rfl, _, rfl, _, _, rfl, pp, z, _, rfl, upd_same, by split <;> first | lia | omega, by split <;> first | lia | omega, fun r1 z1 r10 r11 => ⟨_, _, rfl, rfl, ?_⟩⟩
      refine ⟨_, rfl, _, rfl, _, rfl, _, rfl, _, _, rfl, rfl, _, _, rfl, pp, z1, _, rfl, upd_same, by split <;> first | lia | omega, by split <;> first | lia | omega, fun r2 z2 r20 r21 => ⟨_, _, rfl, rfl, ?_⟩⟩
      have T8 : Til H (upd (upd (upd H5 pp (.lst [.int z])) pp (.lst [.int z1])) pp (.lst [.int z2])) lp d ww h i j ts kvs := T5.to fun b o e => by
        have n := ne_of_none e hpp
        rw [upd_ne n, upd_ne n, upd_ne n]; exact e
      have b1 : r1 + 1 ≤ fr := by split at r11 <;> first | lia | omega
      have b2 : r2 + 1 ≤ h - i := by split at r21 <;> first | lia | omega
      refine ⟨_, rfl, lp, _, rfl, .inl (SqL.of T8.lst), _, _, rfl, rfl, _, rfl, ite3 (fun hb => ?_) (fun hb => ?_)⟩
      · refine ⟨_, rfl, _, rfl, _, rfl, _, _, rfl, rfl, ?_⟩
        exact fin D lp d pp i j fr fr (h - i) m x13 ts kvs _ T8 nlp nd i0 i1 j0 j1 (by first | lia | omega) (by first | lia | omega) (by first | lia | omega) (by first | lia | omega) hfr (fun _ => by first | lia | omega) fun y13 ts' kvs' H6 T6 => nx _ _ _ _ _ ts' kvs' H6 T6
      · have hb' := of_decide_eq_false hb
        rw [List.length_map] at hb'
        exact fin D lp d pp i j fr (1 + r1) (1 + r2) m x13 ts kvs _ T8 nlp nd i0 i1 j0 j1 (by first | lia | omega) (by first | lia | omega) (by first | lia | omega) (by first | lia | omega) (fun x hx1 hx2 => hfr x hx1 (by first | lia | omega)) (fun z => by first | lia | omega) fun y13 ts' kvs' H6 T6 => nx _ _ _ _ _ ts' kvs' H6 T6
    refine ⟨_, (pss_cons (ps_set (i := 4) S.nd rfl (Or.inl rfl) (pe_ix ix_list (pe_lst (pa_cons pe_int (pa_cons pe_int (pa_cons pe_int (pa_cons pe_int pa_nil))))) (pe_op op_mod (pe_op op_fdivL (pe_ix ix_list (pe_fn D__law_purse hr (pa_cons (pv 0) (pa_cons pe_int pa_nil))) pe_int (fun _ _ => rfl)) (pe_op op_pow pe_int pe_int)) pe_int) (fun _ _ => rfl)))
      (pss_cons (ps_set (i := 5) S.nd rfl (Or.inl rfl) (pe_lst pa_nil))
      (pss_cons (ps_set (i := 6) S.nd rfl (Or.inl rfl) pe_dnewT)
      (pss_cons (ps_for PassesOwn.never rfl (pi_range1 rfl T.z_range (pa_cons (pv 3) pa_nil)) (pg_name (i := 7) S.nd rfl (Or.inl rfl)) (pss_one (ps_for PassesOwn.never rfl (pi_range1 rfl T.z_range (pa_cons (pv 2) pa_nil)) (pg_name (i := 8) S.nd rfl (Or.inl rfl)) (pss_cons (ps_if (pt_cmp (pc_din hu (pe_tup (pa_cons (pv 7) (pa_cons (pv 8) pa_nil))) (pv 6))) (pss_one ps_continue) pss_nil)
      (pss_cons (ps_set (i := 9) S.nd rfl (Or.inl rfl) pe_int)
      (pss_cons (ps_while PassesOwn.never (PW.pt (pw_and (pt_cmpR op_lt (pe_op op_add (pv 8) (pv 9)) (pv 2) (nomark _)) (pw_and1 (pt_cmp (pc_dnotin hu (pe_tup (pa_cons (pv 7) (pa_cons (pe_op op_add (pv 8) (pv 9)) pa_nil))) (pv 6)))))) (pss_one (ps_set (i := 9) S.nd rfl (Or.inl rfl) (pe_op op_add (pv 9) pe_int))))
      ht2))))))
      (pss_one (ps_ret (pv 5))))))), ?_⟩
    refine ⟨lenOk 4, fun l0 h0 => ?_⟩
    have s0 : Same H (upd H l0 (.lst [.int 12, .int 3, .int 2, .int 12])) := Same.new h0
    refine ⟨_, rfl, a, ns, 0, rfl, s0.seq hS, by decide, by decide, fun p0 z0 hp0 => ?_⟩
    have n0 : l0 ≠ p0 := ne_of_none upd_same hp0
    obtain ⟨v, hv, hm⟩ := atI_in (L := [V.int 12, V.int 3, V.int 2, V.int 12]) (i := z0 / 10 ^ (20 : Int).toNat % 4) (Int.emod_nonneg _ (by decide)) (by show _ < (4 : Int); exact Int.emod_lt_of_pos _ (by decide))
    obtain ⟨m, rfl, m1, m2⟩ : ∃ m, v = .int m ∧ 2 ≤ m ∧ m ≤ 12 := by
      simp only [List.mem_cons, List.not_mem_nil, or_false] at hm
      rcases hm with rfl | rfl | rfl | rfl <;> exact ⟨_, rfl, by decide, by decide⟩
    refine ⟨p0, _, _, _, rfl, rfl, SqL.of upd_same, rfl, _, _, rfl, rfl, pow20, _, _, rfl, rfl, div20 _, _, _, rfl, rfl, (show (0 : Int) < 4 from by decide), l0, _, _, _, rfl, rfl, SqL.of (by rw [upd_ne n0]; exact upd_same), hv, ?_⟩
    have s1 := s0.trans (Same.new (o := .lst [.int z0]) hp0)
    generalize upd (upd H l0 (.lst [.int 12, .int 3, .int 2, .int 12])) p0 (.lst [.int z0]) = H1 at s1 ⊢
    refine ⟨lenOk 0, fun lp hlp => ?_⟩
    intro d hd
    have nlp : H lp = none := s1.free hlp
    have nd : H d = none := (s1.trans (Same.new hlp)).free hd
    have nlpd : lp ≠ d := ne_of_none upd_same hd
    have T0 : Til H (upd (upd H1 lp (.lst [])) d (.dT [])) lp d ww h 0 0 [] [] := ⟨(s1.trans (Same.new hlp)).trans (Same.new hd), by rw [upd_ne nlpd]; exact upd_same, upd_same, fun t ht => (nomatch ht), fun p hp => (nomatch hp), List.Pairwise.nil,
      fun r c => ⟨fun z => absurd rfl z, fun ⟨p, hp, _⟩ => (nomatch hp)⟩, fun p hp => (nomatch hp), fun r c a1 a2 a3 a4 => by first | lia | omega, by simp, by simp, fun p hp => by simp at hp⟩
    refine ⟨_, rfl, h, rfl, by first | lia | omega, by first | lia | omega, for_range (lo := 0) (n := h.toNat) (fun i σ H' => ∃ x7 x8 x9 x10 x11 x12 x13 ts kvs, σ = [some (.ref a), some (.int k), some (.int ww), some (.int h), some (.int m), some (.ref lp), some (.ref d), x7, x8, x9, x10, x11, x12, x13] ∧ Til H H' lp d ww h i 0 ts kvs)
      ⟨_, _, _, _, _, _, _, [], [], rfl, T0⟩ ?_ ?_⟩
    · rintro i σ H2 hi ⟨x7, x8, x9, x10, x11, x12, x13, ts, kvs, rfl, T2⟩
      rw [Int.zero_add]
      refine ⟨_, rfl, ww, rfl, by first | lia | omega, by first | lia | omega, for_range (lo := 0) (n := ww.toNat) (fun j σ H' => ∃ x8 x9 x10 x11 x12 x13 ts kvs, σ = [some (.ref a), some (.int k), some (.int ww), some (.int h), some (.int m), some (.ref lp), some (.ref d), some (.int i), x8, x9, x10, x11, x12, x13] ∧ Til H H' lp d ww h i j ts kvs)
        ⟨_, _, _, _, _, _, ts, kvs, rfl, T2⟩ ?_ ?_⟩
      · rintro j σ H3 hj ⟨x8, x9, x10, x11, x12, x13, ts, kvs, rfl, T3⟩
        rw [Int.zero_add]
        refine ⟨_, rfl, _, rfl, lenOk 2, fun t ht => ?_⟩
        have T4 := T3.to (Same.new (o := .tup [.int i, .int j]) ht)
        have dg := DGet.t (k := sqK i j) T4.dic upd_same
        cases e : valV kvs (sqK i j) with
        | some v =>
          rw [e] at dg
          refine ⟨_, rfl, d, _, rfl, dg, _, rfl, iteT ?_⟩
          exact ⟨_, _, _, _, _, _, ts, kvs, rfl, T4.skip (by rw [e]; intro z; cases z)⟩
        | none =>
          rw [e] at dg
          refine ⟨_, rfl, d, _, rfl, dg, _, rfl, iteF ?_⟩
          refine while_by (fun σ H' => ∃ fr, σ = [some (.ref a), some (.int k), some (.int ww), some (.int h), some (.int m), some (.ref lp), some (.ref d), some (.int i), some (.int j), some (.int fr), x10, x11, x12, x13] ∧ Til H H' lp d ww h i j ts kvs ∧ 1 ≤ fr ∧ j + fr ≤ ww ∧ ∀ x, (j : Int) ≤ x → x < j + fr → valV kvs (sqK i x) = none)
            (fun σ _ => muFree ww σ) ⟨1, rfl, T4, by first | lia | omega, by first | lia | omega, fun x h1 h2 => by rw [show x = (j : Int) by first | lia | omega]; exact e⟩ ?_ ?_
          · rintro σ H5 ⟨fr, rfl, T5, f1, f2, f3⟩
            refine ⟨_, rfl, _, rfl, _, _, rfl, rfl, _, rfl, _, _, rfl, rfl, _, rfl, ite3 (fun hlt => ?_) (fun hge => ?_)⟩
            · have hlt' := of_decide_eq_true hlt
              refine ⟨_, rfl, _, rfl, _, rfl, _, _, rfl, rfl, lenOk 2, fun y hy => ?_⟩
              have T6 := T5.to (Same.new (o := .tup [.int i, .int (j + fr)]) hy)
              have dg2 := DGet.t (k := sqK i (j + fr)) T6.dic upd_same
              cases e2 : valV kvs (sqK i (j + fr)) with
              | none =>
                rw [e2] at dg2
                refine ⟨_, rfl, d, _, rfl, dg2, _, rfl, iteT ?_⟩
                refine ⟨_, rfl, _, _, rfl, rfl, ⟨fr + 1, rfl, T6, by first | lia | omega, by first | lia | omega, fun x h1 h2 => ?_⟩, ?_⟩
                · by_cases ex : x = j + fr
                  · rw [ex]; exact e2
                  · exact f3 x h1 (by first | lia | omega)
                · show (ww - (fr + 1)).toNat < (ww - fr).toNat
                  first | lia | omega
              | some v =>
                rw [e2] at dg2
                refine ⟨_, rfl, d, _, rfl, dg2, _, rfl, iteF ?_⟩
                refine fin2 _ lp d i j fr m _ _ _ _ ts kvs _ T6 nlp nd (by first | lia | omega) (by first | lia | omega) (by first | lia | omega) (by first | lia | omega) f1 f2 m1 m2 f3 ?_
                exact fun _ _ _ _ _ ts' kvs' H6 T6 => ⟨_, _, _, _, _, _, ts', kvs', rfl, T6⟩
            · refine iteF ?_
              refine fin2 _ lp d i j fr m _ _ _ _ ts kvs _ T5 nlp nd (by first | lia | omega) (by first | lia | omega) (by first | lia | omega) (by first | lia | omega) f1 f2 m1 m2 f3 ?_
              exact fun _ _ _ _ _ ts' kvs' H6 T6 => ⟨_, _, _, _, _, _, ts', kvs', rfl, T6⟩
          · rintro σ H5 Q1 Q2 hq ⟨v8, e8, v9, e9, i1, i2, r1, r2, v2, e2, i3, i4, r3, r4, b, rb, hh⟩
            refine ⟨v8, e8, v9, e9, i1, i2, r1, r2, v2, e2, i3, i4, r3, r4, b, rb, ?_⟩
            cases b with
            | false =>
              rw [if_neg Bool.false_ne_true] at hh ⊢
              exact hq _ _ hh
            | true =>
              rw [if_pos rfl] at hh ⊢
              obtain ⟨v7, e7, v8', e8', v9', e9', i5, i6, r5, r6, hz, all⟩ := hh
              exact ⟨v7, e7, v8', e8', v9', e9', i5, i6, r5, r6, hz, fun p hp => let ⟨v6, e6, a, o, ra, dg, c, rc, hQ⟩ := all p hp; ⟨v6, e6, a, o, ra, dg, c, rc, hq _ _ hQ⟩⟩
      · rintro σ H3 ⟨x8, x9, x10, x11, x12, x13, ts, kvs, rfl, T3⟩
        have ew : ((ww.toNat : Nat) : Int) = ww := by first | lia | omega
        rw [ew] at T3
        exact ⟨_, _, _, _, _, _, _, ts, kvs, rfl, by have := T3.line gw.2; push_cast; exact this⟩
    · rintro σ H3 ⟨x7, x8, x9, x10, x11, x12, x13, ts, kvs, rfl, T3⟩
      have eh : ((h.toNat : Nat) : Int) = h := by first | lia | omega
      rw [eh] at T3
      obtain ⟨til, few⟩ := T3.tiles gw.2
      exact ⟨_, rfl, q lp ts H3 T3.same nlp T3.lst T3.ats til few⟩
/-- what sorted asks, and gives, of a list of panes -/
def lsL (us : List (Addr × Rc)) : List (Addr × List Int) := us.map fun t => (t.1, t.2.ls)
theorem lsL_refs (us : List (Addr × Rc)) : (lsL us).map (fun t => V.ref t.1) = refs us := by unfold lsL; rw [List.map_map]; rfl
theorem sr0 {us : List (Addr × Rc)} (h : us.length ≤ 52) : (lsL us).length < 64 := by unfold lsL; rw [List.length_map]; first | lia | omega
theorem sr1 {H : Hp} {acc : Addr} {us : List (Addr × Rc)} (hl : SqL K H acc (refs us)) : SqL K H acc ((lsL us).map fun t => V.ref t.1) := by rw [lsL_refs]; exact hl
theorem sr2 {H : Hp} {us : List (Addr × Rc)} (ha : At H us) : ∀ t ∈ lsL us, t.2.length = 3 + 1 ∧ H t.1 = some (.tup (t.2.map V.int)) := fun z hz => by
  obtain ⟨t, ht, rfl⟩ := List.mem_map.mp hz
  exact ⟨rfl, ha t ht⟩
theorem sr3 {us : List (Addr × Rc)} {w h : Int} (hin : ∀ p ∈ rcs us, p.In w h) (hw : w ≤ 12) (hh : h ≤ 12) : ∀ t ∈ lsL us, ∀ u ∈ lsL us, HT.lexLt t.2 u.2 = decide (key t.2 < key u.2) := fun z hz y hy => by
  obtain ⟨t, ht, rfl⟩ := List.mem_map.mp hz
  obtain ⟨u, hu', rfl⟩ := List.mem_map.mp hy
  exact key_lt (hin _ (List.mem_map.mpr ⟨t, ht, rfl⟩)) (hin _ (List.mem_map.mpr ⟨u, hu', rfl⟩)) hw hh hw hh
theorem sr4 {us : List (Addr × Rc)} {zs : List (Addr × List Int)} (hp : zs.Perm (lsL us)) (hs : (zs.map fun t => key t.2).Pairwise (· ≤ ·)) : ∃ us', us'.Perm us ∧ zs = lsL us' ∧ Srt (rcs us') := by
  obtain ⟨us', hp', rfl⟩ := perm_unmap hp rfl
  refine ⟨us', hp', rfl, ?_⟩
  unfold Srt
  rw [List.map_map] at hs ⊢
  exact hs
theorem no_panes {w h : Int} {ls ld : Addr} : (flds w h ls ld).lookup ("panes" : Str) = none := flds_no _ _ _ _ (by decide +kernel) (by decide +kernel) (by decide +kernel) (by decide +kernel)
theorem mul64 {a b : Int} (h1 : -18446744073709551616 < a) (h2 : a < 18446744073709551616) (h3 : -18446744073709551616 < b) (h4 : b < 18446744073709551616) : IntMulOk a b := by
  have c : (2 : Nat) ^ 128 = 340282366920938463463374607431768211456 := by decide +kernel
  refine mulOk_of ?_ ?_ <;> rw [c] <;> first | lia | omega
theorem at0s {xs : List V} {x : V} (h : xs[0]? = some x) : atI xs 0 = some x := atI_nat h
/-- the dict of letters, behind the squares L -/
structure SBL (H0 H : Hp) (d : Addr) (es : List Ent) (L : List (Nat × (Int × Int))) : Prop where
  same : Same H0 H
  nd : H0 d = none
  dic : H d = some (.dK (es.map kvE))
  ats : EntsAt H es
  new : ∀ e ∈ es, H0 e.2.1 = none
  dis : (es.map (·.2.1)).Nodup
  era : es.map era = grp L
theorem SBL.nil {H : Hp} {d : Addr} (nd : H d = none) : SBL H (upd H d (.dK [])) d [] [] :=
  ⟨Same.new nd, nd, upd_same, ⟨fun e h => (nomatch h), fun e h => (nomatch h)⟩, fun e h => (nomatch h), List.nodup_nil, rfl⟩
theorem SBL.more {H0 H H1 : Hp} {d : Addr} {es : List Ent} {L : List (Nat × (Int × Int))} (b : SBL H0 H d es L) (s : Same H H1) : SBL H0 H1 d es L :=
  ⟨b.same.trans s, b.nd, s _ _ b.dic, ⟨fun e he => s _ _ (b.ats.lst e he), fun e he => (b.ats.sqa e he).same s⟩, b.new, b.dis, b.era⟩
theorem val_some {es : List Ent} {c : Nat} {v : V} : valV (es.map kvE) (Sum.inr (one c)) = some v → ∃ e ∈ es, e.1 = c ∧ v = .ref e.2.1 := by
  induction es with
  | nil => intro h; cases h
  | cons e r ih =>
    intro h
    rw [List.map_cons] at h
    by_cases hc : e.1 = c
    · rw [valV_pos (show (kvE e).1 = Sum.inr (one c) by unfold kvE; rw [hc])] at h
      cases h
      exact ⟨e, List.mem_cons_self, hc, rfl⟩
    · have hk : ¬ (kvE e).1 = Sum.inr (one c) := fun z => hc (by
        have z : (Sum.inr (one e.1) : Key) = Sum.inr (one c) := z
        have z := Sum.inr.inj z
        have z := congrArg (fun s : Str => s.cps.toList) z
        injection z)
      rw [valV_neg hk] at h
      obtain ⟨e', m, p⟩ := ih h
      exact ⟨e', List.mem_cons_of_mem _ m, p⟩
theorem val_none {es : List Ent} {c : Nat} (h : valV (es.map kvE) (Sum.inr (one c)) = none) : c ∉ es.map (·.1) := by
  intro hm
  obtain ⟨e, he, rfl⟩ := List.mem_map.mp hm
  exact valV_not h (List.mem_map.mpr ⟨kvE e, List.mem_map.mpr ⟨e, he, rfl⟩, rfl⟩)
theorem era_keys (es : List Ent) : (es.map era).map (·.1) = es.map (·.1) := by rw [List.map_map]; rfl
def addE (a t : Addr) (q : Int × Int) (x : Ent) : Ent := if x.2.1 = a then (x.1, x.2.1, x.2.2 ++ [(t, q)]) else x
theorem addE_id {a t : Addr} {q : Int × Int} : ∀ {es : List Ent}, a ∉ es.map (·.2.1) → es.map (addE a t q) = es
  | [], _ => rfl
  | x :: r, h => by
    rw [List.map_cons, List.mem_cons, not_or] at h
    rw [List.map_cons, addE_id h.2, addE, if_neg (fun z => h.1 z.symm)]
theorem addE_era {t : Addr} {q : Int × Int} {e : Ent} : ∀ {es : List Ent}, (es.map (·.1)).Nodup → (es.map (·.2.1)).Nodup → e ∈ es → (es.map (addE e.2.1 t q)).map era = grpAdd (es.map era) e.1 q
  | [], _, _, h => (nomatch h)
  | x :: r, n1, n2, h => by
    rw [List.map_cons, List.nodup_cons] at n1 n2
    rw [List.map_cons, List.map_cons, List.map_cons, grpAdd]
    rcases List.mem_cons.mp h with rfl | h
    · rw [if_pos (show (era e).1 = e.1 from rfl), addE_id n2.1, addE, if_pos rfl]
      refine congrArg (· :: r.map era) ?_
      show (e.1, (e.2.2 ++ [(t, q)]).map (·.2)) = (e.1, e.2.2.map (·.2) ++ [q])
      rw [List.map_append]; rfl
    · have d1 : ¬ (era x).1 = e.1 := fun z => n1.1 (List.mem_map.mpr ⟨e, h, z.symm⟩)
      have d2 : ¬ x.2.1 = e.2.1 := fun z => n2.1 (List.mem_map.mpr ⟨e, h, z.symm⟩)
      rw [if_neg d1, addE, if_neg d2, addE_era n1.2 n2.2 h]
theorem SBL.nd1 {H0 H : Hp} {d : Addr} {es : List Ent} {L : List (Nat × (Int × Int))} (b : SBL H0 H d es L) : (es.map (·.1)).Nodup := by
  rw [← era_keys, b.era]; exact grp_nodup L
theorem SBL.there {H0 H : Hp} {d t : Addr} {es : List Ent} {L : List (Nat × (Int × Int))} {e : Ent} {q : Int × Int} (b : SBL H0 H d es L) (he : e ∈ es) (ht : H t = none) :
    SBL H0 (upd (upd H t (.tup [.int q.1, .int q.2])) e.2.1 (.lst (srefs e.2.2 ++ [V.ref t]))) d (es.map (addE e.2.1 t q)) (L ++ [(e.1, q)]) := by
  have hel := b.ats.lst e he
  have n0 : e.2.1 ≠ t := ne_of_none hel ht
  have kp : ∀ c o, c ≠ e.2.1 → H c = some o → (upd (upd H t (.tup [.int q.1, .int q.2])) e.2.1 (.lst (srefs e.2.2 ++ [V.ref t]))) c = some o := fun c o h1 h2 => by rw [upd_ne h1, upd_ne (ne_of_none h2 ht)]; exact h2
  have hd : d ≠ e.2.1 := ne_of b.dic hel (by intro z; cases z)
  refine ⟨fun c o h => kp c o (fun z => by rw [z, b.new e he] at h; cases h) (b.same _ _ h), b.nd, ?_, ⟨?_, ?_⟩, ?_, ?_, ?_⟩
  · rw [kp _ _ hd b.dic, List.map_map]
    refine congrArg (fun l => some (HO.dK l)) (List.map_congr_left fun x _ => ?_)
    show kvE x = kvE (addE e.2.1 t q x)
    unfold addE; split <;> rfl
  · intro y hy
    obtain ⟨x, hx, rfl⟩ := List.mem_map.mp hy
    unfold addE
    split
    · rename_i hxe
      have : x = e := by
        obtain ⟨i, hi, rfl⟩ := List.getElem_of_mem hx
        obtain ⟨j, hj, rfl⟩ := List.getElem_of_mem he
        have p := List.pairwise_iff_getElem.mp b.dis
        rcases Nat.lt_trichotomy i j with h | h | h
        · exact absurd (by rw [List.getElem_map, List.getElem_map]; exact hxe) (p i j (by rw [List.length_map]; exact hi) (by rw [List.length_map]; exact hj) h)
        · subst h; rfl
        · exact absurd (by rw [List.getElem_map, List.getElem_map]; exact hxe.symm) (p j i (by rw [List.length_map]; exact hj) (by rw [List.length_map]; exact hi) h)
      subst this
      show _ = some (HO.lst (srefs (x.2.2 ++ [(t, q)])))
      rw [upd_same, srefs, srefs, List.map_append]; rfl
    · rename_i hxe
      exact kp _ _ hxe (b.ats.lst x hx)
  · intro y hy z hz
    obtain ⟨x, hx, rfl⟩ := List.mem_map.mp hy
    have old : ∀ s ∈ x.2.2, (upd (upd H t (.tup [.int q.1, .int q.2])) e.2.1 (.lst (srefs e.2.2 ++ [V.ref t]))) s.1 = some (.tup [.int s.2.1, .int s.2.2]) := fun s hs =>
      kp _ _ (ne_of (b.ats.sqa x hx s hs) hel (by intro z; cases z)) (b.ats.sqa x hx s hs)
    unfold addE at hz
    split at hz
    · rcases List.mem_append.mp hz with hz | hz
      · exact old z hz
      · rw [List.mem_singleton.mp hz, upd_ne (Ne.symm n0)]; exact upd_same
    · exact old z hz
  · intro y hy
    obtain ⟨x, hx, rfl⟩ := List.mem_map.mp hy
    have : (addE e.2.1 t q x).2.1 = x.2.1 := by unfold addE; split <;> rfl
    rw [this]; exact b.new x hx
  · rw [List.map_map, show es.map ((fun x : Ent => x.2.1) ∘ addE e.2.1 t q) = es.map (·.2.1) from List.map_congr_left fun x _ => by show (addE e.2.1 t q x).2.1 = x.2.1; unfold addE; split <;> rfl]
    exact b.dis
  · rw [addE_era b.nd1 b.dis he, b.era, grp_snoc]
theorem grpAdd_new : ∀ {es : List (Nat × List (Int × Int))} {c : Nat} {q : Int × Int}, c ∉ es.map (·.1) → grpAdd es c q = es ++ [(c, [q])]
  | [], _, _, _ => rfl
  | x :: r, c, q, h => by
    rw [List.map_cons, List.mem_cons, not_or] at h
    rw [grpAdd, if_neg (fun z => h.1 z.symm), grpAdd_new h.2]; rfl
theorem SBL.fresh {H0 H : Hp} {d p t : Addr} {es : List Ent} {L : List (Nat × (Int × Int))} {c : Nat} {q : Int × Int} (b : SBL H0 H d es L) (hn : valV (es.map kvE) (Sum.inr (one c)) = none) (hp : H p = none)
    (ht : (upd (upd H p (.lst [])) d (.dK (putK (es.map kvE) (Sum.inr (one c)) (.ref p)))) t = none) :
    SBL H0 (upd (upd (upd (upd H p (.lst [])) d (.dK (putK (es.map kvE) (Sum.inr (one c)) (.ref p)))) t (.tup [.int q.1, .int q.2])) p (.lst [V.ref t])) d (es ++ [(c, p, [(t, q)])]) (L ++ [(c, q)]) := by
  have ndp : d ≠ p := ne_of_none b.dic hp
  have ntp : t ≠ p := fun z => by rw [z, upd_ne (Ne.symm ndp), upd_same] at ht; cases ht
  have ntd : t ≠ d := fun z => by rw [z, upd_same] at ht; cases ht
  have htH : H t = none := by rw [upd_ne ntd, upd_ne ntp] at ht; exact ht
  have kp : ∀ x o, x ≠ d → H x = some o → (upd (upd (upd (upd H p (.lst [])) d (.dK (putK (es.map kvE) (Sum.inr (one c)) (.ref p)))) t (.tup [.int q.1, .int q.2])) p (.lst [V.ref t])) x = some o := fun x o h1 h2 => by
    rw [upd_ne (ne_of_none h2 hp), upd_ne (ne_of_none h2 htH), upd_ne h1, upd_ne (ne_of_none h2 hp)]; exact h2
  have hdic : (upd (upd (upd (upd H p (.lst [])) d (.dK (putK (es.map kvE) (Sum.inr (one c)) (.ref p)))) t (.tup [.int q.1, .int q.2])) p (.lst [V.ref t])) d = some (.dK (putK (es.map kvE) (Sum.inr (one c)) (.ref p))) := by
    rw [upd_ne ndp, upd_ne (Ne.symm ntd)]; exact upd_same
  have cn := val_none hn
  refine ⟨fun x o h => kp x o (fun z => by rw [z, b.nd] at h; cases h) (b.same _ _ h), b.nd, ?_, ⟨?_, ?_⟩, ?_, ?_, ?_⟩
  · rw [hdic, putK_new _ hn, List.map_append]; rfl
  · intro y hy
    rcases List.mem_append.mp hy with hy | hy
    · have := b.ats.lst y hy
      exact kp _ _ (ne_of this b.dic (by intro z; cases z)) this
    · rw [List.mem_singleton.mp hy]; exact upd_same
  · intro y hy z hz
    rcases List.mem_append.mp hy with hy | hy
    · have := b.ats.sqa y hy z hz
      exact kp _ _ (ne_of this b.dic (by intro z; cases z)) this
    · rw [List.mem_singleton.mp hy] at hz
      rw [List.mem_singleton.mp hz, upd_ne ntp]; exact upd_same
  · intro y hy
    rcases List.mem_append.mp hy with hy | hy
    · exact b.new y hy
    · rw [List.mem_singleton.mp hy]
      show H0 p = none
      cases h : H0 p with
      | none => rfl
      | some o => rw [b.same _ _ h] at hp; cases hp
  · rw [List.map_append, List.nodup_append]
    refine ⟨b.dis, by simp, fun x hx y hy e => ?_⟩
    obtain ⟨z, hz, rfl⟩ := List.mem_map.mp hx
    rw [List.map_singleton, List.mem_singleton] at hy
    have hy : y = p := hy
    rw [hy] at e
    have := b.ats.lst z hz
    rw [e, hp] at this; cases this
  · rw [List.map_append, grp_snoc, ← b.era, grpAdd_new (by rw [era_keys]; exact cn)]; rfl
theorem SBL.len {H0 H : Hp} {d : Addr} {es : List Ent} {L : List (Nat × (Int × Int))} (b : SBL H0 H d es L) {e : Ent} (he : e ∈ es) : e.2.2.length ≤ L.length := by
  have hm : K5.era e ∈ grp L := by rw [← b.era]; exact List.mem_map.mpr ⟨e, he, rfl⟩
  have := ((grp_ok L).1 _ hm).1
  have e1 := congrArg List.length this
  have e2 : (K5.era e).2.length = e.2.2.length := List.length_map _
  rw [e2, List.length_map] at e1
  rw [e1]
  exact List.length_filter_le _ _
theorem S_is_row : FnScope ["text", "length"] ["text", "length"] (defScope s_is_row) := ⟨rfl, rfl, rfl, by decide +kernel, rfl, by decide +kernel, by decide +kernel⟩
theorem ok_is_row {f : Addr} {fd : FuncData} (F : Fun K "is_row" "is_row" s_is_row f fd) (T : Txt mg tk) (TL : TxtL mg tl) : FnOk P w K mg base CX0 1 f fd ["text", "length"] sp_row := by
  have S := S_is_row
  refine F.ok S (fun vs H Q E h => ?_) (fun cdv A outer s H vs Q E hr h => ?_)
  · obtain ⟨x, n, rfl, _⟩ := h; rfl
  · obtain ⟨x, n, rfl, ha, hl, q⟩ := h
    refine ⟨_, (pss_one (ps_ret (pe_and (pe_cmpR op_eq (pe_callB call_len_str rfl T.z_len rfl (pa_cons (pv 0) pa_nil)) (pv 1) (nomark _)) (pe_one (pe_callB call_all rfl T.z_all rfl (pa_cons (pe_comp rfl (pi_text (pv 0)) (fun _ _ _ _ _ => (pg_name (i := 0) (show List.Nodup (["sign"] : List Str) from by decide +kernel) rfl (Or.inl rfl))) (fun _ _ _ _ _ => (pe_cmpR op_in_str (pv 0) (pe_glob (v := .str LETS) rfl TL.g_LETTERS ⟨_, rfl⟩) rfl)) (N := ["sign"]) (fr := [none])) pa_nil)))))), ?_⟩
    refine ⟨_, rfl, _, rfl, Nat.le_of_lt (small1000 (by first | lia | omega)), _, rfl, rfl, _, rfl, ite3 (fun h1 => ?_) (fun h1 => ?_)⟩
    · have e1 : decide ((x.length : Int) = n) = true := by
        have := of_decide_eq_true h1
        injection this with this
        exact decide_eq_true this
      refine ⟨_, rfl, _, rfl, ha, fun acc na => comp_text (z := x) (fun i xs σ H' => (∃ y, σ = [y]) ∧ Same H H' ∧ xs = (x.cps.toList.take i).map fun c => V.bl (letB c)) ⟨⟨none, rfl⟩, Same.new na, rfl⟩ ?_ ?_⟩
      · rintro i c xs σ H' hci hi hxl hacc ⟨⟨y, rfl⟩, s1, rfl⟩
        refine ⟨_, rfl, _, _, rfl, rfl, ?_⟩
        refine cNx.mk (Nat.le_of_lt (small1000 (by first | lia | omega))) hi hxl hacc ⟨⟨_, rfl⟩, fun b o e => by rw [upd_ne (ne_of_none e na)]; exact s1 b o e, ?_⟩
        have hc : x.cps.toList[i]? = some c := by rw [Array.getElem?_toList]; exact hci
        rw [List.take_succ, hc, List.map_append]; rfl
      · rintro xs σ H' hxl hacc ⟨_, s1, rfl⟩
        have el : x.cps.toList.take x.length = x.cps.toList := List.take_of_length_le (by rw [Array.length_toList]; exact Nat.le_refl _)
        rw [el] at hacc
        have e2 : List.map V.bl (x.cps.toList.map letB) = x.cps.toList.map fun c => V.bl (letB c) := by rw [List.map_map]; rfl
        refine ⟨acc, x.cps.toList.map letB, rfl, SqL.of (by rw [hacc, e2]), rfl, ?_⟩
        have := q H' s1
        unfold rowB at this
        rw [e1, Bool.true_and] at this
        rw [List.all_map]
        exact this
    · have e1 : decide ((x.length : Int) = n) = false := by
        have := of_decide_eq_false h1
        exact decide_eq_false fun z => this (by rw [z])
      have := q H (Same.refl H)
      unfold rowB at this
      rw [e1, Bool.false_and] at this
      exact this
theorem S_is_drawing : FnScope ["thing", "rows", "length"] ["thing"] (defScope s_is_drawing) := ⟨rfl, rfl, rfl, by decide +kernel, rfl, by decide +kernel, by decide +kernel⟩
theorem split_ne (z : Str) : Txt.split z "/" ≠ [] := fun e => by
  have j := StrLaws.join_split z "/"
  rw [e] at j
  have hz : z = ⟨#[]⟩ := j.symm
  subst hz
  have : ¬ (Txt.split (⟨#[]⟩ : Str) "/" = []) := by decide +kernel
  exact this e
theorem head_get {rs : List Str} (h : rs ≠ []) : rs[0]? = some (rs.headD ⟨#[]⟩) ∧ rs.headD ⟨#[]⟩ ∈ rs := by
  cases rs with
  | nil => exact absurd rfl h
  | cons x r => exact ⟨rfl, List.mem_cons_self⟩
theorem ok_is_drawing {f : Addr} {fd : FuncData} (F : Fun K "is_drawing" "is_drawing" s_is_drawing f fd) (T : Txt mg tk) (D_is_side : DefOk P w K mg base 2 "is_side" ["thing"] sp_side) (D_is_row : DefOk P w K mg base 1 "is_row" ["text", "length"] sp_row) : FnOk P w K mg base CX0 3 f fd ["thing"] sp_isdr := by
  have S := S_is_drawing
  refine F.ok S (fun vs H Q E h => ?_) (fun cdv A outer s H vs Q E hr h => ?_)
  · obtain ⟨v, z, rfl, _⟩ := h; rfl
  · obtain ⟨v, z, rfl, hv, q⟩ := h
    refine ⟨_, (pss_cons (ps_if (pt_not (pt_val (pe_callB call_isin rfl T.z_isinstance rfl (pa_cons (pv 0) (pa_cons (pe_bltn (v := .ty "str") rfl T.z_str rfl rfl) pa_nil))))) (pss_one (ps_ret pe_bl)) pss_nil)
      (pss_cons (ps_set (i := 1) S.nd rfl (Or.inl rfl) (pe_bm PySem.F.plainAttrs_str PySem.F.slot_str_split PySem.F.type_str_split mt_split (pv 0) (pa_cons pe_str pa_nil)))
      (pss_cons (ps_set (i := 2) S.nd rfl (Or.inr rfl) (pe_callB call_len_str rfl T.z_len rfl (pa_cons (pe_ix ix_list (pv 1) pe_int (fun _ _ => rfl)) pa_nil)))
      (pss_cons (ps_if (PW.pt (pw_or (pt_not (pt_val (pe_fn D_is_side hr (pa_cons (pe_callB call_len_seq rfl T.z_len rfl (pa_cons (pv 1) pa_nil)) pa_nil)))) (pw_or1 (pt_not (pt_val (pe_fn D_is_side hr (pa_cons (pv 2) pa_nil))))))) (pss_one (ps_ret pe_bl)) pss_nil)
      (pss_one (ps_ret (pe_callB call_all rfl T.z_all rfl (pa_cons (pe_comp rfl (pi_list (pv 1)) (fun _ _ _ _ _ => (pg_name (i := 0) (show List.Nodup (["row", "length"] : List Str) from by decide +kernel) rfl (Or.inl rfl))) (fun _ _ _ _ _ => (pe_fn D_is_row hr (pa_cons (pv 0) (pa_cons (pv 1) pa_nil)))) (N := ["row", "length"]) (fr := [none, some 2])) pa_nil)))))))), ?_⟩
    cases z with
    | none =>
      obtain ⟨Ty, ht, nT⟩ := hv
      exact ⟨_, rfl, v, Ty, "str", rfl, ht, .inr (.inr (.inr (.inr rfl))), _, rfl, iteP (by unfold isB; rw [decide_eq_false nT, decide_eq_false (show ¬ ("str" : String) = "int" by decide), Bool.and_false]; rfl) (q H (Same.refl H))⟩
    | some z =>
      obtain ⟨rfl, ha, hl⟩ := hv
      have q : ∀ H', Same H H' → Q (.bl (fmB (Txt.split z "/"))) H' := q
      have wk := wk_split ha hl
      have ne := split_ne z
      refine ⟨_, rfl, _, "str", "str", rfl, rfl, .inr (.inr (.inr (.inr rfl))), _, rfl, iteN rfl ?_⟩
      refine ⟨_, rfl, rfl, z, "/", rfl, rfl, by decide +kernel, Nat.le_of_lt (small1000 (by first | lia | omega)), fun l nl => ?_⟩
      generalize Txt.split z "/" = rs at q wk ne nl ⊢
      have s1 : Same H (upd H l (.lst (rs.map V.str))) := Same.new nl
      have el : (upd H l (.lst (rs.map V.str))) l = some (.lst (rs.map V.str)) := upd_same
      generalize upd H l (.lst (rs.map V.str)) = H1 at s1 el ⊢
      obtain ⟨g0, m0⟩ := head_get ne
      obtain ⟨a0, l0⟩ := wk.ok _ m0
      refine ⟨_, rfl, l, _, _, _, rfl, rfl, SqL.of el, at0s (by rw [List.getElem?_map, g0]; rfl), _, rfl, Nat.le_of_lt (small1000 (by first | lia | omega)), ?_⟩
      have rl : (rs.map V.str).length = rs.length := List.length_map _
      have rp : 1 ≤ rs.length := List.length_pos_iff.mpr ne
      refine ⟨_, rfl, l, _, rfl, .inl (SqL.of el), _, rfl, ⟨"int", rfl⟩, _, rfl, ?_⟩
      by_cases h1 : rs.length ≤ 12
      · refine iteN (by rw [rl, side_ok ⟨by first | lia | omega, by first | lia | omega⟩]; rfl) ?_
        refine ⟨_, rfl, _, rfl, ⟨"int", rfl⟩, _, rfl, ?_⟩
        by_cases h2 : 1 ≤ (rs.headD ⟨#[]⟩).length ∧ (rs.headD ⟨#[]⟩).length ≤ 12
        · refine iteN (by rw [side_ok ⟨by first | lia | omega, by first | lia | omega⟩]; rfl) ?_
          refine ⟨_, rfl, l, rfl, ⟨_, SqL.of el⟩, fun acc na => comp_list (K := K) (a := l) (ys := rs.map V.str) (fun i xs σ H' => (∃ y, σ = [y, some (.int (rs.headD ⟨#[]⟩).length)]) ∧ Same H1 H' ∧ xs = (rs.take i).map fun x => V.bl (rowB x (rs.headD ⟨#[]⟩).length)) ⟨⟨none, rfl⟩, Same.new na, rfl⟩ (fun i xs σ H' _ _ hp => SqL.of (hp.2.1 _ _ el)) ?_ ?_⟩
          · rintro i x xs σ H' hx hi hxl hacc ⟨⟨y, rfl⟩, s2, rfl⟩
            rw [List.getElem?_map] at hx
            obtain ⟨u, hu, rfl⟩ := Option.map_eq_some_iff.mp hx
            obtain ⟨ua, ul⟩ := wk.ok u (List.mem_of_getElem? hu)
            refine ⟨_, rfl, _, rfl, u, _, rfl, ua, ul, fun H2 s3 => ?_⟩
            refine cNx.mk (Nat.le_of_lt (small1000 (by first | lia | omega))) hi hxl (s3 _ _ hacc) ⟨⟨_, rfl⟩, fun b o e => by rw [upd_ne (ne_of_none e na)]; exact s3 _ _ (s2 b o e), ?_⟩
            rw [List.take_succ, hu, List.map_append]; rfl
          · rintro xs σ H' hxl hacc ⟨_, s2, rfl⟩
            rw [rl, List.take_length] at hacc
            have e2 : List.map V.bl (rs.map fun x => rowB x (rs.headD ⟨#[]⟩).length) = rs.map fun x => V.bl (rowB x (rs.headD ⟨#[]⟩).length) := by rw [List.map_map]; rfl
            refine ⟨acc, rs.map fun x => rowB x (rs.headD ⟨#[]⟩).length, rfl, SqL.of (by rw [hacc, e2]), rfl, ?_⟩
            have := q H' (s1.trans s2)
            unfold fmB at this
            rw [decide_eq_true h1, decide_eq_true h2.1, decide_eq_true h2.2, Bool.true_and, Bool.true_and, Bool.true_and] at this
            rw [List.all_map]
            exact this
        · refine iteP ?_ ?_
          · show (!(decide ((1 : Int) ≤ (rs.headD ⟨#[]⟩).length) && decide (((rs.headD ⟨#[]⟩).length : Int) ≤ 12))) = true
            rw [Bool.not_eq_true', Bool.and_eq_false_iff, decide_eq_false_iff_not, decide_eq_false_iff_not]
            first | lia | omega
          · have := q H1 s1
            have e : fmB rs = false := by
              unfold fmB
              rw [Bool.and_eq_false_iff, Bool.and_eq_false_iff, Bool.and_eq_false_iff, decide_eq_false_iff_not, decide_eq_false_iff_not, decide_eq_false_iff_not]
              first | lia | omega
            rw [e] at this
            exact this
      · refine iteP ?_ ?_
        · rw [rl]
          show (!(decide ((1 : Int) ≤ rs.length) && decide ((rs.length : Int) ≤ 12))) = true
          rw [Bool.not_eq_true', Bool.and_eq_false_iff, decide_eq_false_iff_not, decide_eq_false_iff_not]
          first | lia | omega
        · have := q H1 s1
          have e : fmB rs = false := by
            unfold fmB
            rw [Bool.and_eq_false_iff, Bool.and_eq_false_iff, decide_eq_false_iff_not]
            exact .inl (.inl h1)
          rw [e] at this
          exact this
theorem S_squares_by_letter : FnScope ["rows", "by_letter", "row", "text", "column", "letter"] ["rows"] (defScope s_squares_by_letter) := ⟨rfl, rfl, rfl, by decide +kernel, rfl, by decide +kernel, by decide +kernel⟩
theorem sbl_few {H0 H : Hp} {d : Addr} {es : List Ent} {L : List (Nat × (Int × Int))} (b : SBL H0 H d es L) (hL : ∀ x ∈ L, x.1 ∈ LETC) : es.length ≤ 52 := by
  have e2 : ∀ x ∈ es.map (·.1), x ∈ LETC := fun x hx => by
    rw [← era_keys, b.era] at hx
    obtain ⟨y, hy, rfl⟩ := List.mem_map.mp hx
    obtain ⟨_, w, hw, ew⟩ := (grp_ok _).1 y hy
    rw [← ew]; exact hL w hw
  have e3 := nd_lenG b.nd1 e2
  rw [List.length_map, letc_lets.len] at e3
  exact e3
theorem allR_let {rs : List Str} {w h i : Nat} (m : Fm rs w h) (hi : i ≤ h) : ∀ x ∈ allR rs w i, x.1 ∈ LETC := fun x hx => by
  obtain ⟨r, c, hr, hc, rfl⟩ := mem_allR.mp hx
  exact m.code (by first | lia | omega) hc
theorem part_let {rs : List Str} {w h i j : Nat} (m : Fm rs w h) (hi : i < h) (hj : j ≤ w) : ∀ x ∈ allR rs w i ++ (List.range j).map (fun (c : Nat) => (codeR rs i c, ((i : Int), (c : Int)))), x.1 ∈ LETC := fun x hx => by
  rcases List.mem_append.mp hx with hx | hx
  · exact allR_let m (by first | lia | omega) x hx
  · obtain ⟨c, hc, rfl⟩ := List.mem_map.mp hx
    have := List.mem_range.mp hc
    exact m.code hi (by first | lia | omega)
theorem part_snoc (rs : List Str) (w i j : Nat) : allR rs w i ++ ((List.range (j + 1)).map fun (c : Nat) => (codeR rs i c, ((i : Int), (c : Int)))) = (allR rs w i ++ ((List.range j).map fun (c : Nat) => (codeR rs i c, ((i : Int), (c : Int))))) ++ [(codeR rs i j, ((i : Int), (j : Int)))] := by
  rw [List.range_succ, List.map_append, List.append_assoc]; rfl
theorem part_len {rs : List Str} {w h i j : Nat} (m : Fm rs w h) (hi : i < h) (hj : j ≤ w) : (allR rs w i ++ (List.range j).map (fun (c : Nat) => (codeR rs i c, ((i : Int), (c : Int))))).length ≤ 156 := by
  have l2 := mul144 (i := i) (m := w) (by have := m.bh; first | lia | omega) (by have := m.bw; first | lia | omega)
  have := m.bw
  rw [List.length_append, allR_len, List.length_map, List.length_range]
  first | lia | omega
theorem ok_squares_by_letter {f : Addr} {fd : FuncData} (F : Fun K "squares_by_letter" "squares_by_letter" s_squares_by_letter f fd) (T : Txt mg tk) : FnOk P w K mg base CX0 1 f fd ["rows"] sp_sbl := by
  have S := S_squares_by_letter
  refine F.ok S (fun vs H Q E h => ?_) (fun cdv A outer s H vs Q E hr h => ?_)
  · obtain ⟨l, rs, w, h, rfl, _⟩ := h; rfl
  · obtain ⟨l, rs, ww, hh, rfl, hl, m, q⟩ := h
    have bw := m.bw
    have bh := m.bh
    refine ⟨_, (pss_cons (ps_set (i := 1) S.nd rfl (Or.inl rfl) pe_dnewK)
      (pss_cons (ps_for PassesOwn.never rfl (pi_enum rfl T.z_enumerate (pa_cons (pv 0) pa_nil)) (pg_tup rfl (pgs_cons (pg_name (i := 2) S.nd rfl (Or.inl rfl)) (pgs_cons (pg_name (i := 3) S.nd rfl (Or.inl rfl)) pgs_nil))) (pss_one (ps_for PassesOwn.never rfl (pi_enumS rfl T.z_enumerate (pa_cons (pv 3) pa_nil)) (pg_tup rfl (pgs_cons (pg_name (i := 4) S.nd rfl (Or.inl rfl)) (pgs_cons (pg_name (i := 5) S.nd rfl (Or.inl rfl)) pgs_nil))) (pss_one (ps_expr (pe_bm PySem.F.plainAttrs_list PySem.F.slot_list_append PySem.F.type_list_append mt_append (pe_setd (pv 1) (pv 5) (pe_lst pa_nil) ⟨rfl, rfl, rfl, rfl⟩) (pa_cons (pe_tup (pa_cons (pv 2) (pa_cons (pv 4) pa_nil))) pa_nil)))))))
      (pss_one (ps_ret (pv 1))))), ?_⟩
    intro dd nd
    have s0 : Same H (upd H dd (.dK [])) := Same.new nd
    refine ⟨_, rfl, l, rfl, ⟨_, SqL.of (s0 _ _ hl)⟩, for_enum (K := K) (a := l) (xs := rs.map V.str)
      (fun i σ H' => (∃ x2 x3 x4 x5, σ = [some (.ref l), some (.ref dd), x2, x3, x4, x5]) ∧ ∃ es : List Ent, SBL H H' dd es (allR rs ww i)) ⟨⟨_, _, _, _, rfl⟩, [], SBL.nil nd⟩ (fun i σ H' _ hp => by obtain ⟨_, es, b⟩ := hp; exact SqL.of (b.same _ _ hl)) ?_ ?_⟩
    · rintro i x σ H1 t1 hx ⟨⟨x2, x3, x4, x5, rfl⟩, es, b⟩ ht1
      rw [List.getElem?_map] at hx
      obtain ⟨z, hz, rfl⟩ := Option.map_eq_some_iff.mp hx
      have hi : i < hh := by rw [← m.len]; exact (List.getElem?_eq_some_iff.mp hz).1
      obtain ⟨zl, zc⟩ := m.row z (List.mem_of_getElem? hz)
      have zd : rs.getD i ⟨#[]⟩ = z := by rw [List.getD_eq_getElem?_getD, hz]; rfl
      have b1 := b.more (Same.new (o := .tup [.int i, .str z]) ht1)
      have hlow : z.cps.all (· < 128) = true := by
        rw [← Array.all_toList, List.all_eq_true]
        intro c hm
        exact decide_eq_true (letc_low (zc c hm)).1
      refine ⟨t1, _, rfl, SqT.of upd_same, rfl, _, _, rfl, _, _, rfl, rfl, ?_⟩
      refine ⟨_, rfl, _, rfl, hlow, for_enumS (z := z)
        (fun j σ H' => (∃ x4 x5, σ = [some (.ref l), some (.ref dd), some (.int i), some (.str z), x4, x5]) ∧ ∃ es : List Ent, SBL H H' dd es (allR rs ww i ++ (List.range j).map fun (c : Nat) => (codeR rs i c, ((i : Int), (c : Int))))) ⟨⟨_, _, rfl⟩, es, by rw [List.range_zero, List.map_nil, List.append_nil]; exact b1⟩ ?_ ?_⟩
      · rintro j c σ H2 t2 hc hj ⟨⟨y4, y5, rfl⟩, es2, b2⟩ ht2
        have hj : j < ww := by rw [zl] at hj; exact hj
        obtain rfl : c = codeR rs i j := by
          unfold codeR
          rw [zd, List.getD_eq_getElem?_getD, Array.getElem?_toList, hc]; rfl
        have b3 := b2.more (Same.new (o := .tup [.int j, .str (one (codeR rs i j))]) ht2)
        refine ⟨t2, _, rfl, SqT.of upd_same, rfl, _, _, rfl, _, _, rfl, rfl, ?_⟩
        generalize upd H2 t2 (.tup [.int j, .str (one (codeR rs i j))]) = H3 at b3 ⊢
        have few := sbl_few b3 (part_let m hi (by first | lia | omega))
        have eL := part_snoc rs ww i j
        refine ⟨_, rfl, dd, rfl, .inl ⟨_, .inl b3.dic⟩, _, rfl, lenOk 0, fun p np => ⟨_, Sum.inr (one (codeR rs i j)), Same.new np _ _ b3.dic, rfl, small1000 (by rw [List.length_map]; first | lia | omega), fun v hv => ?_, fun hn => ?_⟩⟩
        · obtain ⟨e, he, ec, rfl⟩ := val_some hv
          have b4 := b3.more (Same.new (o := .lst []) np)
          generalize upd H3 p (.lst []) = H4 at b4 ⊢
          have hel := b4.ats.lst e he
          refine ⟨.inl ⟨rfl, _, SqL.of hel⟩, _, rfl, _, rfl, lenOk 2, fun t ht => ?_⟩
          have ln : (srefs e.2.2).length < sizeLine := by
            have l1 := b4.len he
            have l2 := part_len m hi (j := j) (by first | lia | omega)
            exact small1000 (by rw [List.length_map]; first | lia | omega)
          refine ⟨e.2.1, _, _, rfl, rfl, Same.new ht _ _ hel, ln, ⟨_, _, rfl⟩, es2.map (addE e.2.1 t ((i : Int), (j : Int))), ?_⟩
          have := b4.there (q := ((i : Int), (j : Int))) he ht
          rw [ec, ← eL] at this
          exact this
        · refine ⟨.inl ⟨rfl, [], SqL.of ?_⟩, _, rfl, _, rfl, lenOk 2, fun t ht => ?_⟩
          · rw [upd_ne (Ne.symm (ne_of_none b3.dic np))]; exact upd_same
          refine ⟨p, [], _, rfl, rfl, ?_, small1000 (by show 0 ≤ 1000; first | lia | omega), ⟨_, _, rfl⟩, es2 ++ [(codeR rs i j, p, [(t, ((i : Int), (j : Int)))])], ?_⟩
          · have := b3.fresh (q := ((i : Int), (j : Int))) hn np ht
            have ndp : dd ≠ p := ne_of_none b3.dic np
            rw [upd_ne (ne_of_none (show (upd (upd H3 p (.lst [])) dd (.dK (putK (es2.map kvE) (Sum.inr (one (codeR rs i j))) (.ref p)))) p = some (.lst []) by rw [upd_ne (Ne.symm ndp)]; exact upd_same) ht), upd_ne (Ne.symm ndp)]
            exact upd_same
          · have := b3.fresh (q := ((i : Int), (j : Int))) hn np ht
            rw [← eL] at this
            exact this
      · rintro σ H2 ⟨⟨y4, y5, rfl⟩, es2, b2⟩
        rw [zl] at b2
        exact ⟨⟨_, _, _, _, rfl⟩, es2, by rw [allR_succ]; exact b2⟩
    · rintro σ H1 ⟨⟨x2, x3, x4, x5, rfl⟩, es, b⟩
      rw [List.length_map, m.len] at b
      exact ⟨_, rfl, q dd es H1 b.same nd b.dic b.ats b.era⟩
theorem S_pane_drawn : FnScope ["letter", "squares", "rows", "columns", "top", "left", "bottom", "right"] ["letter", "squares"] (defScope s_pane_drawn) := ⟨rfl, rfl, rfl, by decide +kernel, rfl, by decide +kernel, by decide +kernel⟩
theorem sq_ints1 (sq : List (Addr × (Int × Int))) : (sq.map fun s => s.2.1) = (sq.map (·.2)).map (·.1) := by rw [List.map_map]; rfl
theorem sq_ints2 (sq : List (Addr × (Int × Int))) : (sq.map fun s => s.2.2) = (sq.map (·.2)).map (·.2) := by rw [List.map_map]; rfl
theorem ok_pane_drawn {f : Addr} {fd : FuncData} (F : Fun K "pane_drawn" "pane_drawn" s_pane_drawn f fd) (T : Txt mg tk) (X_Ragged : XMkOk P w K mg base 1 "Ragged" cR ["self", "letter"] ["letter"]) : FnOk P w K mg base (CX1 P w) 3 f fd ["letter", "squares"] (sp_paned cR) := by
  have S := S_pane_drawn
  refine F.okx S (fun vs H Q E h => ?_) (fun cdv A outer s H vs Q E hr h => ?_)
  · obtain ⟨v, l, sq, rfl, _⟩ := h; rfl
  · obtain ⟨v, l, sq, rfl, hl, hsq, ne, few, bd, q, r⟩ := h
    refine ⟨_, (pss_cons (ps_setComp rfl (pg_name (i := 2) S.nd rfl (Or.inl rfl)) (pi_list (pv 1)) (fun _ _ _ _ _ => (pg_tupK (K := K) (n := 2) rfl (pgs_cons (pg_name (i := 0) (show List.Nodup (["row", "column"] : List Str) from by decide +kernel) rfl (Or.inl rfl)) (pgs_cons (pg_name (i := 1) (show List.Nodup (["row", "column"] : List Str) from by decide +kernel) rfl (Or.inl rfl)) pgs_nil)))) (fun _ _ _ _ _ => (pv 0)) (N := ["row", "column"]) (fr := [none, none]))
      (pss_cons (ps_setComp rfl (pg_name (i := 3) S.nd rfl (Or.inl rfl)) (pi_list (pv 1)) (fun _ _ _ _ _ => (pg_tupK (K := K) (n := 2) rfl (pgs_cons (pg_name (i := 0) (show List.Nodup (["row", "column"] : List Str) from by decide +kernel) rfl (Or.inl rfl)) (pgs_cons (pg_name (i := 1) (show List.Nodup (["row", "column"] : List Str) from by decide +kernel) rfl (Or.inl rfl)) pgs_nil)))) (fun _ _ _ _ _ => (pv 1)) (N := ["row", "column"]) (fr := [none, none]))
      (pss_cons (ps_set (i := 4) S.nd rfl (Or.inl rfl) (pe_callB call_min1 rfl T.z_min rfl (pa_cons (pv 2) pa_nil)))
      (pss_cons (ps_set (i := 5) S.nd rfl (Or.inl rfl) (pe_callB call_min1 rfl T.z_min rfl (pa_cons (pv 3) pa_nil)))
      (pss_cons (ps_set (i := 6) S.nd rfl (Or.inl rfl) (pe_op op_add (pe_callB call_max1 rfl T.z_max rfl (pa_cons (pv 2) pa_nil)) pe_int))
      (pss_cons (ps_set (i := 7) S.nd rfl (Or.inl rfl) (pe_op op_add (pe_callB call_max1 rfl T.z_max rfl (pa_cons (pv 3) pa_nil)) pe_int))
      (pss_cons (ps_if (pt_cmpR op_ne (pe_op op_mulL (pe_op op_sub (pv 6) (pv 4)) (pe_op op_sub (pv 7) (pv 5))) (pe_callB call_len_seq rfl T.z_len rfl (pa_cons (pv 1) pa_nil)) (nomark _)) (pss_one (ps_raise xeok_cx X_Ragged hr (pa_cons (pv 0) pa_nil))) pss_nil)
      (pss_one (ps_ret (pe_tup (pa_cons (pv 4) (pa_cons (pv 5) (pa_cons (pv 6) (pa_cons (pv 7) pa_nil)))))))))))))), ?_⟩
    refine ⟨_, rfl, l, rfl, ⟨_, SqL.of hl⟩, fun acc na => comp_list (K := K) (a := l) (ys := srefs sq) (fun i xs σ H' => (∃ y z, σ = [y, z]) ∧ Same H H' ∧ xs = (sq.take i).map fun s => V.int s.2.1) ⟨⟨none, none, rfl⟩, Same.new na, rfl⟩ (fun i xs σ H' _ _ hp => SqL.of (hp.2.1 _ _ hl)) ?_ ?_⟩
    · rintro i x xs σ H' hx hi hxl hacc ⟨⟨y, z, rfl⟩, s1, rfl⟩
      obtain ⟨u, hu, rfl⟩ := srefs_get hx
      refine ⟨u.1, _, rfl, SqT.of (s1 _ _ (hsq u (List.mem_of_getElem? hu))), rfl, _, _, rfl, _, _, rfl, rfl, _, rfl, ?_⟩
      refine cNx.mk (Nat.le_of_lt (small1000 (by rw [List.length_map]; first | lia | omega))) hi hxl hacc ⟨⟨_, _, rfl⟩, fun b o e => by rw [upd_ne (ne_of_none e na)]; exact s1 b o e, ?_⟩
      rw [List.take_succ, hu, List.map_append]; rfl
    rintro xs σ H1 hxl hacc ⟨_, s1, rfl⟩
    rw [List.length_map, List.take_length] at hacc
    refine ⟨_, rfl, l, rfl, ⟨_, SqL.of (s1 _ _ hl)⟩, fun acc2 na2 => comp_list (K := K) (a := l) (ys := srefs sq) (fun i xs σ H' => (∃ y z, σ = [y, z]) ∧ Same H1 H' ∧ xs = (sq.take i).map fun s => V.int s.2.2) ⟨⟨none, none, rfl⟩, Same.new na2, rfl⟩ (fun i xs σ H' _ _ hp => SqL.of (hp.2.1 _ _ (s1 _ _ hl))) ?_ ?_⟩
    · rintro i x xs σ H' hx hi hxl hacc' ⟨⟨y, z, rfl⟩, s2, rfl⟩
      obtain ⟨u, hu, rfl⟩ := srefs_get hx
      refine ⟨u.1, _, rfl, SqT.of (s2 _ _ (s1 _ _ (hsq u (List.mem_of_getElem? hu)))), rfl, _, _, rfl, _, _, rfl, rfl, _, rfl, ?_⟩
      refine cNx.mk (Nat.le_of_lt (small1000 (by rw [List.length_map]; first | lia | omega))) hi hxl hacc' ⟨⟨_, _, rfl⟩, fun b o e => by rw [upd_ne (ne_of_none e na2)]; exact s2 b o e, ?_⟩
      rw [List.take_succ, hu, List.map_append]; rfl
    rintro xs σ H2 hxl2 hacc2 ⟨_, s2, rfl⟩
    rw [List.length_map, List.take_length] at hacc2
    have r1 : SqL K H2 acc ((sq.map fun s => s.2.1).map V.int) := SqL.of (by rw [List.map_map]; exact s2 _ _ hacc)
    have r2 : SqL K H2 acc2 ((sq.map fun s => s.2.2).map V.int) := SqL.of (by rw [List.map_map]; exact hacc2)
    have ne1 : (sq.map fun s => s.2.1) ≠ [] := fun z => ne (List.map_eq_nil_iff.mp z)
    have ne2 : (sq.map fun s => s.2.2) ≠ [] := fun z => ne (List.map_eq_nil_iff.mp z)
    refine ⟨_, rfl, acc, _, rfl, r1, rfl, ne1, fun m1 hm1 q1 => ⟨_, rfl, acc2, _, rfl, r2, rfl, ne2, fun m2 hm2 q2 => ⟨_, rfl, acc, _, rfl, r1, rfl, ne1, fun m3 hm3 q3 => ⟨_, _, rfl, rfl, _, rfl, acc2, _, rfl, r2, rfl, ne2, fun m4 hm4 q4 => ⟨_, _, rfl, rfl, ?_⟩⟩⟩⟩⟩
    rw [sq_ints1] at hm1 q1 hm3 q3
    rw [sq_ints2] at hm2 q2 hm4 q4
    have e1 : m1 = (bx (sq.map (·.2))).t := minI_is hm1 q1
    have e2 : m2 = (bx (sq.map (·.2))).l := minI_is hm2 q2
    have e3 : m3 + 1 = (bx (sq.map (·.2))).b := congrArg (· + 1) (maxI_is hm3 q3)
    have e4 : m4 + 1 = (bx (sq.map (·.2))).r := congrArg (· + 1) (maxI_is hm4 q4)
    have g3 : (fun i j : Int => V.int (i + j)) m3 1 = V.int (bx (sq.map (·.2))).b := congrArg V.int e3
    have g4 : (fun i j : Int => V.int (i + j)) m4 1 = V.int (bx (sq.map (·.2))).r := congrArg V.int e4
    rw [e1, e2, g3, g4]
    have bi := bx_in (qs := sq.map (·.2)) (w := 12) (h := 12) (fun z => ne (List.map_eq_nil_iff.mp z)) fun s hs => by
      obtain ⟨u, hu, rfl⟩ := List.mem_map.mp hs
      exact bd u hu
    have ol : okE (sq.map (·.2)) = decide (((sq.map (·.2)).length : Int) = ((bx (sq.map (·.2))).b - (bx (sq.map (·.2))).t) * ((bx (sq.map (·.2))).r - (bx (sq.map (·.2))).l)) := rfl
    rw [List.length_map] at ol
    generalize hp : bx (sq.map (·.2)) = p at q bi ol ⊢
    obtain ⟨a1, a2, a3, a4, a5, a6⟩ := bi
    refine ⟨_, rfl, _, rfl, _, _, rfl, rfl, _, rfl, _, rfl, _, _, rfl, rfl, _, _, rfl, rfl, mul64 (by first | lia | omega) (by first | lia | omega) (by first | lia | omega) (by first | lia | omega), _, rfl, l, _, rfl, .inl (SqL.of (s2 _ _ (s1 _ _ hl))), rfl, _, rfl, ?_⟩
    by_cases hok : (sq.length : Int) = (p.b - p.t) * (p.r - p.l)
    · refine iteN ?_ ?_
      · rw [List.length_map, hok, decide_eq_true rfl]; rfl
      · rw [decide_eq_true hok] at ol
        exact ⟨_, rfl, _, rfl, _, rfl, _, rfl, lenOk 4, fun t ht => q ol t _ ((s1.trans s2).trans (Same.new ht)) upd_same⟩
    · refine iteP ?_ ?_
      · rw [List.length_map, decide_eq_false (fun z => hok (by injection z with z; exact z.symm))]; rfl
      · rw [decide_eq_false hok] at ol
        exact ⟨_, rfl, rfl, fun y dx T H3 hy s3 e ed nd hT nT => (r ol).raise (s1.trans s2) hy s3 e ed nd hT rfl⟩
theorem S_read_drawing : FnScope ["text", "rows", "panes"] ["text"] (defScope s_read_drawing) := ⟨rfl, rfl, rfl, by decide +kernel, rfl, by decide +kernel, by decide +kernel⟩
theorem ent_facts {rs : List Str} {w h : Nat} (m : Fm rs w h) {es : List Ent} (er : es.map era = grp (allR rs w h)) {e : Ent} (he : e ∈ es) : e.2.2 ≠ [] ∧ e.2.2.length ≤ 144 ∧ ∀ s ∈ e.2.2, 0 ≤ s.2.1 ∧ s.2.1 < 12 ∧ 0 ≤ s.2.2 ∧ s.2.2 < 12 := by
  have hm : era e ∈ grp (allR rs w h) := by rw [← er]; exact List.mem_map.mpr ⟨e, he, rfl⟩
  obtain ⟨_, ne, _, bd, _⟩ := ent_is m hm
  have e1 := ((grp_ok (allR rs w h)).1 _ hm).1
  refine ⟨fun z => ne (by show (e.2.2.map (·.2)) = []; rw [z]; rfl), ?_, fun s hs => ?_⟩
  · have l1 := congrArg List.length e1
    have l2 : (era e).2.length = e.2.2.length := List.length_map _
    rw [l2, List.length_map] at l1
    have l3 := List.length_filter_le (fun x : Nat × (Int × Int) => x.1 == (era e).1) (allR rs w h)
    have l4 := mul144 (i := h) (m := w) m.bh.2 m.bw.2
    rw [allR_len] at l3
    first | lia | omega
  · have := bd s.2 (List.mem_map.mpr ⟨s, hs, rfl⟩)
    have := m.bw
    have := m.bh
    first | lia | omega
theorem ok_read_drawing {f : Addr} {fd : FuncData} (F : Fun K "read_drawing" "read_drawing" s_read_drawing f fd) (T : Txt mg tk) (X_NoDrawing : XMkOk P w K mg base 1 "NoDrawing" cD ["self", "drawing"] ["drawing"]) (D_is_drawing : DefOk P w K mg base 3 "is_drawing" ["thing"] sp_isdr) (D_squares_by_letter : DefOk P w K mg base 1 "squares_by_letter" ["rows"] sp_sbl)
    (D_pane_drawn : DefOkX P w K mg base 3 "pane_drawn" ["letter", "squares"] (sp_paned cR)) (K_Panel : MkOk P w K mg base 4 "Panel" C ["self", "width", "height", "panes"] (sp_Panel K C)) : FnOk P w K mg base (CX1 P w) 6 f fd ["text"] (sp_read C cR cD) := by
  have S := S_read_drawing
  refine F.okx S (fun vs H Q E h => ?_) (fun cdv A outer s H vs Q E hr h => ?_)
  · obtain ⟨v, z, rfl, _⟩ := h; rfl
  · obtain ⟨v, z, rfl, hv, rD, rR, q⟩ := h
    refine ⟨_, (pss_cons (ps_if (pt_not (pt_val (pe_fn D_is_drawing hr (pa_cons (pv 0) pa_nil)))) (pss_one (ps_raise xeok_cx X_NoDrawing hr (pa_cons (pv 0) pa_nil))) pss_nil)
      (pss_cons (ps_set (i := 1) S.nd rfl (Or.inl rfl) (pe_bm PySem.F.plainAttrs_str PySem.F.slot_str_split PySem.F.type_str_split mt_split (pv 0) (pa_cons pe_str pa_nil)))
      (pss_cons (ps_setCompX (Hs := H) (E := E) rfl (pg_name (i := 2) S.nd rfl (Or.inl rfl)) (pi_items (pe_fn D_squares_by_letter hr (pa_cons (pv 1) pa_nil))) (fun _ _ _ _ _ => (pg_tupK (K := K) (n := 2) rfl (pgs_cons (pg_name (i := 0) (show List.Nodup (["letter", "squares"] : List Str) from by decide +kernel) rfl (Or.inl rfl)) (pgs_cons (pg_name (i := 1) (show List.Nodup (["letter", "squares"] : List Str) from by decide +kernel) rfl (Or.inl rfl)) pgs_nil)))) (fun _ _ _ _ _ _ => (pe_fnx D_pane_drawn hr (pass_c (X := cxOf (CX1 P w) P w K mg base ["text", "rows", "panes"] "read_drawing" (defScope s_read_drawing) f cdv A outer s H E) rfl rfl) (pa_cons (pv 0) (pa_cons (pv 1) pa_nil)))) xe_any (N := ["letter", "squares"]) (fr := [none, none]))
      (pss_one (ps_ret (pe_mk K_Panel hr (pa_cons (pe_callB call_len_str rfl T.z_len rfl (pa_cons (pe_ix ix_list (pv 1) pe_int (fun _ _ => rfl)) pa_nil)) (pa_cons (pe_callB call_len_seq rfl T.z_len rfl (pa_cons (pv 1) pa_nil)) (pa_cons (pv 2) pa_nil))))))))), ?_⟩
    refine ⟨_, rfl, v, z, rfl, hv, fun H0 s0 => ⟨_, rfl, ?_⟩⟩
    cases hf : fmO z with
    | false => exact iteP rfl ⟨_, rfl, rfl, fun y dx T H2 hy s2 e ed nd hT nT => (rD hf).raise s0 hy s2 e ed nd hT rfl⟩
    | true =>
      refine iteN rfl ?_
      cases z with
      | none => cases hf
      | some z =>
        obtain ⟨rfl, ha, hl⟩ := hv
        have hf : fmB (Txt.split z "/") = true := hf
        have wk := wk_split ha hl
        have ne := split_ne z
        have m := fm_of hf ne fun x hx => (wk.ok x hx).1
        have rR := fun c => rR z c rfl hf
        have q := q z rfl hf
        unfold grpS at rR q
        refine ⟨_, rfl, rfl, z, "/", rfl, rfl, by decide +kernel, Nat.le_of_lt (small1000 (by first | lia | omega)), fun l nl => ?_⟩
        generalize Txt.split z "/" = rs at m rR q wk ne hf nl ⊢
        obtain ⟨g0, m0⟩ := head_get ne
        generalize hw : (rs.headD ⟨#[]⟩).length = ww at m rR q
        generalize hh' : rs.length = hh at m rR q
        have bw := m.bw
        have bh := m.bh
        have s1 : Same H0 (upd H0 l (.lst (rs.map V.str))) := Same.new nl
        have el : (upd H0 l (.lst (rs.map V.str))) l = some (.lst (rs.map V.str)) := upd_same
        generalize upd H0 l (.lst (rs.map V.str)) = H1 at s1 el ⊢
        refine ⟨_, rfl, l, rs, ww, hh, rfl, el, m, fun dd es H2 s2 ndd hdd ea er => ⟨dd, _, rfl, hdd, fun ob acc na => ?_⟩⟩
        have sf : Same H1 (upd H2 dd (.frz ob (.dK (es.map kvE)))) := fun b o e => by rw [upd_ne (ne_of_none e ndd)]; exact s2 b o e
        have ef : EntsAt (upd H2 dd (.frz ob (.dK (es.map kvE)))) es := ⟨fun e he => by rw [upd_ne (ne_of (ea.lst e he) hdd (by intro z; cases z))]; exact ea.lst e he,
          fun e he z hz => by rw [upd_ne (ne_of (ea.sqa e he z hz) hdd (by intro z; cases z))]; exact ea.sqa e he z hz⟩
        have df : (upd H2 dd (.frz ob (.dK (es.map kvE)))) dd = some (.frz ob (.dK (es.map kvE))) := upd_same
        generalize upd H2 dd (.frz ob (.dK (es.map kvE))) = H3 at sf ef df na ⊢
        have s03 := s0.trans (s1.trans sf)
        have esl : es.length ≤ 52 := by
          have := ent_few m
          rw [← er, List.length_map] at this
          exact this
        refine comp_items (a := dd) (ob := ob) (kvs := es.map kvE) (fun i xs σ H' => (∃ y z, σ = [y, z]) ∧ Same H3 H' ∧ ∃ us : List (Addr × Rc), xs = refs us ∧ At H' us ∧ rcs us = (es.take i).map (fun e => bx (era e).2) ∧ ∀ (k : Nat) (e : Nat × List (Int × Int)), k < i → (es.map era)[k]? = some e → okE e.2 = true)
          ⟨⟨none, none, rfl⟩, Same.new na, [], rfl, fun t ht => (nomatch ht), rfl, fun k e h _ => absurd h (Nat.not_lt_zero _)⟩ (fun i xs σ H' _ _ hp => hp.2.1 _ _ df) ?_ ?_
        · rintro i p xs σ H4 t hp hi hxl hacc ⟨⟨y, z, rfl⟩, s4, us, rfl, hus, hrc, hok⟩ ht
          rw [List.getElem?_map] at hp
          obtain ⟨e, he, rfl⟩ := Option.map_eq_some_iff.mp hp
          have hem := List.mem_of_getElem? he
          have heg : (es.map era)[i]? = some (era e) := by rw [List.getElem?_map, he]; rfl
          obtain ⟨f1, f2, f3⟩ := ent_facts m er hem
          have s5 : Same H4 (upd H4 t (.tup [kV (kvE e).1, (kvE e).2])) := Same.new ht
          have hla := s5 _ _ (s4 _ _ (ef.lst e hem))
          have hsq := ((ef.sqa e hem).same s4).same s5
          refine ⟨t, _, rfl, SqT.of upd_same, rfl, _, _, rfl, _, _, rfl, rfl, _, rfl, _, rfl, .str (one e.1), e.2.1, e.2.2, rfl, hla, hsq, f1, f2, f3, fun ok t' H5 s6 ht' => ?_, fun nok => ?_⟩
          · have s46 := s5.trans s6
            refine cNx.mk (Nat.le_of_lt (small1000 (by rw [List.length_map]; first | lia | omega))) hi hxl (s46 _ _ hacc) ⟨⟨_, _, rfl⟩, fun b o e => ?_, us ++ [(t', bx (era e).2)], (refs_snoc us (t', bx (era e).2)).symm, fun z hz => ?_, ?_, ?_⟩
            · rw [upd_ne (ne_of_none e na)]; exact s46 _ _ (s4 b o e)
            · have hz5 : H5 z.1 = some (.tup (four z.2.t z.2.l z.2.b z.2.r)) := by
                rcases List.mem_append.mp hz with hz | hz
                · exact s46 _ _ (hus z hz)
                · rw [List.mem_singleton.mp hz]; exact ht'
              rw [upd_ne (ne_of hz5 (s46 _ _ hacc) (by intro q; cases q))]; exact hz5
            · rw [rcs_snoc, hrc, List.take_succ, he, List.map_append]; rfl
            · intro k e' hk he'
              rcases Nat.lt_or_ge k i with h | h
              · exact hok k e' h he'
              · have : k = i := by first | lia | omega
                subst this
                rw [heg] at he'
                cases he'
                exact ok
          · have rg : rag (grp (allR rs ww hh)) = some e.1 := by
              rw [← er]
              exact rag_at (e := era e) heg hok nok
            exact rf_x (s03.trans (s4.trans s5)) (rR e.1 rg)
        · rintro xs σ H4 hxl hacc ⟨_, s4, us, rfl, hus, hrc, hok⟩
          have s14 := sf.trans s4
          have hl4 := s14 _ _ el
          rw [List.length_map] at hrc hok
          rw [List.take_length] at hrc
          have eg : rcs us = (grp (allR rs ww hh)).map fun e => bx e.2 := by rw [hrc, ← er, List.map_map]; rfl
          have rn : rag (grp (allR rs ww hh)) = none := by
            rw [← er]
            unfold rag
            rw [Option.map_eq_none_iff, List.find?_eq_none]
            intro x hx
            obtain ⟨k, hk, rfl⟩ := List.getElem_of_mem hx
            rw [hok k _ (by rw [List.length_map] at hk; exact hk) (List.getElem?_eq_getElem hk)]
            decide
          have ul : us.length ≤ 52 := by
            have := congrArg List.length eg
            rw [List.length_map, List.length_map] at this
            have := ent_few m
            first | lia | omega
          have rl : (rs.map V.str).length = rs.length := List.length_map _
          refine ⟨_, rfl, l, _, _, _, rfl, rfl, SqL.of hl4, at0s (by rw [List.getElem?_map, g0]; rfl), _, rfl, Nat.le_of_lt (small1000 (by rw [hw]; first | lia | omega)), _, rfl, l, _, rfl, .inl (SqL.of hl4), _, rfl, ?_⟩
          rw [rl, hw, hh']
          intro x dx nx ndx nex
          have s5 : Same H4 (upd (upd H4 dx (.own x)) x (.ins C dx [])) := fun b o e => by
            rw [upd_ne (ne_of_none e nx), upd_ne (ne_of_none e ndx)]; exact e
          refine ⟨x, dx, acc, ww, hh, us, rfl, upd_same, SqL.of (s5 _ _ hacc), hus.same s5, by rw [eg]; exact tiles_of m rn, ul, ⟨by first | lia | omega, by first | lia | omega⟩, ⟨by first | lia | omega, by first | lia | omega⟩, fun ts1 l2 ld kvs H6 sx pm2 pn => ⟨rfl, ?_⟩⟩
          have s6 : Same H4 H6 := fun b o e => sx b o (ne_of_none e nx) (s5 b o e)
          exact q rn x dx l2 ld ts1 kvs H6 (s0.trans (s1.trans (s14.trans s6))) pn (by rw [← eg]; exact pm2.map _)
theorem Same.seqT {K : PySem.W.Frag} {H H' : Hp} {a : Addr} {xs : List V} (e : Same H H') (h : SqT K H a xs) : SqT K H' a xs := by
  rcases h with (h | ⟨o, h⟩) | h
  · exact .inl (.inl (e _ _ h))
  · exact .inl (.inr ⟨o, e _ _ h⟩)
  · exact .inr h
mutual
theorem dis_same {K : PySem.W.Frag} {H H' : Hp} (s : Same H H') : ∀ (d : D) {v : V}, DIs K H d v → DIs K H' d v
  | .at u, v, h => by rw [DIs] at h ⊢; exact h
  | .tup ds, v, h => by
    rw [DIs] at h ⊢
    obtain ⟨a, xs, e, h1, h2⟩ := h
    exact ⟨a, xs, e, Same.seqT s h1, diss_same s ds h2⟩
  | .lst ds, v, h => by
    rw [DIs] at h ⊢
    obtain ⟨a, xs, e, h1, h2⟩ := h
    exact ⟨a, xs, e, s.seq h1, diss_same s ds h2⟩
theorem diss_same {K : PySem.W.Frag} {H H' : Hp} (s : Same H H') : ∀ (ds : Ds) {xs : List V}, DIss K H ds xs → DIss K H' ds xs
  | .nil, xs, h => by rw [DIss] at h ⊢; exact h
  | .cons d r, xs, h => by
    rw [DIss] at h ⊢
    obtain ⟨x, ys, e, h1, h2⟩ := h
    exact ⟨x, ys, e, dis_same s d h1, diss_same s r h2⟩
end
def drD (dv : D) : D := .tup (.cons (.at (.str "drawing")) (.cons dv .nil))
def rgD (c : Nat) : D := .tup (.cons (.at (.str "ragged")) (.cons (.at (.str (one c))) .nil))
def pnD (ps : List Rc) (w h : Nat) : D := .tup (.cons (.at (.str "panel")) (.cons (.lst (rcsD ps)) (.cons (.at (.int w)) (.cons (.at (.int h)) .nil))))
def OutD (dv : D) (z : Option Str) (d : D) : Prop := (fmO z = false ∧ d = drD dv) ∨ (∃ x c, z = some x ∧ fmB (Txt.split x "/") = true ∧ rag (grpS x) = some c ∧ d = rgD c) ∨
  ∃ x ps, z = some x ∧ fmB (Txt.split x "/") = true ∧ rag (grpS x) = none ∧ ps.Perm ((grpS x).map fun e => bx e.2) ∧ Srt ps ∧ d = pnD ps ((Txt.split x "/").headD ⟨#[]⟩).length (Txt.split x "/").length
theorem fm_split {x : Str} (ha : Asc x) (hl : x.length ≤ 700) (h : fmB (Txt.split x "/") = true) : Fm (Txt.split x "/") ((Txt.split x "/").headD ⟨#[]⟩).length (Txt.split x "/").length :=
  fm_of h (split_ne x) fun y hy => ((wk_split ha hl).ok y hy).1
theorem out_uniq {H : Hp} {v : V} {dv : D} {z : Option Str} {d1 d2 : D} (hv : TxOr H v z) (h1 : OutD dv z d1) (h2 : OutD dv z d2) : d1 = d2 := by
  rcases h1 with ⟨f1, rfl⟩ | ⟨x, c, rfl, f1, r1, rfl⟩ | ⟨x, ps, rfl, f1, r1, p1, s1, rfl⟩ <;> rcases h2 with ⟨f2, rfl⟩ | ⟨x', c', e2, f2, r2, rfl⟩ | ⟨x', ps', e2, f2, r2, p2, s2, rfl⟩
  · rfl
  · subst e2
    have f1 : fmB (Txt.split x' "/") = false := f1
    rw [f1] at f2; cases f2
  · subst e2
    have f1 : fmB (Txt.split x' "/") = false := f1
    rw [f1] at f2; cases f2
  · have f2 : fmB (Txt.split x "/") = false := f2
    rw [f2] at f1; cases f1
  · cases e2
    rw [r1] at r2; cases r2; rfl
  · cases e2
    rw [r1] at r2; cases r2
  · have f2 : fmB (Txt.split x "/") = false := f2
    rw [f2] at f1; cases f1
  · cases e2
    rw [r1] at r2; cases r2
  · cases e2
    have m := fm_split hv.2.1 hv.2.2 f1
    have t := (tiles_of m r1).perm p1
    rw [sorted_same t.ins (by have := m.bw; first | lia | omega) (by have := m.bh; first | lia | omega) (p1.trans p2.symm) s1 s2]
def sp_out (K : PySem.W.Frag) : Sp := fun vs H Q _ => ∃ (v : V) (z : Option Str) (dv : D), vs = [v] ∧ TxOr H v z ∧ DIs K H dv v ∧ dep dv ≤ 2 ∧ ∀ (t : Addr) (d : D) (H' : Hp), Same H H' → OutD dv z d → DIs K H' d (.ref t) → dep d ≤ 50 → Q (.ref t) H'
theorem atD {K : PySem.W.Frag} {H : Hp} {v : V} (h : flatV v = true) : DIs K H (.at v) v := by rw [DIs]; exact ⟨rfl, h⟩
theorem pairD {K : PySem.W.Frag} {H : Hp} {t : Addr} {v : V} {z : Str} {d : D} (ht : H t = some (.tup [.str z, v])) (hd : DIs K H d v) : DIs K H (.tup (.cons (.at (.str z)) (.cons d .nil))) (.ref t) := by
  rw [DIs]
  refine ⟨t, _, rfl, SqT.of ht, ?_⟩
  rw [DIss]; refine ⟨_, _, rfl, atD rfl, ?_⟩
  rw [DIss]; refine ⟨_, _, rfl, hd, ?_⟩
  rw [DIss]
theorem panD {K : PySem.W.Frag} {H : Hp} {t l : Addr} {ts : List (Addr × Rc)} {w h : Nat} (ht : H t = some (.tup [.str "panel", .ref l, .int w, .int h])) (hl : H l = some (.lst (refs ts))) (ha : At H ts) : DIs K H (pnD (rcs ts) w h) (.ref t) := by
  unfold pnD
  rw [DIs]
  refine ⟨t, _, rfl, SqT.of ht, ?_⟩
  rw [DIss]; refine ⟨_, _, rfl, atD rfl, ?_⟩
  rw [DIss]; refine ⟨_, _, rfl, listD_is (SqL.of hl) ha, ?_⟩
  rw [DIss]; refine ⟨_, _, rfl, atD rfl, ?_⟩
  rw [DIss]; refine ⟨_, _, rfl, atD rfl, ?_⟩
  rw [DIss]
theorem drD_dep {dv : D} (h : dep dv ≤ 2) : dep (drD dv) ≤ 50 := by
  unfold drD
  rw [dep, deps, deps, deps, dep]; first | lia | omega
theorem rgD_dep (c : Nat) : dep (rgD c) ≤ 50 := by
  unfold rgD
  rw [dep, deps, deps, deps, dep, dep]; first | lia | omega
theorem pnD_dep (ps : List Rc) (w h : Nat) : dep (pnD ps w h) ≤ 50 := by
  have := rcsD_dep ps
  unfold pnD
  rw [dep, deps, deps, deps, deps, deps, dep, dep, dep, dep]; first | lia | omega
theorem lookup1 {f : Str} {v : V} : ([(f, v)] : List (Str × V)).lookup f = some v := by simp [List.lookup]
theorem S_law_found : FnScope ["_law_text", "_law_kept", "_law_panel", "e"] ["_law_text"] (defScope s__law_found) := ⟨rfl, rfl, rfl, by decide +kernel, rfl, by decide +kernel, by decide +kernel⟩
theorem ok_law_found {f : Addr} {fd : FuncData} (F : Fun K "_law_found" "_law_found" s__law_found f fd) (T : Txt mg tk) (R : RG mg K cG cR cD) (PC : PCls K C) (D_read_drawing : DefOkX P w K mg base 6 "read_drawing" ["text"] (sp_read C cR cD)) (M_Panel_panes : MdOk P w K mg base 1 C "panes" ["self"] (sp_panes C)) : FnOk P w K mg base CX0 7 f fd ["_law_text"] (sp_out K) := by
  have S := S_law_found
  refine F.ok S (fun vs H Q E h => ?_) (fun cdv A outer s H vs Q E hr h => ?_)
  · obtain ⟨v, z, dv, rfl, _⟩ := h; rfl
  · obtain ⟨v, z, dv, rfl, hv, hd, dd, q⟩ := h
    refine ⟨_, (pss_cons (ps_set (i := 1) S.nd rfl (Or.inl rfl) pe_non)
      (pss_cons (ps_set (i := 2) S.nd rfl (Or.inl rfl) pe_non)
      (pss_cons (ps_tryset (i := 2) (im := 3) S.nd rfl (Or.inl rfl) rfl rfl (fun _ => px_fn D_read_drawing hr (pa_cons (pv 0) pa_nil)) rfl R.g_GlassError R.x_GlassError rfl rfl (fun _ => (pss_one (ps_set (i := 1) S.nd rfl (Or.inl rfl) (pv 3)))))
      (pss_cons (ps_if (pt_cmpR op_isN (pv 1) pe_non (nomark _)) (pss_one (ps_ret (pe_tup (pa_cons pe_str (pa_cons (pe_md0 M_Panel_panes hr (pv 2)) (pa_cons (pe_fld (pv 2) rfl) (pa_cons (pe_fld (pv 2) rfl) pa_nil))))))) pss_nil)
      (pss_cons (ps_if (PW.pt (pw_or (pt_cmpR op_eq (pe_callB call_isinX rfl T.z_isinstance rfl (pa_cons (pv 1) (pa_cons (pe_glob (v := .ref (cD)) rfl R.g_NoDrawing rfl) pa_nil))) (pe_callB call_isinX rfl T.z_isinstance rfl (pa_cons (pv 1) (pa_cons (pe_glob (v := .ref (cR)) rfl R.g_Ragged rfl) pa_nil))) (nomark _)) (pw_or1 (pt_not (pt_val (pe_callB call_isinX rfl T.z_isinstance rfl (pa_cons (pv 1) (pa_cons (pe_bltn (v := .ty "ValueError") rfl T.z_ValueError rfl rfl) pa_nil)))))))) (pss_one (ps_ret (pe_tup (pa_cons pe_str (pa_cons (pv 1) pa_nil))))) pss_nil)
      (pss_cons (ps_if (pt_val (pe_callB call_isinX rfl T.z_isinstance rfl (pa_cons (pv 1) (pa_cons (pe_glob (v := .ref (cR)) rfl R.g_Ragged rfl) pa_nil)))) (pss_one (ps_ret (pe_tup (pa_cons pe_str (pa_cons (pe_xfld (pv 1) rfl) pa_nil))))) pss_nil)
      (pss_one (ps_ret (pe_tup (pa_cons pe_str (pa_cons (pe_xfld (pv 1) rfl) pa_nil))))))))))), ?_⟩
    refine ⟨XE H (fun C fs _ => (C = cD ∧ fmO z = false ∧ fs = [(("drawing" : Str), v)]) ∨ ∃ x c, C = cR ∧ z = some x ∧ fmB (Txt.split x "/") = true ∧ rag (grpS x) = some c ∧ fs = [(("letter" : Str), .str (one c))]), ⟨_, rfl, v, z, rfl, hv, fun hf => XE.rf fun fs H' e => .inl ⟨rfl, hf, e⟩, fun x c ez hf rg => XE.rf fun fs H' e => .inr ⟨x, c, rfl, ez, hf, rg, e⟩, fun x ez hf rn b dx l ld ts kvs H' s1 pn pm => ?_⟩, ?_⟩
    · refine ⟨_, rfl, rfl, _, rfl, iteP (decide_eq_true rfl) ?_⟩
      refine ⟨_, rfl, b, dx, _, rfl, pn.ob, no_panes, b, dx, l, ld, _, _, ts, kvs, rfl, pn, fun l6 hl6 => ?_⟩
      have s6 : Same H' (upd H' l6 (.lst (refs ts))) := Same.new hl6
      have el6 : (upd H' l6 (.lst (refs ts))) l6 = some (.lst (refs ts)) := upd_same
      have pn6 := pn.same s6
      generalize upd H' l6 (.lst (refs ts)) = H6 at s6 el6 pn6 ⊢
      refine ⟨_, rfl, b, C, dx, _, _, rfl, pn6.ob, PC.cl, PC.n_width, flds_w _ _ _ _, _, rfl, b, C, dx, _, _, rfl, pn6.ob, PC.cl, PC.n_height, flds_h _ _ _ _, lenOk 4, fun t ht => ?_⟩
      have s7 := Same.new (o := .tup [.str "panel", .ref l6, .int (((Txt.split x "/").headD ⟨#[]⟩).length : Nat), .int ((Txt.split x "/").length : Nat)]) ht
      exact q t _ _ ((s1.trans s6).trans s7) (.inr (.inr ⟨x, rcs ts, ez, hf, rn, pm, pn.srt, rfl⟩)) (panD upd_same (s7 _ _ el6) (pn6.ats.same s7)) (pnD_dep _ _ _)
    · rintro x C' d0 T0 T2 H' ⟨x', C2, dx2, fs, ev, rfl, hx, s34, xr, alt⟩ fl hT2 nT2
      obtain rfl : x = x' := Value.ref.inj ev
      obtain ⟨rfl, xr', s5⟩ := xr_on hx s34 xr fl hT2
      obtain ⟨⟨dx', ed, nd, hdx⟩, T3, hxT⟩ := xr'
      cases ed
      generalize thrown H' x C2 (some dx2) T2 = H5 at hdx hxT s5 ⊢
      have he : IsExc H5 x C2 := .inl ⟨dx2, _, .inr ⟨T3, hxT⟩, hdx⟩
      rcases alt with ⟨rfl, hf, rfl⟩ | ⟨y, c, rfl, rfl, hf, rg, rfl⟩
      · refine ⟨R.mD, _, rfl, ?_⟩
        refine ⟨_, rfl, rfl, _, rfl, iteN (decide_eq_false (by intro z; cases z)) ?_⟩
        refine ⟨_, rfl, x, C2, .ref C2, .ref C2, true, rfl, he, R.clD, rfl, (fun _ z => z), R.kDD, _, rfl, x, C2, .ref cR, .ref cR, false, rfl, he, R.clD, rfl, (fun _ z => z), R.kDR, rfl, _, rfl, iteN (by decide) ?_⟩
        refine ⟨_, rfl, x, C2, .ty "ValueError", .type "ValueError", true, rfl, he, R.clD, rfl, (fun _ z => z), R.kDV, _, rfl, iteN rfl ?_⟩
        refine ⟨_, rfl, x, C2, .ref cR, .ref cR, false, rfl, he, R.clD, rfl, (fun _ z => z), R.kDR, _, rfl, iteN rfl ?_⟩
        refine ⟨_, rfl, x, C2, dx2, _, _, rfl, .inr ⟨T3, hxT⟩, hdx, R.clD, R.n_drawing, lookup1, lenOk 2, fun t ht => ?_⟩
        have s6 := s5.trans (Same.new (o := .tup [.str "drawing", v]) ht)
        exact q t (drD dv) _ s6 (.inl ⟨hf, rfl⟩) (pairD upd_same (dis_same s6 dv hd)) (drD_dep dd)
      · refine ⟨R.mR, _, rfl, ?_⟩
        refine ⟨_, rfl, rfl, _, rfl, iteN (decide_eq_false (by intro z; cases z)) ?_⟩
        refine ⟨_, rfl, x, C2, .ref cD, .ref cD, false, rfl, he, R.clR, rfl, (fun _ z => z), R.kRD, _, rfl, x, C2, .ref C2, .ref C2, true, rfl, he, R.clR, rfl, (fun _ z => z), R.kRR, rfl, _, rfl, iteN (by decide) ?_⟩
        refine ⟨_, rfl, x, C2, .ty "ValueError", .type "ValueError", true, rfl, he, R.clR, rfl, (fun _ z => z), R.kRV, _, rfl, iteN rfl ?_⟩
        refine ⟨_, rfl, x, C2, .ref C2, .ref C2, true, rfl, he, R.clR, rfl, (fun _ z => z), R.kRR, _, rfl, iteP rfl ?_⟩
        refine ⟨_, rfl, x, C2, dx2, _, _, rfl, .inr ⟨T3, hxT⟩, hdx, R.clR, R.n_letter, lookup1, lenOk 2, fun t ht => ?_⟩
        exact q t (rgD c) _ (s5.trans (Same.new ht)) (.inr (.inl ⟨y, c, rfl, hf, rg, rfl⟩)) (pairD upd_same (atD rfl)) (rgD_dep c)
theorem S_law_formed : FnScope ["_law_text", "_law_rows", "_law_letters"] ["_law_text"] (defScope s__law_formed) := ⟨rfl, rfl, rfl, by decide +kernel, rfl, by decide +kernel, by decide +kernel⟩
theorem fm_no {rs : List Str} (h : ¬ (rs.length ≤ 12 ∧ 1 ≤ (rs.headD ⟨#[]⟩).length ∧ (rs.headD ⟨#[]⟩).length ≤ 12)) : fmB rs = false := by
  cases e : fmB rs with
  | false => rfl
  | true =>
    unfold fmB at e
    simp only [Bool.and_eq_true, decide_eq_true_eq] at e
    exact absurd ⟨e.1.1, e.1.2.1, e.1.2.2⟩ h
theorem ok_law_formed {f : Addr} {fd : FuncData} (F : Fun K "_law_formed" "_law_formed" s__law_formed f fd) (T : Txt mg tk) : FnOk P w K mg base CX0 1 f fd ["_law_text"] sp_isdr := by
  have S := S_law_formed
  refine F.ok S (fun vs H Q E h => ?_) (fun cdv A outer s H vs Q E hr h => ?_)
  · obtain ⟨v, z, rfl, _⟩ := h; rfl
  · obtain ⟨v, z, rfl, hv, q⟩ := h
    refine ⟨_, (pss_cons (ps_if (pt_not (pt_val (pe_callB call_isin rfl T.z_isinstance rfl (pa_cons (pv 0) (pa_cons (pe_bltn (v := .ty "str") rfl T.z_str rfl rfl) pa_nil))))) (pss_one (ps_ret pe_bl)) pss_nil)
      (pss_cons (ps_set (i := 1) S.nd rfl (Or.inr rfl) (pe_bm PySem.F.plainAttrs_str PySem.F.slot_str_split PySem.F.type_str_split mt_split (pv 0) (pa_cons pe_str pa_nil)))
      (pss_cons (ps_if (PW.pt (pw_or (pt_cmpR op_gt (pe_callB call_len_seq rfl T.z_len rfl (pa_cons (pv 1) pa_nil)) pe_int (nomark _)) (pw_or (pt_cmpR op_lt (pe_callB call_len_str rfl T.z_len rfl (pa_cons (pe_ix ix_list (pv 1) pe_int (fun _ _ => rfl)) pa_nil)) pe_int (nomark _)) (pw_or1 (pt_cmpR op_gt (pe_callB call_len_str rfl T.z_len rfl (pa_cons (pe_ix ix_list (pv 1) pe_int (fun _ _ => rfl)) pa_nil)) pe_int (nomark _)))))) (pss_one (ps_ret pe_bl)) pss_nil)
      (pss_cons (ps_set (i := 2) S.nd rfl (Or.inr rfl) pe_str)
      (pss_one (ps_ret (pe_callB call_all rfl T.z_all rfl (pa_cons (pe_comp rfl (pi_list (pv 1)) (fun _ _ _ _ _ => (pg_name (i := 0) (show List.Nodup (["_law_row", "_law_rows", "_law_letters"] : List Str) from by decide +kernel) rfl (Or.inl rfl))) (fun _ _ _ _ _ => (pe_and (pe_cmpR op_eq (pe_callB call_len_str rfl T.z_len rfl (pa_cons (pv 0) pa_nil)) (pe_callB call_len_str rfl T.z_len rfl (pa_cons (pe_ix (ix_listK (K := K)) (pv 1) pe_int (fun _ _ => rfl)) pa_nil)) (nomark _)) (pe_one (pe_callB (call_allK (K := K)) rfl T.z_all rfl (pa_cons (pe_comp rfl (pi_text (pv 0)) (fun _ _ _ _ _ => (pg_name (i := 0) (show List.Nodup (["_law_sign", "_law_letters"] : List Str) from by decide +kernel) rfl (Or.inl rfl))) (fun _ _ _ _ _ => (pe_cmpR op_in_str (pv 0) (pv 1) rfl)) (N := ["_law_sign", "_law_letters"]) (fr := [none, some 2])) pa_nil))))) (N := ["_law_row", "_law_rows", "_law_letters"]) (fr := [none, some 1, some 2])) pa_nil)))))))), ?_⟩
    cases z with
    | none =>
      obtain ⟨Ty, ht, nT⟩ := hv
      exact ⟨_, rfl, v, Ty, "str", rfl, ht, .inr (.inr (.inr (.inr rfl))), _, rfl, iteP (by unfold isB; rw [decide_eq_false nT, decide_eq_false (show ¬ ("str" : String) = "int" by decide), Bool.and_false]; rfl) (q H (Same.refl H))⟩
    | some z =>
      obtain ⟨rfl, ha, hl⟩ := hv
      have q : ∀ H', Same H H' → Q (.bl (fmB (Txt.split z "/"))) H' := q
      have wk := wk_split ha hl
      have ne := split_ne z
      refine ⟨_, rfl, _, "str", "str", rfl, rfl, .inr (.inr (.inr (.inr rfl))), _, rfl, iteN rfl ?_⟩
      refine ⟨_, rfl, rfl, z, "/", rfl, rfl, by decide +kernel, Nat.le_of_lt (small1000 (by first | lia | omega)), fun l nl => ?_⟩
      generalize Txt.split z "/" = rs at q wk ne nl ⊢
      have s1 : Same H (upd H l (.lst (rs.map V.str))) := Same.new nl
      have el : (upd H l (.lst (rs.map V.str))) l = some (.lst (rs.map V.str)) := upd_same
      generalize upd H l (.lst (rs.map V.str)) = H1 at s1 el ⊢
      obtain ⟨g0, m0⟩ := head_get ne
      obtain ⟨a0, l0⟩ := wk.ok _ m0
      have rl : (rs.map V.str).length = rs.length := List.length_map _
      have gi : atI (rs.map V.str) 0 = some (.str (rs.headD ⟨#[]⟩)) := at0s (by rw [List.getElem?_map, g0]; rfl)
      have sz : (rs.headD ⟨#[]⟩).length ≤ sizeLine := Nat.le_of_lt (small1000 (by first | lia | omega))
      refine ⟨_, rfl, l, _, rfl, .inl (SqL.of el), _, _, rfl, rfl, _, rfl, ite3 (fun h1 => ?_) (fun h1 => ?_)⟩
      · have h1 := of_decide_eq_true h1
        rw [rl] at h1
        have := q H1 s1
        rw [fm_no (by first | lia | omega)] at this
        exact this
      · have h1 := of_decide_eq_false h1
        rw [rl] at h1
        refine ⟨_, rfl, l, _, _, _, rfl, rfl, SqL.of el, gi, _, rfl, sz, _, _, rfl, rfl, _, rfl, ite3 (fun h2 => ?_) (fun h2 => ?_)⟩
        · have h2 := of_decide_eq_true h2
          have := q H1 s1
          rw [fm_no (by first | lia | omega)] at this
          exact this
        · have h2 := of_decide_eq_false h2
          refine ⟨_, rfl, l, _, _, _, rfl, rfl, SqL.of el, gi, _, rfl, sz, _, _, rfl, rfl, _, rfl, ite3 (fun h3 => ?_) (fun h3 => ?_)⟩
          · have h3 := of_decide_eq_true h3
            have := q H1 s1
            rw [fm_no (by first | lia | omega)] at this
            exact this
          · have h3 := of_decide_eq_false h3
            refine ⟨_, rfl, l, rfl, ⟨_, SqL.of el⟩, fun acc na => comp_list (K := K) (a := l) (ys := rs.map V.str) (fun i xs σ H' => (∃ y, σ = [y, some (.ref l), some (.str LETS)]) ∧ Same H1 H' ∧ xs = (rs.take i).map fun x => V.bl (rowB x (rs.headD ⟨#[]⟩).length)) ⟨⟨none, rfl⟩, Same.new na, rfl⟩ (fun i xs σ H' _ _ hp => SqL.of (hp.2.1 _ _ el)) ?_ ?_⟩
            · rintro i x xs σ H' hx hi hxl hacc ⟨⟨y, rfl⟩, s2, rfl⟩
              rw [List.getElem?_map] at hx
              obtain ⟨u, hu, rfl⟩ := Option.map_eq_some_iff.mp hx
              obtain ⟨ua, ul⟩ := wk.ok u (List.mem_of_getElem? hu)
              have el2 := s2 _ _ el
              have fin : ∀ H2, Same H' H2 → cNx acc (rs.map V.str).length (fun i xs σ H' => (∃ y, σ = [y, some (.ref l), some (.str LETS)]) ∧ Same H1 H' ∧ xs = (rs.take i).map fun x => V.bl (rowB x (rs.headD ⟨#[]⟩).length)) i [some (.str u), some (.ref l), some (.str LETS)] (V.bl (rowB u (rs.headD ⟨#[]⟩).length)) H2 := fun H2 s3 => by
                refine cNx.mk (Nat.le_of_lt (small1000 (by first | lia | omega))) hi hxl (s3 _ _ hacc) ⟨⟨_, rfl⟩, fun b o e => by rw [upd_ne (ne_of_none e na)]; exact s3 _ _ (s2 b o e), ?_⟩
                rw [List.take_succ, hu, List.map_append]; rfl
              refine ⟨_, rfl, _, rfl, Nat.le_of_lt (small1000 (by first | lia | omega)), _, rfl, l, _, _, _, rfl, rfl, SqL.of el2, gi, _, rfl, sz, rfl, _, rfl, ite3 (fun h4 => ?_) (fun h4 => ?_)⟩
              · have e1 : decide ((u.length : Int) = ((rs.headD ⟨#[]⟩).length : Nat)) = true := by
                  have := of_decide_eq_true h4
                  injection this with this
                  exact decide_eq_true this
                refine ⟨_, rfl, _, rfl, ua, fun acc2 na2 => comp_text (z := u) (fun i xs σ H2 => (∃ y, σ = [y, some (.str LETS)]) ∧ Same H' H2 ∧ xs = (u.cps.toList.take i).map fun c => V.bl (letB c)) ⟨⟨none, rfl⟩, Same.new na2, rfl⟩ ?_ ?_⟩
                · rintro j c xs σ H2 hci hj hxl2 hacc2 ⟨⟨y, rfl⟩, s3, rfl⟩
                  refine ⟨_, rfl, _, rfl, _, _, rfl, rfl, ?_⟩
                  refine cNx.mk (Nat.le_of_lt (small1000 (by first | lia | omega))) hj hxl2 hacc2 ⟨⟨_, rfl⟩, fun b o e => by rw [upd_ne (ne_of_none e na2)]; exact s3 b o e, ?_⟩
                  have hc : u.cps.toList[j]? = some c := by rw [Array.getElem?_toList]; exact hci
                  rw [List.take_succ, hc, List.map_append]; rfl
                · rintro xs σ H2 hxl2 hacc2 ⟨_, s3, rfl⟩
                  have el3 : u.cps.toList.take u.length = u.cps.toList := List.take_of_length_le (by rw [Array.length_toList]; exact Nat.le_refl _)
                  rw [el3] at hacc2
                  have e2 : List.map V.bl (u.cps.toList.map letB) = u.cps.toList.map fun c => V.bl (letB c) := by rw [List.map_map]; rfl
                  refine ⟨acc2, u.cps.toList.map letB, rfl, SqL.of (by rw [hacc2, e2]), ?_⟩
                  have := fin H2 s3
                  unfold rowB at this
                  rw [e1, Bool.true_and] at this
                  rw [List.all_map]
                  exact this
              · have e1 : decide ((u.length : Int) = ((rs.headD ⟨#[]⟩).length : Nat)) = false := by
                  have := of_decide_eq_false h4
                  exact decide_eq_false fun z => this (by rw [z])
                have := fin H' (Same.refl _)
                unfold rowB at this
                rw [e1, Bool.false_and] at this
                exact this
            · rintro xs σ H' hxl hacc ⟨_, s2, rfl⟩
              rw [rl, List.take_length] at hacc
              have e2 : List.map V.bl (rs.map fun x => rowB x (rs.headD ⟨#[]⟩).length) = rs.map fun x => V.bl (rowB x (rs.headD ⟨#[]⟩).length) := by rw [List.map_map]; rfl
              refine ⟨acc, rs.map fun x => rowB x (rs.headD ⟨#[]⟩).length, rfl, SqL.of (by rw [hacc, e2]), rfl, ?_⟩
              have := q H' (s1.trans s2)
              unfold fmB at this
              rw [decide_eq_true (show rs.length ≤ 12 by first | lia | omega), decide_eq_true (show 1 ≤ (rs.headD ⟨#[]⟩).length by first | lia | omega), decide_eq_true (show (rs.headD ⟨#[]⟩).length ≤ 12 by first | lia | omega), Bool.true_and, Bool.true_and, Bool.true_and] at this
              rw [List.all_map]
              exact this
abbrev N_due : List Str := ["_law_text", "_law_rows", "_law_panes", "_law_row", "_law_column", "_law_due_here", "_law_letter", "_law_tops", "_law_lefts", "_law_one"]
theorem S_law_due : FnScope N_due ["_law_text"] (defScope s__law_due) := ⟨rfl, rfl, rfl, by decide +kernel, rfl, by decide +kernel, by decide +kernel⟩
theorem nd_same {α β : Type} {f : α → β} : ∀ {l : List α}, (l.map f).Nodup → ∀ {x y : α}, x ∈ l → y ∈ l → f x = f y → x = y
  | a :: r, nd, x, y, hx, hy, e => by
    rw [List.map_cons, List.nodup_cons] at nd
    rcases List.mem_cons.mp hx with h1 | h1
    · rcases List.mem_cons.mp hy with h2 | h2
      · rw [h1, h2]
      · exact absurd (List.mem_map.mpr ⟨y, h2, by rw [← e, h1]⟩) nd.1
    · rcases List.mem_cons.mp hy with h2 | h2
      · exact absurd (List.mem_map.mpr ⟨x, h1, by rw [e, h2]⟩) nd.1
      · exact nd_same nd.2 h1 h2 e
theorem val_of {es : List Ent} (nd : (es.map (·.1)).Nodup) {e : Ent} (he : e ∈ es) : valV (es.map kvE) (Sum.inr (one e.1)) = some (.ref e.2.1) := by
  cases h : valV (es.map kvE) (Sum.inr (one e.1)) with
  | none => exact absurd (List.mem_map.mpr ⟨e, he, rfl⟩) (val_none h)
  | some v =>
    obtain ⟨e', he', ec, rfl⟩ := val_some h
    rw [nd_same nd he' he ec]
theorem at2_0 {a b : V} : atI [a, b] 0 = some a := rfl
theorem at2_1 {a b : V} : atI [a, b] 1 = some b := rfl
theorem ok_dueB {f : Addr} {cdv : Value} {A : Around} {outer : List Env} {s : Shared} {H : Hp} {E : XK} (hr : Room 1 (A.deeper (PyProof.Rows.envOfC "_law_due" (defScope s__law_due) s.heap.objs.size f cdv))) (T : Txt mg tk) {Q : VK} :
    ∃ rd, PSs (cxOf CX0 P w K mg base N_due "_law_due" (defScope s__law_due) f cdv A outer s H E).nox ((defBody s__law_due).drop 4) rd ∧
      ∀ (v : V) (l dd : Addr) (rs : List Str) (ww hh : Nat) (es : List Ent) (x3 x4 : Option V) (H1 : Hp), Same H H1 → H1 l = some (.lst (rs.map V.str)) → H dd = none → H1 dd = some (.dK (es.map kvE)) → EntsAt H1 es → Fm rs ww hh → (rs.headD ⟨#[]⟩).length = ww → rs ≠ [] → l ≠ dd → es.map era = grp (allR rs ww hh) →
        (∀ (c : Nat) (t : Addr) (H' : Hp), Same H H' → rag (grp (allR rs ww hh)) = some c → H' t = some (.tup [.str "ragged", .str (one c)]) → Q (.ref t) H') →
        (∀ (t l2 : Addr) (ts : List (Addr × Rc)) (H' : Hp), Same H H' → rag (grp (allR rs ww hh)) = none → (rcs ts).Perm ((grp (allR rs ww hh)).map fun e => bx e.2) → Srt (rcs ts) → H' l2 = some (.lst (refs ts)) → At H' ts → H' t = some (.tup [.str "panel", .ref l2, .int ww, .int hh]) → Q (.ref t) H') →
        rd { nx := fun _ H' => Q .non H', rt := Q } [some v, some (.ref l), some (.ref dd), x3, x4, none, none, none, none, none] H1 := by
  have S := S_law_due
  have hu := hu_of hr
  refine ⟨_, (pss_cons (ps_set (i := 5) S.nd rfl (Or.inl rfl) (pe_lst pa_nil))
      (pss_cons (ps_for PassesOwn.never rfl (pi_keysK (pv 2)) (pg_name (i := 6) S.nd rfl (Or.inl rfl)) (pss_cons (ps_setComp rfl (pg_name (i := 7) S.nd rfl (Or.inl rfl)) (pi_list (pe_dget hu (pv 2) (pv 6) (fun _ _ => rfl))) (fun _ _ _ _ _ => (pg_name (i := 0) (show List.Nodup (["_law_square"] : List Str) from by decide +kernel) rfl (Or.inl rfl))) (fun _ _ _ _ _ => (pe_ix (ix_tupK (K := K)) (pv 0) pe_int (fun _ _ => rfl))) (N := ["_law_square"]) (fr := [none]))
      (pss_cons (ps_setComp rfl (pg_name (i := 8) S.nd rfl (Or.inl rfl)) (pi_list (pe_dget hu (pv 2) (pv 6) (fun _ _ => rfl))) (fun _ _ _ _ _ => (pg_name (i := 0) (show List.Nodup (["_law_square"] : List Str) from by decide +kernel) rfl (Or.inl rfl))) (fun _ _ _ _ _ => (pe_ix (ix_tupK (K := K)) (pv 0) pe_int (fun _ _ => rfl))) (N := ["_law_square"]) (fr := [none]))
      (pss_cons (ps_set (i := 9) S.nd rfl (Or.inl rfl) (pe_tup (pa_cons (pe_callB call_min1 rfl T.z_min rfl (pa_cons (pv 7) pa_nil)) (pa_cons (pe_callB call_min1 rfl T.z_min rfl (pa_cons (pv 8) pa_nil)) (pa_cons (pe_op op_add (pe_callB call_max1 rfl T.z_max rfl (pa_cons (pv 7) pa_nil)) pe_int) (pa_cons (pe_op op_add (pe_callB call_max1 rfl T.z_max rfl (pa_cons (pv 8) pa_nil)) pe_int) pa_nil))))))
      (pss_cons (ps_if (pt_cmpR op_ne (pe_callB call_len_seq rfl T.z_len rfl (pa_cons (pv 7) pa_nil)) (pe_op op_mulL (pe_op op_sub (pe_ix ix_tup (pv 9) pe_int (fun _ _ => rfl)) (pe_ix ix_tup (pv 9) pe_int (fun _ _ => rfl))) (pe_op op_sub (pe_ix ix_tup (pv 9) pe_int (fun _ _ => rfl)) (pe_ix ix_tup (pv 9) pe_int (fun _ _ => rfl)))) (nomark _)) (pss_one (ps_ret (pe_tup (pa_cons pe_str (pa_cons (pv 6) pa_nil))))) pss_nil)
      (pss_one (ps_expr (pe_bm PySem.F.plainAttrs_list PySem.F.slot_list_append PySem.F.type_list_append mt_append (pv 5) (pa_cons (pv 9) pa_nil)))))))))
      (pss_one (ps_ret (pe_tup (pa_cons pe_str (pa_cons (pe_callB call_sortedT rfl T.z_sorted rfl (pa_cons (pv 5) pa_nil)) (pa_cons (pe_callB call_len_str rfl T.z_len rfl (pa_cons (pe_ix ix_list (pv 1) pe_int (fun _ _ => rfl)) pa_nil)) (pa_cons (pe_callB call_len_seq rfl T.z_len rfl (pa_cons (pv 1) pa_nil)) pa_nil))))))))), ?_⟩
  intro v l dd rs ww hh es x3 x4 H1 s1 hl ndd hdd ea m hw ne nld er qR qP
  have nd1 : (es.map (·.1)).Nodup := by
    have := grp_nodup (allR rs ww hh)
    rw [← er, era_keys] at this
    exact this
  have esl : es.length ≤ 52 := by
    have := ent_few m
    rw [← er, List.length_map] at this
    exact this
  have bw := m.bw
  have bh := m.bh
  obtain ⟨g0, m0⟩ := head_get ne
  refine ⟨lenOk 0, fun dl ndl => ?_⟩
  have s2 : Same H1 (upd H1 dl (.lst [])) := Same.new ndl
  have hdl : (upd H1 dl (.lst [])) dl = some (.lst []) := upd_same
  have ndl0 : H dl = none := by
    cases e : H dl with
    | none => rfl
    | some o => rw [s1 _ _ e] at ndl; cases ndl
  generalize upd H1 dl (.lst []) = H2 at s2 hdl ⊢
  have hdd2 := s2 _ _ hdd
  have hdl' := hdl
  have ndd2 : dl ≠ dd := fun z => by rw [z, hdd2] at hdl'; cases hdl'
  refine ⟨_, rfl, dd, _, rfl, Rd.of hdd2, fun ob => ?_⟩
  have df : (upd H2 dd (.frz ob (.dK (es.map kvE)))) dd = some (.frz ob (.dK (es.map kvE))) := upd_same
  have sf : Same H (upd H2 dd (.frz ob (.dK (es.map kvE)))) := fun b o e => by rw [upd_ne (ne_of_none e ndd)]; exact s2 _ _ (s1 b o e)
  have ef : EntsAt (upd H2 dd (.frz ob (.dK (es.map kvE)))) es := ⟨fun e he => by rw [upd_ne (ne_of (ea.lst e he) hdd (by intro z; cases z))]; exact s2 _ _ (ea.lst e he),
    fun e he z hz => by rw [upd_ne (ne_of (ea.sqa e he z hz) hdd (by intro z; cases z))]; exact s2 _ _ (ea.sqa e he z hz)⟩
  have lf : (upd H2 dd (.frz ob (.dK (es.map kvE)))) l = some (.lst (rs.map V.str)) := by rw [upd_ne nld]; exact s2 _ _ hl
  have lne : l ≠ dl := ne_of_none hl ndl
  have dlf : (upd H2 dd (.frz ob (.dK (es.map kvE)))) dl = some (.lst []) := by rw [upd_ne ndd2]; exact hdl
  have nel : ∀ e ∈ es, e.2.1 ≠ dl := fun e he => ne_of_none (ea.lst e he) ndl
  have nes : ∀ e ∈ es, ∀ z ∈ e.2.2, z.1 ≠ dl := fun e he z hz => ne_of_none (ea.sqa e he z hz) ndl
  generalize upd H2 dd (.frz ob (.dK (es.map kvE))) = H3 at df sf ef lf dlf ⊢
  refine for_keysK (a := dd) (ob := ob) (kvs := es.map kvE)
    (fun i σ H' => (∃ x6 x7 x8 x9, σ = [some v, some (.ref l), some (.ref dd), x3, x4, some (.ref dl), x6, x7, x8, x9]) ∧ SameX dl H3 H' ∧ ∃ us : List (Addr × Rc), H' dl = some (.lst (refs us)) ∧ At H' us ∧ rcs us = (es.take i).map (fun e => bx (era e).2) ∧ ∀ (k : Nat) (e : Nat × List (Int × Int)), k < i → (es.map era)[k]? = some e → okE e.2 = true)
    ⟨⟨_, _, _, _, rfl⟩, SameX.refl, [], dlf, fun t ht => (nomatch ht), rfl, fun k e h _ => absurd h (Nat.not_lt_zero _)⟩ (fun i σ H' _ hp => hp.2.1 _ _ (Ne.symm ndd2) df) ?_ ?_
  · rintro i p σ H4 hp ⟨⟨x6, x7, x8, x9, rfl⟩, s4, us, hus, hat, hrc, hok⟩
    rw [List.getElem?_map] at hp
    obtain ⟨e, he, rfl⟩ := Option.map_eq_some_iff.mp hp
    have hem := List.mem_of_getElem? he
    have heg : (es.map era)[i]? = some (era e) := by rw [List.getElem?_map, he]; rfl
    have hil : i < es.length := (List.getElem?_eq_some_iff.mp he).1
    obtain ⟨f1, f2, f3⟩ := ent_facts m er hem
    have hla := s4 _ _ (nel e hem) (ef.lst e hem)
    have hsq : SqAt H4 e.2.2 := fun z hz => s4 _ _ (nes e hem z hz) (ef.sqa e hem z hz)
    have hdd4 := s4 _ _ (Ne.symm ndd2) df
    have dg : ∀ {H' : Hp}, Same H4 H' → DGet H' dd (.str (one e.1)) (some (.ref e.2.1)) := fun {H'} sx => .inl ⟨_, Sum.inr (one e.1), .inr ⟨ob, sx _ _ hdd4⟩, rfl, (val_of nd1 hem).symm⟩
    refine ⟨_, rfl, _, rfl, dd, _, rfl, dg (Same.refl _), e.2.1, rfl, ⟨_, SqL.of hla⟩, fun acc na => comp_list (K := K) (a := e.2.1) (ys := srefs e.2.2) (fun i xs σ H' => (∃ y, σ = [y]) ∧ Same H4 H' ∧ xs = (e.2.2.take i).map fun s => V.int s.2.1) ⟨⟨none, rfl⟩, Same.new na, rfl⟩ (fun i xs σ H' _ _ hp => SqL.of (hp.2.1 _ _ hla)) ?_ ?_⟩
    · rintro j x xs σ H' hx hi hxl hacc ⟨⟨y, rfl⟩, s5, rfl⟩
      obtain ⟨u, hu', rfl⟩ := srefs_get hx
      refine ⟨_, rfl, u.1, _, _, _, rfl, rfl, SqT.of (s5 _ _ (hsq u (List.mem_of_getElem? hu'))), at2_0, ?_⟩
      refine cNx.mk (Nat.le_of_lt (small1000 (by rw [List.length_map]; first | lia | omega))) hi hxl hacc ⟨⟨_, rfl⟩, fun b o e => by rw [upd_ne (ne_of_none e na)]; exact s5 b o e, ?_⟩
      rw [List.take_succ, hu', List.map_append]; rfl
    rintro xs σ H5 hxl hacc ⟨_, s5, rfl⟩
    rw [List.length_map, List.take_length] at hacc
    refine ⟨_, rfl, _, rfl, dd, _, rfl, dg s5, e.2.1, rfl, ⟨_, SqL.of (s5 _ _ hla)⟩, fun acc2 na2 => comp_list (K := K) (a := e.2.1) (ys := srefs e.2.2) (fun i xs σ H' => (∃ y, σ = [y]) ∧ Same H5 H' ∧ xs = (e.2.2.take i).map fun s => V.int s.2.2) ⟨⟨none, rfl⟩, Same.new na2, rfl⟩ (fun i xs σ H' _ _ hp => SqL.of (hp.2.1 _ _ (s5 _ _ hla))) ?_ ?_⟩
    · rintro j x xs σ H' hx hi hxl hacc' ⟨⟨y, rfl⟩, s6, rfl⟩
      obtain ⟨u, hu', rfl⟩ := srefs_get hx
      refine ⟨_, rfl, u.1, _, _, _, rfl, rfl, SqT.of (s6 _ _ (s5 _ _ (hsq u (List.mem_of_getElem? hu')))), at2_1, ?_⟩
      refine cNx.mk (Nat.le_of_lt (small1000 (by rw [List.length_map]; first | lia | omega))) hi hxl hacc' ⟨⟨_, rfl⟩, fun b o e => by rw [upd_ne (ne_of_none e na2)]; exact s6 b o e, ?_⟩
      rw [List.take_succ, hu', List.map_append]; rfl
    rintro xs σ H6 hxl2 hacc2 ⟨_, s6, rfl⟩
    rw [List.length_map, List.take_length] at hacc2
    have r1 : SqL K H6 acc ((e.2.2.map fun s => s.2.1).map V.int) := SqL.of (by rw [List.map_map]; exact s6 _ _ hacc)
    have r2 : SqL K H6 acc2 ((e.2.2.map fun s => s.2.2).map V.int) := SqL.of (by rw [List.map_map]; exact hacc2)
    have ne1 : (e.2.2.map fun s => s.2.1) ≠ [] := fun z => f1 (List.map_eq_nil_iff.mp z)
    have ne2 : (e.2.2.map fun s => s.2.2) ≠ [] := fun z => f1 (List.map_eq_nil_iff.mp z)
    refine ⟨_, rfl, acc, _, rfl, r1, rfl, ne1, fun m1 hm1 q1 => ⟨_, rfl, acc2, _, rfl, r2, rfl, ne2, fun m2 hm2 q2 => ⟨_, rfl, acc, _, rfl, r1, rfl, ne1, fun m3 hm3 q3 => ⟨_, _, rfl, rfl, _, rfl, acc2, _, rfl, r2, rfl, ne2, fun m4 hm4 q4 => ⟨_, _, rfl, rfl, ?_⟩⟩⟩⟩⟩
    rw [sq_ints1] at hm1 q1 hm3 q3
    rw [sq_ints2] at hm2 q2 hm4 q4
    have e1 : m1 = (bx (e.2.2.map (·.2))).t := minI_is hm1 q1
    have e2 : m2 = (bx (e.2.2.map (·.2))).l := minI_is hm2 q2
    have e3 : m3 + 1 = (bx (e.2.2.map (·.2))).b := congrArg (· + 1) (maxI_is hm3 q3)
    have e4 : m4 + 1 = (bx (e.2.2.map (·.2))).r := congrArg (· + 1) (maxI_is hm4 q4)
    have g3 : (fun i j : Int => V.int (i + j)) m3 1 = V.int (bx (e.2.2.map (·.2))).b := congrArg V.int e3
    have g4 : (fun i j : Int => V.int (i + j)) m4 1 = V.int (bx (e.2.2.map (·.2))).r := congrArg V.int e4
    rw [e1, e2, g3, g4]
    have bi := bx_in (qs := e.2.2.map (·.2)) (w := 12) (h := 12) (fun z => f1 (List.map_eq_nil_iff.mp z)) fun s hs => by
      obtain ⟨u, hu', rfl⟩ := List.mem_map.mp hs
      exact f3 u hu'
    have ol : okE (era e).2 = decide (((e.2.2.map (·.2)).length : Int) = ((bx (e.2.2.map (·.2))).b - (bx (e.2.2.map (·.2))).t) * ((bx (e.2.2.map (·.2))).r - (bx (e.2.2.map (·.2))).l)) := rfl
    rw [List.length_map] at ol
    generalize hp : bx (e.2.2.map (·.2)) = p at bi ol ⊢
    have hp : bx (era e).2 = p := hp
    obtain ⟨a1, a2, a3, a4, a5, a6⟩ := bi
    refine ⟨lenOk 4, fun t ht => ?_⟩
    have s7 : Same H6 (upd H6 t (.tup (four p.t p.l p.b p.r))) := Same.new ht
    have ht7 : (upd H6 t (.tup (four p.t p.l p.b p.r))) t = some (.tup (four p.t p.l p.b p.r)) := upd_same
    generalize upd H6 t (.tup (four p.t p.l p.b p.r)) = H7 at s7 ht7 ⊢
    have s47 := s5.trans (s6.trans s7)
    have r17 : SqL K H7 acc ((e.2.2.map fun s => s.2.1).map V.int) := SqL.of (by rw [List.map_map]; exact s7 _ _ (s6 _ _ hacc))
    refine ⟨_, rfl, acc, _, rfl, .inl r17, _, rfl, t, _, _, _, rfl, rfl, SqT.of ht7, at2, _, rfl, t, _, _, _, rfl, rfl, SqT.of ht7, at0, _, _, rfl, rfl, _, rfl, t, _, _, _, rfl, rfl, SqT.of ht7, at3, _, rfl, t, _, _, _, rfl, rfl, SqT.of ht7, at1, _, _, rfl, rfl, _, _, rfl, rfl, mul64 (by first | lia | omega) (by first | lia | omega) (by first | lia | omega) (by first | lia | omega), rfl, _, rfl, ?_⟩
    by_cases hok2 : (e.2.2.length : Int) = (p.b - p.t) * (p.r - p.l)
    · refine iteN ?_ ?_
      · rw [List.length_map, List.length_map, hok2, decide_eq_true rfl]; rfl
      · rw [decide_eq_true hok2] at ol
        have hus7 := s47 _ _ hus
        have at7 := hat.same s47
        have ul : us.length ≤ 52 := by
          have := congrArg List.length hrc
          rw [List.length_map, List.length_map, List.length_take] at this
          first | lia | omega
        refine ⟨_, rfl, .inl ⟨rfl, _, SqL.of hus7⟩, _, rfl, dl, _, _, rfl, rfl, hus7, small1000 (by rw [List.length_map]; first | lia | omega), ⟨_, _, _, _, rfl⟩, (s4.trans s47.x).trans SameX.upd, us ++ [(t, p)], by rw [upd_same, refs_snoc], fun z hz => ?_, ?_, ?_⟩
        · have hz7 : H7 z.1 = some (.tup (four z.2.t z.2.l z.2.b z.2.r)) := by
            rcases List.mem_append.mp hz with hz | hz
            · exact at7 z hz
            · rw [List.mem_singleton.mp hz]; exact ht7
          rw [upd_ne (ne_of hz7 hus7 (by intro q; cases q))]; exact hz7
        · rw [rcs_snoc, hrc, List.take_succ, he, List.map_append]
          show _ ++ [p] = _ ++ [bx (era e).2]
          rw [hp]
        · intro k e' hk he'
          rcases Nat.lt_or_ge k i with h | h
          · exact hok k e' h he'
          · have : k = i := by first | lia | omega
            subst this
            rw [heg] at he'
            cases he'
            exact ol
    · refine iteP ?_ ?_
      · rw [List.length_map, List.length_map, decide_eq_false (fun z => hok2 (by injection z with z))]; rfl
      · rw [decide_eq_false hok2] at ol
        have rg : rag (grp (allR rs ww hh)) = some e.1 := by
          rw [← er]
          exact rag_at (e := era e) heg hok ol
        exact ⟨_, rfl, lenOk 2, fun t2 ht2 => qR e.1 t2 _ (((s4.trans s47.x).same sf ndl0).trans (Same.new ht2)) rg upd_same⟩
  · rintro σ H4 ⟨⟨x6, x7, x8, x9, rfl⟩, s4, us, hus, hat, hrc, hok⟩
    rw [List.length_map] at hrc hok
    rw [List.take_length] at hrc
    have eg : rcs us = (grp (allR rs ww hh)).map fun e => bx e.2 := by rw [hrc, ← er, List.map_map]; rfl
    have rn : rag (grp (allR rs ww hh)) = none := by
      rw [← er]
      unfold rag
      rw [Option.map_eq_none_iff, List.find?_eq_none]
      intro x hx
      obtain ⟨k, hk, rfl⟩ := List.getElem_of_mem hx
      rw [hok k _ (by rw [List.length_map] at hk; exact hk) (List.getElem?_eq_getElem hk)]
      decide
    have ul : us.length ≤ 52 := by
      have := congrArg List.length eg
      rw [List.length_map, List.length_map] at this
      have := ent_few m
      first | lia | omega
    have til := tiles_of m rn
    have hl4 := s4 _ _ lne lf
    refine ⟨_, rfl, dl, lsL us, 3, key, rfl, sr1 (SqL.of hus), sr0 ul, sr2 hat, sr3 (w := ww) (h := hh) (by rw [eg]; exact til.ins) (by first | lia | omega) (by first | lia | omega), fun lp zs hlp hpz hsz => ?_⟩
    obtain ⟨ts, pus, rfl, sus⟩ := sr4 hpz hsz
    rw [lsL_refs]
    have s5 : Same H4 (upd H4 lp (.lst (refs ts))) := Same.new hlp
    have hlp5 : (upd H4 lp (.lst (refs ts))) lp = some (.lst (refs ts)) := upd_same
    generalize upd H4 lp (.lst (refs ts)) = H5 at s5 hlp5 ⊢
    have hl5 := s5 _ _ hl4
    have rl : (rs.map V.str).length = hh := by rw [List.length_map]; exact m.len
    refine ⟨_, rfl, l, _, _, _, rfl, rfl, SqL.of hl5, at0s (by rw [List.getElem?_map, g0]; rfl), _, rfl, Nat.le_of_lt (small1000 (by rw [hw]; first | lia | omega)), _, rfl, l, _, rfl, .inl (SqL.of hl5), lenOk 4, fun t ht => ?_⟩
    rw [hw, rl]
    have s6 := Same.new (o := .tup [.str "panel", .ref lp, .int ww, .int hh]) ht
    exact qP t lp ts _ ((s4.same sf ndl0).trans (s5.trans s6)) rn (by rw [← eg]; exact pus.map _) sus (s6 _ _ hlp5) (((hat.perm pus).same s5).same s6) upd_same
theorem ok_law_due {f : Addr} {fd : FuncData} (F : Fun K "_law_due" "_law_due" s__law_due f fd) (T : Txt mg tk) (D__law_formed : DefOk P w K mg base 1 "_law_formed" ["_law_text"] sp_isdr) : FnOk P w K mg base CX0 2 f fd ["_law_text"] (sp_out K) := by
  have S := S_law_due
  refine F.ok S (fun vs H Q E h => ?_) (fun cdv A outer s H vs Q E hr h => ?_)
  · obtain ⟨v, z, dv, rfl, _⟩ := h; rfl
  · obtain ⟨v, z, dv, rfl, hv, hd, dd0, q⟩ := h
    obtain ⟨tB, hB, kB⟩ := ok_dueB (f := f) (cdv := cdv) (A := A) (outer := outer) (s := s) (H := H) (E := E) (P := P) (w := w) (K := K) (mg := mg) (base := base) hr T (Q := Q)
    refine ⟨_, (pss_cons (ps_if (pt_not (pt_val (pe_fn D__law_formed hr (pa_cons (pv 0) pa_nil)))) (pss_one (ps_ret (pe_tup (pa_cons pe_str (pa_cons (pv 0) pa_nil))))) pss_nil)
      (pss_cons (ps_set (i := 1) S.nd rfl (Or.inl rfl) (pe_bm PySem.F.plainAttrs_str PySem.F.slot_str_split PySem.F.type_str_split mt_split (pv 0) (pa_cons pe_str pa_nil)))
      (pss_cons (ps_set (i := 2) S.nd rfl (Or.inl rfl) pe_dnewK)
      (pss_cons (ps_for PassesOwn.never rfl (pi_range1 rfl T.z_range (pa_cons (pe_callB call_len_seq rfl T.z_len rfl (pa_cons (pv 1) pa_nil)) pa_nil)) (pg_name (i := 3) S.nd rfl (Or.inl rfl)) (pss_one (ps_for PassesOwn.never rfl (pi_range1 rfl T.z_range (pa_cons (pe_callB call_len_str rfl T.z_len rfl (pa_cons (pe_ix ix_list (pv 1) pe_int (fun _ _ => rfl)) pa_nil)) pa_nil)) (pg_name (i := 4) S.nd rfl (Or.inl rfl)) (pss_one (ps_expr (pe_bm PySem.F.plainAttrs_list PySem.F.slot_list_append PySem.F.type_list_append mt_append (pe_setd (pv 2) (pe_item_str (pe_ix ix_list (pv 1) (pv 3) (fun _ _ => rfl)) (pv 4) (fun _ _ => rfl)) (pe_lst pa_nil) ⟨rfl, rfl, rfl, rfl⟩) (pa_cons (pe_tup (pa_cons (pv 3) (pa_cons (pv 4) pa_nil))) pa_nil)))))))
      hB)))), ?_⟩
    refine ⟨_, rfl, v, z, rfl, hv, fun H0 s0 => ⟨_, rfl, ?_⟩⟩
    cases hf : fmO z with
    | false =>
      refine iteP rfl ⟨_, rfl, lenOk 2, fun t ht => ?_⟩
      have s6 := s0.trans (Same.new (o := .tup [.str "drawing", v]) ht)
      exact q t (drD dv) _ s6 (.inl ⟨hf, rfl⟩) (pairD upd_same (dis_same s6 dv hd)) (drD_dep dd0)
    | true =>
      refine iteN rfl ?_
      cases z with
      | none => cases hf
      | some z =>
        obtain ⟨rfl, ha, hl⟩ := hv
        have hf : fmB (Txt.split z "/") = true := hf
        have wk := wk_split ha hl
        have ne := split_ne z
        have m := fm_of hf ne fun x hx => (wk.ok x hx).1
        have q1 : ∀ (c : Nat) (t : Addr) (H' : Hp), Same H H' → rag (grpS z) = some c → H' t = some (.tup [.str "ragged", .str (one c)]) → Q (.ref t) H' := fun c t H' s1 rg ht => q t (rgD c) H' s1 (.inr (.inl ⟨z, c, rfl, hf, rg, rfl⟩)) (pairD ht (atD rfl)) (rgD_dep c)
        have q2 : ∀ (t l2 : Addr) (ts : List (Addr × Rc)) (H' : Hp), Same H H' → rag (grpS z) = none → (rcs ts).Perm ((grpS z).map fun e => bx e.2) → Srt (rcs ts) → H' l2 = some (.lst (refs ts)) → At H' ts → H' t = some (.tup [.str "panel", .ref l2, .int ((Txt.split z "/").headD ⟨#[]⟩).length, .int (Txt.split z "/").length]) → Q (.ref t) H' :=
          fun t l2 ts H' s1 rn pm sr hl2 hat ht => q t _ H' s1 (.inr (.inr ⟨z, rcs ts, rfl, hf, rn, pm, sr, rfl⟩)) (panD ht hl2 hat) (pnD_dep _ _ _)
        unfold grpS at q1 q2
        refine ⟨_, rfl, rfl, z, "/", rfl, rfl, by decide +kernel, Nat.le_of_lt (small1000 (by first | lia | omega)), fun l nl => ?_⟩
        generalize Txt.split z "/" = rs at m q1 q2 wk ne hf nl ⊢
        obtain ⟨g0, m0⟩ := head_get ne
        generalize hw : (rs.headD ⟨#[]⟩).length = ww at m q1 q2
        generalize hh' : rs.length = hh at m q1 q2
        have bw := m.bw
        have bh := m.bh
        have s1 : Same H0 (upd H0 l (.lst (rs.map V.str))) := Same.new nl
        have el : (upd H0 l (.lst (rs.map V.str))) l = some (.lst (rs.map V.str)) := upd_same
        generalize upd H0 l (.lst (rs.map V.str)) = H1 at s1 el ⊢
        have s01 := s0.trans s1
        intro dd nd
        have nd0 : H dd = none := by
          cases e : H dd with
          | none => rfl
          | some o => rw [s01 _ _ e] at nd; cases nd
        have nld : l ≠ dd := ne_of_none el nd
        have rl : (rs.map V.str).length = hh := by rw [List.length_map]; exact hh'
        have gi : atI (rs.map V.str) 0 = some (.str (rs.headD ⟨#[]⟩)) := at0s (by rw [List.getElem?_map, g0]; rfl)
        have el' := Same.new (o := .dK []) nd _ _ el
        refine ⟨_, rfl, l, _, rfl, .inl (SqL.of el'), _, rfl, by rw [rl]; first | lia | omega, by rw [rl]; first | lia | omega, ?_⟩
        rw [rl, Int.toNat_natCast]
        refine for_range (lo := 0) (n := hh)
          (fun i σ H' => (∃ x3 x4, σ = [some (.str z), some (.ref l), some (.ref dd), x3, x4, none, none, none, none, none]) ∧ ∃ es : List Ent, SBL H1 H' dd es (allR rs ww i)) ⟨⟨_, _, rfl⟩, [], SBL.nil nd⟩ ?_ ?_
        · rintro i σ H2 hi ⟨⟨x3, x4, rfl⟩, es, b⟩
          rw [Int.zero_add]
          obtain ⟨y, hy, hym, yd⟩ := m.get hi
          obtain ⟨yl, yc⟩ := m.row y hym
          have gi2 : atI (rs.map V.str) (i : Int) = some (.str y) := atI_nat (by rw [List.getElem?_map, hy]; rfl)
          refine ⟨_, rfl, l, _, _, _, rfl, rfl, SqL.of (b.same _ _ el), gi, _, rfl, Nat.le_of_lt (small1000 (by rw [hw]; first | lia | omega)), _, rfl, by rw [hw]; first | lia | omega, by rw [hw]; first | lia | omega, ?_⟩
          rw [hw, Int.toNat_natCast]
          refine for_range (lo := 0) (n := ww)
            (fun j σ H' => (∃ x4, σ = [some (.str z), some (.ref l), some (.ref dd), some (.int i), x4, none, none, none, none, none]) ∧ ∃ es : List Ent, SBL H1 H' dd es (allR rs ww i ++ (List.range j).map fun (c : Nat) => (codeR rs i c, ((i : Int), (c : Int))))) ⟨⟨_, rfl⟩, es, by rw [List.range_zero, List.map_nil, List.append_nil]; exact b⟩ ?_ ?_
          · rintro j σ H3 hj ⟨⟨x4, rfl⟩, es2, b3⟩
            rw [Int.zero_add]
            have few := sbl_few b3 (part_let m hi (by first | lia | omega))
            have eL := part_snoc rs ww i j
            have cj : y.cps[(j : Int).toNat]? = some (codeR rs i j) := by
              have hj' : j < y.cps.size := by show j < y.length; first | lia | omega
              unfold codeR
              rw [yd, Int.toNat_natCast, List.getD_eq_getElem?_getD, Array.getElem?_toList, Array.getElem?_eq_getElem hj']; rfl
            refine ⟨_, rfl, dd, rfl, .inl ⟨_, .inl b3.dic⟩, _, rfl, _, rfl, l, _, _, _, rfl, rfl, SqL.of (b3.same _ _ el), gi2, _, rfl, y, (j : Int), codeR rs i j, rfl, rfl, by first | lia | omega, by first | lia | omega, by rw [yl]; first | lia | omega, cj, lenOk 0, fun p np => ⟨_, Sum.inr (one (codeR rs i j)), Same.new np _ _ b3.dic, rfl, small1000 (by rw [List.length_map]; first | lia | omega), fun v hv => ?_, fun hn => ?_⟩⟩
            · obtain ⟨e, he, ec, rfl⟩ := val_some hv
              have b4 := b3.more (Same.new (o := .lst []) np)
              generalize upd H3 p (.lst []) = H4 at b4 ⊢
              have hel := b4.ats.lst e he
              refine ⟨.inl ⟨rfl, _, SqL.of hel⟩, _, rfl, _, rfl, lenOk 2, fun t ht => ?_⟩
              have ln : (srefs e.2.2).length < sizeLine := by
                have l1 := b4.len he
                have l2 := part_len m hi (j := j) (by first | lia | omega)
                exact small1000 (by rw [List.length_map]; first | lia | omega)
              refine ⟨e.2.1, _, _, rfl, rfl, Same.new ht _ _ hel, ln, ⟨_, rfl⟩, es2.map (addE e.2.1 t ((i : Int), (j : Int))), ?_⟩
              have := b4.there (q := ((i : Int), (j : Int))) he ht
              rw [ec, ← eL] at this
              exact this
            · refine ⟨.inl ⟨rfl, [], SqL.of ?_⟩, _, rfl, _, rfl, lenOk 2, fun t ht => ?_⟩
              · rw [upd_ne (Ne.symm (ne_of_none b3.dic np))]; exact upd_same
              refine ⟨p, [], _, rfl, rfl, ?_, small1000 (by show 0 ≤ 1000; first | lia | omega), ⟨_, rfl⟩, es2 ++ [(codeR rs i j, p, [(t, ((i : Int), (j : Int)))])], ?_⟩
              · have ndp : dd ≠ p := ne_of_none b3.dic np
                rw [upd_ne (ne_of_none (show (upd (upd H3 p (.lst [])) dd (.dK (putK (es2.map kvE) (Sum.inr (one (codeR rs i j))) (.ref p)))) p = some (.lst []) by rw [upd_ne (Ne.symm ndp)]; exact upd_same) ht), upd_ne (Ne.symm ndp)]
                exact upd_same
              · have := b3.fresh (q := ((i : Int), (j : Int))) hn np ht
                rw [← eL] at this
                exact this
          · rintro σ H3 ⟨⟨x4, rfl⟩, es2, b2⟩
            exact ⟨⟨_, _, rfl⟩, es2, by rw [allR_succ]; exact b2⟩
        · rintro σ H2 ⟨⟨x3, x4, rfl⟩, es, b⟩
          exact kB (.str z) l dd rs ww hh es x3 x4 H2 (s01.trans b.same) (b.same _ _ el) nd0 b.dic b.ats m hw ne nld b.era q1 q2
theorem strL {x y : Str} (h : x.cps.toList = y.cps.toList) : x = y := by
  cases x; cases y
  exact congrArg Str.mk (Array.toList_inj.mp h)
theorem join_eq (x : Str) (ys : List Str) : Txt.join x ys = Str.join x ys := StrLaws.glued_eq_join x ys
theorem sum_le {n : Nat} : ∀ {ys : List Str}, (∀ p ∈ ys, p.length ≤ n) → (ys.map (·.length)).sum ≤ n * ys.length
  | [], _ => Nat.zero_le _
  | y :: r, h => by
    have a := h y List.mem_cons_self
    have b := sum_le (ys := r) fun p hp => h p (List.mem_cons_of_mem _ hp)
    rw [List.map_cons, List.sum_cons, List.length_cons, Nat.mul_succ]
    first | lia | omega
theorem join0 : ∀ (cs : List Nat), (Str.join ⟨#[]⟩ (cs.map one)).cps.toList = cs
  | [] => rfl
  | [c] => rfl
  | c :: e :: r => by
    have ih := join0 (e :: r)
    show ((one c).cps ++ #[] ++ (Str.join ⟨#[]⟩ ((e :: r).map one)).cps).toList = _
    rw [Array.toList_append, Array.toList_append, ih]; rfl
theorem join_one (cs : List Nat) : Txt.join "" (cs.map one) = ⟨cs.toArray⟩ := by
  rw [join_eq, show ("" : Str) = ⟨#[]⟩ by decide +kernel]
  refine strL ?_
  rw [join0]
theorem ixN_nat {n j : Nat} (h : j < n) : ixN n (j : Int) = some j := by
  unfold ixN
  rw [if_pos (by first | lia | omega), if_pos (by first | lia | omega)]; simp
theorem blank_is : (" " : Str) = one 32 := by decide +kernel
theorem rep_one (v : V) : ∀ n : Nat, (List.replicate n [v]).flatten = List.replicate n v
  | 0 => rfl
  | n + 1 => by rw [List.replicate_succ, List.flatten_cons, rep_one v n, List.replicate_succ]; rfl
theorem asc_list {z : Str} : Asc z ↔ ∀ a ∈ z.cps.toList, a < 128 := by
  unfold Asc
  rw [← Array.all_toList, List.all_eq_true]
  exact ⟨fun h a ha => of_decide_eq_true (h a ha), fun h a ha => decide_eq_true (h a ha)⟩
theorem asc_join : ∀ {ys : List Str}, (∀ p ∈ ys, Asc p) → Asc (Str.join ⟨#[47]⟩ ys)
  | [], _ => by show Asc Str.empty; unfold Asc; decide +kernel
  | [x], h => h x List.mem_cons_self
  | x :: y :: r, h => by
    rw [asc_list, join2]
    intro a ha
    rcases List.mem_append.mp ha with z | z
    · exact asc_list.mp (h x List.mem_cons_self) a z
    · rcases List.mem_cons.mp z with z | z
      · first | lia | omega
      · exact asc_list.mp (asc_join (ys := y :: r) fun p hp => h p (List.mem_cons_of_mem _ hp)) a z
theorem asc_app {x y : Str} (a : Asc x) (b : Asc y) : Asc (x ++ y) := by
  show (x.cps ++ y.cps).all _ = true
  rw [Array.all_append]
  unfold Asc at a b
  rw [a, b]; rfl
theorem at_strs {ks : List Str} {i : Int} (h0 : 0 ≤ i) (h1 : i < (ks.length : Int)) : ∃ k, k ∈ ks ∧ atI (ks.map V.str) i = some (.str k) := by
  have hj : i.toNat < ks.length := by first | lia | omega
  refine ⟨ks[i.toNat], List.getElem_mem hj, ?_⟩
  have := atI_nat (xs := ks.map V.str) (j := i.toNat) (by rw [List.getElem?_map, List.getElem?_eq_getElem hj]; rfl)
  rw [show ((i.toNat : Nat) : Int) = i by first | lia | omega] at this
  exact this
def SameL (rs : List Addr) (H H' : Hp) : Prop := ∀ b o, b ∉ rs → H b = some o → H' b = some o
theorem SameL.trans {rs : List Addr} {H H1 H2 : Hp} (a : SameL rs H H1) (b : SameL rs H1 H2) : SameL rs H H2 := fun c o n h => b c o n (a c o n h)
theorem SameL.upd {rs : List Addr} {H : Hp} {a : Addr} {o : HO} (h : a ∈ rs) : SameL rs H (upd H a o) := fun c u n e => by rw [upd_ne (fun z : c = a => n (by rw [z]; exact h))]; exact e
theorem asc_slice {x : Str} (h : Asc x) (l u : Option Int) : Asc (Txt.slice x l u) := by
  unfold Txt.slice
  split
  · exact h
  · rw [asc_list]
    intro a ha
    obtain ⟨i, _, hi⟩ := List.mem_filterMap.mp (show a ∈ List.filterMap _ _ from ha)
    exact asc_list.mp h a (by rw [← Array.getElem?_toList] at hi; exact List.mem_of_getElem? hi)
theorem asc_one {c : Nat} (h : c < 128) : Asc (one c) := asc_list.mpr fun a ha => by
  have : a ∈ [c] := ha
  rw [List.mem_singleton.mp this]; exact h
theorem len_app (x y : Str) : (x ++ y).length = x.length + y.length := by
  show (x.cps ++ y.cps).size = _
  rw [Array.size_append]; rfl
theorem joinS {ys : List Str} {n m : Nat} (h : ∀ y ∈ ys, Asc y ∧ y.length ≤ n) (hm : ys.length ≤ m) (b : n * m + m ≤ 16777216) : (ys.map (·.length)).sum + ys.length * ("/" : Str).length ≤ 16777216 ∧ Asc (Txt.join "/" ys) ∧ (Txt.join "/" ys).length ≤ n * m + m := by
  have a := sum_le (n := n) (ys := ys) fun y hy => (h y hy).2
  have e : ("/" : Str) = ⟨#[47]⟩ := by decide +kernel
  have e1 : ("/" : Str).length = 1 := by decide +kernel
  have c : n * ys.length ≤ n * m := Nat.mul_le_mul_left n hm
  refine ⟨by rw [e1]; first | lia | omega, ?_, ?_⟩
  · rw [join_eq, e]; exact asc_join fun p hp => (h p hp).1
  · rw [join_eq]
    have c := StrLaws.join_length_le "/" ys
    rw [e1] at c
    first | lia | omega
def sp_ldrawn : Sp := fun vs H Q _ => ∃ (lp : Addr) (ts : List (Addr × Rc)) (w h : Int), vs = [.ref lp, .int w, .int h] ∧ H lp = some (.lst (refs ts)) ∧ At H ts ∧ (∀ p ∈ rcs ts, p.In w h) ∧ ts.length ≤ 52 ∧ (1 ≤ w ∧ w ≤ 12) ∧ (1 ≤ h ∧ h ≤ 12) ∧ ∀ z H', Same H H' → Asc z → z.length ≤ 160 → Q (.str z) H'
abbrev rowV (cs : List Nat) : List V := (cs.map one).map V.str
structure MatA (w h : Nat) (H : Hp) (rs : List Addr) : Prop where
  len : rs.length = h
  row : ∀ a ∈ rs, ∃ cs : List Nat, H a = some (.lst (rowV cs)) ∧ cs.length = w ∧ ∀ c ∈ cs, c < 128
theorem MatA.set {w h : Nat} {H : Hp} {rs : List Addr} (m : MatA w h H rs) {a : Addr} {cs : List Nat} (hl : cs.length = w) (hc : ∀ c ∈ cs, c < 128) {k c : Nat} (h1 : c < 128) : MatA w h (upd H a (.lst ((rowV cs).set k (.str (one c))))) rs := by
  refine ⟨m.len, fun b hb => ?_⟩
  by_cases e : b = a
  · refine ⟨cs.set k c, ?_, by rw [List.length_set]; exact hl, fun d hd => ?_⟩
    · rw [e, upd_same]
      show _ = some (HO.lst (((cs.set k c).map one).map V.str))
      rw [List.map_set, List.map_set]
    · rcases List.mem_or_eq_of_mem_set hd with h | h
      · exact hc d h
      · rw [h]; exact h1
  · obtain ⟨cs', e', l', c'⟩ := m.row b hb
    exact ⟨cs', by rw [upd_ne e]; exact e', l', c'⟩
abbrev N_ld : List Str := ["_law_panes", "_law_width", "_law_height", "_law_letters", "_law_rows", "_law_k", "_law_row", "_law_column"]
theorem S_law_drawn : FnScope N_ld ["_law_panes", "_law_width", "_law_height"] (defScope s__law_drawn) := ⟨rfl, rfl, rfl, by decide +kernel, rfl, by decide +kernel, by decide +kernel⟩
theorem lets_low {i : Nat} (h : i < 52) : ∃ c, LETS.cps[i]? = some c ∧ c < 128 := by
  have hl : i < LETC.length := by rw [letc_lets.len]; exact h
  refine ⟨LETC[i], ?_, (letc_low (List.getElem_mem hl)).1⟩
  rw [lets_is]
  show LETC.toArray[i]? = _
  rw [List.getElem?_toArray, List.getElem?_eq_getElem hl]
theorem ok_ldF {f : Addr} {cdv : Value} {A : Around} {outer : List Env} {s : Shared} {H : Hp} {E : XK} (T : Txt mg tk) {Q : VK} {ww hh : Int} (bw : 1 ≤ ww ∧ ww ≤ 12) (bh : 1 ≤ hh ∧ hh ≤ 12) (q : ∀ z H', Same H H' → Asc z → z.length ≤ 160 → Q (.str z) H') :
    ∃ rd, PSs (cxOf CX0 P w K mg base N_ld "_law_drawn" (defScope s__law_drawn) f cdv A outer s H E).nox ((defBody s__law_drawn).drop 3) rd ∧ ∀ (acc : Addr) (rs : List Addr) (x0 x1 x2 x3 x5 x6 x7 : Option V) (H2 : Hp), Same H H2 → H2 acc = some (.lst (rs.map V.ref)) → MatA ww.toNat hh.toNat H2 rs →
      rd { nx := fun _ H' => Q .non H', rt := Q } [x0, x1, x2, x3, some (.ref acc), x5, x6, x7] H2 := by
  have S := S_law_drawn
  refine ⟨_, (pss_one (ps_ret (pe_bm PySem.F.plainAttrs_str PySem.F.slot_str_join PySem.F.type_str_join mt_join pe_str (pa_cons (pe_comp rfl (pi_list (pv 4)) (fun _ _ _ _ _ => (pg_name (i := 0) (show List.Nodup (["_law_row"] : List Str) from by decide +kernel) rfl (Or.inl rfl))) (fun _ _ _ _ _ => (pe_bmK (K := K) PySem.F.plainAttrs_str PySem.F.slot_str_join PySem.F.type_str_join mt_join pe_str (pa_cons (pv 0) pa_nil))) (N := ["_law_row"]) (fr := [none])) pa_nil)))), ?_⟩
  intro acc rs x0 x1 x2 x3 x5 x6 x7 H2 s2 ha m2
  have rsl := m2.len
  refine ⟨rfl, _, rfl, acc, rfl, ⟨_, SqL.of ha⟩, fun ac2 na2 => comp_list (K := K) (a := acc) (ys := rs.map V.ref) (fun i xs σ H' => (∃ y, σ = [y]) ∧ Same H2 H' ∧ ∃ ys : List Str, xs = ys.map V.str ∧ ∀ y ∈ ys, Asc y ∧ y.length ≤ 12) ⟨⟨none, rfl⟩, Same.new na2, [], rfl, fun y hy => (nomatch hy)⟩ (fun i xs σ H' _ _ hp => SqL.of (hp.2.1 _ _ ha)) ?_ ?_⟩
  · rintro i x xs σ H3 hx hi hxl hacc ⟨⟨y, rfl⟩, s3, ys, rfl, hys⟩
    rw [List.getElem?_map] at hx
    obtain ⟨r, hr, rfl⟩ := Option.map_eq_some_iff.mp hx
    obtain ⟨cs, hrow, cl, ca⟩ := m2.row r (List.mem_of_getElem? hr)
    refine ⟨rfl, _, rfl, "", r, _, rfl, rfl, s3 _ _ hrow, ?_, ?_⟩
    · have := sum_le (n := 1) (ys := cs.map one) (fun p hp => by obtain ⟨c, _, rfl⟩ := List.mem_map.mp hp; exact Nat.le_refl 1)
      have e0 : ("" : Str).length = 0 := by decide +kernel
      rw [e0]
      rw [List.length_map] at this ⊢
      first | lia | omega
    · rw [join_one]
      refine cNx.mk (Nat.le_of_lt (small1000 (by rw [List.length_map]; first | lia | omega))) hi hxl hacc ⟨⟨_, rfl⟩, fun b o e => by rw [upd_ne (ne_of_none e na2)]; exact s3 b o e, ys ++ [⟨cs.toArray⟩], by rw [List.map_append]; rfl, fun y hy => ?_⟩
      rcases List.mem_append.mp hy with hy | hy
      · exact hys y hy
      · rw [List.mem_singleton.mp hy]
        exact ⟨asc_list.mpr fun a h => ca a h, by show cs.toArray.size ≤ 12; rw [List.size_toArray]; first | lia | omega⟩
  · rintro xs σ H3 hxl hacc ⟨_, s3, ys, rfl, hys⟩
    have yl : ys.length ≤ 12 := by
      rw [List.length_map, List.length_map, rsl] at hxl
      first | lia | omega
    obtain ⟨j1, j2, j3⟩ := joinS hys yl (by decide)
    exact ⟨"/", ac2, ys, rfl, rfl, hacc, j1, q _ _ (s2.trans s3) j2 (by first | lia | omega)⟩
theorem ok_law_drawn {f : Addr} {fd : FuncData} (F : Fun K "_law_drawn" "_law_drawn" s__law_drawn f fd) (T : Txt mg tk) : FnOk P w K mg base CX0 1 f fd ["_law_panes", "_law_width", "_law_height"] sp_ldrawn := by
  have S := S_law_drawn
  refine F.ok S (fun vs H Q E h => ?_) (fun cdv A outer s H vs Q E hr h => ?_)
  · obtain ⟨lp, ts, w, h, rfl, _⟩ := h; rfl
  · obtain ⟨lp, ts, ww, hh, rfl, hlp, hat, ins, few, bw, bh, q⟩ := h
    obtain ⟨tF, hF, kF⟩ := ok_ldF (f := f) (cdv := cdv) (A := A) (outer := outer) (s := s) (E := E) (P := P) (w := w) (K := K) (mg := mg) (base := base) T (Q := Q) bw bh q
    refine ⟨_, (pss_cons (ps_set (i := 3) S.nd rfl (Or.inl rfl) pe_str)
      (pss_cons (ps_setComp rfl (pg_name (i := 4) S.nd rfl (Or.inl rfl)) (pi_range1 rfl T.z_range (pa_cons (pv 2) pa_nil)) (fun _ _ _ _ _ => (pg_name (i := 0) (show List.Nodup (["_law_row", "_law_width"] : List Str) from by decide +kernel) rfl (Or.inl rfl))) (fun _ _ _ _ _ => (pe_op op_rep (pe_lst (pa_cons pe_str pa_nil)) (pv 1))) (N := ["_law_row", "_law_width"]) (fr := [none, some 1]))
      (pss_cons (ps_for PassesOwn.never rfl (pi_range1 rfl T.z_range (pa_cons (pe_callB call_len_seq rfl T.z_len rfl (pa_cons (pv 0) pa_nil)) pa_nil)) (pg_name (i := 5) S.nd rfl (Or.inl rfl)) (pss_one (ps_for PassesOwn.never rfl (pi_range2 rfl T.z_range (pa_cons (pe_ix ix_tup (pe_ix ix_list (pv 0) (pv 5) (fun _ _ => rfl)) pe_int (fun _ _ => rfl)) (pa_cons (pe_ix ix_tup (pe_ix ix_list (pv 0) (pv 5) (fun _ _ => rfl)) pe_int (fun _ _ => rfl)) pa_nil))) (pg_name (i := 6) S.nd rfl (Or.inl rfl)) (pss_one (ps_for PassesOwn.never rfl (pi_range2 rfl T.z_range (pa_cons (pe_ix ix_tup (pe_ix ix_list (pv 0) (pv 5) (fun _ _ => rfl)) pe_int (fun _ _ => rfl)) (pa_cons (pe_ix ix_tup (pe_ix ix_list (pv 0) (pv 5) (fun _ _ => rfl)) pe_int (fun _ _ => rfl)) pa_nil))) (pg_name (i := 7) S.nd rfl (Or.inl rfl)) (pss_one (ps_asg (pe_item_str (pv 3) (pe_op op_mod (pe_op op_mulL (pv 5) pe_int) pe_int) (fun _ _ => rfl)) (pg_sub (pe_ix ix_list (pv 4) (pv 6) (fun _ _ => rfl)) (pv 7) set_list))))))))
      hF))), ?_⟩
    refine ⟨_, rfl, hh, rfl, by first | lia | omega, by first | lia | omega, fun acc na => comp_range (lo := 0) (n := hh.toNat)
      (fun i xs σ H' => (∃ y, σ = [y, some (.int ww)]) ∧ Same H H' ∧ ∃ rs : List Addr, xs = rs.map V.ref ∧ (∀ a ∈ rs, H a = none ∧ a ≠ acc) ∧ MatA ww.toNat i H' rs) ⟨⟨none, rfl⟩, Same.new na, [], rfl, fun a h => (nomatch h), ⟨rfl, fun a h => (nomatch h)⟩⟩ ?_ ?_⟩
    · rintro i xs σ H1 hi hxl hacc ⟨⟨y, rfl⟩, s1, rs, rfl, hrs, m⟩
      refine ⟨lenOk 1, fun p np => ⟨_, rfl, p, ww, _, rfl, rfl, upd_same, by first | lia | omega, by first | lia | omega, ?_, fun p2 np2 => ?_⟩⟩
      · exact Nat.le_of_lt (small1000 (by show 1 * ww.toNat ≤ 1000; first | lia | omega))
      · have np2' : H1 p2 = none := by
          cases e : H1 p2 with
          | none => rfl
          | some o => rw [Same.new np _ _ e] at np2; cases np2
        have nap2 : acc ≠ p2 := ne_of_none hacc np2'
        have hp2 : H p2 = none := by
          cases e : H p2 with
          | none => rfl
          | some o => rw [s1 _ _ e] at np2'; cases np2'
        have s2 : Same H1 (upd (upd H1 p (.lst [V.str " "])) p2 (.lst (List.replicate ww.toNat [V.str " "]).flatten)) := (Same.new np).trans (Same.new np2)
        refine cNx.mk (Nat.le_of_lt (small1000 (by first | lia | omega))) hi hxl (s2 _ _ hacc) ⟨⟨_, rfl⟩, fun b o e => ?_, rs ++ [p2], by rw [List.map_append]; rfl, ?_, ?_, ?_⟩
        · rw [upd_ne (ne_of_none e na)]; exact s2 _ _ (s1 b o e)
        · intro b hb
          rcases List.mem_append.mp hb with hb | hb
          · exact hrs b hb
          · rw [List.mem_singleton.mp hb]; exact ⟨hp2, Ne.symm nap2⟩
        · rw [List.length_append, m.len]; rfl
        · intro b hb
          rcases List.mem_append.mp hb with hb | hb
          · obtain ⟨cs, e, l, c⟩ := m.row b hb
            exact ⟨cs, by rw [upd_ne (hrs b hb).2]; exact s2 _ _ e, l, c⟩
          · rw [List.mem_singleton.mp hb]
            refine ⟨List.replicate ww.toNat 32, ?_, List.length_replicate, fun c hc => by rw [List.eq_of_mem_replicate hc]; decide⟩
            rw [upd_ne (Ne.symm nap2), upd_same, rep_one, blank_is]
            show _ = some (HO.lst (((List.replicate ww.toNat 32).map one).map V.str))
            rw [List.map_replicate, List.map_replicate]
    · rintro xs σ H1 hxl hacc ⟨_, s1, rs, rfl, hrs, m⟩
      have nlp : lp ∉ rs := fun hm => by rw [(hrs lp hm).1] at hlp; cases hlp
      have nts : ∀ t ∈ ts, t.1 ∉ rs := fun t ht hm => by have := hat t ht; rw [(hrs _ hm).1] at this; cases this
      have nacc : acc ∉ rs := fun hm => (hrs acc hm).2 rfl
      have rsl := m.len
      have hlp1 := s1 _ _ hlp
      have hat1 := hat.same s1
      refine ⟨_, rfl, lp, _, rfl, .inl (SqL.of hlp1), _, rfl, by rw [List.length_map]; first | lia | omega, by rw [List.length_map]; first | lia | omega, ?_⟩
      rw [List.length_map, Int.toNat_natCast]
      refine for_range (lo := 0) (n := ts.length) (fun k σ H' => (∃ x5 x6 x7, σ = [some (.ref lp), some (.int ww), some (.int hh), some (.str LETS), some (.ref acc), x5, x6, x7]) ∧ SameL rs H1 H' ∧ MatA ww.toNat hh.toNat H' rs)
        ⟨⟨_, _, _, rfl⟩, fun _ _ _ e => e, m⟩ ?_ ?_
      · rintro k σ H2 hk ⟨⟨x5, x6, x7, rfl⟩, s2, m2⟩
        rw [Int.zero_add]
        have hu' : ts[k]? = some ts[k] := List.getElem?_eq_getElem hk
        generalize ts[k] = u at hu'
        have hum := List.mem_of_getElem? hu'
        have nu := nts u hum
        obtain ⟨a1, a2, a3, a4, a5, a6⟩ := ins u.2 (List.mem_map.mpr ⟨u, hum, rfl⟩)
        have ixL : ∀ {H' : Hp}, SameL rs H1 H' → SqL K H' lp (refs ts) ∧ H' u.1 = some (.tup (four u.2.t u.2.l u.2.b u.2.r)) := fun {H'} sx => ⟨SqL.of (sx _ _ nlp hlp1), sx _ _ nu (hat1 u hum)⟩
        have atk : atI (refs ts) (k : Int) = some (V.ref u.1) := atI_nat (by rw [List.getElem?_map, hu']; rfl)
        refine ⟨_, rfl, _, rfl, lp, _, _, _, rfl, rfl, (ixL s2).1, atk, u.1, _, _, _, rfl, rfl, SqT.of (ixL s2).2, at0, _, rfl, _, rfl, lp, _, _, _, rfl, rfl, (ixL s2).1, atk, u.1, _, _, _, rfl, rfl, SqT.of (ixL s2).2, at2, u.2.t, u.2.b, rfl, ⟨by first | lia | omega, by first | lia | omega, by first | lia | omega, by first | lia | omega⟩,
          for_range (lo := u.2.t) (n := (u.2.b - u.2.t).toNat) (fun i σ H' => (∃ x6 x7, σ = [some (.ref lp), some (.int ww), some (.int hh), some (.str LETS), some (.ref acc), some (.int k), x6, x7]) ∧ SameL rs H1 H' ∧ MatA ww.toNat hh.toNat H' rs)
            ⟨⟨_, _, rfl⟩, s2, m2⟩ ?_ ?_⟩
        · rintro i σ H3 hi ⟨⟨x6, x7, rfl⟩, s3, m3⟩
          refine ⟨_, rfl, _, rfl, lp, _, _, _, rfl, rfl, (ixL s3).1, atk, u.1, _, _, _, rfl, rfl, SqT.of (ixL s3).2, at1, _, rfl, _, rfl, lp, _, _, _, rfl, rfl, (ixL s3).1, atk, u.1, _, _, _, rfl, rfl, SqT.of (ixL s3).2, at3, u.2.l, u.2.r, rfl, ⟨by first | lia | omega, by first | lia | omega, by first | lia | omega, by first | lia | omega⟩,
            for_range (lo := u.2.l) (n := (u.2.r - u.2.l).toNat) (fun j σ H' => (∃ x7, σ = [some (.ref lp), some (.int ww), some (.int hh), some (.str LETS), some (.ref acc), some (.int k), some (.int (u.2.t + i)), x7]) ∧ SameL rs H1 H' ∧ MatA ww.toNat hh.toNat H' rs)
              ⟨⟨_, rfl⟩, s3, m3⟩ ?_ ?_⟩
          · rintro j σ H4 hj ⟨⟨x7, rfl⟩, s4, m4⟩
            obtain ⟨R, hR⟩ : ∃ R : Nat, (R : Int) = u.2.t + i := ⟨(u.2.t + i).toNat, by first | lia | omega⟩
            obtain ⟨Cn, hCn⟩ : ∃ Cn : Nat, (Cn : Int) = u.2.l + j := ⟨(u.2.l + j).toNat, by first | lia | omega⟩
            have hCw : Cn < ww.toNat := by first | lia | omega
            obtain ⟨ra, hra⟩ : ∃ ra, rs[R]? = some ra := ⟨rs[R]'(by first | lia | omega), List.getElem?_eq_getElem _⟩
            obtain ⟨cs, hrow, cl, ca⟩ := m4.row ra (List.mem_of_getElem? hra)
            have ha4 := s4 _ _ nacc hacc
            have atR : atI (rs.map V.ref) (u.2.t + i) = some (V.ref ra) := by rw [← hR]; exact atI_nat (by rw [List.getElem?_map, hra]; rfl)
            have ixC : ixN (rowV cs).length (u.2.l + j) = some Cn := by
              rw [← hCn]; exact ixN_nat (by rw [List.length_map, List.length_map, cl]; exact hCw)
            obtain ⟨lc, hlc, lo⟩ := lets_low (i := ((k : Int) * 11 % 52).toNat) (by first | lia | omega)
            have ll : LETS.length = 52 := by decide +kernel
            refine ⟨_, rfl, _, rfl, _, _, rfl, rfl, mul64 (by first | lia | omega) (by first | lia | omega) (by first | lia | omega) (by first | lia | omega), _, _, rfl, rfl, (show (0 : Int) < 52 by decide), LETS, (k : Int) * 11 % 52, lc, rfl, rfl, by first | lia | omega, by first | lia | omega, by rw [ll]; first | lia | omega, hlc, _, rfl, _, rfl, acc, _, _, _, rfl, rfl, SqL.of ha4, atR, _, rfl, ra, _, _, Cn, rfl, rfl, hrow, ixC, ⟨_, rfl⟩, s4.trans (SameL.upd (List.mem_of_getElem? hra)), m4.set cl ca lo⟩
          · rintro σ H4 ⟨⟨x7, rfl⟩, s4, m4⟩
            exact ⟨⟨_, _, rfl⟩, s4, m4⟩
        · rintro σ H3 ⟨⟨x6, x7, rfl⟩, s3, m3⟩
          exact ⟨⟨_, _, _, rfl⟩, s3, m3⟩
      · rintro σ H2 ⟨⟨x5, x6, x7, rfl⟩, s2, m2⟩
        exact kF acc rs _ _ _ _ _ _ _ H2 (fun b o e => s2 b o (fun hm => by rw [(hrs b hm).1] at e; cases e) (s1 b o e)) (s2 _ _ nacc hacc) m2
def sp_spoiled (K : PySem.W.Frag) : Sp := fun vs H Q _ => ∃ (z : Str) (p : Addr) (n : Int), vs = [.str z, .ref p] ∧ Asc z ∧ z.length ≤ 160 ∧ H p = some (.lst [.int n]) ∧ ∀ (v : V) (zo : Option Str) (dv : D) (H' : Hp), SameX p H H' → TxOr H' v zo → DIs K H' dv v → dep dv ≤ 2 → Q v H'
abbrev N_sp : List Str := ["_law_text", "_law_purse_here", "_law_k", "_law_at", "_law_sign", "_law_way"]
theorem S_law_spoiled : FnScope N_sp ["_law_text", "_law_purse_here"] (defScope s__law_spoiled) := ⟨rfl, rfl, rfl, by decide +kernel, rfl, by decide +kernel, by decide +kernel⟩
def lsS0 : List Str := ["a", "Z", "q", "3", "/", " ", "-", "ab", "//", "\n"]
def woB (w : Str) : Bool := w.cps.all (· < 128) && decide (w.length ≤ 2)
theorem wo_0 : ∀ w ∈ lsS0, Asc w ∧ w.length ≤ 2 := fun w hw => by
  have h : lsS0.all woB = true := by decide +kernel
  have := List.all_eq_true.mp h w hw
  unfold woB at this
  rw [Bool.and_eq_true] at this
  exact ⟨this.1, of_decide_eq_true this.2⟩
theorem le_lsS0 : ∀ k ∈ lsS0, k.length ≤ 1000 := fun k hk => Nat.le_trans (wo_0 k hk).2 (by decide)
def sp1 : Stmt := nth (forBody (nth (defBody s__law_spoiled) 0)) 1
def mkd : Stmt → Expr → Stmt
  | .Assign ts (.Subscript _ i p) q, e => .Assign ts (.Subscript e i p) q
  | s, _ => s
def ldE : Expr := match sp1 with
  | .Assign _ (.Subscript l _ _) _ => l
  | _ => .Constant .none 0 ⟨0, 0, 0, 0⟩
def listE : Expr → List Expr
  | .List es _ => es
  | _ => []
def listP : Expr → Pos
  | .List _ p => p
  | _ => ⟨0, 0, 0, 0⟩
theorem sp1_is : mkd sp1 (.List (listE ldE) (listP ldE)) = sp1 := rfl
theorem strsD : strsE (listE ldE) = some lsS0 := by decide +kernel
theorem dispD {f : Addr} {cdv : Value} {A : Around} {outer : List Env} {s : Shared} {H : Hp} {E : XK} {des : List Expr} {dp : Pos} (hr : Room 1 (A.deeper (PyProof.Rows.envOfC "_law_spoiled" (defScope s__law_spoiled) s.heap.objs.size f cdv))) (hod : strsE des = some lsS0) (D__law_take : DefOk P w K mg base 1 "_law_take" ["_law_purse_here", "_law_many"] sp_take) :
    ∃ t, PS (cxOf CX0 P w K mg base N_sp "_law_spoiled" (defScope s__law_spoiled) f cdv A outer s H E).nox (mkd sp1 (.List des dp)) t ∧ ∀ (D : Ends) (z : Str) (p : Addr) (n : Int) (x2 x3 x4 x5 : Option V) (H1 : Hp), H1 p = some (.lst [.int n]) →
      (∀ sg n' H2, SameX p H1 H2 → H2 p = some (.lst [.int n']) → Asc sg → sg.length ≤ 2 → D.nx [some (.str z), some (.ref p), x2, x3, some (.str sg), x5] H2) → t D [some (.str z), some (.ref p), x2, x3, x4, x5] H1 := by
  have S := S_law_spoiled
  refine ⟨_, ps_set (i := 4) S.nd rfl (Or.inl rfl) (pe_ix ix_list (pe_lstS hod le_lsS0) (pe_fn D__law_take hr (pa_cons (pv 1) (pa_cons pe_int pa_nil))) (fun _ _ => rfl)), ?_⟩
  intro D z p n x2 x3 x4 x5 H1 hp k
  refine ⟨by rw [List.length_map]; decide, fun t0 nt0 => ⟨_, rfl, p, n, 10, rfl, Same.new nt0 _ _ hp, by decide, by decide, fun r n' r0 r1 => ?_⟩⟩
  obtain ⟨sg, hsg, at_⟩ := at_strs (ks := lsS0) r0 (by show r < 10; exact r1)
  have np : t0 ≠ p := Ne.symm (ne_of_none hp nt0)
  exact ⟨t0, _, _, _, rfl, rfl, SqL.of (by rw [upd_ne np]; exact upd_same), at_, k sg n' _ ((Same.new nt0).x.trans SameX.upd) upd_same (wo_0 sg hsg).1 (wo_0 sg hsg).2⟩
theorem sz_ok {n : Nat} (h : n ≤ 1000) : n ≤ sizeLine := Nat.le_of_lt (small1000 h)
theorem six_from {i : Int} (h : 0 ≤ i) (n : Nat) : (Builtin.Str.strSliceIndices (some i) none 1 n).length ≤ n - i.toNat := by
  unfold Builtin.Str.strSliceIndices sliceRange
  simp only [show (1 : Int) > 0 by decide, if_true, List.length_map, List.length_range]
  (split <;> (try split) <;> (try split) <;> (try simp only [Int.ediv_one]) <;> first | lia | omega)
theorem six_to {i : Int} (h : 0 ≤ i) (n : Nat) : (Builtin.Str.strSliceIndices none (some i) 1 n).length ≤ i.toNat := by
  unfold Builtin.Str.strSliceIndices sliceRange
  simp only [show (1 : Int) > 0 by decide, if_true, List.length_map, List.length_range]
  (split <;> (try split) <;> (try split) <;> (try simp only [Int.ediv_one]) <;> first | lia | omega)
theorem sl_le {z : Str} {l u : Option Int} {m : Nat} (h : (Builtin.Str.strSliceIndices l u 1 z.length).length ≤ m) : (Txt.slice z l u).length ≤ m := by
  unfold Txt.slice
  split
  · rename_i e
    simp only [beq_self_eq_true, Bool.true_and, beq_iff_eq] at e
    first | lia | omega
  · show (List.filterMap _ (Builtin.Str.strSliceIndices l u 1 z.length)).toArray.size ≤ m
    rw [List.size_toArray]
    exact Nat.le_trans (List.length_filterMap_le _ _) h
theorem ok_spS {f : Addr} {cdv : Value} {A : Around} {outer : List Env} {s : Shared} {H : Hp} {E : XK} (hr : Room 1 (A.deeper (PyProof.Rows.envOfC "_law_spoiled" (defScope s__law_spoiled) s.heap.objs.size f cdv))) (D__law_take : DefOk P w K mg base 1 "_law_take" ["_law_purse_here", "_law_many"] sp_take) :
    ∃ rd, PSs (cxOf CX0 P w K mg base N_sp "_law_spoiled" (defScope s__law_spoiled) f cdv A outer s H E).nox ((forBody (nth (defBody s__law_spoiled) 0)).drop 3) rd ∧ ∀ (D : Ends) (z sg : Str) (p : Addr) (n a : Int) (m : Nat) (x2 x5 : Option V) (H1 : Hp), H1 p = some (.lst [.int n]) → Asc z → z.length ≤ m → m ≤ 400 → Asc sg → sg.length ≤ 2 → 0 ≤ a → a ≤ z.length →
      (∀ z' n' y4 y5 H2, SameX p H1 H2 → H2 p = some (.lst [.int n']) → Asc z' → z'.length ≤ m + 2 → D.nx [some (.str z'), some (.ref p), x2, some (.int a), y4, y5] H2) → rd D [some (.str z), some (.ref p), x2, some (.int a), some (.str sg), x5] H1 := by
  have S := S_law_spoiled
  refine ⟨_, (pss_cons (ps_set (i := 5) S.nd rfl (Or.inl rfl) (pe_fn D__law_take hr (pa_cons (pv 1) (pa_cons pe_int pa_nil))))
      (pss_cons (ps_if (pt_cmpR op_eq (pv 5) pe_int (nomark _)) (pss_one (ps_set (i := 0) S.nd rfl (Or.inl rfl) (pe_op op_add_str (pe_op op_add_str (pe_slice sl_str (pv 0) po_none (po_some (pv 3))) (pv 4)) (pe_slice sl_str (pv 0) (po_some (pv 3)) po_none)))) pss_nil)
      (pss_cons (ps_if (pt_cmpR op_eq (pv 5) pe_int (nomark _)) (pss_one (ps_set (i := 0) S.nd rfl (Or.inl rfl) (pe_op op_add_str (pe_op op_add_str (pe_slice sl_str (pv 0) po_none (po_some (pv 3))) (pv 4)) (pe_slice sl_str (pv 0) (po_some (pe_op op_add (pv 3) pe_int)) po_none)))) pss_nil)
      (pss_one (ps_if (pt_cmpR op_eq (pv 5) pe_int (nomark _)) (pss_one (ps_set (i := 0) S.nd rfl (Or.inl rfl) (pe_op op_add_str (pe_slice sl_str (pv 0) po_none (po_some (pv 3))) (pe_slice sl_str (pv 0) (po_some (pe_op op_add (pv 3) pe_int)) po_none)))) pss_nil))))), ?_⟩
  intro D z sg p n a m x2 x5 H1 hp az lz m5 asg lsg a0 a6 k
  have sz := sz_ok (n := z.length) (by first | lia | omega)
  have l1 := sl_le (z := z) (six_to a0 z.length)
  have l2 := sl_le (z := z) (six_from a0 z.length)
  have l3 := sl_le (z := z) (six_from (i := a + 1) (by first | lia | omega) z.length)
  have b1 := asc_slice az none (some a)
  have b2 := asc_slice az (some a) none
  have b3 := asc_slice az (some (a + 1)) none
  refine ⟨_, rfl, p, n, 3, rfl, hp, by decide, by decide, fun r n' r0 r1 => ?_⟩
  have s1 : SameX p H1 (upd H1 p (.lst [.int n'])) := SameX.upd
  have hp1 : (upd H1 p (.lst [.int n'])) p = some (.lst [.int n']) := upd_same
  generalize upd H1 p (.lst [.int n']) = H2 at s1 hp1 ⊢
  have dw : ∀ j : Int, r = j → decide (V.int r = V.int j) = true := fun j e => decide_eq_true (congrArg V.int e)
  have dn : ∀ j : Int, r ≠ j → decide (V.int r = V.int j) = false := fun j e => decide_eq_false fun z => e (by injection z)
  obtain e | e | e : r = 0 ∨ r = 1 ∨ r = 2 := by first | lia | omega
  · refine ⟨_, rfl, rfl, _, rfl, iteP (dw 0 e) ?_⟩
    refine ⟨_, rfl, _, rfl, _, rfl, z, rfl, sz, _, rfl, _, _, rfl, rfl, sz_ok (by first | lia | omega), _, rfl, _, rfl, _, rfl, z, rfl, sz, _, _, rfl, rfl, sz_ok (by rw [len_app]; first | lia | omega), ?_⟩
    refine ⟨_, rfl, rfl, _, rfl, iteN (dn 1 (by first | lia | omega)) ⟨_, rfl, rfl, _, rfl, iteN (dn 2 (by first | lia | omega)) ?_⟩⟩
    exact k _ n' _ _ H2 s1 hp1 (asc_app (asc_app b1 asg) b2) (by rw [len_app, len_app]; first | lia | omega)
  · refine ⟨_, rfl, rfl, _, rfl, iteN (dn 0 (by first | lia | omega)) ⟨_, rfl, rfl, _, rfl, iteP (dw 1 e) ?_⟩⟩
    refine ⟨_, rfl, _, rfl, _, rfl, z, rfl, sz, _, rfl, _, _, rfl, rfl, sz_ok (by first | lia | omega), _, rfl, _, rfl, _, _, rfl, rfl, _, rfl, z, rfl, sz, _, _, rfl, rfl, sz_ok (by rw [len_app]; first | lia | omega), ?_⟩
    refine ⟨_, rfl, rfl, _, rfl, iteN (dn 2 (by first | lia | omega)) ?_⟩
    exact k _ n' _ _ H2 s1 hp1 (asc_app (asc_app b1 asg) b3) (by rw [len_app, len_app]; first | lia | omega)
  · refine ⟨_, rfl, rfl, _, rfl, iteN (dn 0 (by first | lia | omega)) ⟨_, rfl, rfl, _, rfl, iteN (dn 1 (by first | lia | omega)) ⟨_, rfl, rfl, _, rfl, iteP (dw 2 e) ?_⟩⟩⟩
    refine ⟨_, rfl, _, rfl, _, rfl, z, rfl, sz, _, rfl, _, rfl, _, _, rfl, rfl, _, rfl, z, rfl, sz, _, _, rfl, rfl, sz_ok (by first | lia | omega), ?_⟩
    exact k _ n' _ _ H2 s1 hp1 (asc_app b1 b3) (by rw [len_app]; first | lia | omega)
theorem bodySp : forBody (nth (defBody s__law_spoiled) 0) = nth (forBody (nth (defBody s__law_spoiled) 0)) 0 :: sp1 :: (forBody (nth (defBody s__law_spoiled) 0)).drop 2 := rfl
theorem ok_spR {f : Addr} {cdv : Value} {A : Around} {outer : List Env} {s : Shared} {H : Hp} {E : XK} (hr : Room 1 (A.deeper (PyProof.Rows.envOfC "_law_spoiled" (defScope s__law_spoiled) s.heap.objs.size f cdv))) (T : Txt mg tk) (D__law_take : DefOk P w K mg base 1 "_law_take" ["_law_purse_here", "_law_many"] sp_take) :
    ∃ rd, PSs (cxOf CX0 P w K mg base N_sp "_law_spoiled" (defScope s__law_spoiled) f cdv A outer s H E).nox (forBody (nth (defBody s__law_spoiled) 0)) rd ∧ ∀ (D : Ends) (z : Str) (p : Addr) (n : Int) (m : Nat) (x2 x3 x4 x5 : Option V) (H1 : Hp), H1 p = some (.lst [.int n]) → Asc z → z.length ≤ m → m ≤ 400 →
      (∀ z' n' y3 y4 y5 H2, SameX p H1 H2 → H2 p = some (.lst [.int n']) → Asc z' → z'.length ≤ m + 2 → D.nx [some (.str z'), some (.ref p), x2, y3, y4, y5] H2) → rd D [some (.str z), some (.ref p), x2, x3, x4, x5] H1 := by
  have S := S_law_spoiled
  obtain ⟨tS, hS, kS⟩ := ok_spS (f := f) (cdv := cdv) (A := A) (outer := outer) (s := s) (H := H) (E := E) (P := P) (w := w) (K := K) (mg := mg) (base := base) hr D__law_take
  obtain ⟨t1, h1, k1⟩ := dispD (f := f) (cdv := cdv) (A := A) (outer := outer) (s := s) (H := H) (E := E) (P := P) (w := w) (K := K) (mg := mg) (base := base) (dp := listP ldE) hr strsD D__law_take
  rw [sp1_is] at h1
  have hR : ∃ t2, t2 = _ ∧ PSs (cxOf CX0 P w K mg base N_sp "_law_spoiled" (defScope s__law_spoiled) f cdv A outer s H E).nox ((forBody (nth (defBody s__law_spoiled) 0)).drop 2) t2 := ⟨_, rfl, (pss_cons (ps_if (PW.pt (pw_and (pt_cmpR op_eq (pe_fn D__law_take hr (pa_cons (pv 1) (pa_cons pe_int pa_nil))) pe_int (nomark _)) (pw_and1 (pt_cmpR op_gt (pe_callB call_len_str rfl T.z_len rfl (pa_cons (pv 0) pa_nil)) pe_int (nomark _))))) (pss_one (ps_set (i := 4) S.nd rfl (Or.inl rfl) (pe_item_str (pv 0) (pe_fn D__law_take hr (pa_cons (pv 1) (pa_cons (pe_callB call_len_str rfl T.z_len rfl (pa_cons (pv 0) pa_nil)) pa_nil))) (fun _ _ => rfl)))) pss_nil)
      hS)⟩
  obtain ⟨t2, et2, hR⟩ := hR
  have h0 : ∃ t0, t0 = _ ∧ PS (cxOf CX0 P w K mg base N_sp "_law_spoiled" (defScope s__law_spoiled) f cdv A outer s H E).nox (nth (forBody (nth (defBody s__law_spoiled) 0)) 0) t0 := ⟨_, rfl, (ps_set (i := 3) S.nd rfl (Or.inl rfl) (pe_fn D__law_take hr (pa_cons (pv 1) (pa_cons (pe_op op_add (pe_callB call_len_str rfl T.z_len rfl (pa_cons (pv 0) pa_nil)) pe_int) pa_nil))))⟩
  obtain ⟨t0, et0, h0⟩ := h0
  rw [bodySp]
  generalize sp1 = st1 at h1 ⊢
  refine ⟨_, pss_cons h0 (pss_cons h1 hR), ?_⟩
  subst et2 et0
  intro D z p n m x2 x3 x4 x5 H1 hp az lz m5 k
  have sz := sz_ok (n := z.length) (by first | lia | omega)
  refine ⟨_, rfl, _, rfl, _, rfl, sz, _, _, rfl, rfl, p, n, _, rfl, hp, by first | lia | omega, by first | lia | omega, fun a n1 a0 a1 => ?_⟩
  refine k1 _ z p n1 _ _ _ _ _ upd_same fun sg n2 H2 s2 hp2 asg lsg => ?_
  have s02 := (SameX.upd (o := .lst [.int n1]) (H := H1)).trans s2
  refine ⟨_, rfl, p, n2, 2, rfl, hp2, by decide, by decide, fun r n3 r0 r1 => ?_⟩
  have s3 := s02.trans (SameX.upd (o := .lst [.int n3]) (H := H2))
  have hp3 : (upd H2 p (.lst [.int n3])) p = some (.lst [.int n3]) := upd_same
  generalize upd H2 p (.lst [.int n3]) = H3 at s3 hp3 ⊢
  have fin : ∀ (sg : Str) (n4 : Int) (H4 : Hp), SameX p H1 H4 → H4 p = some (.lst [.int n4]) → Asc sg → sg.length ≤ 2 → tS D [some (.str z), some (.ref p), x2, some (.int a), some (.str sg), x5] H4 := fun sg n4 H4 s4 hp4 asg lsg =>
    kS D z sg p n4 a m x2 x5 H4 hp4 az lz m5 asg lsg a0 (by first | lia | omega) fun z' n' y4 y5 H5 s5 hp5 az' lz' => k z' n' _ y4 y5 H5 (s4.trans s5) hp5 az' lz'
  refine ⟨rfl, _, rfl, ite3 (fun h => ?_) (fun h => ?_)⟩
  · refine ⟨_, rfl, _, rfl, sz, _, _, rfl, rfl, _, rfl, ite3 (fun h2 => ?_) (fun h2 => ?_)⟩
    · have h2 := of_decide_eq_true h2
      refine ⟨_, rfl, _, rfl, _, rfl, _, rfl, sz, p, n3, _, rfl, hp3, by first | lia | omega, by first | lia | omega, fun r2 n4 r20 r21 => ?_⟩
      have hi : r2.toNat < z.cps.size := by show r2.toNat < z.length; first | lia | omega
      refine ⟨z, r2, z.cps[r2.toNat], rfl, rfl, r20, by first | lia | omega, r21, Array.getElem?_eq_getElem hi, ?_⟩
      refine fin _ n4 _ (s3.trans SameX.upd) upd_same (asc_one (asc_list.mp az _ (by rw [Array.mem_toList_iff]; exact Array.getElem_mem hi))) (by show 1 ≤ 2; decide)
    · exact fin sg n3 H3 s3 hp3 asg lsg
  · exact iteN rfl (fin sg n3 H3 s3 hp3 asg lsg)
theorem mulA {r : Int} (h0 : 0 ≤ r) (h1 : r < 15) : MulOk "a" r ∧ Asc (Txt.mul "a" r) ∧ (Txt.mul "a" r).length ≤ 700 := by
  have e : r = ((r.toNat : Nat) : Int) := by first | lia | omega
  have hn : r.toNat < 15 := by first | lia | omega
  rw [e]
  generalize r.toNat = n at hn
  unfold MulOk Asc
  revert n
  decide +kernel
theorem txD {K : PySem.W.Frag} {H : Hp} {z : Str} (a : Asc z) (l : z.length ≤ 700) : TxOr H (.str z) (some z) ∧ DIs K H (.at (.str z)) (.str z) ∧ dep (.at (.str z)) ≤ 2 := ⟨⟨rfl, a, l⟩, atD rfl, by rw [dep]; decide⟩
theorem asc_lit {z : Str} (h : z.cps.all (· < 128) = true) : Asc z := h
theorem ok_spE {f : Addr} {cdv : Value} {A : Around} {outer : List Env} {s : Shared} {H : Hp} {E : XK} (hr : Room 1 (A.deeper (PyProof.Rows.envOfC "_law_spoiled" (defScope s__law_spoiled) s.heap.objs.size f cdv))) (D__law_take : DefOk P w K mg base 1 "_law_take" ["_law_purse_here", "_law_many"] sp_take) {Q : VK} :
    ∃ rd, PSs (cxOf CX0 P w K mg base N_sp "_law_spoiled" (defScope s__law_spoiled) f cdv A outer s H E).nox ((defBody s__law_spoiled).drop 1) rd ∧ ∀ (z : Str) (p : Addr) (n : Int) (x2 x3 x4 x5 : Option V) (H1 : Hp), H1 p = some (.lst [.int n]) → Asc z → z.length ≤ 200 →
      (∀ (v : V) (zo : Option Str) (dv : D) (H' : Hp), SameX p H1 H' → TxOr H' v zo → DIs K H' dv v → dep dv ≤ 2 → Q v H') → rd { nx := fun _ H' => Q .non H', rt := Q } [some (.str z), some (.ref p), x2, x3, x4, x5] H1 := by
  have S := S_law_spoiled
  refine ⟨_, (pss_cons (ps_set (i := 5) S.nd rfl (Or.inl rfl) (pe_fn D__law_take hr (pa_cons (pv 1) (pa_cons pe_int pa_nil))))
      (pss_cons (ps_if (pt_cmpR op_eq (pv 5) pe_int (nomark _)) (pss_one (ps_ret (pe_ix ix_list (pe_lst (pa_cons (pe_op op_add_str (pv 0) pe_str) (pa_cons (pe_op op_add_str pe_str (pv 0)) (pa_cons (pe_op op_add_str (pv 0) pe_str) (pa_cons (pe_op op_add_str (pv 0) pe_str) (pa_cons (pe_op op_add_str pe_str (pv 0)) pa_nil)))))) (pe_fn D__law_take hr (pa_cons (pv 1) (pa_cons pe_int pa_nil))) (fun _ _ => rfl)))) pss_nil)
      (pss_cons (ps_if (pt_cmpR op_eq (pv 5) pe_int (nomark _)) (pss_one (ps_ret (pe_ix ix_list (pe_lst (pa_cons pe_non (pa_cons pe_int (pa_cons (pe_lst (pa_cons pe_str pa_nil)) (pa_cons (pe_tup (pa_cons pe_str (pa_cons pe_str pa_nil))) (pa_cons pe_bl pa_nil)))))) (pe_fn D__law_take hr (pa_cons (pv 1) (pa_cons pe_int pa_nil))) (fun _ _ => rfl)))) pss_nil)
      (pss_cons (ps_if (pt_cmpR op_eq (pv 5) pe_int (nomark _)) (pss_one (ps_ret (pe_bm PySem.F.plainAttrs_str PySem.F.slot_str_join PySem.F.type_str_join mt_join pe_str (pa_cons (pe_op op_cat (pe_lst (pa_cons (pv 0) pa_nil)) (pe_op op_rep (pe_lst (pa_cons pe_str pa_nil)) (pe_fn D__law_take hr (pa_cons (pv 1) (pa_cons pe_int pa_nil))))) pa_nil)))) pss_nil)
      (pss_cons (ps_if (pt_cmpR op_eq (pv 5) pe_int (nomark _)) (pss_one (ps_ret (pe_op op_mul_str pe_str (pe_fn D__law_take hr (pa_cons (pv 1) (pa_cons pe_int pa_nil)))))) pss_nil)
      (pss_one (ps_ret (pv 0)))))))), ?_⟩
  intro z p n x2 x3 x4 x5 H1 hp az lz q
  have qt : ∀ (y : Str) (H' : Hp), SameX p H1 H' → Asc y → y.length ≤ 700 → Q (.str y) H' := fun y H' s a l => q _ _ _ H' s (txD (K := K) a l).1 (txD a l).2.1 (txD (K := K) (H := H') a l).2.2
  refine ⟨_, rfl, p, n, 12, rfl, hp, by decide, by decide, fun r n' r0 r1 => ?_⟩
  have s1 : SameX p H1 (upd H1 p (.lst [.int n'])) := SameX.upd
  have hp1 : (upd H1 p (.lst [.int n'])) p = some (.lst [.int n']) := upd_same
  generalize upd H1 p (.lst [.int n']) = H2 at s1 hp1 ⊢
  refine ⟨_, rfl, rfl, _, rfl, ite3 (fun h => ?_) (fun h => ?_)⟩
  · have a1 : Asc "\n" := asc_lit (by decide +kernel)
    have a2 : Asc " " := asc_lit (by decide +kernel)
    have a3 : Asc "/" := asc_lit (by decide +kernel)
    have l1 : ("\n" : Str).length = 1 := by decide +kernel
    have l2 : (" " : Str).length = 1 := by decide +kernel
    have l3 : ("/" : Str).length = 1 := by decide +kernel
    refine ⟨_, rfl, _, _, rfl, rfl, sz_ok (by first | lia | omega), _, rfl, _, _, rfl, rfl, sz_ok (by first | lia | omega), _, rfl, _, _, rfl, rfl, sz_ok (by first | lia | omega), _, rfl, _, _, rfl, rfl, sz_ok (by first | lia | omega), _, rfl, _, _, rfl, rfl, sz_ok (by first | lia | omega), lenOk 5, fun t ht => ?_⟩
    refine ⟨_, rfl, p, n', 5, rfl, Same.new ht _ _ hp1, by decide, by decide, fun r2 n2 r20 r21 => ?_⟩
    obtain ⟨y, hy, at_⟩ := at_strs (ks := [z ++ "\n", "\n" ++ z, z ++ " ", z ++ "/", "/" ++ z]) r20 (by show r2 < 5; exact r21)
    refine ⟨t, _, _, _, rfl, rfl, SqL.of (by rw [upd_ne (Ne.symm (ne_of_none hp1 ht))]; exact upd_same), at_, ?_⟩
    have ok : Asc y ∧ y.length ≤ 700 := by
      simp only [List.mem_cons, List.not_mem_nil, or_false] at hy
      rcases hy with rfl | rfl | rfl | rfl | rfl
      · exact ⟨asc_app az a1, by rw [len_app]; first | lia | omega⟩
      · exact ⟨asc_app a1 az, by rw [len_app]; first | lia | omega⟩
      · exact ⟨asc_app az a2, by rw [len_app]; first | lia | omega⟩
      · exact ⟨asc_app az a3, by rw [len_app]; first | lia | omega⟩
      · exact ⟨asc_app a3 az, by rw [len_app]; first | lia | omega⟩
    exact qt y _ (s1.trans ((Same.new ht).x.trans SameX.upd)) ok.1 ok.2
  refine ⟨_, rfl, rfl, _, rfl, ite3 (fun h => ?_) (fun h => ?_)⟩
  · refine ⟨lenOk 1, fun t1 ht1 => ⟨lenOk 2, fun t2 ht2 => ⟨lenOk 5, fun t ht => ?_⟩⟩⟩
    have hp2 := Same.new ht1 (o := .lst [.str "ab"]) _ _ hp1
    have hp3 := Same.new ht2 (o := .tup [.str "a", .str "b"]) _ _ hp2
    refine ⟨_, rfl, p, n', 5, rfl, Same.new ht _ _ hp3, by decide, by decide, fun r2 n2 r20 r21 => ?_⟩
    have s2 : SameX p H1 _ := s1.trans ((Same.new ht1 (o := .lst [.str "ab"])).x.trans ((Same.new ht2 (o := .tup [.str "a", .str "b"])).x.trans ((Same.new ht (o := .lst [.non, .int 7, .ref t1, .ref t2, .bl true])).x.trans (SameX.upd (o := .lst [.int n2])))))
    have e1 : (upd (upd (upd (upd H2 t1 (.lst [.str "ab"])) t2 (.tup [.str "a", .str "b"])) t (.lst [.non, .int 7, .ref t1, .ref t2, .bl true])) p (.lst [.int n2])) t1 = some (.lst [.str "ab"]) := by
      rw [upd_ne (Ne.symm (ne_of_none hp1 ht1))]
      exact Same.new ht _ _ (Same.new ht2 _ _ upd_same)
    have e2 : (upd (upd (upd (upd H2 t1 (.lst [.str "ab"])) t2 (.tup [.str "a", .str "b"])) t (.lst [.non, .int 7, .ref t1, .ref t2, .bl true])) p (.lst [.int n2])) t2 = some (.tup [.str "a", .str "b"]) := by
      rw [upd_ne (Ne.symm (ne_of_none hp2 ht2))]
      exact Same.new ht _ _ upd_same
    have e3 : (upd (upd (upd (upd H2 t1 (.lst [.str "ab"])) t2 (.tup [.str "a", .str "b"])) t (.lst [.non, .int 7, .ref t1, .ref t2, .bl true])) p (.lst [.int n2])) t = some (.lst [.non, .int 7, .ref t1, .ref t2, .bl true]) := by
      rw [upd_ne (Ne.symm (ne_of_none hp3 ht))]
      exact upd_same
    generalize upd (upd (upd (upd H2 t1 (.lst [.str "ab"])) t2 (.tup [.str "a", .str "b"])) t (.lst [.non, .int 7, .ref t1, .ref t2, .bl true])) p (.lst [.int n2]) = H3 at s2 e1 e2 e3 ⊢
    have tO : ∀ {o : HO}, tyO (some o) = tyO (some o) := rfl
    obtain rfl | rfl | rfl | rfl | rfl : r2 = 0 ∨ r2 = 1 ∨ r2 = 2 ∨ r2 = 3 ∨ r2 = 4 := by first | lia | omega
    · exact ⟨t, _, _, _, rfl, rfl, SqL.of e3, rfl, q .non none (.at .non) H3 s2 ⟨"NoneType", rfl, by decide⟩ (atD rfl) (by rw [dep]; decide)⟩
    · exact ⟨t, _, _, _, rfl, rfl, SqL.of e3, rfl, q (.int 7) none (.at (.int 7)) H3 s2 ⟨"int", rfl, by decide⟩ (atD rfl) (by rw [dep]; decide)⟩
    · refine ⟨t, _, _, _, rfl, rfl, SqL.of e3, rfl, q (.ref t1) none (.lst (.cons (.at (.str "ab")) .nil)) H3 s2 ⟨"list", by show tyO (H3 t1) = _; rw [e1]; rfl, by decide⟩ ?_ (by rw [dep, deps, deps, dep]; decide)⟩
      rw [DIs]; refine ⟨t1, _, rfl, SqL.of e1, ?_⟩
      rw [DIss]; refine ⟨_, _, rfl, atD rfl, ?_⟩
      rw [DIss]
    · refine ⟨t, _, _, _, rfl, rfl, SqL.of e3, rfl, q (.ref t2) none (.tup (.cons (.at (.str "a")) (.cons (.at (.str "b")) .nil))) H3 s2 ⟨"tuple", by show tyO (H3 t2) = _; rw [e2]; rfl, by decide⟩ ?_ (by rw [dep, deps, deps, deps, dep, dep]; decide)⟩
      rw [DIs]; refine ⟨t2, _, rfl, SqT.of e2, ?_⟩
      rw [DIss]; refine ⟨_, _, rfl, atD rfl, ?_⟩
      rw [DIss]; refine ⟨_, _, rfl, atD rfl, ?_⟩
      rw [DIss]
    · exact ⟨t, _, _, _, rfl, rfl, SqL.of e3, rfl, q (.bl true) none (.at (.bl true)) H3 s2 ⟨"bool", rfl, by decide⟩ (atD rfl) (by rw [dep]; decide)⟩
  refine ⟨_, rfl, rfl, _, rfl, ite3 (fun h => ?_) (fun h => ?_)⟩
  · refine ⟨rfl, _, rfl, lenOk 1, fun l1 n1 => ⟨lenOk 1, fun l2 n2 => ⟨_, rfl, p, n', 13, rfl, Same.new n2 _ _ (Same.new n1 _ _ hp1), by decide, by decide, fun r2 m2 r20 r21 => ?_⟩⟩⟩
    have hp2 := Same.new n1 (o := .lst [.str z]) _ _ hp1
    have hl2 : (upd (upd (upd H2 l1 (.lst [.str z])) l2 (.lst [.str "a"])) p (.lst [.int m2])) l2 = some (.lst [.str "a"]) := by
      rw [upd_ne (Ne.symm (ne_of_none hp2 n2))]; exact upd_same
    have hl1 : (upd (upd (upd H2 l1 (.lst [.str z])) l2 (.lst [.str "a"])) p (.lst [.int m2])) l1 = some (.lst [.str z]) := by
      rw [upd_ne (Ne.symm (ne_of_none hp1 n1))]; exact Same.new n2 _ _ upd_same
    have s2 : SameX p H1 (upd (upd (upd H2 l1 (.lst [.str z])) l2 (.lst [.str "a"])) p (.lst [.int m2])) := s1.trans ((Same.new n1).x.trans ((Same.new n2).x.trans SameX.upd))
    generalize upd (upd (upd H2 l1 (.lst [.str z])) l2 (.lst [.str "a"])) p (.lst [.int m2]) = H3 at hl2 hl1 s2 ⊢
    refine ⟨l2, r2, _, rfl, rfl, hl2, by first | lia | omega, by first | lia | omega, sz_ok (by show 1 * r2.toNat ≤ 1000; first | lia | omega), fun l3 n3 => ?_⟩
    rw [rep_one]
    refine ⟨l1, l3, _, _, rfl, rfl, Same.new n3 _ _ hl1, upd_same, sz_ok (by show 1 + _ ≤ _; rw [List.length_replicate]; first | lia | omega), fun l4 n4 => ?_⟩
    have ok : ∀ y ∈ z :: List.replicate r2.toNat ("a" : Str), Asc y ∧ y.length ≤ 200 := fun y hy => by
      rcases List.mem_cons.mp hy with rfl | hy
      · exact ⟨az, lz⟩
      · rw [List.eq_of_mem_replicate hy]
        exact ⟨asc_lit (by decide +kernel), by decide +kernel⟩
    have sm : ((z :: List.replicate r2.toNat ("a" : Str)).map (·.length)).sum ≤ 200 + 1 * r2.toNat := by
      rw [List.map_cons, List.sum_cons]
      have := sum_le (n := 1) (ys := List.replicate r2.toNat ("a" : Str)) fun y hy => by rw [List.eq_of_mem_replicate hy]; decide +kernel
      rw [List.length_replicate] at this
      first | lia | omega
    have e1 : ("/" : Str).length = 1 := by decide +kernel
    have ln : (z :: List.replicate r2.toNat ("a" : Str)).length = r2.toNat + 1 := by rw [List.length_cons, List.length_replicate]
    refine ⟨"/", l4, z :: List.replicate r2.toNat "a", rfl, rfl, by rw [upd_same, List.map_cons, List.map_replicate]; rfl, by rw [e1, ln]; first | lia | omega, qt _ _ (s2.trans ((Same.new n3).x.trans (Same.new n4).x)) ?_ ?_⟩
    · exact (joinS ok (m := 13) (by rw [ln]; first | lia | omega) (by decide)).2.1
    · rw [join_eq]
      have c := StrLaws.join_length_le "/" (z :: List.replicate r2.toNat ("a" : Str))
      rw [e1, ln] at c
      first | lia | omega
  refine ⟨_, rfl, rfl, _, rfl, ite3 (fun h => ?_) (fun h => ?_)⟩
  · refine ⟨_, rfl, p, n', 15, rfl, hp1, by decide, by decide, fun r2 m2 r20 r21 => ?_⟩
    obtain ⟨o1, o2, o3⟩ := mulA r20 r21
    exact ⟨"a", r2, rfl, rfl, o1, qt _ _ (s1.trans SameX.upd) o2 o3⟩
  · exact ⟨_, rfl, qt z _ s1 az (by first | lia | omega)⟩
def forS : Stmt → List Stmt → Stmt
  | .For a b _ c d, x => .For a b x c d
  | s, _ => s
theorem bodyAll : defBody s__law_spoiled = forS (nth (defBody s__law_spoiled) 0) (forBody (nth (defBody s__law_spoiled) 0)) :: (defBody s__law_spoiled).drop 1 := rfl
theorem ok_law_spoiled {f : Addr} {fd : FuncData} (F : Fun K "_law_spoiled" "_law_spoiled" s__law_spoiled f fd) (T : Txt mg tk) (D__law_take : DefOk P w K mg base 1 "_law_take" ["_law_purse_here", "_law_many"] sp_take) : FnOk P w K mg base CX0 2 f fd ["_law_text", "_law_purse_here"] (sp_spoiled K) := by
  have S := S_law_spoiled
  refine F.ok S (fun vs H Q E h => ?_) (fun cdv A outer s H vs Q E hr h => ?_)
  · obtain ⟨z, p, n, rfl, _⟩ := h; rfl
  · obtain ⟨z, p, n, rfl, az, lz, hp, q⟩ := h
    obtain ⟨tE, hE, kE⟩ := ok_spE (f := f) (cdv := cdv) (A := A) (outer := outer) (s := s) (H := H) (E := E) (P := P) (w := w) (K := K) (mg := mg) (base := base) hr D__law_take (Q := Q)
    obtain ⟨tR, hR, kR⟩ := ok_spR (f := f) (cdv := cdv) (A := A) (outer := outer) (s := s) (H := H) (E := E) (P := P) (w := w) (K := K) (mg := mg) (base := base) hr T D__law_take
    rw [bodyAll]
    generalize forBody (nth (defBody s__law_spoiled) 0) = bd at hR ⊢
    refine ⟨_, pss_cons (ps_for PassesOwn.never rfl (pi_range1 rfl T.z_range (pa_cons (pe_fn D__law_take hr (pa_cons (pv 1) (pa_cons pe_int pa_nil))) pa_nil)) (pg_name (i := 2) S.nd rfl (Or.inl rfl)) hR) hE, ?_⟩
    refine ⟨_, rfl, p, n, 4, rfl, hp, by decide, by decide, fun r n1 r0 r1 => ⟨r, rfl, by first | lia | omega, by first | lia | omega, ?_⟩⟩
    refine for_range (lo := 0) (n := r.toNat) (fun i σ H' => ∃ z' n' x2 x3 x4 x5, σ = [some (.str z'), some (.ref p), x2, x3, x4, x5] ∧ SameX p H H' ∧ H' p = some (.lst [.int n']) ∧ Asc z' ∧ z'.length ≤ 160 + 2 * i) ⟨z, n1, none, none, none, none, rfl, SameX.upd, upd_same, az, by first | lia | omega⟩ ?_ ?_
    · rintro i σ H1 hi ⟨z', n', x2, x3, x4, x5, rfl, s1, hp1, az', lz'⟩
      exact kR _ z' p n' (160 + 2 * i) _ _ _ _ H1 hp1 az' lz' (by first | lia | omega) fun z2 n2 y3 y4 y5 H2 s2 hp2 az2 lz2 => ⟨z2, n2, _, _, _, _, rfl, s1.trans s2, hp2, az2, by first | lia | omega⟩
    · rintro σ H1 ⟨z', n', x2, x3, x4, x5, rfl, s1, hp1, az', lz'⟩
      exact kE z' p n' _ _ _ _ H1 hp1 az' (by first | lia | omega) fun v zo dv H' s2 a b c => q v zo dv H' (s1.trans s2) a b c
abbrev N_law : List Str := ["_law_script", "_law_purse_here", "_law_width", "_law_height", "_law_good", "_law_text", "_law_due_here"]
theorem S_law : FnScope N_law ["_law_script"] (defScope s_law) := ⟨rfl, rfl, rfl, by decide +kernel, rfl, by decide +kernel, by decide +kernel⟩
theorem deq_one {K : PySem.W.Frag} {H : Hp} {d1 d2 : D} {v : V} (e : d1 = d2) (h : DIs K H d1 v) : deq d1 d2 = true := by
  rw [← e]; exact deq_refl d1 h
theorem ok_law {f : Addr} {fd : FuncData} (F : Fun K "law" "law" s_law f fd) (D__law_purse : DefOk P w K mg base 1 "_law_purse" ["_law_script", "_law_k"] (sp_purse K)) (D__law_take : DefOk P w K mg base 1 "_law_take" ["_law_purse_here", "_law_many"] sp_take)
    (D__law_tiled : DefOk P w K mg base 2 "_law_tiled" ["_law_script", "_law_k", "_law_width", "_law_height"] (sp_tiled K)) (D__law_drawn : DefOk P w K mg base 1 "_law_drawn" ["_law_panes", "_law_width", "_law_height"] sp_ldrawn) (D__law_spoiled : DefOk P w K mg base 2 "_law_spoiled" ["_law_text", "_law_purse_here"] (sp_spoiled K))
    (D__law_due : DefOk P w K mg base 2 "_law_due" ["_law_text"] (sp_out K)) (D__law_found : DefOk P w K mg base 7 "_law_found" ["_law_text"] (sp_out K)) : FnOk P w K mg base CX0 8 f fd ["_law_script"] (sp_law K) := by
  have S := S_law
  refine F.ok S (fun vs H Q E h => ?_) (fun cdv A outer s H vs Q E hr h => ?_)
  · obtain ⟨a, ns, rfl, _⟩ := h; rfl
  · obtain ⟨a, ns, rfl, hS, hl63, q⟩ := h
    refine ⟨_, (pss_cons (ps_set (i := 1) S.nd rfl (Or.inl rfl) (pe_fn D__law_purse hr (pa_cons (pv 0) (pa_cons pe_int pa_nil))))
      (pss_cons (ps_set (i := 2) S.nd rfl (Or.inl rfl) (pe_op op_add pe_int (pe_fn D__law_take hr (pa_cons (pv 1) (pa_cons pe_int pa_nil)))))
      (pss_cons (ps_set (i := 3) S.nd rfl (Or.inl rfl) (pe_op op_add pe_int (pe_fn D__law_take hr (pa_cons (pv 1) (pa_cons pe_int pa_nil)))))
      (pss_cons (ps_set (i := 4) S.nd rfl (Or.inl rfl) (pe_fn D__law_drawn hr (pa_cons (pe_fn D__law_tiled hr (pa_cons (pv 0) (pa_cons pe_int (pa_cons (pv 2) (pa_cons (pv 3) pa_nil))))) (pa_cons (pv 2) (pa_cons (pv 3) pa_nil)))))
      (pss_cons (ps_set (i := 5) S.nd rfl (Or.inl rfl) (pe_fn D__law_spoiled hr (pa_cons (pv 4) (pa_cons (pe_fn D__law_purse hr (pa_cons (pv 0) (pa_cons pe_int pa_nil))) pa_nil))))
      (pss_cons (ps_set (i := 6) S.nd rfl (Or.inl rfl) (pe_fn D__law_due hr (pa_cons (pv 5) pa_nil)))
      (pss_cons (ps_if (pt_cmpR (op_neD hr) (pe_fn D__law_found hr (pa_cons (pv 5) pa_nil)) (pv 6) (nomark _)) (pss_one (ps_ret pe_bl)) pss_nil)
      (pss_one (ps_ret (pe_and (pe_cmpR (op_eqD hr) (pe_fn D__law_found hr (pa_cons (pv 4) pa_nil)) (pe_fn D__law_due hr (pa_cons (pv 4) pa_nil)) (nomark _)) (pe_one (pe_cmpR (op_eqD hr) (pe_fn D__law_found hr (pa_cons (pv 5) pa_nil)) (pv 6) (nomark _))))))))))))), ?_⟩
    refine ⟨_, rfl, a, ns, 0, rfl, hS, by decide, by decide, fun p z np => ?_⟩
    have s1 : Same H (upd H p (.lst [.int z])) := Same.new np
    have hp : (upd H p (.lst [.int z])) p = some (.lst [.int z]) := upd_same
    generalize upd H p (.lst [.int z]) = H1 at s1 hp ⊢
    refine ⟨_, rfl, p, z, 12, rfl, hp, by decide, by decide, fun r1 z1 r10 r11 => ⟨_, _, rfl, rfl, ?_⟩⟩
    refine ⟨_, rfl, p, z1, 12, rfl, upd_same, by decide, by decide, fun r2 z2 r20 r21 => ⟨_, _, rfl, rfl, ?_⟩⟩
    have s2 : Same H (upd (upd H1 p (.lst [.int z1])) p (.lst [.int z2])) := SameX.same (p := p) (SameX.upd.trans SameX.upd) s1 np
    generalize upd (upd H1 p (.lst [.int z1])) p (.lst [.int z2]) = H2 at s2 ⊢
    refine ⟨_, rfl, _, rfl, _, rfl, a, ns, 3, _, _, rfl, s2.seq hS, by decide, by decide, ⟨by first | lia | omega, by first | lia | omega⟩, ⟨by first | lia | omega, by first | lia | omega⟩, fun l ts H3 s3 nl hl hat til few => ?_⟩
    refine ⟨_, rfl, _, rfl, l, ts, _, _, rfl, hl, hat, til.ins, few, ⟨by first | lia | omega, by first | lia | omega⟩, ⟨by first | lia | omega, by first | lia | omega⟩, fun g H4 s4 ag lg => ?_⟩
    have s24 := s2.trans (s3.trans s4)
    refine ⟨_, rfl, _, rfl, a, ns, 1, rfl, s24.seq hS, by decide, by decide, fun p2 z3 np2 => ?_⟩
    have s5 := s24.trans (Same.new (o := .lst [.int z3]) np2)
    refine ⟨g, p2, z3, rfl, ag, lg, upd_same, fun v zo dv H5 s6 hv hd dd => ?_⟩
    refine ⟨_, rfl, v, zo, dv, rfl, hv, hd, dd, fun t1 d1 H6 s7 o1 h1 c1 => ?_⟩
    refine ⟨_, rfl, v, zo, dv, rfl, hv.same s7, dis_same s7 dv hd, dd, fun t2 d2 H7 s8 o2 h2 c2 => ?_⟩
    have e21 : d2 = d1 := out_uniq hv o2 o1
    refine ⟨_, rfl, d2, d1, h2, dis_same s8 d1 h1, ⟨_, rfl⟩, ⟨_, rfl⟩, c2, _, rfl, iteN (by rw [if_pos rfl, deq_one e21 h2]; rfl) ?_⟩
    have tg : ∀ H', TxOr H' (.str g) (some g) ∧ DIs K H' (.at (.str g)) (.str g) ∧ dep (.at (.str g)) ≤ 2 := fun H' => txD ag (by first | lia | omega)
    refine ⟨_, rfl, .str g, some g, _, rfl, (tg _).1, (tg _).2.1, (tg H7).2.2, fun t3 d3 H8 s9 o3 h3 c3 => ?_⟩
    refine ⟨_, rfl, .str g, some g, _, rfl, (tg _).1, (tg _).2.1, (tg H7).2.2, fun t4 d4 H9 s10 o4 h4 c4 => ?_⟩
    have e34 : d3 = d4 := out_uniq (tg H7).1 o3 o4
    refine ⟨d3, d4, dis_same s10 d3 h3, h4, ⟨_, rfl⟩, ⟨_, rfl⟩, c3, _, rfl, iteP (by rw [if_neg (by decide), deq_one e34 h3]) ?_⟩
    have s79 := s8.trans (s9.trans s10)
    refine ⟨_, rfl, v, zo, dv, rfl, (hv.same s7).same s79, dis_same s79 dv (dis_same s7 dv hd), dd, fun t5 d5 H10 s11 o5 h5 c5 => ?_⟩
    have e51 : d5 = d1 := out_uniq hv o5 o1
    refine ⟨_, rfl, d5, d1, h5, dis_same (s79.trans s11) d1 h1, ⟨_, rfl⟩, ⟨_, rfl⟩, c5, ?_⟩
    rw [if_neg (by decide), deq_one e51 h5]
    exact q _
theorem len1 {α : Type} {us : List α} (h : us.length = 1) : ∃ a, us = [a] := List.length_eq_one_iff.mp h
theorem len2 {α : Type} {us : List α} (h : us.length = 2) : ∃ a b, us = [a, b] := by
  cases us with
  | nil => cases h
  | cons a r => obtain ⟨b, rfl⟩ := len1 (Nat.succ.inj h); exact ⟨a, b, rfl⟩
theorem len3 {α : Type} {us : List α} (h : us.length = 3) : ∃ a b c, us = [a, b, c] := by
  cases us with
  | nil => cases h
  | cons a r => obtain ⟨b, c, rfl⟩ := len2 (Nat.succ.inj h); exact ⟨a, b, c, rfl⟩
theorem len4 {α : Type} {us : List α} (h : us.length = 4) : ∃ a b c d, us = [a, b, c, d] := by
  cases us with
  | nil => cases h
  | cons a r => obtain ⟨b, c, d, rfl⟩ := len3 (Nat.succ.inj h); exact ⟨a, b, c, d, rfl⟩
theorem xfin {H H1 : Hp} {Q : VK} {x d : Addr} {o1 o2 : HO} {E1 : HO} (hx : H x = some E1) (hd : H d = none) : (upd (upd H d o1) x o2) x = some o2 ∧ (upd (upd H d o1) x o2) d = some o1 ∧ ∀ a o, a ≠ x → H a = some o → (upd (upd H d o1) x o2) a = some o :=
  ⟨upd_same, by rw [upd_ne (Ne.symm (ne_of_none hx hd)), upd_same], fun a o ne e => by rw [upd_ne ne, upd_ne (ne_of_none e hd)]; exact e⟩
theorem S_Ragged_init : FnScope ["self", "letter"] ["self", "letter"] (defScope s_Ragged_init) := ⟨rfl, rfl, rfl, by decide +kernel, rfl, by decide +kernel, by decide +kernel⟩
theorem ok_Ragged_init {f : Addr} {fd : FuncData} (F : Fun K "__init__" "Ragged.__init__" s_Ragged_init f fd) (xc : XCls K cR) (xn : NoAttr K cR "letter") : FnOk P w K mg base CX0 1 f fd ["self", "letter"] (sp_x cR ["letter"]) := by
  have S := S_Ragged_init
  refine F.ok S (fun vs H Q E h => ?_) (fun cdv A outer s H vs Q E hr h => ?_)
  · obtain ⟨x, ws, rfl, hl, _⟩ := h; rw [List.length_cons, hl]; rfl
  · obtain ⟨x, ws, rfl, hl, hx, q⟩ := h
    obtain ⟨v0, rfl⟩ := len1 hl
    refine ⟨_, (pss_one (ps_xfld (pv 0) (pv 1) rfl)), ?_⟩
    refine ⟨_, rfl, _, rfl, x, cR, rfl, xc, xn, .inl ⟨hx, fun d hd => ?_⟩⟩
    obtain ⟨e1, e2, e3⟩ := xfin (H1 := H) (Q := Q) (o1 := ExcD d [("letter", v0)]) (o2 := ExcO cR d x) hx hd
    exact q d _ hd e1 e2 e3
theorem S_NoDrawing_init : FnScope ["self", "drawing"] ["self", "drawing"] (defScope s_NoDrawing_init) := ⟨rfl, rfl, rfl, by decide +kernel, rfl, by decide +kernel, by decide +kernel⟩
theorem ok_NoDrawing_init {f : Addr} {fd : FuncData} (F : Fun K "__init__" "NoDrawing.__init__" s_NoDrawing_init f fd) (xc : XCls K cD) (xn : NoAttr K cD "drawing") : FnOk P w K mg base CX0 1 f fd ["self", "drawing"] (sp_x cD ["drawing"]) := by
  have S := S_NoDrawing_init
  refine F.ok S (fun vs H Q E h => ?_) (fun cdv A outer s H vs Q E hr h => ?_)
  · obtain ⟨x, ws, rfl, hl, _⟩ := h; rw [List.length_cons, hl]; rfl
  · obtain ⟨x, ws, rfl, hl, hx, q⟩ := h
    obtain ⟨v0, rfl⟩ := len1 hl
    refine ⟨_, (pss_one (ps_xfld (pv 0) (pv 1) rfl)), ?_⟩
    refine ⟨_, rfl, _, rfl, x, cD, rfl, xc, xn, .inl ⟨hx, fun d hd => ?_⟩⟩
    obtain ⟨e1, e2, e3⟩ := xfin (H1 := H) (Q := Q) (o1 := ExcD d [("drawing", v0)]) (o2 := ExcO cD d x) hx hd
    exact q d _ hd e1 e2 e3
end
theorem all_mk {l : PySem.W.OpenLaw} {w : World} {K : PySem.W.Frag} {h : Heap} {mg : Str → Option Value} {fa : Addr} (X : K.In h) (G : h.Ns mainGlobals mg) (hfa : mg "law" = some (.ref fa))
    {C : Addr} (aC : PySem.W.nsIn K mainGlobals "Panel" = some (some (.ref C)))
    (pg_C : PySem.W.plainGet K C Str.empty = true)
    (hd_C : PySem.W.hasDictIn K C = true)
    (po_C : PySem.W.plainOver K C = true)
    (sa_C : PySem.W.findIn K (.ref C) "__setattr__" = some (some (.builtin "object.__setattr__")))
    (mk_C : PySem.W.makesIn K C = true)
    (kc_C : PySem.W.keepIn K (.ref C) = true)
    (n_C_width : PySem.W.findIn K (.ref C) "width" = some none)
    (n_C_height : PySem.W.findIn K (.ref C) "height" = some none)
    (n_C_sorted_panes : PySem.W.findIn K (.ref C) "sorted_panes" = some none)
    (n_C_by_square : PySem.W.findIn K (.ref C) "by_square" = some none)
    {cG : Addr} (aG : PySem.W.nsIn K mainGlobals "GlassError" = some (some (.ref cG))) (eG : PySem.W.excIn K cG vErr "ValueError.__new__" = true)
    {cD : Addr} (aC_cD : PySem.W.nsIn K mainGlobals "NoDrawing" = some (some (.ref cD))) (kC_cD : PySem.W.keepIn K (.ref cD) = true) (nC_cD : PySem.W.findIn K (.ref cD) "drawing" = some none)
    {f_cD : Addr} {od_cD an_cD : Option Addr} {sl_cD : Array (Option Value)} {oc_cD kV_cD dc_cD pm_cD cd_cD ct_cD : Value} (a_cD : PySem.W.findIn K (.ref cD) "__init__" = some (some (.ref f_cD))) (i_cD : PySem.W.isFn K (.ref f_cD) = true) (l_cD : K.lookup f_cD = some ⟨oc_cD, od_cD, .func (PySem.W.fnOf "__init__" "NoDrawing.__init__" (defArgs s_NoDrawing_init) (defBody s_NoDrawing_init) (defScope s_NoDrawing_init) .none kV_cD dc_cD pm_cD an_cD cd_cD ct_cD), sl_cD⟩) (cc_cD : PySem.W.codeIn K cd_cD "NoDrawing.__init__" = true) (k_cD : PySem.W.keepIn K (.ref f_cD) = true)
    (ei_cD : excInI K cD f_cD = true) (xc_cD : xclsB K cD = true) (xm_cD : PySem.W.mroIn K cD (.ref cG) = some true)
    {cR : Addr} (aC_cR : PySem.W.nsIn K mainGlobals "Ragged" = some (some (.ref cR))) (kC_cR : PySem.W.keepIn K (.ref cR) = true) (nC_cR : PySem.W.findIn K (.ref cR) "letter" = some none)
    {f_cR : Addr} {od_cR an_cR : Option Addr} {sl_cR : Array (Option Value)} {oc_cR kV_cR dc_cR pm_cR cd_cR ct_cR : Value} (a_cR : PySem.W.findIn K (.ref cR) "__init__" = some (some (.ref f_cR))) (i_cR : PySem.W.isFn K (.ref f_cR) = true) (l_cR : K.lookup f_cR = some ⟨oc_cR, od_cR, .func (PySem.W.fnOf "__init__" "Ragged.__init__" (defArgs s_Ragged_init) (defBody s_Ragged_init) (defScope s_Ragged_init) .none kV_cR dc_cR pm_cR an_cR cd_cR ct_cR), sl_cR⟩) (cc_cR : PySem.W.codeIn K cd_cR "Ragged.__init__" = true) (k_cR : PySem.W.keepIn K (.ref f_cR) = true)
    (ei_cR : excInI K cR f_cR = true) (xc_cR : xclsB K cR = true) (xm_cR : PySem.W.mroIn K cR (.ref cG) = some true)
    (kt0 : (PySem.W.kitOne K (.ref cR) (.ref cR) == some true) = true)
    (kt1 : (PySem.W.kitOne K (.ref cR) (.ref cD) == some false) = true)
    (kt2 : (PySem.W.kitOne K (.ref cD) (.ref cR) == some false) = true)
    (kt3 : (PySem.W.kitOne K (.ref cD) (.ref cD) == some true) = true)
    (kt4 : (PySem.W.kitOne K (.ref cR) (.type "ValueError") == some true) = true)
    (kt5 : (PySem.W.kitOne K (.ref cD) (.type "ValueError") == some true) = true)
    {f0 : Addr} {od0 an0 : Option Addr} {sl0 : Array (Option Value)} {oc0 kV0 dc0 pm0 cd0 ct0 : Value} (a0 : PySem.W.nsIn K mainGlobals "is_whole" = some (some (.ref f0))) (l0 : K.lookup f0 = some ⟨oc0, od0, .func (PySem.W.fnOf "is_whole" "is_whole" (defArgs s_is_whole) (defBody s_is_whole) (defScope s_is_whole) .none kV0 dc0 pm0 an0 cd0 ct0), sl0⟩) (cc0 : PySem.W.codeIn K cd0 "is_whole" = true) (k0 : PySem.W.keepIn K (.ref f0) = true)
    {f1 : Addr} {od1 an1 : Option Addr} {sl1 : Array (Option Value)} {oc1 kV1 dc1 pm1 cd1 ct1 : Value} (a1 : PySem.W.nsIn K mainGlobals "is_side" = some (some (.ref f1))) (l1 : K.lookup f1 = some ⟨oc1, od1, .func (PySem.W.fnOf "is_side" "is_side" (defArgs s_is_side) (defBody s_is_side) (defScope s_is_side) .none kV1 dc1 pm1 an1 cd1 ct1), sl1⟩) (cc1 : PySem.W.codeIn K cd1 "is_side" = true) (k1 : PySem.W.keepIn K (.ref f1) = true)
    {f2 : Addr} {od2 an2 : Option Addr} {sl2 : Array (Option Value)} {oc2 kV2 dc2 pm2 cd2 ct2 : Value} (a2 : PySem.W.nsIn K mainGlobals "is_rectangle" = some (some (.ref f2))) (l2 : K.lookup f2 = some ⟨oc2, od2, .func (PySem.W.fnOf "is_rectangle" "is_rectangle" (defArgs s_is_rectangle) (defBody s_is_rectangle) (defScope s_is_rectangle) .none kV2 dc2 pm2 an2 cd2 ct2), sl2⟩) (cc2 : PySem.W.codeIn K cd2 "is_rectangle" = true) (k2 : PySem.W.keepIn K (.ref f2) = true)
    {f3 : Addr} {od3 an3 : Option Addr} {sl3 : Array (Option Value)} {oc3 kV3 dc3 pm3 cd3 ct3 : Value} (a3 : PySem.W.nsIn K mainGlobals "inside" = some (some (.ref f3))) (l3 : K.lookup f3 = some ⟨oc3, od3, .func (PySem.W.fnOf "inside" "inside" (defArgs s_inside) (defBody s_inside) (defScope s_inside) .none kV3 dc3 pm3 an3 cd3 ct3), sl3⟩) (cc3 : PySem.W.codeIn K cd3 "inside" = true) (k3 : PySem.W.keepIn K (.ref f3) = true)
    {f4 : Addr} {od4 an4 : Option Addr} {sl4 : Array (Option Value)} {oc4 kV4 dc4 pm4 cd4 ct4 : Value} (a4 : PySem.W.nsIn K mainGlobals "squares_of" = some (some (.ref f4))) (l4 : K.lookup f4 = some ⟨oc4, od4, .func (PySem.W.fnOf "squares_of" "squares_of" (defArgs s_squares_of) (defBody s_squares_of) (defScope s_squares_of) .none kV4 dc4 pm4 an4 cd4 ct4), sl4⟩) (cc4 : PySem.W.codeIn K cd4 "squares_of" = true) (k4 : PySem.W.keepIn K (.ref f4) = true)
    {f5 : Addr} {od5 an5 : Option Addr} {sl5 : Array (Option Value)} {oc5 kV5 dc5 pm5 cd5 ct5 : Value} (a5 : PySem.W.nsIn K mainGlobals "check_sides" = some (some (.ref f5))) (l5 : K.lookup f5 = some ⟨oc5, od5, .func (PySem.W.fnOf "check_sides" "check_sides" (defArgs s_check_sides) (defBody s_check_sides) (defScope s_check_sides) .none kV5 dc5 pm5 an5 cd5 ct5), sl5⟩) (cc5 : PySem.W.codeIn K cd5 "check_sides" = true) (k5 : PySem.W.keepIn K (.ref f5) = true)
    {f6 : Addr} {od6 an6 : Option Addr} {sl6 : Array (Option Value)} {oc6 kV6 dc6 pm6 cd6 ct6 : Value} (a6 : PySem.W.nsIn K mainGlobals "check_panes" = some (some (.ref f6))) (l6 : K.lookup f6 = some ⟨oc6, od6, .func (PySem.W.fnOf "check_panes" "check_panes" (defArgs s_check_panes) (defBody s_check_panes) (defScope s_check_panes) .none kV6 dc6 pm6 an6 cd6 ct6), sl6⟩) (cc6 : PySem.W.codeIn K cd6 "check_panes" = true) (k6 : PySem.W.keepIn K (.ref f6) = true)
    {f7 : Addr} {od7 an7 : Option Addr} {sl7 : Array (Option Value)} {oc7 kV7 dc7 pm7 cd7 ct7 : Value} (a7 : PySem.W.nsIn K mainGlobals "panes_by_square" = some (some (.ref f7))) (l7 : K.lookup f7 = some ⟨oc7, od7, .func (PySem.W.fnOf "panes_by_square" "panes_by_square" (defArgs s_panes_by_square) (defBody s_panes_by_square) (defScope s_panes_by_square) .none kV7 dc7 pm7 an7 cd7 ct7), sl7⟩) (cc7 : PySem.W.codeIn K cd7 "panes_by_square" = true) (k7 : PySem.W.keepIn K (.ref f7) = true)
    {f8 : Addr} {od8 an8 : Option Addr} {sl8 : Array (Option Value)} {oc8 kV8 dc8 pm8 cd8 ct8 : Value} (a8 : PySem.W.nsIn K mainGlobals "check_covered" = some (some (.ref f8))) (l8 : K.lookup f8 = some ⟨oc8, od8, .func (PySem.W.fnOf "check_covered" "check_covered" (defArgs s_check_covered) (defBody s_check_covered) (defScope s_check_covered) .none kV8 dc8 pm8 an8 cd8 ct8), sl8⟩) (cc8 : PySem.W.codeIn K cd8 "check_covered" = true) (k8 : PySem.W.keepIn K (.ref f8) = true)
    {f9 : Addr} {od9 an9 : Option Addr} {sl9 : Array (Option Value)} {oc9 kV9 dc9 pm9 cd9 ct9 : Value} (a9 : PySem.W.findIn K (.ref C) "__init__" = some (some (.ref f9))) (i9 : PySem.W.isFn K (.ref f9) = true) (l9 : K.lookup f9 = some ⟨oc9, od9, .func (PySem.W.fnOf "__init__" "Panel.__init__" (defArgs s_Panel_init) (defBody s_Panel_init) (defScope s_Panel_init) .none kV9 dc9 pm9 an9 cd9 ct9), sl9⟩) (cc9 : PySem.W.codeIn K cd9 "Panel.__init__" = true) (k9 : PySem.W.keepIn K (.ref f9) = true)
    {f10 : Addr} {od10 an10 : Option Addr} {sl10 : Array (Option Value)} {oc10 kV10 dc10 pm10 cd10 ct10 : Value} (a10 : PySem.W.findIn K (.ref C) "panes" = some (some (.ref f10))) (i10 : PySem.W.isFn K (.ref f10) = true) (l10 : K.lookup f10 = some ⟨oc10, od10, .func (PySem.W.fnOf "panes" "Panel.panes" (defArgs s_Panel_panes) (defBody s_Panel_panes) (defScope s_Panel_panes) .none kV10 dc10 pm10 an10 cd10 ct10), sl10⟩) (cc10 : PySem.W.codeIn K cd10 "Panel.panes" = true) (k10 : PySem.W.keepIn K (.ref f10) = true)
    {f11 : Addr} {od11 an11 : Option Addr} {sl11 : Array (Option Value)} {oc11 kV11 dc11 pm11 cd11 ct11 : Value} (a11 : PySem.W.nsIn K mainGlobals "is_row" = some (some (.ref f11))) (l11 : K.lookup f11 = some ⟨oc11, od11, .func (PySem.W.fnOf "is_row" "is_row" (defArgs s_is_row) (defBody s_is_row) (defScope s_is_row) .none kV11 dc11 pm11 an11 cd11 ct11), sl11⟩) (cc11 : PySem.W.codeIn K cd11 "is_row" = true) (k11 : PySem.W.keepIn K (.ref f11) = true)
    {f12 : Addr} {od12 an12 : Option Addr} {sl12 : Array (Option Value)} {oc12 kV12 dc12 pm12 cd12 ct12 : Value} (a12 : PySem.W.nsIn K mainGlobals "is_drawing" = some (some (.ref f12))) (l12 : K.lookup f12 = some ⟨oc12, od12, .func (PySem.W.fnOf "is_drawing" "is_drawing" (defArgs s_is_drawing) (defBody s_is_drawing) (defScope s_is_drawing) .none kV12 dc12 pm12 an12 cd12 ct12), sl12⟩) (cc12 : PySem.W.codeIn K cd12 "is_drawing" = true) (k12 : PySem.W.keepIn K (.ref f12) = true)
    {f13 : Addr} {od13 an13 : Option Addr} {sl13 : Array (Option Value)} {oc13 kV13 dc13 pm13 cd13 ct13 : Value} (a13 : PySem.W.nsIn K mainGlobals "squares_by_letter" = some (some (.ref f13))) (l13 : K.lookup f13 = some ⟨oc13, od13, .func (PySem.W.fnOf "squares_by_letter" "squares_by_letter" (defArgs s_squares_by_letter) (defBody s_squares_by_letter) (defScope s_squares_by_letter) .none kV13 dc13 pm13 an13 cd13 ct13), sl13⟩) (cc13 : PySem.W.codeIn K cd13 "squares_by_letter" = true) (k13 : PySem.W.keepIn K (.ref f13) = true)
    {f14 : Addr} {od14 an14 : Option Addr} {sl14 : Array (Option Value)} {oc14 kV14 dc14 pm14 cd14 ct14 : Value} (a14 : PySem.W.nsIn K mainGlobals "pane_drawn" = some (some (.ref f14))) (l14 : K.lookup f14 = some ⟨oc14, od14, .func (PySem.W.fnOf "pane_drawn" "pane_drawn" (defArgs s_pane_drawn) (defBody s_pane_drawn) (defScope s_pane_drawn) .none kV14 dc14 pm14 an14 cd14 ct14), sl14⟩) (cc14 : PySem.W.codeIn K cd14 "pane_drawn" = true) (k14 : PySem.W.keepIn K (.ref f14) = true)
    {f15 : Addr} {od15 an15 : Option Addr} {sl15 : Array (Option Value)} {oc15 kV15 dc15 pm15 cd15 ct15 : Value} (a15 : PySem.W.nsIn K mainGlobals "read_drawing" = some (some (.ref f15))) (l15 : K.lookup f15 = some ⟨oc15, od15, .func (PySem.W.fnOf "read_drawing" "read_drawing" (defArgs s_read_drawing) (defBody s_read_drawing) (defScope s_read_drawing) .none kV15 dc15 pm15 an15 cd15 ct15), sl15⟩) (cc15 : PySem.W.codeIn K cd15 "read_drawing" = true) (k15 : PySem.W.keepIn K (.ref f15) = true)
    {f16 : Addr} {od16 an16 : Option Addr} {sl16 : Array (Option Value)} {oc16 kV16 dc16 pm16 cd16 ct16 : Value} (a16 : PySem.W.nsIn K mainGlobals "_law_purse" = some (some (.ref f16))) (l16 : K.lookup f16 = some ⟨oc16, od16, .func (PySem.W.fnOf "_law_purse" "_law_purse" (defArgs s__law_purse) (defBody s__law_purse) (defScope s__law_purse) .none kV16 dc16 pm16 an16 cd16 ct16), sl16⟩) (cc16 : PySem.W.codeIn K cd16 "_law_purse" = true) (k16 : PySem.W.keepIn K (.ref f16) = true)
    {f17 : Addr} {od17 an17 : Option Addr} {sl17 : Array (Option Value)} {oc17 kV17 dc17 pm17 cd17 ct17 : Value} (a17 : PySem.W.nsIn K mainGlobals "_law_take" = some (some (.ref f17))) (l17 : K.lookup f17 = some ⟨oc17, od17, .func (PySem.W.fnOf "_law_take" "_law_take" (defArgs s__law_take) (defBody s__law_take) (defScope s__law_take) .none kV17 dc17 pm17 an17 cd17 ct17), sl17⟩) (cc17 : PySem.W.codeIn K cd17 "_law_take" = true) (k17 : PySem.W.keepIn K (.ref f17) = true)
    {f18 : Addr} {od18 an18 : Option Addr} {sl18 : Array (Option Value)} {oc18 kV18 dc18 pm18 cd18 ct18 : Value} (a18 : PySem.W.nsIn K mainGlobals "_law_tiled" = some (some (.ref f18))) (l18 : K.lookup f18 = some ⟨oc18, od18, .func (PySem.W.fnOf "_law_tiled" "_law_tiled" (defArgs s__law_tiled) (defBody s__law_tiled) (defScope s__law_tiled) .none kV18 dc18 pm18 an18 cd18 ct18), sl18⟩) (cc18 : PySem.W.codeIn K cd18 "_law_tiled" = true) (k18 : PySem.W.keepIn K (.ref f18) = true)
    {f19 : Addr} {od19 an19 : Option Addr} {sl19 : Array (Option Value)} {oc19 kV19 dc19 pm19 cd19 ct19 : Value} (a19 : PySem.W.nsIn K mainGlobals "_law_drawn" = some (some (.ref f19))) (l19 : K.lookup f19 = some ⟨oc19, od19, .func (PySem.W.fnOf "_law_drawn" "_law_drawn" (defArgs s__law_drawn) (defBody s__law_drawn) (defScope s__law_drawn) .none kV19 dc19 pm19 an19 cd19 ct19), sl19⟩) (cc19 : PySem.W.codeIn K cd19 "_law_drawn" = true) (k19 : PySem.W.keepIn K (.ref f19) = true)
    {f20 : Addr} {od20 an20 : Option Addr} {sl20 : Array (Option Value)} {oc20 kV20 dc20 pm20 cd20 ct20 : Value} (a20 : PySem.W.nsIn K mainGlobals "_law_spoiled" = some (some (.ref f20))) (l20 : K.lookup f20 = some ⟨oc20, od20, .func (PySem.W.fnOf "_law_spoiled" "_law_spoiled" (defArgs s__law_spoiled) (defBody s__law_spoiled) (defScope s__law_spoiled) .none kV20 dc20 pm20 an20 cd20 ct20), sl20⟩) (cc20 : PySem.W.codeIn K cd20 "_law_spoiled" = true) (k20 : PySem.W.keepIn K (.ref f20) = true)
    {f21 : Addr} {od21 an21 : Option Addr} {sl21 : Array (Option Value)} {oc21 kV21 dc21 pm21 cd21 ct21 : Value} (a21 : PySem.W.nsIn K mainGlobals "_law_formed" = some (some (.ref f21))) (l21 : K.lookup f21 = some ⟨oc21, od21, .func (PySem.W.fnOf "_law_formed" "_law_formed" (defArgs s__law_formed) (defBody s__law_formed) (defScope s__law_formed) .none kV21 dc21 pm21 an21 cd21 ct21), sl21⟩) (cc21 : PySem.W.codeIn K cd21 "_law_formed" = true) (k21 : PySem.W.keepIn K (.ref f21) = true)
    {f22 : Addr} {od22 an22 : Option Addr} {sl22 : Array (Option Value)} {oc22 kV22 dc22 pm22 cd22 ct22 : Value} (a22 : PySem.W.nsIn K mainGlobals "_law_due" = some (some (.ref f22))) (l22 : K.lookup f22 = some ⟨oc22, od22, .func (PySem.W.fnOf "_law_due" "_law_due" (defArgs s__law_due) (defBody s__law_due) (defScope s__law_due) .none kV22 dc22 pm22 an22 cd22 ct22), sl22⟩) (cc22 : PySem.W.codeIn K cd22 "_law_due" = true) (k22 : PySem.W.keepIn K (.ref f22) = true)
    {f23 : Addr} {od23 an23 : Option Addr} {sl23 : Array (Option Value)} {oc23 kV23 dc23 pm23 cd23 ct23 : Value} (a23 : PySem.W.nsIn K mainGlobals "_law_found" = some (some (.ref f23))) (l23 : K.lookup f23 = some ⟨oc23, od23, .func (PySem.W.fnOf "_law_found" "_law_found" (defArgs s__law_found) (defBody s__law_found) (defScope s__law_found) .none kV23 dc23 pm23 an23 cd23 ct23), sl23⟩) (cc23 : PySem.W.codeIn K cd23 "_law_found" = true) (k23 : PySem.W.keepIn K (.ref f23) = true)
    {f24 : Addr} {od24 an24 : Option Addr} {sl24 : Array (Option Value)} {oc24 kV24 dc24 pm24 cd24 ct24 : Value} (a24 : PySem.W.nsIn K mainGlobals "law" = some (some (.ref f24))) (l24 : K.lookup f24 = some ⟨oc24, od24, .func (PySem.W.fnOf "law" "law" (defArgs s_law) (defBody s_law) (defScope s_law) .none kV24 dc24 pm24 an24 cd24 ct24), sl24⟩) (cc24 : PySem.W.codeIn K cd24 "law" = true) (k24 : PySem.W.keepIn K (.ref f24) = true)
    (z0 : PySem.W.nsIn K mainGlobals "isinstance" = some none)
    (z1 : PySem.W.nsIn K mainGlobals "int" = some none)
    (z2 : PySem.W.nsIn K mainGlobals "bool" = some none)
    (z3 : PySem.W.nsIn K mainGlobals "tuple" = some none)
    (z4 : PySem.W.nsIn K mainGlobals "len" = some none)
    (z5 : PySem.W.nsIn K mainGlobals "all" = some none)
    (z6 : PySem.W.nsIn K mainGlobals "any" = some none)
    (z7 : PySem.W.nsIn K mainGlobals "range" = some none)
    (z8 : PySem.W.nsIn K mainGlobals "sorted" = some none)
    (z9 : PySem.W.nsIn K mainGlobals "min" = some none)
    (z10 : PySem.W.nsIn K mainGlobals "max" = some none)
    (z11 : PySem.W.nsIn K mainGlobals "list" = some none)
    (z12 : PySem.W.nsIn K mainGlobals "enumerate" = some none)
    (z13 : PySem.W.nsIn K mainGlobals "str" = some none)
    (z14 : PySem.W.nsIn K mainGlobals "ValueError" = some none)
    {tk0 : Tok} (g0 : PySem.W.nsIn K mainGlobals "LONGEST_SIDE" = some (some (.int 12 tk0)))
    {tk1 : Tok} (g1 : PySem.W.nsIn K mainGlobals "MOST_PANES" = some (some (.int 52 tk1)))
    {tk2 : Tok} (g2 : PySem.W.nsIn K mainGlobals "LETTERS" = some (some (.str LETS tk2)))
    : ∃ fd : FuncData, (∀ (s : Shared) (v : Value), BindsTo s fd ⟨[v], []⟩ [("_law_script", v)]) ∧ ∀ base : Heap, K.In base → base.Ns mainGlobals mg → FnOk l.prog w K mg base CX0 8 fa fd ["_law_script"] (sp_law K) := by
  have e := hfa.symm.trans (PySem.W.mg_of X G a24)
  cases e
  have T : Txt mg (tk0, tk1) := ⟨PySem.W.mg_none_of X G z0, PySem.W.mg_none_of X G z1, PySem.W.mg_none_of X G z2, PySem.W.mg_none_of X G z3, PySem.W.mg_none_of X G z4, PySem.W.mg_none_of X G z5, PySem.W.mg_none_of X G z6, PySem.W.mg_none_of X G z7, PySem.W.mg_none_of X G z8, PySem.W.mg_none_of X G z9, PySem.W.mg_none_of X G z10, PySem.W.mg_none_of X G z11, PySem.W.mg_none_of X G z12, PySem.W.mg_none_of X G z13, PySem.W.mg_none_of X G z14, PySem.W.mg_of X G g0, PySem.W.mg_of X G g1⟩
  have PC : PCls K C := ⟨⟨pg_C, hd_C, po_C, sa_C⟩, n_C_width, n_C_height, n_C_sorted_panes, n_C_by_square⟩
  have kq0 := beq_iff_eq.mp kt0
  have kq1 := beq_iff_eq.mp kt1
  have kq2 := beq_iff_eq.mp kt2
  have kq3 := beq_iff_eq.mp kt3
  have kq4 := beq_iff_eq.mp kt4
  have kq5 := beq_iff_eq.mp kt5
  have TL : TxtL mg tk2 := ⟨PySem.W.mg_of X G g2⟩
  have R : RG mg K cG cR cD := ⟨PySem.W.mg_of X G aG, PySem.W.mg_of X G aC_cR, PySem.W.mg_of X G aC_cD, eG, xm_cR, xm_cD, XCls.of xc_cR, XCls.of xc_cD, nC_cR, nC_cD, kq0, kq1, kq2, kq3, kq4, kq5⟩
  have F_cD := fun_mk (st := s_NoDrawing_init) l_cD cc_cD k_cD
  have b_cD := F_cD.binds (ps := ["self", "drawing"]) fun _ _ _ _ _ _ us hl => by obtain ⟨u0, u1, rfl⟩ := len2 hl; rfl
  have F_cR := fun_mk (st := s_Ragged_init) l_cR cc_cR k_cR
  have b_cR := F_cR.binds (ps := ["self", "letter"]) fun _ _ _ _ _ _ us hl => by obtain ⟨u0, u1, rfl⟩ := len2 hl; rfl
  have F0 := fun_mk (st := s_is_whole) l0 cc0 k0
  have b0 := F0.binds (ps := ["thing"]) fun _ _ _ _ _ _ us hl => by obtain ⟨u0, rfl⟩ := len1 hl; rfl
  have F1 := fun_mk (st := s_is_side) l1 cc1 k1
  have b1 := F1.binds (ps := ["thing"]) fun _ _ _ _ _ _ us hl => by obtain ⟨u0, rfl⟩ := len1 hl; rfl
  have F2 := fun_mk (st := s_is_rectangle) l2 cc2 k2
  have b2 := F2.binds (ps := ["thing"]) fun _ _ _ _ _ _ us hl => by obtain ⟨u0, rfl⟩ := len1 hl; rfl
  have F3 := fun_mk (st := s_inside) l3 cc3 k3
  have b3 := F3.binds (ps := ["one", "other"]) fun _ _ _ _ _ _ us hl => by obtain ⟨u0, u1, rfl⟩ := len2 hl; rfl
  have F4 := fun_mk (st := s_squares_of) l4 cc4 k4
  have b4 := F4.binds (ps := ["rectangle"]) fun _ _ _ _ _ _ us hl => by obtain ⟨u0, rfl⟩ := len1 hl; rfl
  have F5 := fun_mk (st := s_check_sides) l5 cc5 k5
  have b5 := F5.binds (ps := ["width", "height"]) fun _ _ _ _ _ _ us hl => by obtain ⟨u0, u1, rfl⟩ := len2 hl; rfl
  have F6 := fun_mk (st := s_check_panes) l6 cc6 k6
  have b6 := F6.binds (ps := ["panes", "sheet"]) fun _ _ _ _ _ _ us hl => by obtain ⟨u0, u1, rfl⟩ := len2 hl; rfl
  have F7 := fun_mk (st := s_panes_by_square) l7 cc7 k7
  have b7 := F7.binds (ps := ["panes"]) fun _ _ _ _ _ _ us hl => by obtain ⟨u0, rfl⟩ := len1 hl; rfl
  have F8 := fun_mk (st := s_check_covered) l8 cc8 k8
  have b8 := F8.binds (ps := ["by_square", "sheet"]) fun _ _ _ _ _ _ us hl => by obtain ⟨u0, u1, rfl⟩ := len2 hl; rfl
  have F9 := fun_mk (st := s_Panel_init) l9 cc9 k9
  have b9 := F9.binds (ps := ["self", "width", "height", "panes"]) fun _ _ _ _ _ _ us hl => by obtain ⟨u0, u1, u2, u3, rfl⟩ := len4 hl; rfl
  have F10 := fun_mk (st := s_Panel_panes) l10 cc10 k10
  have b10 := F10.binds (ps := ["self"]) fun _ _ _ _ _ _ us hl => by obtain ⟨u0, rfl⟩ := len1 hl; rfl
  have F11 := fun_mk (st := s_is_row) l11 cc11 k11
  have b11 := F11.binds (ps := ["text", "length"]) fun _ _ _ _ _ _ us hl => by obtain ⟨u0, u1, rfl⟩ := len2 hl; rfl
  have F12 := fun_mk (st := s_is_drawing) l12 cc12 k12
  have b12 := F12.binds (ps := ["thing"]) fun _ _ _ _ _ _ us hl => by obtain ⟨u0, rfl⟩ := len1 hl; rfl
  have F13 := fun_mk (st := s_squares_by_letter) l13 cc13 k13
  have b13 := F13.binds (ps := ["rows"]) fun _ _ _ _ _ _ us hl => by obtain ⟨u0, rfl⟩ := len1 hl; rfl
  have F14 := fun_mk (st := s_pane_drawn) l14 cc14 k14
  have b14 := F14.binds (ps := ["letter", "squares"]) fun _ _ _ _ _ _ us hl => by obtain ⟨u0, u1, rfl⟩ := len2 hl; rfl
  have F15 := fun_mk (st := s_read_drawing) l15 cc15 k15
  have b15 := F15.binds (ps := ["text"]) fun _ _ _ _ _ _ us hl => by obtain ⟨u0, rfl⟩ := len1 hl; rfl
  have F16 := fun_mk (st := s__law_purse) l16 cc16 k16
  have b16 := F16.binds (ps := ["_law_script", "_law_k"]) fun _ _ _ _ _ _ us hl => by obtain ⟨u0, u1, rfl⟩ := len2 hl; rfl
  have F17 := fun_mk (st := s__law_take) l17 cc17 k17
  have b17 := F17.binds (ps := ["_law_purse_here", "_law_many"]) fun _ _ _ _ _ _ us hl => by obtain ⟨u0, u1, rfl⟩ := len2 hl; rfl
  have F18 := fun_mk (st := s__law_tiled) l18 cc18 k18
  have b18 := F18.binds (ps := ["_law_script", "_law_k", "_law_width", "_law_height"]) fun _ _ _ _ _ _ us hl => by obtain ⟨u0, u1, u2, u3, rfl⟩ := len4 hl; rfl
  have F19 := fun_mk (st := s__law_drawn) l19 cc19 k19
  have b19 := F19.binds (ps := ["_law_panes", "_law_width", "_law_height"]) fun _ _ _ _ _ _ us hl => by obtain ⟨u0, u1, u2, rfl⟩ := len3 hl; rfl
  have F20 := fun_mk (st := s__law_spoiled) l20 cc20 k20
  have b20 := F20.binds (ps := ["_law_text", "_law_purse_here"]) fun _ _ _ _ _ _ us hl => by obtain ⟨u0, u1, rfl⟩ := len2 hl; rfl
  have F21 := fun_mk (st := s__law_formed) l21 cc21 k21
  have b21 := F21.binds (ps := ["_law_text"]) fun _ _ _ _ _ _ us hl => by obtain ⟨u0, rfl⟩ := len1 hl; rfl
  have F22 := fun_mk (st := s__law_due) l22 cc22 k22
  have b22 := F22.binds (ps := ["_law_text"]) fun _ _ _ _ _ _ us hl => by obtain ⟨u0, rfl⟩ := len1 hl; rfl
  have F23 := fun_mk (st := s__law_found) l23 cc23 k23
  have b23 := F23.binds (ps := ["_law_text"]) fun _ _ _ _ _ _ us hl => by obtain ⟨u0, rfl⟩ := len1 hl; rfl
  have F24 := fun_mk (st := s_law) l24 cc24 k24
  refine ⟨PySem.W.fnOf "law" "law" (defArgs s_law) (defBody s_law) (defScope s_law) .none kV24 dc24 pm24 an24 cd24 ct24, fun s v => .of_eq rfl, fun base _ _ => ?_⟩
  have X_NoDrawing : XMkOk l.prog w K mg base 1 "NoDrawing" cD ["self", "drawing"] ["drawing"] := ⟨by decide, f_cD, _, ⟨XCls.of xc_cD, ei_cD, kC_cD, i_cD⟩, ok_NoDrawing_init F_cD (XCls.of xc_cD) nC_cD, PySem.W.mg_of X G aC_cD, b_cD⟩
  have X_Ragged : XMkOk l.prog w K mg base 1 "Ragged" cR ["self", "letter"] ["letter"] := ⟨by decide, f_cR, _, ⟨XCls.of xc_cR, ei_cR, kC_cR, i_cR⟩, ok_Ragged_init F_cR (XCls.of xc_cR) nC_cR, PySem.W.mg_of X G aC_cR, b_cR⟩
  have D_is_whole : DefOk l.prog w K mg base 1 "is_whole" ["thing"] sp_whole := ⟨_, _, ok_is_whole F0 T, PySem.W.mg_of X G a0, k0, b0⟩
  have D_is_side : DefOk l.prog w K mg base 2 "is_side" ["thing"] sp_side := ⟨_, _, ok_is_side F1 T D_is_whole, PySem.W.mg_of X G a1, k1, b1⟩
  have D_is_rectangle : DefOk l.prog w K mg base 2 "is_rectangle" ["thing"] sp_rect := ⟨_, _, ok_is_rectangle F2 T D_is_whole, PySem.W.mg_of X G a2, k2, b2⟩
  have D_inside : DefOk l.prog w K mg base 1 "inside" ["one", "other"] sp_inside := ⟨_, _, ok_inside F3, PySem.W.mg_of X G a3, k3, b3⟩
  have D_squares_of : DefOk l.prog w K mg base 1 "squares_of" ["rectangle"] sp_squares := ⟨_, _, ok_squares_of F4 T, PySem.W.mg_of X G a4, k4, b4⟩
  have D_check_sides : DefOk l.prog w K mg base 3 "check_sides" ["width", "height"] sp_check_sides := ⟨_, _, ok_check_sides F5 D_is_side, PySem.W.mg_of X G a5, k5, b5⟩
  have D_check_panes : DefOk l.prog w K mg base 3 "check_panes" ["panes", "sheet"] (sp_check_panes K) := ⟨_, _, ok_check_panes F6 T D_is_rectangle D_inside, PySem.W.mg_of X G a6, k6, b6⟩
  have D_panes_by_square : DefOk l.prog w K mg base 2 "panes_by_square" ["panes"] (sp_by_square K) := ⟨_, _, ok_panes_by_square F7 T D_squares_of, PySem.W.mg_of X G a7, k7, b7⟩
  have D_check_covered : DefOk l.prog w K mg base 2 "check_covered" ["by_square", "sheet"] sp_check_covered := ⟨_, _, ok_check_covered F8 D_squares_of, PySem.W.mg_of X G a8, k8, b8⟩
  have K_Panel : MkOk l.prog w K mg base 4 "Panel" C ["self", "width", "height", "panes"] (sp_Panel K C) := ⟨_, _, ⟨mk_C, a9, i9, kc_C⟩, ok_Panel_init F9 T PC D_check_sides D_check_panes D_panes_by_square D_check_covered, PySem.W.mg_of X G aC, b9⟩
  have M_Panel_panes : MdOk l.prog w K mg base 1 C "panes" ["self"] (sp_panes C) := ⟨⟨pg_C, hd_C, po_C, sa_C⟩, _, _, ⟨a10, i10, k10⟩, ok_Panel_panes F10 T PC, b10⟩
  have D_is_row : DefOk l.prog w K mg base 1 "is_row" ["text", "length"] sp_row := ⟨_, _, ok_is_row F11 T TL, PySem.W.mg_of X G a11, k11, b11⟩
  have D_is_drawing : DefOk l.prog w K mg base 3 "is_drawing" ["thing"] sp_isdr := ⟨_, _, ok_is_drawing F12 T D_is_side D_is_row, PySem.W.mg_of X G a12, k12, b12⟩
  have D_squares_by_letter : DefOk l.prog w K mg base 1 "squares_by_letter" ["rows"] sp_sbl := ⟨_, _, ok_squares_by_letter F13 T, PySem.W.mg_of X G a13, k13, b13⟩
  have D_pane_drawn : DefOkX l.prog w K mg base 3 "pane_drawn" ["letter", "squares"] (sp_paned cR) := ⟨_, _, ok_pane_drawn F14 T X_Ragged, PySem.W.mg_of X G a14, k14, b14⟩
  have D_read_drawing : DefOkX l.prog w K mg base 6 "read_drawing" ["text"] (sp_read C cR cD) := ⟨_, _, ok_read_drawing F15 T X_NoDrawing D_is_drawing D_squares_by_letter D_pane_drawn K_Panel, PySem.W.mg_of X G a15, k15, b15⟩
  have D__law_purse : DefOk l.prog w K mg base 1 "_law_purse" ["_law_script", "_law_k"] (sp_purse K) := ⟨_, _, ok_law_purse F16 T, PySem.W.mg_of X G a16, k16, b16⟩
  have D__law_take : DefOk l.prog w K mg base 1 "_law_take" ["_law_purse_here", "_law_many"] sp_take := ⟨_, _, ok_law_take F17, PySem.W.mg_of X G a17, k17, b17⟩
  have D__law_tiled : DefOk l.prog w K mg base 2 "_law_tiled" ["_law_script", "_law_k", "_law_width", "_law_height"] (sp_tiled K) := ⟨_, _, ok_law_tiled F18 T D__law_purse D__law_take, PySem.W.mg_of X G a18, k18, b18⟩
  have D__law_drawn : DefOk l.prog w K mg base 1 "_law_drawn" ["_law_panes", "_law_width", "_law_height"] sp_ldrawn := ⟨_, _, ok_law_drawn F19 T, PySem.W.mg_of X G a19, k19, b19⟩
  have D__law_spoiled : DefOk l.prog w K mg base 2 "_law_spoiled" ["_law_text", "_law_purse_here"] (sp_spoiled K) := ⟨_, _, ok_law_spoiled F20 T D__law_take, PySem.W.mg_of X G a20, k20, b20⟩
  have D__law_formed : DefOk l.prog w K mg base 1 "_law_formed" ["_law_text"] sp_isdr := ⟨_, _, ok_law_formed F21 T, PySem.W.mg_of X G a21, k21, b21⟩
  have D__law_due : DefOk l.prog w K mg base 2 "_law_due" ["_law_text"] (sp_out K) := ⟨_, _, ok_law_due F22 T D__law_formed, PySem.W.mg_of X G a22, k22, b22⟩
  have D__law_found : DefOk l.prog w K mg base 7 "_law_found" ["_law_text"] (sp_out K) := ⟨_, _, ok_law_found F23 T R PC D_read_drawing M_Panel_panes, PySem.W.mg_of X G a23, k23, b23⟩
  exact ok_law F24 D__law_purse D__law_take D__law_tiled D__law_drawn D__law_spoiled D__law_due D__law_found
theorem walk {l : PySem.W.OpenLaw} {q : Program} {loose : List Str} {XP : (Str → Option Value) → Heap → Prop} {YP : World → Heap → Prop} {d : DefRec} {K : Params → PySem.W.Frag} (hn : l.most = some 63) (hdf : d.params.defaults = [])
    (hY : ∀ (w : World) (h : Heap), YP w h → (K w.params).In h)
    (F : ∀ (w : World) (mg : Str → Option Value) (fa : Addr) (h : Heap), (K w.params).In h → h.Ns mainGlobals mg → mg d.name = some (.ref fa) →
      ∃ fd : FuncData, (∀ (s : Shared) (u : Value), BindsTo s fd ⟨[u], []⟩ [("_law_script", u)]) ∧ ∀ base : Heap, (K w.params).In base → base.Ns mainGlobals mg → FnOk l.prog w (K w.params) mg base CX0 8 fa fd ["_law_script"] (sp_law (K w.params))) :
    PySem.W.WalkO q loose XP YP l.row.toRowW d [] (fun f vs => PySem.call f vs) :=
  L2.walk_of (n := 63) (k := 8) (x := "_law_script") (CX := fun _ => CX0) (sp := fun w => sp_law (K w.params)) hn (by decide) hdf ⟨rfl, by decide, by decide⟩ hY F (fun _ _ a ns hl _ hS => ⟨a, ns, rfl, hS, hl, fun _ => rfl⟩) fun _ _ _ _ _ z => z
end K5
namespace KH
open PySem PySem.W PyProof.Rows L2
def top (i : Nat) : Stmt := PySem.Challenge.pw_glazebench_k05_drawings_refused.main.body.getD i (.Pass ⟨0, 0, 0, 0⟩)
def kE (P : Params) (x : Str) (t : Tok) (v : Value) : DictEntry := ⟨PyData.keyHash P x, .str x t, v⟩
def k2 (P : Params) : Obj := ⟨.none, none, (.dict #[] 0), #[]⟩
def k3 (P : Params) : Obj := ⟨(.type "dict"), none, (.dict #[kE P "__name__" 165 (.str "law_glazebench_k05_drawings_refused" 566), kE P "__doc__" 166 .none, kE P "__package__" 167 .none, kE P "__loader__" 168 (.builtin "__main__.__loader__#opaque"), kE P "__spec__" 169 .none, kE P "__annotations__" 170 (.ref 6), kE P "__builtins__" 171 (.ref 4), kE P "__file__" 173 (.str "/claim/cut.py" 172), kE P "__cached__" 174 .none, kE P "_wall" 193 (.ref 21), kE P "GlassError" 213 (.ref 31), kE P "NoSide" 238 (.ref 51), kE P "TooMany" 263 (.ref 70), kE P "NoPane" 288 (.ref 89), kE P "Overlap" 313 (.ref 108), kE P "Bare" 338 (.ref 127), kE P "NoDrawing" 363 (.ref 146), kE P "Ragged" 388 (.ref 165), kE P "LONGEST_SIDE" 392 (.int (12) 391), kE P "MOST_PANES" 394 (.int (52) 393), kE P "is_whole" 401 (.ref 174), kE P "is_side" 408 (.ref 181), kE P "is_rectangle" 414 (.ref 186), kE P "inside" 423 (.ref 193), kE P "squares_of" 433 (.ref 200), kE P "check_sides" 442 (.ref 207), kE P "check_panes" 452 (.ref 214), kE P "panes_by_square" 463 (.ref 221), kE P "check_covered" 472 (.ref 228), kE P "Panel" 525 (.ref 264), kE P "LETTERS" 529 (.str "abcdefghijklmnopqrstuvwxyzABCDEFGHIJKLMNOPQRSTUVWXYZ" 528), kE P "is_row" 535 (.ref 273), kE P "is_drawing" 541 (.ref 278), kE P "squares_by_letter" 553 (.ref 285), kE P "pane_drawn" 559 (.ref 290), kE P "read_drawing" 565 (.ref 295), kE P "_law_purse" 576 (.ref 302), kE P "_law_take" 585 (.ref 309), kE P "_law_tiled" 605 (.ref 316), kE P "_law_drawn" 611 (.ref 321), kE P "_law_spoiled" 623 (.ref 328), kE P "_law_formed" 629 (.ref 333), kE P "_law_due" 635 (.ref 338), kE P "_law_found" 645 (.ref 345), kE P "law" 658 (.ref 352)] 45), #[]⟩
def k15 (P : Params) : Obj := ⟨(.type "tuple"), none, (.seq #[] 0), #[]⟩
def k17 (P : Params) : Obj := ⟨(.type "tuple"), none, (.seq #[(.str "k" 190)] 0), #[]⟩
def k18 (P : Params) : Obj := ⟨(.type "tuple"), none, (.seq #[] 0), #[]⟩
def k20 (P : Params) : Obj := ⟨(.type "code"), none, (.fields #[(.str "_wall" 187), (.str "_wall" 188), (.str "/claim/cut.py" 189), (.int (1) 0), (.int (1) 0), (.int (0) 0), (.int (0) 0), (.int (3) 0), (.ref 15), (.bool true), (.int (181) 0), (.ref 16), .none, (.ref 17), (.ref 18), (.ref 19), (.int (191) 0), (.int (1) 0), (.str "/claim/cut.py" 192)]), #[]⟩
def k21 (P : Params) : Obj := ⟨(.type "function"), none, (.func (fnOf "_wall" "_wall" (defArgs (top 0)) (defBody (top 0)) (defScope (top 0)) .none .none .none (.str "__main__" 164) none (.ref 20) .none)), #[]⟩
def k22 (P : Params) : Obj := ⟨(.type "tuple"), none, (.seq #[(.type "ValueError")] 0), #[]⟩
def k29 (P : Params) : Obj := ⟨(.type "tuple"), none, (.seq #[] 0), #[]⟩
def k30 (P : Params) : Obj := ⟨(.type "dict"), none, (.dict #[kE P "__module__" 203 (.str "glazebench.errors" 194), kE P "__firstlineno__" 207 (.int (5) 206), kE P "__static_attributes__" 208 (.ref 29), kE P "__weakref__" 210 (.ref 32), kE P "__doc__" 211 .none] 3), #[]⟩
def k31 (P : Params) : Obj := ⟨(.type "type"), none, (.cls { name := "GlassError", bases := [(.type "ValueError")], mro := [(.ref 31), (.type "ValueError"), (.type "Exception"), (.type "BaseException"), (.type "object")], ns := 30, qualname := "GlassError", hasDict := true, slotNames := [], subclasses := [(.ref 51), (.ref 70), (.ref 89), (.ref 108), (.ref 127), (.ref 146), (.ref 165)], abstract := false, collection := none, hasDel := false }), #[some (.ref 22), none, some (.str "GlassError" 196), some (.str "GlassError" 204), some (.builtin "ValueError.__new__"), some (.bool true)]⟩
def k32 (P : Params) : Obj := ⟨(.type "getset_descriptor"), none, (.fields #[(.str "__weakref__" 209), (.ref 31), (.builtin "ExceptionGroup.__weakref__"), .none]), #[]⟩
def k35 (P : Params) : Obj := ⟨(.type "tuple"), none, (.seq #[(.ref 31)] 0), #[]⟩
def k42 (P : Params) : Obj := ⟨(.type "tuple"), none, (.seq #[] 0), #[]⟩
def k44 (P : Params) : Obj := ⟨(.type "tuple"), none, (.seq #[(.str "self" 229), (.str "side" 230)] 0), #[]⟩
def k45 (P : Params) : Obj := ⟨(.type "tuple"), none, (.seq #[] 0), #[]⟩
def k47 (P : Params) : Obj := ⟨(.type "code"), none, (.fields #[(.str "__init__" 226), (.str "NoSide.__init__" 227), (.str "/claim/cut.py" 228), (.int (9) 0), (.int (2) 0), (.int (0) 0), (.int (0) 0), (.int (3) 0), (.ref 42), (.bool true), (.int (181) 0), (.ref 43), .none, (.ref 44), (.ref 45), (.ref 46), (.int (231) 0), (.int (9) 0), (.str "/claim/cut.py" 232)]), #[]⟩
def k48 (P : Params) : Obj := ⟨(.type "function"), none, (.func (fnOf "__init__" "NoSide.__init__" (defArgs (inClass (top 3) 0)) (defBody (inClass (top 3) 0)) (defScope (inClass (top 3) 0)) .none .none .none (.str "glazebench.errors" 194) none (.ref 47) .none)), #[]⟩
def k49 (P : Params) : Obj := ⟨(.type "tuple"), none, (.seq #[(.str "side" 234)] 0), #[]⟩
def k50 (P : Params) : Obj := ⟨(.type "dict"), none, (.dict #[kE P "__module__" 221 (.str "glazebench.errors" 194), kE P "__firstlineno__" 225 (.int (7) 224), kE P "__init__" 233 (.ref 48), kE P "__static_attributes__" 235 (.ref 49), kE P "__doc__" 236 .none] 2), #[]⟩
def k51 (P : Params) : Obj := ⟨(.type "type"), none, (.cls { name := "NoSide", bases := [(.ref 31)], mro := [(.ref 51), (.ref 31), (.type "ValueError"), (.type "Exception"), (.type "BaseException"), (.type "object")], ns := 50, qualname := "NoSide", hasDict := true, slotNames := [], subclasses := [], abstract := false, collection := none, hasDel := false }), #[some (.ref 35), none, some (.str "NoSide" 214), some (.str "NoSide" 222), some (.builtin "ValueError.__new__"), some (.bool true)]⟩
def k54 (P : Params) : Obj := ⟨(.type "tuple"), none, (.seq #[(.ref 31)] 0), #[]⟩
def k61 (P : Params) : Obj := ⟨(.type "tuple"), none, (.seq #[] 0), #[]⟩
def k63 (P : Params) : Obj := ⟨(.type "tuple"), none, (.seq #[(.str "self" 254), (.str "many" 255)] 0), #[]⟩
def k64 (P : Params) : Obj := ⟨(.type "tuple"), none, (.seq #[] 0), #[]⟩
def k66 (P : Params) : Obj := ⟨(.type "code"), none, (.fields #[(.str "__init__" 251), (.str "TooMany.__init__" 252), (.str "/claim/cut.py" 253), (.int (13) 0), (.int (2) 0), (.int (0) 0), (.int (0) 0), (.int (3) 0), (.ref 61), (.bool true), (.int (181) 0), (.ref 62), .none, (.ref 63), (.ref 64), (.ref 65), (.int (256) 0), (.int (13) 0), (.str "/claim/cut.py" 257)]), #[]⟩
def k67 (P : Params) : Obj := ⟨(.type "function"), none, (.func (fnOf "__init__" "TooMany.__init__" (defArgs (inClass (top 4) 0)) (defBody (inClass (top 4) 0)) (defScope (inClass (top 4) 0)) .none .none .none (.str "glazebench.errors" 194) none (.ref 66) .none)), #[]⟩
def k68 (P : Params) : Obj := ⟨(.type "tuple"), none, (.seq #[(.str "many" 259)] 0), #[]⟩
def k69 (P : Params) : Obj := ⟨(.type "dict"), none, (.dict #[kE P "__module__" 246 (.str "glazebench.errors" 194), kE P "__firstlineno__" 250 (.int (11) 249), kE P "__init__" 258 (.ref 67), kE P "__static_attributes__" 260 (.ref 68), kE P "__doc__" 261 .none] 2), #[]⟩
def k70 (P : Params) : Obj := ⟨(.type "type"), none, (.cls { name := "TooMany", bases := [(.ref 31)], mro := [(.ref 70), (.ref 31), (.type "ValueError"), (.type "Exception"), (.type "BaseException"), (.type "object")], ns := 69, qualname := "TooMany", hasDict := true, slotNames := [], subclasses := [], abstract := false, collection := none, hasDel := false }), #[some (.ref 54), none, some (.str "TooMany" 239), some (.str "TooMany" 247), some (.builtin "ValueError.__new__"), some (.bool true)]⟩
def k73 (P : Params) : Obj := ⟨(.type "tuple"), none, (.seq #[(.ref 31)] 0), #[]⟩
def k80 (P : Params) : Obj := ⟨(.type "tuple"), none, (.seq #[] 0), #[]⟩
def k82 (P : Params) : Obj := ⟨(.type "tuple"), none, (.seq #[(.str "self" 279), (.str "place" 280)] 0), #[]⟩
def k83 (P : Params) : Obj := ⟨(.type "tuple"), none, (.seq #[] 0), #[]⟩
def k85 (P : Params) : Obj := ⟨(.type "code"), none, (.fields #[(.str "__init__" 276), (.str "NoPane.__init__" 277), (.str "/claim/cut.py" 278), (.int (17) 0), (.int (2) 0), (.int (0) 0), (.int (0) 0), (.int (3) 0), (.ref 80), (.bool true), (.int (181) 0), (.ref 81), .none, (.ref 82), (.ref 83), (.ref 84), (.int (281) 0), (.int (17) 0), (.str "/claim/cut.py" 282)]), #[]⟩
def k86 (P : Params) : Obj := ⟨(.type "function"), none, (.func (fnOf "__init__" "NoPane.__init__" (defArgs (inClass (top 5) 0)) (defBody (inClass (top 5) 0)) (defScope (inClass (top 5) 0)) .none .none .none (.str "glazebench.errors" 194) none (.ref 85) .none)), #[]⟩
def k87 (P : Params) : Obj := ⟨(.type "tuple"), none, (.seq #[(.str "place" 284)] 0), #[]⟩
def k88 (P : Params) : Obj := ⟨(.type "dict"), none, (.dict #[kE P "__module__" 271 (.str "glazebench.errors" 194), kE P "__firstlineno__" 275 (.int (15) 274), kE P "__init__" 283 (.ref 86), kE P "__static_attributes__" 285 (.ref 87), kE P "__doc__" 286 .none] 2), #[]⟩
def k89 (P : Params) : Obj := ⟨(.type "type"), none, (.cls { name := "NoPane", bases := [(.ref 31)], mro := [(.ref 89), (.ref 31), (.type "ValueError"), (.type "Exception"), (.type "BaseException"), (.type "object")], ns := 88, qualname := "NoPane", hasDict := true, slotNames := [], subclasses := [], abstract := false, collection := none, hasDel := false }), #[some (.ref 73), none, some (.str "NoPane" 264), some (.str "NoPane" 272), some (.builtin "ValueError.__new__"), some (.bool true)]⟩
def k92 (P : Params) : Obj := ⟨(.type "tuple"), none, (.seq #[(.ref 31)] 0), #[]⟩
def k99 (P : Params) : Obj := ⟨(.type "tuple"), none, (.seq #[] 0), #[]⟩
def k101 (P : Params) : Obj := ⟨(.type "tuple"), none, (.seq #[(.str "self" 304), (.str "place" 305)] 0), #[]⟩
def k102 (P : Params) : Obj := ⟨(.type "tuple"), none, (.seq #[] 0), #[]⟩
def k104 (P : Params) : Obj := ⟨(.type "code"), none, (.fields #[(.str "__init__" 301), (.str "Overlap.__init__" 302), (.str "/claim/cut.py" 303), (.int (21) 0), (.int (2) 0), (.int (0) 0), (.int (0) 0), (.int (3) 0), (.ref 99), (.bool true), (.int (181) 0), (.ref 100), .none, (.ref 101), (.ref 102), (.ref 103), (.int (306) 0), (.int (21) 0), (.str "/claim/cut.py" 307)]), #[]⟩
def k105 (P : Params) : Obj := ⟨(.type "function"), none, (.func (fnOf "__init__" "Overlap.__init__" (defArgs (inClass (top 6) 0)) (defBody (inClass (top 6) 0)) (defScope (inClass (top 6) 0)) .none .none .none (.str "glazebench.errors" 194) none (.ref 104) .none)), #[]⟩
def k106 (P : Params) : Obj := ⟨(.type "tuple"), none, (.seq #[(.str "place" 309)] 0), #[]⟩
def k107 (P : Params) : Obj := ⟨(.type "dict"), none, (.dict #[kE P "__module__" 296 (.str "glazebench.errors" 194), kE P "__firstlineno__" 300 (.int (19) 299), kE P "__init__" 308 (.ref 105), kE P "__static_attributes__" 310 (.ref 106), kE P "__doc__" 311 .none] 2), #[]⟩
def k108 (P : Params) : Obj := ⟨(.type "type"), none, (.cls { name := "Overlap", bases := [(.ref 31)], mro := [(.ref 108), (.ref 31), (.type "ValueError"), (.type "Exception"), (.type "BaseException"), (.type "object")], ns := 107, qualname := "Overlap", hasDict := true, slotNames := [], subclasses := [], abstract := false, collection := none, hasDel := false }), #[some (.ref 92), none, some (.str "Overlap" 289), some (.str "Overlap" 297), some (.builtin "ValueError.__new__"), some (.bool true)]⟩
def k111 (P : Params) : Obj := ⟨(.type "tuple"), none, (.seq #[(.ref 31)] 0), #[]⟩
def k118 (P : Params) : Obj := ⟨(.type "tuple"), none, (.seq #[] 0), #[]⟩
def k120 (P : Params) : Obj := ⟨(.type "tuple"), none, (.seq #[(.str "self" 329), (.str "square" 330)] 0), #[]⟩
def k121 (P : Params) : Obj := ⟨(.type "tuple"), none, (.seq #[] 0), #[]⟩
def k123 (P : Params) : Obj := ⟨(.type "code"), none, (.fields #[(.str "__init__" 326), (.str "Bare.__init__" 327), (.str "/claim/cut.py" 328), (.int (25) 0), (.int (2) 0), (.int (0) 0), (.int (0) 0), (.int (3) 0), (.ref 118), (.bool true), (.int (181) 0), (.ref 119), .none, (.ref 120), (.ref 121), (.ref 122), (.int (331) 0), (.int (25) 0), (.str "/claim/cut.py" 332)]), #[]⟩
def k124 (P : Params) : Obj := ⟨(.type "function"), none, (.func (fnOf "__init__" "Bare.__init__" (defArgs (inClass (top 7) 0)) (defBody (inClass (top 7) 0)) (defScope (inClass (top 7) 0)) .none .none .none (.str "glazebench.errors" 194) none (.ref 123) .none)), #[]⟩
def k125 (P : Params) : Obj := ⟨(.type "tuple"), none, (.seq #[(.str "square" 334)] 0), #[]⟩
def k126 (P : Params) : Obj := ⟨(.type "dict"), none, (.dict #[kE P "__module__" 321 (.str "glazebench.errors" 194), kE P "__firstlineno__" 325 (.int (23) 324), kE P "__init__" 333 (.ref 124), kE P "__static_attributes__" 335 (.ref 125), kE P "__doc__" 336 .none] 2), #[]⟩
def k127 (P : Params) : Obj := ⟨(.type "type"), none, (.cls { name := "Bare", bases := [(.ref 31)], mro := [(.ref 127), (.ref 31), (.type "ValueError"), (.type "Exception"), (.type "BaseException"), (.type "object")], ns := 126, qualname := "Bare", hasDict := true, slotNames := [], subclasses := [], abstract := false, collection := none, hasDel := false }), #[some (.ref 111), none, some (.str "Bare" 314), some (.str "Bare" 322), some (.builtin "ValueError.__new__"), some (.bool true)]⟩
def k130 (P : Params) : Obj := ⟨(.type "tuple"), none, (.seq #[(.ref 31)] 0), #[]⟩
def k137 (P : Params) : Obj := ⟨(.type "tuple"), none, (.seq #[] 0), #[]⟩
def k139 (P : Params) : Obj := ⟨(.type "tuple"), none, (.seq #[(.str "self" 354), (.str "drawing" 355)] 0), #[]⟩
def k140 (P : Params) : Obj := ⟨(.type "tuple"), none, (.seq #[] 0), #[]⟩
def k142 (P : Params) : Obj := ⟨(.type "code"), none, (.fields #[(.str "__init__" 351), (.str "NoDrawing.__init__" 352), (.str "/claim/cut.py" 353), (.int (29) 0), (.int (2) 0), (.int (0) 0), (.int (0) 0), (.int (3) 0), (.ref 137), (.bool true), (.int (181) 0), (.ref 138), .none, (.ref 139), (.ref 140), (.ref 141), (.int (356) 0), (.int (29) 0), (.str "/claim/cut.py" 357)]), #[]⟩
def k143 (P : Params) : Obj := ⟨(.type "function"), none, (.func (fnOf "__init__" "NoDrawing.__init__" (defArgs (inClass (top 8) 0)) (defBody (inClass (top 8) 0)) (defScope (inClass (top 8) 0)) .none .none .none (.str "glazebench.errors" 194) none (.ref 142) .none)), #[]⟩
def k144 (P : Params) : Obj := ⟨(.type "tuple"), none, (.seq #[(.str "drawing" 359)] 0), #[]⟩
def k145 (P : Params) : Obj := ⟨(.type "dict"), none, (.dict #[kE P "__module__" 346 (.str "glazebench.errors" 194), kE P "__firstlineno__" 350 (.int (27) 349), kE P "__init__" 358 (.ref 143), kE P "__static_attributes__" 360 (.ref 144), kE P "__doc__" 361 .none] 2), #[]⟩
def k146 (P : Params) : Obj := ⟨(.type "type"), none, (.cls { name := "NoDrawing", bases := [(.ref 31)], mro := [(.ref 146), (.ref 31), (.type "ValueError"), (.type "Exception"), (.type "BaseException"), (.type "object")], ns := 145, qualname := "NoDrawing", hasDict := true, slotNames := [], subclasses := [], abstract := false, collection := none, hasDel := false }), #[some (.ref 130), none, some (.str "NoDrawing" 339), some (.str "NoDrawing" 347), some (.builtin "ValueError.__new__"), some (.bool true)]⟩
def k149 (P : Params) : Obj := ⟨(.type "tuple"), none, (.seq #[(.ref 31)] 0), #[]⟩
def k156 (P : Params) : Obj := ⟨(.type "tuple"), none, (.seq #[] 0), #[]⟩
def k158 (P : Params) : Obj := ⟨(.type "tuple"), none, (.seq #[(.str "self" 379), (.str "letter" 380)] 0), #[]⟩
def k159 (P : Params) : Obj := ⟨(.type "tuple"), none, (.seq #[] 0), #[]⟩
def k161 (P : Params) : Obj := ⟨(.type "code"), none, (.fields #[(.str "__init__" 376), (.str "Ragged.__init__" 377), (.str "/claim/cut.py" 378), (.int (33) 0), (.int (2) 0), (.int (0) 0), (.int (0) 0), (.int (3) 0), (.ref 156), (.bool true), (.int (181) 0), (.ref 157), .none, (.ref 158), (.ref 159), (.ref 160), (.int (381) 0), (.int (33) 0), (.str "/claim/cut.py" 382)]), #[]⟩
def k162 (P : Params) : Obj := ⟨(.type "function"), none, (.func (fnOf "__init__" "Ragged.__init__" (defArgs (inClass (top 9) 0)) (defBody (inClass (top 9) 0)) (defScope (inClass (top 9) 0)) .none .none .none (.str "glazebench.errors" 194) none (.ref 161) .none)), #[]⟩
def k163 (P : Params) : Obj := ⟨(.type "tuple"), none, (.seq #[(.str "letter" 384)] 0), #[]⟩
def k164 (P : Params) : Obj := ⟨(.type "dict"), none, (.dict #[kE P "__module__" 371 (.str "glazebench.errors" 194), kE P "__firstlineno__" 375 (.int (31) 374), kE P "__init__" 383 (.ref 162), kE P "__static_attributes__" 385 (.ref 163), kE P "__doc__" 386 .none] 2), #[]⟩
def k165 (P : Params) : Obj := ⟨(.type "type"), none, (.cls { name := "Ragged", bases := [(.ref 31)], mro := [(.ref 165), (.ref 31), (.type "ValueError"), (.type "Exception"), (.type "BaseException"), (.type "object")], ns := 164, qualname := "Ragged", hasDict := true, slotNames := [], subclasses := [], abstract := false, collection := none, hasDel := false }), #[some (.ref 149), none, some (.str "Ragged" 364), some (.str "Ragged" 372), some (.builtin "ValueError.__new__"), some (.bool true)]⟩
def k168 (P : Params) : Obj := ⟨(.type "tuple"), none, (.seq #[] 0), #[]⟩
def k170 (P : Params) : Obj := ⟨(.type "tuple"), none, (.seq #[(.str "thing" 398)] 0), #[]⟩
def k171 (P : Params) : Obj := ⟨(.type "tuple"), none, (.seq #[] 0), #[]⟩
def k173 (P : Params) : Obj := ⟨(.type "code"), none, (.fields #[(.str "is_whole" 395), (.str "is_whole" 396), (.str "/claim/cut.py" 397), (.int (38) 0), (.int (1) 0), (.int (0) 0), (.int (0) 0), (.int (3) 0), (.ref 168), (.bool true), (.int (181) 0), (.ref 169), .none, (.ref 170), (.ref 171), (.ref 172), (.int (399) 0), (.int (38) 0), (.str "/claim/cut.py" 400)]), #[]⟩
def k174 (P : Params) : Obj := ⟨(.type "function"), none, (.func (fnOf "is_whole" "is_whole" (defArgs (top 13)) (defBody (top 13)) (defScope (top 13)) .none .none .none (.str "glazebench.panels" 389) none (.ref 173) .none)), #[]⟩
def k175 (P : Params) : Obj := ⟨(.type "tuple"), none, (.seq #[] 0), #[]⟩
def k177 (P : Params) : Obj := ⟨(.type "tuple"), none, (.seq #[(.str "thing" 405)] 0), #[]⟩
def k178 (P : Params) : Obj := ⟨(.type "tuple"), none, (.seq #[] 0), #[]⟩
def k180 (P : Params) : Obj := ⟨(.type "code"), none, (.fields #[(.str "is_side" 402), (.str "is_side" 403), (.str "/claim/cut.py" 404), (.int (40) 0), (.int (1) 0), (.int (0) 0), (.int (0) 0), (.int (3) 0), (.ref 175), (.bool true), (.int (181) 0), (.ref 176), .none, (.ref 177), (.ref 178), (.ref 179), (.int (406) 0), (.int (40) 0), (.str "/claim/cut.py" 407)]), #[]⟩
def k181 (P : Params) : Obj := ⟨(.type "function"), none, (.func (fnOf "is_side" "is_side" (defArgs (top 14)) (defBody (top 14)) (defScope (top 14)) .none .none .none (.str "glazebench.panels" 389) none (.ref 180) .none)), #[]⟩
def k182 (P : Params) : Obj := ⟨(.type "tuple"), none, (.seq #[] 0), #[]⟩
def k185 (P : Params) : Obj := ⟨(.type "code"), none, (.fields #[(.str "is_rectangle" 409), (.str "is_rectangle" 410), (.str "/claim/cut.py" 411), (.int (42) 0), (.int (1) 0), (.int (0) 0), (.int (0) 0), (.int (3) 0), (.ref 182), (.bool true), (.int (181) 0), (.ref 183), .none, .none, .none, (.ref 184), (.int (412) 0), (.int (42) 0), (.str "/claim/cut.py" 413)]), #[]⟩
def k186 (P : Params) : Obj := ⟨(.type "function"), none, (.func (fnOf "is_rectangle" "is_rectangle" (defArgs (top 15)) (defBody (top 15)) (defScope (top 15)) .none .none .none (.str "glazebench.panels" 389) none (.ref 185) .none)), #[]⟩
def k187 (P : Params) : Obj := ⟨(.type "tuple"), none, (.seq #[] 0), #[]⟩
def k189 (P : Params) : Obj := ⟨(.type "tuple"), none, (.seq #[(.str "one" 418), (.str "other" 419), (.str "starts_within" 420)] 0), #[]⟩
def k190 (P : Params) : Obj := ⟨(.type "tuple"), none, (.seq #[] 0), #[]⟩
def k192 (P : Params) : Obj := ⟨(.type "code"), none, (.fields #[(.str "inside" 415), (.str "inside" 416), (.str "/claim/cut.py" 417), (.int (48) 0), (.int (2) 0), (.int (0) 0), (.int (0) 0), (.int (3) 0), (.ref 187), (.bool true), (.int (181) 0), (.ref 188), .none, (.ref 189), (.ref 190), (.ref 191), (.int (421) 0), (.int (48) 0), (.str "/claim/cut.py" 422)]), #[]⟩
def k193 (P : Params) : Obj := ⟨(.type "function"), none, (.func (fnOf "inside" "inside" (defArgs (top 16)) (defBody (top 16)) (defScope (top 16)) .none .none .none (.str "glazebench.panels" 389) none (.ref 192) .none)), #[]⟩
def k194 (P : Params) : Obj := ⟨(.type "tuple"), none, (.seq #[] 0), #[]⟩
def k196 (P : Params) : Obj := ⟨(.type "tuple"), none, (.seq #[(.str "rectangle" 427), (.str "squares" 428), (.str "row" 429), (.str "column" 430)] 0), #[]⟩
def k197 (P : Params) : Obj := ⟨(.type "tuple"), none, (.seq #[] 0), #[]⟩
def k199 (P : Params) : Obj := ⟨(.type "code"), none, (.fields #[(.str "squares_of" 424), (.str "squares_of" 425), (.str "/claim/cut.py" 426), (.int (51) 0), (.int (1) 0), (.int (0) 0), (.int (0) 0), (.int (3) 0), (.ref 194), (.bool true), (.int (181) 0), (.ref 195), .none, (.ref 196), (.ref 197), (.ref 198), (.int (431) 0), (.int (51) 0), (.str "/claim/cut.py" 432)]), #[]⟩
def k200 (P : Params) : Obj := ⟨(.type "function"), none, (.func (fnOf "squares_of" "squares_of" (defArgs (top 17)) (defBody (top 17)) (defScope (top 17)) .none .none .none (.str "glazebench.panels" 389) none (.ref 199) .none)), #[]⟩
def k201 (P : Params) : Obj := ⟨(.type "tuple"), none, (.seq #[] 0), #[]⟩
def k203 (P : Params) : Obj := ⟨(.type "tuple"), none, (.seq #[(.str "width" 437), (.str "height" 438), (.str "side" 439)] 0), #[]⟩
def k204 (P : Params) : Obj := ⟨(.type "tuple"), none, (.seq #[] 0), #[]⟩
def k206 (P : Params) : Obj := ⟨(.type "code"), none, (.fields #[(.str "check_sides" 434), (.str "check_sides" 435), (.str "/claim/cut.py" 436), (.int (57) 0), (.int (2) 0), (.int (0) 0), (.int (0) 0), (.int (3) 0), (.ref 201), (.bool true), (.int (181) 0), (.ref 202), .none, (.ref 203), (.ref 204), (.ref 205), (.int (440) 0), (.int (57) 0), (.str "/claim/cut.py" 441)]), #[]⟩
def k207 (P : Params) : Obj := ⟨(.type "function"), none, (.func (fnOf "check_sides" "check_sides" (defArgs (top 18)) (defBody (top 18)) (defScope (top 18)) .none .none .none (.str "glazebench.panels" 389) none (.ref 206) .none)), #[]⟩
def k208 (P : Params) : Obj := ⟨(.type "tuple"), none, (.seq #[] 0), #[]⟩
def k210 (P : Params) : Obj := ⟨(.type "tuple"), none, (.seq #[(.str "panes" 446), (.str "sheet" 447), (.str "place" 448), (.str "pane" 449)] 0), #[]⟩
def k211 (P : Params) : Obj := ⟨(.type "tuple"), none, (.seq #[] 0), #[]⟩
def k213 (P : Params) : Obj := ⟨(.type "code"), none, (.fields #[(.str "check_panes" 443), (.str "check_panes" 444), (.str "/claim/cut.py" 445), (.int (61) 0), (.int (2) 0), (.int (0) 0), (.int (0) 0), (.int (3) 0), (.ref 208), (.bool true), (.int (181) 0), (.ref 209), .none, (.ref 210), (.ref 211), (.ref 212), (.int (450) 0), (.int (61) 0), (.str "/claim/cut.py" 451)]), #[]⟩
def k214 (P : Params) : Obj := ⟨(.type "function"), none, (.func (fnOf "check_panes" "check_panes" (defArgs (top 19)) (defBody (top 19)) (defScope (top 19)) .none .none .none (.str "glazebench.panels" 389) none (.ref 213) .none)), #[]⟩
def k215 (P : Params) : Obj := ⟨(.type "tuple"), none, (.seq #[] 0), #[]⟩
def k217 (P : Params) : Obj := ⟨(.type "tuple"), none, (.seq #[(.str "panes" 456), (.str "by_square" 457), (.str "place" 458), (.str "pane" 459), (.str "square" 460)] 0), #[]⟩
def k218 (P : Params) : Obj := ⟨(.type "tuple"), none, (.seq #[] 0), #[]⟩
def k220 (P : Params) : Obj := ⟨(.type "code"), none, (.fields #[(.str "panes_by_square" 453), (.str "panes_by_square" 454), (.str "/claim/cut.py" 455), (.int (67) 0), (.int (1) 0), (.int (0) 0), (.int (0) 0), (.int (3) 0), (.ref 215), (.bool true), (.int (181) 0), (.ref 216), .none, (.ref 217), (.ref 218), (.ref 219), (.int (461) 0), (.int (67) 0), (.str "/claim/cut.py" 462)]), #[]⟩
def k221 (P : Params) : Obj := ⟨(.type "function"), none, (.func (fnOf "panes_by_square" "panes_by_square" (defArgs (top 20)) (defBody (top 20)) (defScope (top 20)) .none .none .none (.str "glazebench.panels" 389) none (.ref 220) .none)), #[]⟩
def k222 (P : Params) : Obj := ⟨(.type "tuple"), none, (.seq #[] 0), #[]⟩
def k224 (P : Params) : Obj := ⟨(.type "tuple"), none, (.seq #[(.str "by_square" 467), (.str "sheet" 468), (.str "square" 469)] 0), #[]⟩
def k225 (P : Params) : Obj := ⟨(.type "tuple"), none, (.seq #[] 0), #[]⟩
def k227 (P : Params) : Obj := ⟨(.type "code"), none, (.fields #[(.str "check_covered" 464), (.str "check_covered" 465), (.str "/claim/cut.py" 466), (.int (75) 0), (.int (2) 0), (.int (0) 0), (.int (0) 0), (.int (3) 0), (.ref 222), (.bool true), (.int (181) 0), (.ref 223), .none, (.ref 224), (.ref 225), (.ref 226), (.int (470) 0), (.int (75) 0), (.str "/claim/cut.py" 471)]), #[]⟩
def k228 (P : Params) : Obj := ⟨(.type "function"), none, (.func (fnOf "check_covered" "check_covered" (defArgs (top 21)) (defBody (top 21)) (defScope (top 21)) .none .none .none (.str "glazebench.panels" 389) none (.ref 227) .none)), #[]⟩
def k236 (P : Params) : Obj := ⟨(.type "tuple"), none, (.seq #[] 0), #[]⟩
def k239 (P : Params) : Obj := ⟨(.type "code"), none, (.fields #[(.str "__init__" 485), (.str "Panel.__init__" 486), (.str "/claim/cut.py" 487), (.int (81) 0), (.int (4) 0), (.int (0) 0), (.int (0) 0), (.int (3) 0), (.ref 236), (.bool true), (.int (181) 0), (.ref 237), .none, .none, .none, (.ref 238), (.int (488) 0), (.int (81) 0), (.str "/claim/cut.py" 489)]), #[]⟩
def k240 (P : Params) : Obj := ⟨(.type "function"), none, (.func (fnOf "__init__" "Panel.__init__" (defArgs (inClass (top 22) 0)) (defBody (inClass (top 22) 0)) (defScope (inClass (top 22) 0)) .none .none .none (.str "glazebench.panels" 389) none (.ref 239) .none)), #[]⟩
def k241 (P : Params) : Obj := ⟨(.type "tuple"), none, (.seq #[] 0), #[]⟩
def k243 (P : Params) : Obj := ⟨(.type "tuple"), none, (.seq #[(.str "self" 494)] 0), #[]⟩
def k244 (P : Params) : Obj := ⟨(.type "tuple"), none, (.seq #[] 0), #[]⟩
def k246 (P : Params) : Obj := ⟨(.type "code"), none, (.fields #[(.str "panes" 491), (.str "Panel.panes" 492), (.str "/claim/cut.py" 493), (.int (93) 0), (.int (1) 0), (.int (0) 0), (.int (0) 0), (.int (3) 0), (.ref 241), (.bool true), (.int (181) 0), (.ref 242), .none, (.ref 243), (.ref 244), (.ref 245), (.int (495) 0), (.int (93) 0), (.str "/claim/cut.py" 496)]), #[]⟩
def k247 (P : Params) : Obj := ⟨(.type "function"), none, (.func (fnOf "panes" "Panel.panes" (defArgs (inClass (top 22) 1)) (defBody (inClass (top 22) 1)) (defScope (inClass (top 22) 1)) .none .none .none (.str "glazebench.panels" 389) none (.ref 246) .none)), #[]⟩
def k248 (P : Params) : Obj := ⟨(.type "tuple"), none, (.seq #[] 0), #[]⟩
def k250 (P : Params) : Obj := ⟨(.type "tuple"), none, (.seq #[(.str "self" 501), (.str "row" 502), (.str "column" 503)] 0), #[]⟩
def k251 (P : Params) : Obj := ⟨(.type "tuple"), none, (.seq #[] 0), #[]⟩
def k253 (P : Params) : Obj := ⟨(.type "code"), none, (.fields #[(.str "pane_at" 498), (.str "Panel.pane_at" 499), (.str "/claim/cut.py" 500), (.int (96) 0), (.int (3) 0), (.int (0) 0), (.int (0) 0), (.int (3) 0), (.ref 248), (.bool true), (.int (181) 0), (.ref 249), .none, (.ref 250), (.ref 251), (.ref 252), (.int (504) 0), (.int (96) 0), (.str "/claim/cut.py" 505)]), #[]⟩
def k254 (P : Params) : Obj := ⟨(.type "function"), none, (.func (fnOf "pane_at" "Panel.pane_at" (defArgs (inClass (top 22) 2)) (defBody (inClass (top 22) 2)) (defScope (inClass (top 22) 2)) .none .none .none (.str "glazebench.panels" 389) none (.ref 253) .none)), #[]⟩
def k255 (P : Params) : Obj := ⟨(.type "tuple"), none, (.seq #[] 0), #[]⟩
def k257 (P : Params) : Obj := ⟨(.type "tuple"), none, (.seq #[(.str "self" 510)] 0), #[]⟩
def k258 (P : Params) : Obj := ⟨(.type "tuple"), none, (.seq #[] 0), #[]⟩
def k260 (P : Params) : Obj := ⟨(.type "code"), none, (.fields #[(.str "turned" 507), (.str "Panel.turned" 508), (.str "/claim/cut.py" 509), (.int (99) 0), (.int (1) 0), (.int (0) 0), (.int (0) 0), (.int (3) 0), (.ref 255), (.bool true), (.int (181) 0), (.ref 256), .none, (.ref 257), (.ref 258), (.ref 259), (.int (511) 0), (.int (99) 0), (.str "/claim/cut.py" 512)]), #[]⟩
def k261 (P : Params) : Obj := ⟨(.type "function"), none, (.func (fnOf "turned" "Panel.turned" (defArgs (inClass (top 22) 3)) (defBody (inClass (top 22) 3)) (defScope (inClass (top 22) 3)) .none .none .none (.str "glazebench.panels" 389) none (.ref 260) .none)), #[]⟩
def k262 (P : Params) : Obj := ⟨(.type "tuple"), none, (.seq #[(.str "by_square" 514), (.str "height" 515), (.str "sorted_panes" 516), (.str "width" 517)] 0), #[]⟩
def k263 (P : Params) : Obj := ⟨(.type "dict"), none, (.dict #[kE P "__module__" 480 (.str "glazebench.panels" 389), kE P "__firstlineno__" 484 (.int (79) 483), kE P "__init__" 490 (.ref 240), kE P "panes" 497 (.ref 247), kE P "pane_at" 506 (.ref 254), kE P "turned" 513 (.ref 261), kE P "__static_attributes__" 518 (.ref 262), kE P "__dict__" 520 (.ref 265), kE P "__weakref__" 522 (.ref 266), kE P "__doc__" 523 .none] 4), #[]⟩
def k264 (P : Params) : Obj := ⟨(.type "type"), none, (.cls { name := "Panel", bases := [(.type "object")], mro := [(.ref 264), (.type "object")], ns := 263, qualname := "Panel", hasDict := true, slotNames := [], subclasses := [], abstract := false, collection := none, hasDel := false }), #[none, none, some (.str "Panel" 473), some (.str "Panel" 481), some (.builtin "object.__new__"), some (.bool true)]⟩
def k265 (P : Params) : Obj := ⟨(.type "getset_descriptor"), none, (.fields #[(.str "__dict__" 519), (.ref 264), (.builtin "function.__dict__"), (.builtin "function.__dict__#set")]), #[]⟩
def k266 (P : Params) : Obj := ⟨(.type "getset_descriptor"), none, (.fields #[(.str "__weakref__" 521), (.ref 264), (.builtin "ExceptionGroup.__weakref__"), .none]), #[]⟩
def k269 (P : Params) : Obj := ⟨(.type "tuple"), none, (.seq #[] 0), #[]⟩
def k272 (P : Params) : Obj := ⟨(.type "code"), none, (.fields #[(.str "is_row" 530), (.str "is_row" 531), (.str "/claim/cut.py" 532), (.int (103) 0), (.int (2) 0), (.int (0) 0), (.int (0) 0), (.int (3) 0), (.ref 269), (.bool true), (.int (181) 0), (.ref 270), .none, .none, .none, (.ref 271), (.int (533) 0), (.int (103) 0), (.str "/claim/cut.py" 534)]), #[]⟩
def k273 (P : Params) : Obj := ⟨(.type "function"), none, (.func (fnOf "is_row" "is_row" (defArgs (top 25)) (defBody (top 25)) (defScope (top 25)) .none .none .none (.str "glazebench.drawings" 526) none (.ref 272) .none)), #[]⟩
def k274 (P : Params) : Obj := ⟨(.type "tuple"), none, (.seq #[] 0), #[]⟩
def k277 (P : Params) : Obj := ⟨(.type "code"), none, (.fields #[(.str "is_drawing" 536), (.str "is_drawing" 537), (.str "/claim/cut.py" 538), (.int (105) 0), (.int (1) 0), (.int (0) 0), (.int (0) 0), (.int (3) 0), (.ref 274), (.bool true), (.int (181) 0), (.ref 275), .none, .none, .none, (.ref 276), (.int (539) 0), (.int (105) 0), (.str "/claim/cut.py" 540)]), #[]⟩
def k278 (P : Params) : Obj := ⟨(.type "function"), none, (.func (fnOf "is_drawing" "is_drawing" (defArgs (top 26)) (defBody (top 26)) (defScope (top 26)) .none .none .none (.str "glazebench.drawings" 526) none (.ref 277) .none)), #[]⟩
def k279 (P : Params) : Obj := ⟨(.type "tuple"), none, (.seq #[] 0), #[]⟩
def k281 (P : Params) : Obj := ⟨(.type "tuple"), none, (.seq #[(.str "rows" 545), (.str "by_letter" 546), (.str "row" 547), (.str "text" 548), (.str "column" 549), (.str "letter" 550)] 0), #[]⟩
def k282 (P : Params) : Obj := ⟨(.type "tuple"), none, (.seq #[] 0), #[]⟩
def k284 (P : Params) : Obj := ⟨(.type "code"), none, (.fields #[(.str "squares_by_letter" 542), (.str "squares_by_letter" 543), (.str "/claim/cut.py" 544), (.int (113) 0), (.int (1) 0), (.int (0) 0), (.int (0) 0), (.int (3) 0), (.ref 279), (.bool true), (.int (181) 0), (.ref 280), .none, (.ref 281), (.ref 282), (.ref 283), (.int (551) 0), (.int (113) 0), (.str "/claim/cut.py" 552)]), #[]⟩
def k285 (P : Params) : Obj := ⟨(.type "function"), none, (.func (fnOf "squares_by_letter" "squares_by_letter" (defArgs (top 27)) (defBody (top 27)) (defScope (top 27)) .none .none .none (.str "glazebench.drawings" 526) none (.ref 284) .none)), #[]⟩
def k286 (P : Params) : Obj := ⟨(.type "tuple"), none, (.seq #[] 0), #[]⟩
def k289 (P : Params) : Obj := ⟨(.type "code"), none, (.fields #[(.str "pane_drawn" 554), (.str "pane_drawn" 555), (.str "/claim/cut.py" 556), (.int (119) 0), (.int (2) 0), (.int (0) 0), (.int (0) 0), (.int (3) 0), (.ref 286), (.bool true), (.int (181) 0), (.ref 287), .none, .none, .none, (.ref 288), (.int (557) 0), (.int (119) 0), (.str "/claim/cut.py" 558)]), #[]⟩
def k290 (P : Params) : Obj := ⟨(.type "function"), none, (.func (fnOf "pane_drawn" "pane_drawn" (defArgs (top 28)) (defBody (top 28)) (defScope (top 28)) .none .none .none (.str "glazebench.drawings" 526) none (.ref 289) .none)), #[]⟩
def k291 (P : Params) : Obj := ⟨(.type "tuple"), none, (.seq #[] 0), #[]⟩
def k294 (P : Params) : Obj := ⟨(.type "code"), none, (.fields #[(.str "read_drawing" 560), (.str "read_drawing" 561), (.str "/claim/cut.py" 562), (.int (129) 0), (.int (1) 0), (.int (0) 0), (.int (0) 0), (.int (3) 0), (.ref 291), (.bool true), (.int (181) 0), (.ref 292), .none, .none, .none, (.ref 293), (.int (563) 0), (.int (129) 0), (.str "/claim/cut.py" 564)]), #[]⟩
def k295 (P : Params) : Obj := ⟨(.type "function"), none, (.func (fnOf "read_drawing" "read_drawing" (defArgs (top 29)) (defBody (top 29)) (defScope (top 29)) .none .none .none (.str "glazebench.drawings" 526) none (.ref 294) .none)), #[]⟩
def k296 (P : Params) : Obj := ⟨(.type "tuple"), none, (.seq #[] 0), #[]⟩
def k298 (P : Params) : Obj := ⟨(.type "tuple"), none, (.seq #[(.str "_law_script" 571), (.str "_law_k" 572), (.str "_law_cell" 573)] 0), #[]⟩
def k299 (P : Params) : Obj := ⟨(.type "tuple"), none, (.seq #[] 0), #[]⟩
def k301 (P : Params) : Obj := ⟨(.type "code"), none, (.fields #[(.str "_law_purse" 568), (.str "_law_purse" 569), (.str "/claim/cut.py" 570), (.int (136) 0), (.int (2) 0), (.int (0) 0), (.int (0) 0), (.int (3) 0), (.ref 296), (.bool true), (.int (181) 0), (.ref 297), .none, (.ref 298), (.ref 299), (.ref 300), (.int (574) 0), (.int (136) 0), (.str "/claim/cut.py" 575)]), #[]⟩
def k302 (P : Params) : Obj := ⟨(.type "function"), none, (.func (fnOf "_law_purse" "_law_purse" (defArgs (top 31)) (defBody (top 31)) (defScope (top 31)) .none .none .none (.str "law_glazebench_k05_drawings_refused" 566) none (.ref 301) .none)), #[]⟩
def k303 (P : Params) : Obj := ⟨(.type "tuple"), none, (.seq #[] 0), #[]⟩
def k305 (P : Params) : Obj := ⟨(.type "tuple"), none, (.seq #[(.str "_law_purse_here" 580), (.str "_law_many" 581), (.str "_law_found_here" 582)] 0), #[]⟩
def k306 (P : Params) : Obj := ⟨(.type "tuple"), none, (.seq #[] 0), #[]⟩
def k308 (P : Params) : Obj := ⟨(.type "code"), none, (.fields #[(.str "_law_take" 577), (.str "_law_take" 578), (.str "/claim/cut.py" 579), (.int (143) 0), (.int (2) 0), (.int (0) 0), (.int (0) 0), (.int (3) 0), (.ref 303), (.bool true), (.int (181) 0), (.ref 304), .none, (.ref 305), (.ref 306), (.ref 307), (.int (583) 0), (.int (143) 0), (.str "/claim/cut.py" 584)]), #[]⟩
def k309 (P : Params) : Obj := ⟨(.type "function"), none, (.func (fnOf "_law_take" "_law_take" (defArgs (top 32)) (defBody (top 32)) (defScope (top 32)) .none .none .none (.str "law_glazebench_k05_drawings_refused" 566) none (.ref 308) .none)), #[]⟩
def k310 (P : Params) : Obj := ⟨(.type "tuple"), none, (.seq #[] 0), #[]⟩
def k312 (P : Params) : Obj := ⟨(.type "tuple"), none, (.seq #[(.str "_law_script" 589), (.str "_law_k" 590), (.str "_law_width" 591), (.str "_law_height" 592), (.str "_law_most" 593), (.str "_law_panes" 594), (.str "_law_owned" 595), (.str "_law_row" 596), (.str "_law_column" 597), (.str "_law_free" 598), (.str "_law_purse_here" 599), (.str "_law_wide" 600), (.str "_law_high" 601), (.str "_law_square" 602)] 0), #[]⟩
def k313 (P : Params) : Obj := ⟨(.type "tuple"), none, (.seq #[] 0), #[]⟩
def k315 (P : Params) : Obj := ⟨(.type "code"), none, (.fields #[(.str "_law_tiled" 586), (.str "_law_tiled" 587), (.str "/claim/cut.py" 588), (.int (147) 0), (.int (4) 0), (.int (0) 0), (.int (0) 0), (.int (3) 0), (.ref 310), (.bool true), (.int (181) 0), (.ref 311), .none, (.ref 312), (.ref 313), (.ref 314), (.int (603) 0), (.int (147) 0), (.str "/claim/cut.py" 604)]), #[]⟩
def k316 (P : Params) : Obj := ⟨(.type "function"), none, (.func (fnOf "_law_tiled" "_law_tiled" (defArgs (top 33)) (defBody (top 33)) (defScope (top 33)) .none .none .none (.str "law_glazebench_k05_drawings_refused" 566) none (.ref 315) .none)), #[]⟩
def k317 (P : Params) : Obj := ⟨(.type "tuple"), none, (.seq #[] 0), #[]⟩
def k320 (P : Params) : Obj := ⟨(.type "code"), none, (.fields #[(.str "_law_drawn" 606), (.str "_law_drawn" 607), (.str "/claim/cut.py" 608), (.int (168) 0), (.int (3) 0), (.int (0) 0), (.int (0) 0), (.int (3) 0), (.ref 317), (.bool true), (.int (181) 0), (.ref 318), .none, .none, .none, (.ref 319), (.int (609) 0), (.int (168) 0), (.str "/claim/cut.py" 610)]), #[]⟩
def k321 (P : Params) : Obj := ⟨(.type "function"), none, (.func (fnOf "_law_drawn" "_law_drawn" (defArgs (top 34)) (defBody (top 34)) (defScope (top 34)) .none .none .none (.str "law_glazebench_k05_drawings_refused" 566) none (.ref 320) .none)), #[]⟩
def k322 (P : Params) : Obj := ⟨(.type "tuple"), none, (.seq #[] 0), #[]⟩
def k324 (P : Params) : Obj := ⟨(.type "tuple"), none, (.seq #[(.str "_law_text" 615), (.str "_law_purse_here" 616), (.str "_law_k" 617), (.str "_law_at" 618), (.str "_law_sign" 619), (.str "_law_way" 620)] 0), #[]⟩
def k325 (P : Params) : Obj := ⟨(.type "tuple"), none, (.seq #[] 0), #[]⟩
def k327 (P : Params) : Obj := ⟨(.type "code"), none, (.fields #[(.str "_law_spoiled" 612), (.str "_law_spoiled" 613), (.str "/claim/cut.py" 614), (.int (176) 0), (.int (2) 0), (.int (0) 0), (.int (0) 0), (.int (3) 0), (.ref 322), (.bool true), (.int (181) 0), (.ref 323), .none, (.ref 324), (.ref 325), (.ref 326), (.int (621) 0), (.int (176) 0), (.str "/claim/cut.py" 622)]), #[]⟩
def k328 (P : Params) : Obj := ⟨(.type "function"), none, (.func (fnOf "_law_spoiled" "_law_spoiled" (defArgs (top 35)) (defBody (top 35)) (defScope (top 35)) .none .none .none (.str "law_glazebench_k05_drawings_refused" 566) none (.ref 327) .none)), #[]⟩
def k329 (P : Params) : Obj := ⟨(.type "tuple"), none, (.seq #[] 0), #[]⟩
def k332 (P : Params) : Obj := ⟨(.type "code"), none, (.fields #[(.str "_law_formed" 624), (.str "_law_formed" 625), (.str "/claim/cut.py" 626), (.int (199) 0), (.int (1) 0), (.int (0) 0), (.int (0) 0), (.int (3) 0), (.ref 329), (.bool true), (.int (181) 0), (.ref 330), .none, .none, .none, (.ref 331), (.int (627) 0), (.int (199) 0), (.str "/claim/cut.py" 628)]), #[]⟩
def k333 (P : Params) : Obj := ⟨(.type "function"), none, (.func (fnOf "_law_formed" "_law_formed" (defArgs (top 36)) (defBody (top 36)) (defScope (top 36)) .none .none .none (.str "law_glazebench_k05_drawings_refused" 566) none (.ref 332) .none)), #[]⟩
def k334 (P : Params) : Obj := ⟨(.type "tuple"), none, (.seq #[] 0), #[]⟩
def k337 (P : Params) : Obj := ⟨(.type "code"), none, (.fields #[(.str "_law_due" 630), (.str "_law_due" 631), (.str "/claim/cut.py" 632), (.int (207) 0), (.int (1) 0), (.int (0) 0), (.int (0) 0), (.int (3) 0), (.ref 334), (.bool true), (.int (181) 0), (.ref 335), .none, .none, .none, (.ref 336), (.int (633) 0), (.int (207) 0), (.str "/claim/cut.py" 634)]), #[]⟩
def k338 (P : Params) : Obj := ⟨(.type "function"), none, (.func (fnOf "_law_due" "_law_due" (defArgs (top 37)) (defBody (top 37)) (defScope (top 37)) .none .none .none (.str "law_glazebench_k05_drawings_refused" 566) none (.ref 337) .none)), #[]⟩
def k339 (P : Params) : Obj := ⟨(.type "tuple"), none, (.seq #[] 0), #[]⟩
def k341 (P : Params) : Obj := ⟨(.type "tuple"), none, (.seq #[(.str "_law_text" 639), (.str "_law_kept" 640), (.str "_law_panel" 641), (.str "e" 642)] 0), #[]⟩
def k342 (P : Params) : Obj := ⟨(.type "tuple"), none, (.seq #[] 0), #[]⟩
def k344 (P : Params) : Obj := ⟨(.type "code"), none, (.fields #[(.str "_law_found" 636), (.str "_law_found" 637), (.str "/claim/cut.py" 638), (.int (224) 0), (.int (1) 0), (.int (0) 0), (.int (0) 0), (.int (3) 0), (.ref 339), (.bool true), (.int (181) 0), (.ref 340), .none, (.ref 341), (.ref 342), (.ref 343), (.int (643) 0), (.int (224) 0), (.str "/claim/cut.py" 644)]), #[]⟩
def k345 (P : Params) : Obj := ⟨(.type "function"), none, (.func (fnOf "_law_found" "_law_found" (defArgs (top 38)) (defBody (top 38)) (defScope (top 38)) .none .none .none (.str "law_glazebench_k05_drawings_refused" 566) none (.ref 344) .none)), #[]⟩
def k346 (P : Params) : Obj := ⟨(.type "tuple"), none, (.seq #[] 0), #[]⟩
def k348 (P : Params) : Obj := ⟨(.type "tuple"), none, (.seq #[(.str "_law_script" 649), (.str "_law_purse_here" 650), (.str "_law_width" 651), (.str "_law_height" 652), (.str "_law_good" 653), (.str "_law_text" 654), (.str "_law_due_here" 655)] 0), #[]⟩
def k349 (P : Params) : Obj := ⟨(.type "tuple"), none, (.seq #[] 0), #[]⟩
def k351 (P : Params) : Obj := ⟨(.type "code"), none, (.fields #[(.str "law" 646), (.str "law" 647), (.str "/claim/cut.py" 648), (.int (238) 0), (.int (1) 0), (.int (0) 0), (.int (0) 0), (.int (3) 0), (.ref 346), (.bool true), (.int (181) 0), (.ref 347), .none, (.ref 348), (.ref 349), (.ref 350), (.int (656) 0), (.int (238) 0), (.str "/claim/cut.py" 657)]), #[]⟩
def k352 (P : Params) : Obj := ⟨(.type "function"), none, (.func (fnOf "law" "law" (defArgs (top 39)) (defBody (top 39)) (defScope (top 39)) .none .none .none (.str "law_glazebench_k05_drawings_refused" 566) none (.ref 351) .none)), #[]⟩
def KK : Params → Frag := fun P => (nat_lit 2, k2 P) :: (nat_lit 3, k3 P) :: (nat_lit 15, k15 P) :: (nat_lit 17, k17 P) :: (nat_lit 18, k18 P) :: (nat_lit 20, k20 P) :: (nat_lit 21, k21 P) :: (nat_lit 22, k22 P) :: (nat_lit 29, k29 P) :: (nat_lit 30, k30 P) :: (nat_lit 31, k31 P) :: (nat_lit 32, k32 P) :: (nat_lit 35, k35 P) :: (nat_lit 42, k42 P) :: (nat_lit 44, k44 P) :: (nat_lit 45, k45 P) :: (nat_lit 47, k47 P) :: (nat_lit 48, k48 P) :: (nat_lit 49, k49 P) :: (nat_lit 50, k50 P) :: (nat_lit 51, k51 P) :: (nat_lit 54, k54 P) :: (nat_lit 61, k61 P) :: (nat_lit 63, k63 P) :: (nat_lit 64, k64 P) :: (nat_lit 66, k66 P) :: (nat_lit 67, k67 P) :: (nat_lit 68, k68 P) :: (nat_lit 69, k69 P) :: (nat_lit 70, k70 P) :: (nat_lit 73, k73 P) :: (nat_lit 80, k80 P) :: (nat_lit 82, k82 P) :: (nat_lit 83, k83 P) :: (nat_lit 85, k85 P) :: (nat_lit 86, k86 P) :: (nat_lit 87, k87 P) :: (nat_lit 88, k88 P) :: (nat_lit 89, k89 P) :: (nat_lit 92, k92 P) :: (nat_lit 99, k99 P) :: (nat_lit 101, k101 P) :: (nat_lit 102, k102 P) :: (nat_lit 104, k104 P) :: (nat_lit 105, k105 P) :: (nat_lit 106, k106 P) :: (nat_lit 107, k107 P) :: (nat_lit 108, k108 P) :: (nat_lit 111, k111 P) :: (nat_lit 118, k118 P) :: (nat_lit 120, k120 P) :: (nat_lit 121, k121 P) :: (nat_lit 123, k123 P) :: (nat_lit 124, k124 P) :: (nat_lit 125, k125 P) :: (nat_lit 126, k126 P) :: (nat_lit 127, k127 P) :: (nat_lit 130, k130 P) :: (nat_lit 137, k137 P) :: (nat_lit 139, k139 P) :: (nat_lit 140, k140 P) :: (nat_lit 142, k142 P) :: (nat_lit 143, k143 P) :: (nat_lit 144, k144 P) :: (nat_lit 145, k145 P) :: (nat_lit 146, k146 P) :: (nat_lit 149, k149 P) :: (nat_lit 156, k156 P) :: (nat_lit 158, k158 P) :: (nat_lit 159, k159 P) :: (nat_lit 161, k161 P) :: (nat_lit 162, k162 P) :: (nat_lit 163, k163 P) :: (nat_lit 164, k164 P) :: (nat_lit 165, k165 P) :: (nat_lit 168, k168 P) :: (nat_lit 170, k170 P) :: (nat_lit 171, k171 P) :: (nat_lit 173, k173 P) :: (nat_lit 174, k174 P) :: (nat_lit 175, k175 P) :: (nat_lit 177, k177 P) :: (nat_lit 178, k178 P) :: (nat_lit 180, k180 P) :: (nat_lit 181, k181 P) :: (nat_lit 182, k182 P) :: (nat_lit 185, k185 P) :: (nat_lit 186, k186 P) :: (nat_lit 187, k187 P) :: (nat_lit 189, k189 P) :: (nat_lit 190, k190 P) :: (nat_lit 192, k192 P) :: (nat_lit 193, k193 P) :: (nat_lit 194, k194 P) :: (nat_lit 196, k196 P) :: (nat_lit 197, k197 P) :: (nat_lit 199, k199 P) :: (nat_lit 200, k200 P) :: (nat_lit 201, k201 P) :: (nat_lit 203, k203 P) :: (nat_lit 204, k204 P) :: (nat_lit 206, k206 P) :: (nat_lit 207, k207 P) :: (nat_lit 208, k208 P) :: (nat_lit 210, k210 P) :: (nat_lit 211, k211 P) :: (nat_lit 213, k213 P) :: (nat_lit 214, k214 P) :: (nat_lit 215, k215 P) :: (nat_lit 217, k217 P) :: (nat_lit 218, k218 P) :: (nat_lit 220, k220 P) :: (nat_lit 221, k221 P) :: (nat_lit 222, k222 P) :: (nat_lit 224, k224 P) :: (nat_lit 225, k225 P) :: (nat_lit 227, k227 P) :: (nat_lit 228, k228 P) :: (nat_lit 236, k236 P) :: (nat_lit 239, k239 P) :: (nat_lit 240, k240 P) :: (nat_lit 241, k241 P) :: (nat_lit 243, k243 P) :: (nat_lit 244, k244 P) :: (nat_lit 246, k246 P) :: (nat_lit 247, k247 P) :: (nat_lit 248, k248 P) :: (nat_lit 250, k250 P) :: (nat_lit 251, k251 P) :: (nat_lit 253, k253 P) :: (nat_lit 254, k254 P) :: (nat_lit 255, k255 P) :: (nat_lit 257, k257 P) :: (nat_lit 258, k258 P) :: (nat_lit 260, k260 P) :: (nat_lit 261, k261 P) :: (nat_lit 262, k262 P) :: (nat_lit 263, k263 P) :: (nat_lit 264, k264 P) :: (nat_lit 265, k265 P) :: (nat_lit 266, k266 P) :: (nat_lit 269, k269 P) :: (nat_lit 272, k272 P) :: (nat_lit 273, k273 P) :: (nat_lit 274, k274 P) :: (nat_lit 277, k277 P) :: (nat_lit 278, k278 P) :: (nat_lit 279, k279 P) :: (nat_lit 281, k281 P) :: (nat_lit 282, k282 P) :: (nat_lit 284, k284 P) :: (nat_lit 285, k285 P) :: (nat_lit 286, k286 P) :: (nat_lit 289, k289 P) :: (nat_lit 290, k290 P) :: (nat_lit 291, k291 P) :: (nat_lit 294, k294 P) :: (nat_lit 295, k295 P) :: (nat_lit 296, k296 P) :: (nat_lit 298, k298 P) :: (nat_lit 299, k299 P) :: (nat_lit 301, k301 P) :: (nat_lit 302, k302 P) :: (nat_lit 303, k303 P) :: (nat_lit 305, k305 P) :: (nat_lit 306, k306 P) :: (nat_lit 308, k308 P) :: (nat_lit 309, k309 P) :: (nat_lit 310, k310 P) :: (nat_lit 312, k312 P) :: (nat_lit 313, k313 P) :: (nat_lit 315, k315 P) :: (nat_lit 316, k316 P) :: (nat_lit 317, k317 P) :: (nat_lit 320, k320 P) :: (nat_lit 321, k321 P) :: (nat_lit 322, k322 P) :: (nat_lit 324, k324 P) :: (nat_lit 325, k325 P) :: (nat_lit 327, k327 P) :: (nat_lit 328, k328 P) :: (nat_lit 329, k329 P) :: (nat_lit 332, k332 P) :: (nat_lit 333, k333 P) :: (nat_lit 334, k334 P) :: (nat_lit 337, k337 P) :: (nat_lit 338, k338 P) :: (nat_lit 339, k339 P) :: (nat_lit 341, k341 P) :: (nat_lit 342, k342 P) :: (nat_lit 344, k344 P) :: (nat_lit 345, k345 P) :: (nat_lit 346, k346 P) :: (nat_lit 348, k348 P) :: (nat_lit 349, k349 P) :: (nat_lit 351, k351 P) :: (nat_lit 352, k352 P) :: []
def kas : List Addr := nat_lit 2 :: nat_lit 3 :: nat_lit 15 :: nat_lit 17 :: nat_lit 18 :: nat_lit 20 :: nat_lit 21 :: nat_lit 22 :: nat_lit 29 :: nat_lit 30 :: nat_lit 31 :: nat_lit 32 :: nat_lit 35 :: nat_lit 42 :: nat_lit 44 :: nat_lit 45 :: nat_lit 47 :: nat_lit 48 :: nat_lit 49 :: nat_lit 50 :: nat_lit 51 :: nat_lit 54 :: nat_lit 61 :: nat_lit 63 :: nat_lit 64 :: nat_lit 66 :: nat_lit 67 :: nat_lit 68 :: nat_lit 69 :: nat_lit 70 :: nat_lit 73 :: nat_lit 80 :: nat_lit 82 :: nat_lit 83 :: nat_lit 85 :: nat_lit 86 :: nat_lit 87 :: nat_lit 88 :: nat_lit 89 :: nat_lit 92 :: nat_lit 99 :: nat_lit 101 :: nat_lit 102 :: nat_lit 104 :: nat_lit 105 :: nat_lit 106 :: nat_lit 107 :: nat_lit 108 :: nat_lit 111 :: nat_lit 118 :: nat_lit 120 :: nat_lit 121 :: nat_lit 123 :: nat_lit 124 :: nat_lit 125 :: nat_lit 126 :: nat_lit 127 :: nat_lit 130 :: nat_lit 137 :: nat_lit 139 :: nat_lit 140 :: nat_lit 142 :: nat_lit 143 :: nat_lit 144 :: nat_lit 145 :: nat_lit 146 :: nat_lit 149 :: nat_lit 156 :: nat_lit 158 :: nat_lit 159 :: nat_lit 161 :: nat_lit 162 :: nat_lit 163 :: nat_lit 164 :: nat_lit 165 :: nat_lit 168 :: nat_lit 170 :: nat_lit 171 :: nat_lit 173 :: nat_lit 174 :: nat_lit 175 :: nat_lit 177 :: nat_lit 178 :: nat_lit 180 :: nat_lit 181 :: nat_lit 182 :: nat_lit 185 :: nat_lit 186 :: nat_lit 187 :: nat_lit 189 :: nat_lit 190 :: nat_lit 192 :: nat_lit 193 :: nat_lit 194 :: nat_lit 196 :: nat_lit 197 :: nat_lit 199 :: nat_lit 200 :: nat_lit 201 :: nat_lit 203 :: nat_lit 204 :: nat_lit 206 :: nat_lit 207 :: nat_lit 208 :: nat_lit 210 :: nat_lit 211 :: nat_lit 213 :: nat_lit 214 :: nat_lit 215 :: nat_lit 217 :: nat_lit 218 :: nat_lit 220 :: nat_lit 221 :: nat_lit 222 :: nat_lit 224 :: nat_lit 225 :: nat_lit 227 :: nat_lit 228 :: nat_lit 236 :: nat_lit 239 :: nat_lit 240 :: nat_lit 241 :: nat_lit 243 :: nat_lit 244 :: nat_lit 246 :: nat_lit 247 :: nat_lit 248 :: nat_lit 250 :: nat_lit 251 :: nat_lit 253 :: nat_lit 254 :: nat_lit 255 :: nat_lit 257 :: nat_lit 258 :: nat_lit 260 :: nat_lit 261 :: nat_lit 262 :: nat_lit 263 :: nat_lit 264 :: nat_lit 265 :: nat_lit 266 :: nat_lit 269 :: nat_lit 272 :: nat_lit 273 :: nat_lit 274 :: nat_lit 277 :: nat_lit 278 :: nat_lit 279 :: nat_lit 281 :: nat_lit 282 :: nat_lit 284 :: nat_lit 285 :: nat_lit 286 :: nat_lit 289 :: nat_lit 290 :: nat_lit 291 :: nat_lit 294 :: nat_lit 295 :: nat_lit 296 :: nat_lit 298 :: nat_lit 299 :: nat_lit 301 :: nat_lit 302 :: nat_lit 303 :: nat_lit 305 :: nat_lit 306 :: nat_lit 308 :: nat_lit 309 :: nat_lit 310 :: nat_lit 312 :: nat_lit 313 :: nat_lit 315 :: nat_lit 316 :: nat_lit 317 :: nat_lit 320 :: nat_lit 321 :: nat_lit 322 :: nat_lit 324 :: nat_lit 325 :: nat_lit 327 :: nat_lit 328 :: nat_lit 329 :: nat_lit 332 :: nat_lit 333 :: nat_lit 334 :: nat_lit 337 :: nat_lit 338 :: nat_lit 339 :: nat_lit 341 :: nat_lit 342 :: nat_lit 344 :: nat_lit 345 :: nat_lit 346 :: nat_lit 348 :: nat_lit 349 :: nat_lit 351 :: nat_lit 352 :: []
def keeps : List Nat := 0 :: 2 :: 3 :: 4 :: 5 :: 6 :: 7 :: 8 :: 9 :: 11 :: 12 :: 13 :: 14 :: 15 :: 16 :: 17 :: 18 :: 19 :: 20 :: 21 :: 22 :: 24 :: 25 :: 26 :: 27 :: 28 :: 29 :: 31 :: 32 :: 33 :: 34 :: 35 :: 36 :: 37 :: 38 :: 39 :: []
def lo : List Str := []

theorem prep (h : PySem.Challenge.rw_glazebench_k05_drawings_refused.row.wellSaid = true → PySem.Challenge.rw_glazebench_k05_drawings_refused.row.Holds) : PySem.Challenge.rw_glazebench_k05_drawings_refused.Holds := by
  w_on
  o_law
  exact h (by assumption)
def qv (p : Program) : Program := view p keeps
def Xp (p : Program) (s : Shared) : Bool := xlAt (qv p) [] s && recOk (RowW.records (OpenRow.toRowW PySem.Challenge.rw_glazebench_k05_drawings_refused.row)) s
theorem kas_is (P : Params) : kas = (KK P).map (fun x => x.1) := by kernel_rfl
theorem op_is : opening PySem.Challenge.pw_glazebench_k05_drawings_refused = plainProg PySem.Challenge.pw_glazebench_k05_drawings_refused.main.scope.names := by kernel_rfl
theorem fence_is (s : Shared) : fenceModules? PySem.Challenge.pw_glazebench_k05_drawings_refused s = some s := by kernel_rfl
theorem boot_is (w : World) : ((boot_heap w.params).isNs mainGlobals, (boot_heap w.params).objs.size, (boot_heap w.params).nsMap mainGlobals "__annotations__") = (true, 11, (some (.ref 6))) := by kernel_rfl
theorem ran : ∀ (w : World) (os : OsState), Option.map (lookO openSeen (importedModules PySem.Challenge.pw_glazebench_k05_drawings_refused.main.body) PySem.Challenge.pw_glazebench_k05_drawings_refused (qv PySem.Challenge.pw_glazebench_k05_drawings_refused) lo (Xp PySem.Challenge.pw_glazebench_k05_drawings_refused) (kHook KK kas kas_is).obs (boot_heap w.params)) (topRun treeTable PySem.Challenge.pw_glazebench_k05_drawings_refused w 11 (some (.ref 6)) 6134 (atBoot w.params os) (topStub PySem.Challenge.pw_glazebench_k05_drawings_refused)) = some (true, openGood (qv PySem.Challenge.pw_glazebench_k05_drawings_refused) lo, (kHook KK kas kas_is).val w) :=
  run_by (q := qv) (Xt := Xp) (Yf := (kHook KK kas kas_is).obs) (Ya := (kHook KK kas kas_is).val) (lo := lo) PySem.W.Fast.te10156331382660048174 PySem.W.Fast.te11892475500146522536 PySem.W.Fast.te14364793385576792824 PySem.W.Fast.te5923862056798008813 PySem.W.Fast.te4187177175401517315 PySem.W.Fast.te4178184157990400070 fun w os => by kernel_rfl
theorem left : LeftO PySem.Challenge.pw_glazebench_k05_drawings_refused (qv PySem.Challenge.pw_glazebench_k05_drawings_refused) lo (Xp PySem.Challenge.pw_glazebench_k05_drawings_refused) (kHook KK kas kas_is).obs (kHook KK kas kas_is).val 6134 := left_once (boot_open op_is (by decide) fence_is) boot_is ran
end KH
open PySem PySem.W PyProof.Rows
set_option maxRecDepth 100000 in
set_option maxHeartbeats 0 in
theorem PySem.Challenge.cw_glazebench_k05_drawings_refused_holds : PySem.Challenge.rw_glazebench_k05_drawings_refused.Holds := by
  refine KH.prep fun said => ?_
  have fx : ∀ s, KH.Xp PySem.Challenge.pw_glazebench_k05_drawings_refused s = true → XL (KH.qv PySem.Challenge.pw_glazebench_k05_drawings_refused) [] (s.heap.nsMap mainGlobals) s.heap := fun s e => xl_of s (Bool.and_eq_true_iff.mp e).1
  have fr : ∀ s, KH.Xp PySem.Challenge.pw_glazebench_k05_drawings_refused s = true → RecFacts (RowW.records (OpenRow.toRowW PySem.Challenge.rw_glazebench_k05_drawings_refused.row)) s.heap := fun s e => recFacts_of (Bool.and_eq_true_iff.mp e).2
  refine holds_open (XP := XL (KH.qv PySem.Challenge.pw_glazebench_k05_drawings_refused) []) KH.left (kHook KH.KK KH.kas KH.kas_is).of (kHook KH.KK KH.kas KH.kas_is).keeps fx XL.keeps (by rfl) (by rfl) (by rfl) fr (by rfl) said (by decide +kernel) ?hb ?hw ?hc
  case hb => exact ⟨rfl, rfl, rfl, rfl, rfl, by decide +kernel⟩
  case hw => w_witness2
  case hc =>
    k_fill
    refine K5.walk (l := PySem.Challenge.rw_glazebench_k05_drawings_refused) rfl rfl (fun w h Y => PySem.W.kIn_of Y) ?F
    case F =>
      intro w mg fa h KX G hmg
      refine' K5.all_mk KX G hmg ?my_aC ?my_pg_C ?my_hd_C ?my_po_C ?my_sa_C ?my_mk_C ?my_kc_C ?my_n_C_width ?my_n_C_height ?my_n_C_sorted_panes ?my_n_C_by_square ?my_aG ?my_eG ?my_aC_cD ?my_kC_cD ?my_nC_cD ?my_a_cD ?my_i_cD ?my_l_cD ?my_cc_cD ?my_k_cD ?my_ei_cD ?my_xc_cD ?my_xm_cD ?my_aC_cR ?my_kC_cR ?my_nC_cR ?my_a_cR ?my_i_cR ?my_l_cR ?my_cc_cR ?my_k_cR ?my_ei_cR ?my_xc_cR ?my_xm_cR ?my_kt0 ?my_kt1 ?my_kt2 ?my_kt3 ?my_kt4 ?my_kt5 ?my_a0 ?my_l0 ?my_cc0 ?my_k0 ?my_a1 ?my_l1 ?my_cc1 ?my_k1 ?my_a2 ?my_l2 ?my_cc2 ?my_k2 ?my_a3 ?my_l3 ?my_cc3 ?my_k3 ?my_a4 ?my_l4 ?my_cc4 ?my_k4 ?my_a5 ?my_l5 ?my_cc5 ?my_k5 ?my_a6 ?my_l6 ?my_cc6 ?my_k6 ?my_a7 ?my_l7 ?my_cc7 ?my_k7 ?my_a8 ?my_l8 ?my_cc8 ?my_k8 ?my_a9 ?my_i9 ?my_l9 ?my_cc9 ?my_k9 ?my_a10 ?my_i10 ?my_l10 ?my_cc10 ?my_k10 ?my_a11 ?my_l11 ?my_cc11 ?my_k11 ?my_a12 ?my_l12 ?my_cc12 ?my_k12 ?my_a13 ?my_l13 ?my_cc13 ?my_k13 ?my_a14 ?my_l14 ?my_cc14 ?my_k14 ?my_a15 ?my_l15 ?my_cc15 ?my_k15 ?my_a16 ?my_l16 ?my_cc16 ?my_k16 ?my_a17 ?my_l17 ?my_cc17 ?my_k17 ?my_a18 ?my_l18 ?my_cc18 ?my_k18 ?my_a19 ?my_l19 ?my_cc19 ?my_k19 ?my_a20 ?my_l20 ?my_cc20 ?my_k20 ?my_a21 ?my_l21 ?my_cc21 ?my_k21 ?my_a22 ?my_l22 ?my_cc22 ?my_k22 ?my_a23 ?my_l23 ?my_cc23 ?my_k23 ?my_a24 ?my_l24 ?my_cc24 ?my_k24 ?my_z0 ?my_z1 ?my_z2 ?my_z3 ?my_z4 ?my_z5 ?my_z6 ?my_z7 ?my_z8 ?my_z9 ?my_z10 ?my_z11 ?my_z12 ?my_z13 ?my_z14 ?my_g0 ?my_g1 ?my_g2
      (case my_aC => k_is); (case my_pg_C => k_is); (case my_hd_C => k_is); (case my_po_C => k_is); (case my_sa_C => k_is); (case my_mk_C => k_is); (case my_kc_C => k_is); (case my_n_C_width => k_is)
      (case my_n_C_height => k_is); (case my_n_C_sorted_panes => k_is); (case my_n_C_by_square => k_is); (case my_aG => k_is); (case my_aC_cD => k_is); (case my_kC_cD => k_is); (case my_nC_cD => k_is); (case my_a_cD => k_is)
      (case my_i_cD => k_is); (case my_l_cD => k_is); (case my_cc_cD => k_is); (case my_k_cD => k_is); (case my_xm_cD => k_is); (case my_aC_cR => k_is); (case my_kC_cR => k_is); (case my_nC_cR => k_is)
      (case my_a_cR => k_is); (case my_i_cR => k_is); (case my_l_cR => k_is); (case my_cc_cR => k_is); (case my_k_cR => k_is); (case my_xm_cR => k_is); (case my_a0 => k_is); (case my_l0 => k_is)
      (case my_cc0 => k_is); (case my_k0 => k_is); (case my_a1 => k_is); (case my_l1 => k_is); (case my_cc1 => k_is); (case my_k1 => k_is); (case my_a2 => k_is); (case my_l2 => k_is)
      (case my_cc2 => k_is); (case my_k2 => k_is); (case my_a3 => k_is); (case my_l3 => k_is); (case my_cc3 => k_is); (case my_k3 => k_is); (case my_a4 => k_is); (case my_l4 => k_is)
      (case my_cc4 => k_is); (case my_k4 => k_is); (case my_a5 => k_is); (case my_l5 => k_is); (case my_cc5 => k_is); (case my_k5 => k_is); (case my_a6 => k_is); (case my_l6 => k_is)
      (case my_cc6 => k_is); (case my_k6 => k_is); (case my_a7 => k_is); (case my_l7 => k_is); (case my_cc7 => k_is); (case my_k7 => k_is); (case my_a8 => k_is); (case my_l8 => k_is)
      (case my_cc8 => k_is); (case my_k8 => k_is); (case my_a9 => k_is); (case my_i9 => k_is); (case my_l9 => k_is); (case my_cc9 => k_is); (case my_k9 => k_is); (case my_a10 => k_is)
      (case my_i10 => k_is); (case my_l10 => k_is); (case my_cc10 => k_is); (case my_k10 => k_is); (case my_a11 => k_is); (case my_l11 => k_is); (case my_cc11 => k_is); (case my_k11 => k_is)
      (case my_a12 => k_is); (case my_l12 => k_is); (case my_cc12 => k_is); (case my_k12 => k_is); (case my_a13 => k_is); (case my_l13 => k_is); (case my_cc13 => k_is); (case my_k13 => k_is)
      (case my_a14 => k_is); (case my_l14 => k_is); (case my_cc14 => k_is); (case my_k14 => k_is); (case my_a15 => k_is); (case my_l15 => k_is); (case my_cc15 => k_is); (case my_k15 => k_is)
      (case my_a16 => k_is); (case my_l16 => k_is); (case my_cc16 => k_is); (case my_k16 => k_is); (case my_a17 => k_is); (case my_l17 => k_is); (case my_cc17 => k_is); (case my_k17 => k_is)
      (case my_a18 => k_is); (case my_l18 => k_is); (case my_cc18 => k_is); (case my_k18 => k_is); (case my_a19 => k_is); (case my_l19 => k_is); (case my_cc19 => k_is); (case my_k19 => k_is)
      (case my_a20 => k_is); (case my_l20 => k_is); (case my_cc20 => k_is); (case my_k20 => k_is); (case my_a21 => k_is); (case my_l21 => k_is); (case my_cc21 => k_is); (case my_k21 => k_is)
      (case my_a22 => k_is); (case my_l22 => k_is); (case my_cc22 => k_is); (case my_k22 => k_is); (case my_a23 => k_is); (case my_l23 => k_is); (case my_cc23 => k_is); (case my_k23 => k_is)
      (case my_a24 => k_is); (case my_l24 => k_is); (case my_cc24 => k_is); (case my_k24 => k_is); (case my_z0 => k_is); (case my_z1 => k_is); (case my_z2 => k_is); (case my_z3 => k_is)
      (case my_z4 => k_is); (case my_z5 => k_is); (case my_z6 => k_is); (case my_z7 => k_is); (case my_z8 => k_is); (case my_z9 => k_is); (case my_z10 => k_is); (case my_z11 => k_is)
      (case my_z12 => k_is); (case my_z13 => k_is); (case my_z14 => k_is); (case my_g0 => k_is); (case my_g1 => k_is); (case my_g2 => k_is); (case my_eG => kernel_rfl); (case my_ei_cD => kernel_rfl)
      (case my_xc_cD => kernel_rfl); (case my_ei_cR => kernel_rfl); (case my_xc_cR => kernel_rfl); (case my_kt0 => kernel_rfl); (case my_kt1 => kernel_rfl); (case my_kt2 => kernel_rfl); (case my_kt3 => kernel_rfl); (case my_kt4 => kernel_rfl)
      (case my_kt5 => kernel_rfl)
